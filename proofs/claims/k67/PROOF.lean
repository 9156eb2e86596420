import PyProof.Rows.All
import Wide.All
import OpenK.AllK
import Wide.FinOn
import Lean
import PyProof.EqAt
import PyProof.EqKinds
import PyProof.TupleCall
import PySem.Challenge.RW_lots_k67_a_ring_with_a_gain
set_option Elab.async false
set_option linter.all false
set_option maxRecDepth 100000
namespace PySem.W.Fast
theorem tw10000297458630359933 : True := trivial
theorem tw1000393700425966476 : True := trivial
theorem tw10037352220836045573 : True := trivial
theorem tw10046161215544100580 : True := trivial
theorem tw10219292640283668424 : True := trivial
theorem tw1026524700547717285 : True := trivial
theorem tw10310010360741122984 : True := trivial
theorem tw10625608311557764646 : True := trivial
theorem tw1094788088551311643 : True := trivial
theorem tw11014113513127810667 : True := trivial
theorem tw11138811960338006956 : True := trivial
theorem tw11174258120017643232 : True := trivial
theorem tw11201301150944542791 : True := trivial
theorem tw1128661901269447242 : True := trivial
theorem tw11356522230882356163 : True := trivial
theorem tw1150981400621587299 : True := trivial
theorem tw11541822970428276347 : True := trivial
theorem tw11838341782224609217 : True := trivial
theorem tw11884324337163143157 : True := trivial
theorem tw11914654849093667589 : True := trivial
theorem tw11940918352288248259 : True := trivial
theorem tw12049381180931186131 : True := trivial
theorem tw12347678476316426414 : True := trivial
theorem tw12637918325780324401 : True := trivial
theorem tw12646573995354810694 : True := trivial
theorem tw12677255597183615489 : True := trivial
theorem tw12721442386972175814 : True := trivial
theorem tw12725789401131021424 : True := trivial
theorem tw12795744010905983754 : True := trivial
theorem tw12917733085198301671 : True := trivial
theorem tw13092879392543036268 : True := trivial
theorem tw13106362651368349745 : True := trivial
theorem tw13144638741330843987 : True := trivial
theorem tw13197016844051923412 : True := trivial
theorem tw13275387575712556215 : True := trivial
theorem tw13442860054440743057 : True := trivial
theorem tw13462330280667238456 : True := trivial
theorem tw13487925144563700765 : True := trivial
theorem tw13591894188616917850 : True := trivial
theorem tw13632929586593987739 : True := trivial
theorem tw1377287632903306722 : True := trivial
theorem tw13789835184695791349 : True := trivial
theorem tw13803503200967940366 : True := trivial
theorem tw13884883149060483510 : True := trivial
theorem tw13986588809261506815 : True := trivial
theorem tw14060514810036955961 : True := trivial
theorem tw14338882483167947449 : True := trivial
theorem tw14391705858441709078 : True := trivial
theorem tw1446243841060537919 : True := trivial
theorem tw14566901250778944834 : True := trivial
theorem tw14893263421322288785 : True := trivial
theorem tw14983130540433708849 : True := trivial
theorem tw15067237876068356394 : True := trivial
theorem tw15213052544745875283 : True := trivial
theorem tw15553113832851666406 : True := trivial
theorem tw15619862841449854469 : True := trivial
theorem tw15641062697320252172 : True := trivial
theorem tw15724709772361970344 : True := trivial
theorem tw15739145857788175839 : True := trivial
theorem tw15802208734204906106 : True := trivial
theorem tw15832175621460344918 : True := trivial
theorem tw16128339293813610040 : True := trivial
theorem tw16301973562750386215 : True := trivial
theorem tw16303916545544690069 : True := trivial
theorem tw1645254934169257801 : True := trivial
theorem tw16645435196978205626 : True := trivial
theorem tw16829575109842750118 : True := trivial
theorem tw16869302413322882496 : True := trivial
theorem tw16954133995523658395 : True := trivial
theorem tw16980601507279653494 : True := trivial
theorem tw17014770953801600150 : True := trivial
theorem tw17036418385823317455 : True := trivial
theorem tw17381492413100509195 : True := trivial
theorem tw17476349160121745888 : True := trivial
theorem tw17631804413429525781 : True := trivial
theorem tw17698541808203744895 : True := trivial
theorem tw17819567458764569339 : True := trivial
theorem tw1790373192147775125 : True := trivial
theorem tw17910188543184130560 : True := trivial
theorem tw17929667299608512284 : True := trivial
theorem tw18167753609903121898 : True := trivial
theorem tw18173659049259544483 : True := trivial
theorem tw18221699727023240926 : True := trivial
theorem tw18244458671910870357 : True := trivial
theorem tw1834754074201676349 : True := trivial
theorem tw212499054945640406 : True := trivial
theorem tw2250611263943733949 : True := trivial
theorem tw2286274245213720601 : True := trivial
theorem tw2402676208205479606 : True := trivial
theorem tw2971027877948745613 : True := trivial
theorem tw2998828805585362485 : True := trivial
theorem tw3495099641894774909 : True := trivial
theorem tw3514427965816198672 : True := trivial
theorem tw3555022913157178763 : True := trivial
theorem tw3709779536643020157 : True := trivial
theorem tw391391299342603338 : True := trivial
theorem tw3945247091919365497 : True := trivial
theorem tw4028552116099682490 : True := trivial
theorem tw4244642846571629092 : True := trivial
theorem tw447555247882741611 : True := trivial
theorem tw4513884837982392671 : True := trivial
theorem tw4537214283267142691 : True := trivial
theorem tw4546702395182513091 : True := trivial
theorem tw4662181412684473079 : True := trivial
theorem tw4678386393252869352 : True := trivial
theorem tw4717524089615377811 : True := trivial
theorem tw4730369562965830048 : True := trivial
theorem tw4751736725550498576 : True := trivial
theorem tw4929728341026368211 : True := trivial
theorem tw5149875115942857573 : True := trivial
theorem tw5160519646414652562 : True := trivial
theorem tw5262931186344470368 : True := trivial
theorem tw5317088871354274128 : True := trivial
theorem tw5356306163105969127 : True := trivial
theorem tw5459948894934382628 : True := trivial
theorem tw5481539690537798397 : True := trivial
theorem tw5634024276826158697 : True := trivial
theorem tw5772182078700133550 : True := trivial
theorem tw5797219653556661441 : True := trivial
theorem tw5966118000873825122 : True := trivial
theorem tw6077374461169899907 : True := trivial
theorem tw6081643286692847672 : True := trivial
theorem tw6087063066149187900 : True := trivial
theorem tw6101764098354257164 : True := trivial
theorem tw6168549636375243867 : True := trivial
theorem tw6187807742935171139 : True := trivial
theorem tw6229159129960806506 : True := trivial
theorem tw6285916670186120097 : True := trivial
theorem tw6417459683456272371 : True := trivial
theorem tw6526178559263612811 : True := trivial
theorem tw6686642946608167155 : True := trivial
theorem tw6750001443110748646 : True := trivial
theorem tw681390963563874256 : True := trivial
theorem tw7032760444657785510 : True := trivial
theorem tw7157213638210943448 : True := trivial
theorem tw7189052138916261435 : True := trivial
theorem tw7248382366880131316 : True := trivial
theorem tw7442157361828939329 : True := trivial
theorem tw7507645382902497196 : True := trivial
theorem tw7584870867091226118 : True := trivial
theorem tw7727434353935481353 : True := trivial
theorem tw7870574546471433102 : True := trivial
theorem tw7874648271828281063 : True := trivial
theorem tw7997478602518424478 : True := trivial
theorem tw8038916804304186528 : True := trivial
theorem tw8041224876604741190 : True := trivial
theorem tw8047932927972558685 : True := trivial
theorem tw8147776812660760667 : True := trivial
theorem tw8284423836037711068 : True := trivial
theorem tw8380622294629696992 : True := trivial
theorem tw8475783962198057452 : True := trivial
theorem tw8509062026378948215 : True := trivial
theorem tw8652944710906820048 : True := trivial
theorem tw8731773505209106984 : True := trivial
theorem tw8747279725005021942 : True := trivial
theorem tw8766702223792227771 : True := trivial
theorem tw8825208513705405520 : True := trivial
theorem tw8899319185956422239 : True := trivial
theorem tw8926396743417201429 : True := trivial
theorem tw9051594414855085279 : True := trivial
theorem tw9138241499477868526 : True := trivial
theorem tw9163043264639808588 : True := trivial
theorem tw9292948221087214773 : True := trivial
theorem tw9301846467296330045 : True := trivial
theorem tw9343638765507005590 : True := trivial
theorem tw9419950359050741998 : True := trivial
theorem tw9515234784629580547 : True := trivial
theorem tw9662081955603260492 : True := trivial
theorem tw9772873081270503 : True := trivial
theorem tw980068018056928481 : True := trivial
end PySem.W.Fast
namespace L2
open PySem PySem.Spec PyProof.Rows

noncomputable abbrev Key := Sum Int Str
noncomputable def keyIs : Key → Value → Bool
 | .inl k, v => Value.isInt k v
 | .inr x, v => Value.isStrOf x v
noncomputable def keyH (w : World) : Key → Int
 | .inl k => hashInt k
 | .inr x => hashStr w x
theorem keyIs_shape : ∀ {k : Key} {v : Value}, keyIs k v = true → (∃ i t, k = Sum.inl i ∧ v = Value.int i t) ∨ (∃ x t, k = Sum.inr x ∧ v = Value.str x t)
 | .inl i, v, h => by
  obtain ⟨t, e⟩ := Value.isInt_shape (k := i) (v := v) h
  exact .inl ⟨i, t, rfl, e⟩
 | .inr x, v, h => by
  obtain ⟨t, e⟩ := Value.isStrOf_shape (x := x) (v := v) h
  exact .inr ⟨x, t, rfl, e⟩
theorem keyIs_int (i : Int) (t : Tok) : keyIs (.inl i) (.int i t) = true := by simp [keyIs, Value.isInt]
theorem keyIs_str (x : Str) (t : Tok) : keyIs (.inr x) (.str x t) = true := by simp [keyIs, Value.isStrOf]
theorem key_ll (a b : Int) : decide ((Sum.inl a : Key) = Sum.inl b) = (a == b) := by
 by_cases e : a = b
 ·subst e; simp
 ·have h : ¬ (Sum.inl a : Key) = Sum.inl b := fun q => e (Sum.inl.inj q)
  rw [decide_eq_false h]
  exact (beq_eq_false_iff_ne.mpr e).symm
theorem key_rr (a b : Str) : decide ((Sum.inr a : Key) = Sum.inr b) = decide (a = b) := by
 by_cases e : a = b
 ·subst e; simp
 ·have h : ¬ (Sum.inr a : Key) = Sum.inr b := fun q => e (Sum.inr.inj q)
  rw [decide_eq_false h, decide_eq_false e]
theorem key_lr (a : Int) (b : Str) : decide ((Sum.inl a : Key) = Sum.inr b) = false := decide_eq_false (fun q => nomatch q)
theorem key_rl (a : Str) (b : Int) : decide ((Sum.inr a : Key) = Sum.inl b) = false := decide_eq_false (fun q => nomatch q)

noncomputable def mixKind (prog : Program) (w : World) : PySem.KeyKind prog w Key where
 is := keyIs
 hash := keyH w
 inj := fun v a b ha hb => by
  rcases keyIs_shape ha with ⟨i, t, rfl, rfl⟩ | ⟨x, t, rfl, rfl⟩
  ·rcases keyIs_shape hb with ⟨j, u, rfl, e⟩ | ⟨y, u, rfl, e⟩
   ·injection e with e1 _; rw [e1]
   ·exact nomatch e
  ·rcases keyIs_shape hb with ⟨j, u, rfl, e⟩ | ⟨y, u, rfl, e⟩
   ·exact nomatch e
   ·injection e with e1 _; rw [e1]
 byValue := fun k v h => by
  rcases keyIs_shape h with ⟨i, t, rfl, rfl⟩ | ⟨x, t, rfl, rfl⟩ <;> rfl
 pyHash := fun hv h => by
  rcases keyIs_shape hv with ⟨i, t, rfl, rfl⟩ | ⟨x, t, rfl, rfl⟩
  ·exact wpAny_pyHash_int h
  ·exact wpAny_pyHash_str h
 eqBool := fun hu hv h => by
  rcases keyIs_shape hu with ⟨i, t, rfl, rfl⟩ | ⟨x, t, rfl, rfl⟩
  ·rcases keyIs_shape hv with ⟨j, u, rfl, rfl⟩ | ⟨y, u, rfl, rfl⟩
   ·rw [key_ll] at h; exact wpAny_eqBool_int h
   ·rw [key_lr] at h; exact SeqAt.EqAt.int_str i t y u _ _ _ _ h
  ·rcases keyIs_shape hv with ⟨j, u, rfl, rfl⟩ | ⟨y, u, rfl, rfl⟩
   ·rw [key_rl] at h; exact SeqAt.EqAt.str_int x t j u _ _ _ _ h
   ·rw [key_rr] at h; exact wpAny_eqBool_str h
 «strs» := fun k x t v h => by
  rcases keyIs_shape h with ⟨i, u, rfl, e⟩ | ⟨y, u, rfl, e⟩
  ·exact nomatch e
  ·injection e with e1 _
   subst e1
   cases v <;> rfl

theorem mixKind_int (prog : Program) (w : World) (i : Int) (t : Tok) : (mixKind prog w).is (.inl i) (.int i t) = true := keyIs_int i t
theorem mixKind_str (prog : Program) (w : World) (x : Str) (t : Tok) : (mixKind prog w).is (.inr x) (.str x t) = true := keyIs_str x t
end L2

namespace L2
open PySem PySem.Spec PyProof.Rows

inductive V where
 | non | bl (b : Bool) | int (i : Int) | str (x : Str) | byt (b : Array UInt8) | flt (b : UInt64) | ref (a : Addr) | ty (n : String)
 deriving DecidableEq

noncomputable def RelV : V → Value → Prop
 | .non, u => u = Value.none
 | .bl b, u => u = Value.bool b
 | .int i, u => ∃ t, u = Value.int i t
 | .str x, u => ∃ t, u = Value.str x t
 | .byt b, u => ∃ t, u = Value.bytes b t
 | .flt b, u => ∃ t, u = Value.float b t
 | .ref a, u => u = Value.ref a
 | .ty n, u => u = Value.type n

noncomputable abbrev Vals : List V → List Value → Prop := Paired RelV
theorem Vals.length {xs : List V} {us : List Value} (r : Vals xs us) : xs.length = us.length := Paired.length r
theorem Vals.get : ∀ {xs : List V} {us : List Value} {i : Nat} {x : V}, Vals xs us → xs[i]? = some x → ∃ u, us[i]? = some u ∧ RelV x u
 | _, _, _, _, .nil, e => by simp at e
 | _, _, 0, _, .cons r _, e => by simp at e; subst e; exact ⟨_, rfl, r⟩
 | _, _, i + 1, x, .cons _ t, e => by
  obtain ⟨u, h1, h2⟩ := Vals.get (i := i) (x := x) t (by simpa using e)
  exact ⟨u, by simpa using h1, h2⟩
theorem Vals.set {x : V} {u : Value} (r : RelV x u) : ∀ {xs : List V} {us : List Value} (i : Nat), Vals xs us → Vals (xs.set i x) (us.set i u)
 | _, _, _, .nil => .nil
 | _, _, 0, .cons _ t => .cons r t
 | _, _, i + 1, .cons q t => .cons q (Vals.set r i t)
theorem Vals.append : ∀ {xs ys : List V} {us ws : List Value}, Vals xs us → Vals ys ws → Vals (xs ++ ys) (us ++ ws)
 | _, _, _, _, .nil, s => s
 | _, _, _, _, .cons r t, s => .cons r (Vals.append t s)
theorem Vals.take : ∀ {xs : List V} {us : List Value} (n : Nat), Vals xs us → Vals (xs.take n) (us.take n)
 | _, _, 0, _ => .nil
 | _, _, _ + 1, .nil => .nil
 | _, _, n + 1, .cons r t => .cons r (Vals.take n t)
theorem Vals.drop : ∀ {xs : List V} {us : List Value} (n : Nat), Vals xs us → Vals (xs.drop n) (us.drop n)
 | _, _, 0, r => r
 | _, _, _ + 1, .nil => .nil
 | _, _, n + 1, .cons _ t => Vals.drop n t

noncomputable def RelO : Option V → Option Value → Prop
 | some v, some u => RelV v u
 | none, none => True
 | _, _ => False
noncomputable def KV {κ : Type} : List (κ × V) → List (κ × Value) → Prop := Paired fun (p : κ × V) (q : κ × Value) => p.1 = q.1 ∧ RelV p.2 q.2

noncomputable def kV : Key → V
 | .inl i => .int i
 | .inr x => .str x

inductive HO where
 /-- a list -/
 | lst (xs : List V)
 /-- a tuple (never changes) -/
 | tup (xs : List V)
 /-- a dict whose keys are ints and texts; one whose keys are tuples of ints and texts (the empty one is both) -/
 | dK (kvs : List (Key × V)) | dT (kvs : List (List Key × V))
 /-- a set of ints: its members, its size -/
 | set (S : Int → Bool) (n : Nat)
 /-- an instance of the class at C, its dict at dx, its attributes -/
 | ins (C dx : Addr) (fs : List (Str × V))
 /-- the dict of the instance at x -/
 | own (x : Addr)
 /-- the dict of an exception -/
 | xd (fs : List (Str × V))
 /-- a bound method, f of x -/
 | met (f x : Addr)
 /-- a range object lo, lo + 1, .. below hi -/
 | rng (lo hi : Int)
 /-- a thing that is known to the object (the script; a dict while a loop walks it): read, never written while it is so -/
 | frz (o : Obj) (u : HO)
 /-- a code object's table -/
 | tbl (ps : Array Value)
 /-- any other thing, by what is true of its one object (a def of one's own: SetO a S n := HO.ext fun h => ..) -/
 | ext (φ : Heap → Prop)

noncomputable abbrev Hp := Addr → Option HO
noncomputable def upd (H : Hp) (a : Addr) (o : HO) : Hp := fun b => if b = a then some o else H b
theorem upd_same {H : Hp} {a : Addr} {o : HO} : upd H a o a = some o := by unfold upd; rw [if_pos rfl]
theorem upd_ne {H : Hp} {a b : Addr} {o : HO} (h : b ≠ a) : upd H a o b = H b := by unfold upd; rw [if_neg h]
theorem ne_of {H : Hp} {a b : Addr} {o u : HO} (h : H a = some o) (h' : H b = some u) (d : o ≠ u) : a ≠ b := by
 intro e; subst e; rw [h] at h'; exact d (Option.some.inj h')
theorem ne_of_none {H : Hp} {a b : Addr} {o : HO} (h : H a = some o) (h' : H b = none) : a ≠ b := by
 intro e; subst e; rw [h] at h'; cases h'

section
variable (P : Program) (w : World)
noncomputable def ObjOk (H : Hp) (h : Heap) (a : Addr) : HO → Prop
 | .lst xs => xs.length ≤ sizeLine ∧ ∃ (its : List Value) (n : Nat), Vals xs its ∧ h.get? a = some { cls := .type "list", data := .seq its.toArray n }
 | .tup xs => xs.length ≤ sizeLine ∧ ∃ its : List Value, Vals xs its ∧ IsTup h a its.toArray
 | .dK kvs => kvs.length ≤ sizeLine ∧ (a == sysModules) = false ∧ ∃ vs, KV kvs vs ∧ h.DictOf (mixKind P w) a vs
 | .dT kvs => kvs.length ≤ sizeLine ∧ (a == sysModules) = false ∧ ∃ xs : List (List Key × Addr × Value),
   Paired (fun (p : List Key × V) (q : List Key × Addr × Value) => p.1 = q.1 ∧ H q.2.1 = some (.tup (p.1.map kV)) ∧ RelV p.2 q.2.2) kvs xs ∧
   ∃ o es ep, h.get? a = some o ∧ o.ExactDict ∧ o.data = .dict es ep ∧ es.toList = xs.map (entryOfKey (tupleKind (mixKind P w))) ∧ (xs.map (·.1)).Nodup
 | .set S n => h.SetOf (intKind P w) a S n
 | .ins C dx fs => H dx = some (.own a) ∧ fs.length ≤ 1000 ∧ dx ≠ a ∧ h.get? a = some (PySem.W.instObj C dx) ∧
   ∃ mA, h.Ns1 dx mA ∧ (∀ f, RelO (fs.lookup f) (mA f)) ∧ PySem.Within mA (fs.map (·.1))
 | .own _ => ∃ o, h.get? a = some o
 | .xd fs => ∃ mA, h.Ns1 a mA ∧ ∀ f, RelO (fs.lookup f) (mA f)
 | .rng lo hi => ∃ t u v, h.get? a = some { cls := .type "range", data := .fields #[.int lo t, .int hi u, .int 1 v] }
 | .frz o u => h.get? a = some o ∧ ObjOk H h a u
 | .tbl ps => h.get? a = some { cls := .none, data := .fields ps }
 | .met f x => h.get? a = some (PySem.W.methodObj (.ref f) (.ref x))
 | .ext φ => φ h ∧ (∃ o, h.get? a = some o) ∧ ∀ h1 h2 : Heap, φ h1 → (∀ o, h1.get? a = some o → h2.get? a = some o) → φ h2
noncomputable def HOk (H : Hp) (h : Heap) : Prop := ∀ a o, H a = some o → ObjOk P w H h a o
end

section
variable {P : Program} {w : World} {H H' : Hp} {h h' : Heap} {a : Addr} {o : HO}
theorem ObjOk.lt (x : ObjOk P w H h a o) : a < h.objs.size := by
 cases o with
 | lst xs => obtain ⟨_, _, _, _, e⟩ := x; exact Heap.lt_size e
 | tup xs => obtain ⟨_, _, _, p⟩ := x; exact p.lt
 | dK kvs => obtain ⟨_, _, _, _, o, _, _, e, _⟩ := x; exact Heap.lt_size e
 | dT kvs => obtain ⟨_, _, _, _, o, _, _, e, _⟩ := x; exact Heap.lt_size e
 | set S n => obtain ⟨o, _, _, _, e, _⟩ := x; exact Heap.lt_size e
 | ins C dx fs => obtain ⟨_, _, _, e, _⟩ := x; exact Heap.lt_size e
 | own y => obtain ⟨_, e⟩ := x; exact Heap.lt_size e
 | xd fs => obtain ⟨_, ⟨_, _, _, e, _⟩, _⟩ := x; exact Heap.lt_size e
 | rng lo hi => obtain ⟨_, _, _, e⟩ := x; exact Heap.lt_size e
 | frz ob u => obtain ⟨e, _⟩ := x; exact Heap.lt_size e
 | tbl ps => exact Heap.lt_size (show h.get? a = some _ from x)
 | met f y => exact Heap.lt_size (show h.get? a = some _ from x)
 | ext φ => obtain ⟨_, ⟨_, e⟩, _⟩ := x; exact Heap.lt_size e
theorem Paired.mapP {α β : Type} {F G : α → β → Prop} : ∀ {l₁ : List α} {l₂ : List β}, Paired F l₁ l₂ → (∀ a b, F a b → G a b) → Paired G l₁ l₂
 | _, _, .nil, _ => .nil
 | _, _, .cons r t, f => .cons (f _ _ r) (Paired.mapP t f)
theorem ObjOk.stay (x : ObjOk P w H h a o) (k : ∀ b u, (b = a ∨ H b = some (.own a)) → h.get? b = some u → h'.get? b = some u)
  (ho : ∀ b, H b = some (.own a) → H' b = some (.own a)) (ht : ∀ b xs, H b = some (.tup xs) → H' b = some (.tup xs)) : ObjOk P w H' h' a o := by
 induction o with
 | lst xs => obtain ⟨z, its, n, r, e⟩ := x; exact ⟨z, its, n, r, k _ _ (.inl rfl) e⟩
 | tup xs => obtain ⟨z, its, r, ob, e, c⟩ := x; exact ⟨z, its, r, ob, k _ _ (.inl rfl) e, c⟩
 | dK kvs => obtain ⟨z, y, vs, r, ob, es, ep, e, c⟩ := x; exact ⟨z, y, vs, r, ob, es, ep, k _ _ (.inl rfl) e, c⟩
 | dT kvs =>
  obtain ⟨z, y, xs, r, ob, es, ep, e, c⟩ := x
  exact ⟨z, y, xs, Paired.mapP r fun p q z => ⟨z.1, ht _ _ z.2.1, z.2.2⟩, ob, es, ep, k _ _ (.inl rfl) e, c⟩
 | set S n => obtain ⟨ob, es, ep, t, e, c⟩ := x; exact ⟨ob, es, ep, t, k _ _ (.inl rfl) e, c⟩
 | ins C dx fs =>
  obtain ⟨d, z, ne, e, mA, ⟨od, es, ep, e2, c⟩, r⟩ := x
  exact ⟨ho _ d, z, ne, k _ _ (.inl rfl) e, mA, ⟨od, es, ep, k _ _ (.inr d) e2, c⟩, r⟩
 | own y => obtain ⟨ob, e⟩ := x; exact ⟨ob, k _ _ (.inl rfl) e⟩
 | xd fs => obtain ⟨mA, ⟨od, es, ep, e, c⟩, r⟩ := x; exact ⟨mA, ⟨od, es, ep, k _ _ (.inl rfl) e, c⟩, r⟩
 | rng lo hi => obtain ⟨t, u, v, e⟩ := x; exact ⟨t, u, v, k _ _ (.inl rfl) e⟩
 | frz ob u ih => obtain ⟨e, q⟩ := x; exact ⟨k _ _ (.inl rfl) e, ih q⟩
 | tbl ps =>
  have e : h.get? a = some { cls := .none, data := .fields ps } := x
  show h'.get? a = some { cls := .none, data := .fields ps }
  exact k a _ (.inl rfl) e
 | met f y =>
  have e : h.get? a = some (PySem.W.methodObj (.ref f) (.ref y)) := x
  show h'.get? a = some (PySem.W.methodObj (.ref f) (.ref y))
  exact k a _ (.inl rfl) e
 | ext φ => obtain ⟨p, ⟨o, e⟩, st⟩ := x; exact ⟨st _ _ p fun o q => k _ _ (.inl rfl) q, ⟨o, k _ _ (.inl rfl) e⟩, st⟩
theorem HOk.lt (x : HOk P w H h) (e : H a = some o) : a < h.objs.size := (x a o e).lt
theorem HOk.fresh (x : HOk P w H h) (e : h.objs.size ≤ a) : H a = none := by
 cases q : H a with
 | none => rfl
 | some u => exact absurd (Nat.lt_of_lt_of_le (x.lt q) e) (Nat.lt_irrefl _)
theorem HOk.kept (x : HOk P w H h) (k : ∀ b u, h.get? b = some u → h'.get? b = some u) : HOk P w H h' := fun a o e =>
 (x a o e).stay (fun b u _ q => k b u q) (fun _ q => q) fun _ _ q => q
theorem HOk.laid (x : HOk P w H h) (k : ∀ b u, h.get? b = some u → h'.get? b = some u) (hp : h.objs.size ≤ a) (new : ObjOk P w (upd H a o) h' a o) : HOk P w (upd H a o) h' := fun b u e => by
 have hn := x.fresh hp
 by_cases hb : b = a
 ·subst hb; rw [upd_same] at e; cases e; exact new
 ·rw [upd_ne hb] at e
  exact (x b u e).stay (fun c v _ q => k c v q) (fun c q => by rw [upd_ne (ne_of_none q hn)]; exact q) fun c xs q => by rw [upd_ne (ne_of_none q hn)]; exact q
end

noncomputable def Rd (H : Hp) (a : Addr) (u : HO) : Prop := H a = some u ∨ ∃ o, H a = some (.frz o u)
theorem Rd.ok {P : Program} {w : World} {H : Hp} {h : Heap} {a : Addr} {u : HO} (r : Rd H a u) (x : HOk P w H h) : ObjOk P w H h a u := by
 rcases r with r | ⟨o, r⟩
 ·exact x a u r
 ·obtain ⟨_, q⟩ := x a _ r
  exact q
noncomputable def Mut : Option HO → Prop
 | some (.lst _) => True
 | some (.dK _) => True
 | some (.dT _) => True
 | some (.set _ _) => True
 | some (.ins _ _ _) => True
 | some (.ext _) => True
 | _ => False
section
variable {P : Program} {w : World} {H : Hp} {h h' : Heap} {x e : Addr} {o' : HO}
theorem HOk.write (ok : HOk P w H h) (mu : Mut (H x)) (he : e = x ∨ H e = some (.own x)) (k : ∀ b u, b ≠ e → h.get? b = some u → h'.get? b = some u) (heo : ∃ u, h'.get? e = some u)
  (new : ObjOk P w (upd H x o') h' x o') : HOk P w (upd H x o') h' := fun b u q => by
 have nown : ∀ c y, H c = some (.own y) → c ≠ x := fun c y r z => by subst z; rw [r] at mu; exact mu
 have ntup : ∀ c xs, H c = some (.tup xs) → c ≠ x := fun c xs r z => by subst z; rw [r] at mu; exact mu
 by_cases hb : b = x
 ·subst hb; rw [upd_same] at q; cases q; exact new
 ·rw [upd_ne hb] at q
  by_cases hbe : b = e
  ·have q' : H b = some (.own x) := by
    rcases he with z | z
    ·exact absurd (hbe.trans z) hb
    ·rw [hbe]; exact z
   rw [q] at q'; cases q'
   obtain ⟨v, hv⟩ := heo
   exact ⟨v, by rw [hbe]; exact hv⟩
  ·refine (ok b u q).stay (fun c v hc r => k c v ?_ r) (fun c r => by rw [upd_ne (nown c b r)]; exact r) fun c xs r => by rw [upd_ne (ntup c xs r)]; exact r
   rcases hc with rfl | hc
   ·exact hbe
   ·rintro rfl
    rcases he with z | z
    ·exact nown c b hc z
    ·rw [hc] at z; cases z; exact hb rfl
end

structure Un (fs ex : List Addr) (H H' : Hp) (h h' : Heap) : Prop where
 keep : ∀ b o, h.get? b = some o → H b = none → b ∉ fs → b ∉ ex → h'.get? b = some o
 slot : ∀ b o, h.get? b = some o → H b = none → b ∈ fs → b ∉ ex → ∃ sl, h'.get? b = some { o with slots := sl }
 free : ∀ b o, h.get? b = some o → H b = none → b ∉ ex → H' b = none
 there : ∀ b o, h.get? b = some o → b ∉ ex → ∃ o', h'.get? b = some o'
 tups : ∀ b xs, H b = some (.tup xs) → H' b = some (.tup xs)
 frzs : ∀ b o u, H b = some (.frz o u) → H' b = some (.frz o u)
 tbls : ∀ b ps, H b = some (.tbl ps) → ∃ more, H' b = some (.tbl (ps ++ more))
section
variable {fs fs' ex ex' : List Addr} {H H1 H2 : Hp} {h h1 h2 h' : Heap} {a x e : Addr} {o : HO}
theorem Un.any (u : Un fs ex H H1 h h1) {b : Addr} {ob : Obj} (q : h.get? b = some ob) (n : H b = none) (hx : b ∉ ex) : ∃ sl, h1.get? b = some { ob with slots := sl } := by
 by_cases hb : b ∈ fs
 ·exact u.slot b ob q n hb hx
 ·exact ⟨ob.slots, u.keep b ob q n hb hx⟩
theorem Un.trans (a : Un fs ex H H1 h h1) (b : Un fs ex H1 H2 h1 h2) : Un fs ex H H2 h h2 where
 keep := fun c ob q n hc hx => b.keep c ob (a.keep c ob q n hc hx) (a.free c ob q n hx) hc hx
 slot := fun c ob q n hc hx => by
  obtain ⟨sl, e1⟩ := a.slot c ob q n hc hx
  obtain ⟨sl', e2⟩ := b.slot c _ e1 (a.free c ob q n hx) hc hx
  exact ⟨sl', e2⟩
 free := fun c ob q n hx => by
  obtain ⟨o', e1⟩ := a.there c ob q hx
  exact b.free c o' e1 (a.free c ob q n hx) hx
 there := fun c ob q hx => by
  obtain ⟨o', e1⟩ := a.there c ob q hx
  exact b.there c o' e1 hx
 tups := fun c xs q => b.tups c xs (a.tups c xs q)
 frzs := fun c ob xs q => b.frzs c ob xs (a.frzs c ob xs q)
 tbls := fun c ps q => by
  obtain ⟨m1, e1⟩ := a.tbls c ps q
  obtain ⟨m2, e2⟩ := b.tbls c _ e1
  exact ⟨m1 ++ m2, by rw [e2, Array.append_assoc]⟩
theorem Un.kept (k : ∀ b u, h.get? b = some u → h'.get? b = some u) : Un fs ex H H h h' :=
 ⟨fun b ob q _ _ _ => k b ob q, fun b ob q _ _ _ => ⟨ob.slots, k b ob q⟩, fun _ _ _ n _ => n, fun b ob q _ => ⟨ob, k b ob q⟩, fun _ _ q => q, fun _ _ _ q => q, fun _ ps q => ⟨#[], by rw [q]; simp⟩⟩
theorem Un.refl : Un fs ex H H h h := Un.kept fun _ _ q => q
theorem Un.laid (k : ∀ b u, h.get? b = some u → h'.get? b = some u) (hp : h.objs.size ≤ a) (hn : H a = none) : Un fs ex H (upd H a o) h h' where
 keep := fun b u q _ _ _ => k b u q
 slot := fun b u q _ _ _ => ⟨u.slots, k b u q⟩
 free := fun b u q n _ => by rw [upd_ne (Nat.ne_of_lt (Nat.lt_of_lt_of_le (Heap.lt_size q) hp))]; exact n
 there := fun b u q _ => ⟨u, k b u q⟩
 tups := fun b xs q => by rw [upd_ne (ne_of_none q hn)]; exact q
 frzs := fun b u xs q => by rw [upd_ne (ne_of_none q hn)]; exact q
 tbls := fun b ps q => ⟨#[], by rw [upd_ne (ne_of_none q hn), q]; simp⟩
theorem Un.write (mu : Mut (H x)) (he : e = x ∨ H e = some (.own x)) (k : ∀ b u, b ≠ e → h.get? b = some u → h'.get? b = some u) (heo : ∃ u, h'.get? e = some u) : Un fs ex H (upd H x o) h h' := by
 have hx : ∀ b, H b = none → b ≠ x := fun b n z => by subst z; rw [n] at mu; exact mu
 have hb : ∀ b, H b = none → b ≠ e := fun b n z => by
  subst z
  rcases he with r | r
  ·exact hx b n r
  ·rw [n] at r; cases r
 have hm : ∀ b u, H b = some u → ¬ Mut (some u) → b ≠ x := fun b u q nm z => by subst z; rw [q] at mu; exact nm mu
 refine ⟨fun b u q n _ _ => k b u (hb b n) q, fun b u q n _ _ => ⟨u.slots, k b u (hb b n) q⟩, fun b u q n _ => by rw [upd_ne (hx b n)]; exact n, fun b u q _ => ?_,
  fun b xs q => by rw [upd_ne (hm b _ q fun z => z)]; exact q, fun b u xs q => by rw [upd_ne (hm b _ q fun z => z)]; exact q, fun b ps q => ⟨#[], by rw [upd_ne (hm b _ q fun z => z), q]; simp⟩⟩
 by_cases hbe : b = e
 ·subst hbe; exact heo
 ·exact ⟨u, k b u hbe q⟩
end

noncomputable def trk (h : Heap) (H : Hp) : List Addr := (List.range h.objs.size).filter fun a => (H a).isSome
noncomputable def hidT (h : Heap) (H : Hp) : Heap := PySem.W.hideAll h (trk h H)
theorem hidT_size (h : Heap) (H : Hp) : (hidT h H).objs.size = h.objs.size := PySem.W.hideAll_size _ _
theorem hidT_get {h : Heap} {H : Hp} {b : Addr} {o : Obj} (e : h.get? b = some o) (n : H b = none) : (hidT h H).get? b = some o :=
 PySem.W.hideAll_get _ e fun hm => by
  have q : (H b).isSome = true := (List.mem_filter.mp hm).2
  rw [n] at q; simp at q
theorem of_hidT {h : Heap} {H : Hp} {b : Addr} {o : Obj} (e : (hidT h H).get? b = some o) : h.get? b = some o ∧ H b = none := by
 have e' : h.get? b = some o := PySem.W.of_hideAll (trk h H) e
 refine ⟨e', ?_⟩
 cases q : H b with
 | none => rfl
 | some x =>
  have hm : b ∈ trk h H := List.mem_filter.mpr ⟨List.mem_range.mpr (Heap.lt_size e'), by simp [q]⟩
  have z : (hidT h H).get? b = none := PySem.W.hideAll_none (trk h H) hm
  rw [z] at e; cases e

end L2

namespace L2
open PySem PySem.Spec PyProof.Rows

structure Mod (K : PySem.W.Frag) (mg : Str → Option Value) (base : Heap) : Prop where
 kin : K.In base
 glob : base.Ns mainGlobals mg
 blt : ∃ mb, base.Ns builtinsNs mb ∧ ∀ x : Str, x ≠ "__name__" → mb x = bootBuiltins x
 nolimit : base.NoLimit

/-- the context: a def's body (or a comprehension's block) running. base: fixed through the whole law; s₀, H₀: the entry; outer: the frames whose slots others may change (a def's callers); stack: all frames that run;
   ex: iterators that were made ahead of the entry and are walked here (a comprehension's); fn: the names whose cells were made at the entry (a def: all; a comprehension's block: its own); calm: not within an except suite; pn: pins that every state bears; xe: what is wanted of an exception that leaves the code -/
structure Cx where
 prog : Program
 w : World
 K : PySem.W.Frag
 mg : Str → Option Value
 base : Heap
 A : Around
 N : List Str
 s₀ : Shared
 H₀ : Hp
 env : Env
 outer : List Env
 stack : List Env
 ex : List Addr
 fn : Str → Bool
 calm : Bool
 pn : List (Addr × Obj)
 xe : Value → Shared → Prop
noncomputable def frs (l : List Env) : List Addr := l.filterMap (·.frame)
noncomputable abbrev Cx.fs (X : Cx) : List Addr := frs X.outer

noncomputable def Vis (sc : Scope) (x : Str) : Prop := sc.names.lookup x = some .local ∨ sc.names.lookup x = some .cell ∨ sc.names.lookup x = some .free
noncomputable def Loc (sc : Scope) (x : Str) : Prop := sc.names.lookup x = some .local ∨ sc.names.lookup x = some .cell
noncomputable def Look (env : Env) (h : Heap) (m : Str → Option Value) (x : Str) (u : Value) : Prop :=
 (env.kindOf x = some .local ∧ m x = some u) ∨ ((env.kindOf x = some .cell ∨ env.kindOf x = some .free) ∧ ∃ c, env.cells.lookup x = some c ∧ h.IsCell c (some u))

structure Cx.Ok (X : Cx) : Prop where
 mod : Mod X.K X.mg X.base
 kind : X.env.scope.kind = .function
 glob : X.env.globals = mainGlobals
 blt : X.env.builtins = builtinsNs
 above : X.s₀.heap.objs.size ≤ X.env.locals
 inj : ∀ x y c, X.env.cells.lookup x = some c → X.env.cells.lookup y = some c → x = y
 has : ∀ x, (X.env.kindOf x = some .cell ∨ X.env.kindOf x = some .free) → ∃ c, X.env.cells.lookup x = some c
 cab : ∀ x c, X.fn x = true → X.env.cells.lookup x = some c → X.s₀.heap.objs.size ≤ c
 hd : X.calm = true → X.A.handled = none
 frames : X.A.frames = some X.stack
 stk : X.stack = X.outer ∨ (X.stack = X.env :: X.outer ∧ X.env.frame = some X.env.locals)
 exf : ∀ b ∈ X.ex, b ≠ X.env.locals ∧ ∀ x c, X.env.cells.lookup x = some c → c ≠ b
 bs : ∀ b o, X.base.get? b = some o → X.s₀.heap.get? b = some o ∧ X.H₀ b = none
 bsz : X.base.objs.size ≤ X.s₀.heap.objs.size
 noex : ∀ b o, X.base.get? b = some o → b ∉ X.ex
 exfs : ∀ b ∈ X.ex, b ∉ X.fs
 funs : X.s₀.heap.FunFrames X.base X.outer
 frf : ∀ b ∈ X.fs, X.H₀ b = none

structure Inv (X : Cx) (pins : List (Addr × Obj)) (σ : List (Option V)) (H : Hp) (s : Shared) : Prop where
 ok : X.Ok
 os : s.os = X.s₀.os
 bare : AllBare s.gens
 base : Un X.fs X.ex X.H₀ H X.s₀.heap s.heap
 loc : ∃ m, s.heap.Ns X.env.locals m ∧ ∀ (i : Nat) (x : Str) (v : V), X.N[i]? = some x → σ[i]? = some (some v) → Vis X.env.scope x → ∃ u, RelV v u ∧ Look X.env s.heap m x u
 cell : ∀ x c, X.env.cells.lookup x = some c → ∃ v, s.heap.IsCell c v
 free : H X.env.locals = none
 freeC : ∀ x c, X.env.cells.lookup x = some c → H c = none
 pin : ∀ p ∈ X.pn ++ pins, s.heap.get? p.1 = some p.2 ∧ H p.1 = none ∧ p.1 ≠ X.env.locals ∧ p.1 ∉ X.fs ∧ ∀ v, p.2.data ≠ .cell v
 hok : HOk X.prog X.w H s.heap
 len : σ.length = X.N.length

section
variable {X : Cx} {pins : List (Addr × Obj)} {σ : List (Option V)} {H H' : Hp} {s : Shared} {h' : Heap}

theorem Cx.Ok.nofr (ok : X.Ok) {b : Addr} {o : Obj} (e : X.base.get? b = some o) : b ∉ X.fs := fun hb => by
 have := (ok.funs.mem hb).1
 rw [e] at this; cases this
theorem Inv.bs (I : Inv X pins σ H s) : ∀ b o, X.base.get? b = some o → s.heap.get? b = some o ∧ H b = none := fun b o e =>
 ⟨I.base.keep b o (I.ok.bs b o e).1 (I.ok.bs b o e).2 (I.ok.nofr e) (I.ok.noex b o e), I.base.free b o (I.ok.bs b o e).1 (I.ok.bs b o e).2 (I.ok.noex b o e)⟩
theorem Inv.bk (I : Inv X pins σ H s) : ∀ b o, X.base.get? b = some o → s.heap.get? b = some o := fun b o e => (I.bs b o e).1
theorem Inv.mod (I : Inv X pins σ H s) : Mod X.K X.mg X.base := I.ok.mod
theorem Inv.kIn (I : Inv X pins σ H s) : X.K.In s.heap := I.ok.mod.kin.keeps I.bk
theorem Inv.lt (I : Inv X pins σ H s) : X.env.locals < s.heap.objs.size := let ⟨_, hn, _⟩ := I.loc; hn.lt
theorem Inv.sz (I : Inv X pins σ H s) : X.s₀.heap.objs.size ≤ s.heap.objs.size := Nat.le_trans I.ok.above (Nat.le_of_lt I.lt)
theorem Inv.nofs (I : Inv X pins σ H s) {a : Addr} (h : s.heap.objs.size ≤ a) : a ∉ X.fs := fun hb => by
 obtain ⟨_, o, ho, _⟩ := I.ok.funs.mem hb
 exact absurd (Nat.lt_of_lt_of_le (Heap.lt_size ho) (Nat.le_trans I.sz h)) (Nat.lt_irrefl _)
theorem Inv.cne (I : Inv X pins σ H s) : ∀ x c, X.env.cells.lookup x = some c → c ≠ X.env.locals := fun x c e z => by
 obtain ⟨v, o, ho, hd⟩ := I.cell x c e
 obtain ⟨m, ⟨o', es, ep, ho', hd', _⟩, _⟩ := I.loc
 rw [z, ho'] at ho; cases ho; rw [hd'] at hd; cases hd
theorem Inv.funs (I : Inv X pins σ H s) : s.heap.FunFrames X.base X.outer := by
 have all : ∀ (l : List Env), (∀ b ∈ frs l, b ∈ X.fs) → X.s₀.heap.FunFrames X.base l → s.heap.FunFrames X.base l := by
  intro l
  induction l with
  | nil => intro _ _; trivial
  | cons env r ih =>
   intro hs hl
   obtain ⟨hk, ⟨L, o, hf, hn, ho, hd⟩, hr⟩ := hl
   have hL : L ∈ X.fs := hs L (by unfold frs; rw [List.filterMap_cons, hf]; exact List.mem_cons_self)
   obtain ⟨sl, e⟩ := I.base.slot L o ho (I.ok.frf L hL) hL fun z => I.ok.exfs L z hL
   exact ⟨hk, ⟨L, _, hf, hn, e, hd⟩, ih (fun b hb => hs b (by unfold frs; rw [List.filterMap_cons, hf]; exact List.mem_cons_of_mem _ hb)) hr⟩
 exact all X.outer (fun _ hb => hb) I.ok.funs

theorem Inv.stack (I : Inv X pins σ H s) : s.heap.FunFrames X.base X.stack := by
 rcases I.ok.stk with e | ⟨e, hf⟩
 ·rw [e]; exact I.funs
 ·rw [e]
  obtain ⟨m, hn, _⟩ := I.loc
  refine .cons (by rw [I.ok.kind]; decide) hf hn ?_ I.funs
  exact Heap.get?_none_of_le (Nat.le_trans I.ok.bsz I.ok.above)
theorem Inv.stkSub (I : Inv X pins σ H s) : ∀ b ∈ frs X.stack, b ∈ X.env.locals :: X.fs := fun b hb => by
 rcases I.ok.stk with e | ⟨e, hf⟩
 ·rw [e] at hb; exact List.mem_cons_of_mem _ hb
 ·rw [e] at hb
  unfold frs at hb
  rw [List.filterMap_cons, hf] at hb
  exact hb
theorem Inv.stkFree (I : Inv X pins σ H s) : ∀ b ∈ frs X.stack, H b = none := fun b hb => by
 rcases List.mem_cons.mp (I.stkSub b hb) with e | hb
 ·rw [e]; exact I.free
 ·obtain ⟨_, o, ho, _⟩ := I.ok.funs.mem hb
  exact I.base.free b o ho (I.ok.frf b hb) fun z => I.ok.exfs b z hb

theorem Inv.step {g' : Array GenState} {t' : Nat} {d' : Drawn} {ch : List Addr} (I : Inv X pins σ H s)
  (hch : ∀ b ∈ ch, (b ∈ X.ex ∨ X.s₀.heap.objs.size ≤ b) ∧ b ≠ X.env.locals ∧ (∀ x c, X.env.cells.lookup x = some c → c ≠ b) ∧ ∀ p ∈ X.pn ++ pins, p.1 ≠ b)
  (keep : ∀ b o, b ≠ X.env.locals → b ∉ X.fs → b ∉ ch → s.heap.get? b = some o → H b = none → h'.get? b = some o)
  (slot : ∀ b o, b ≠ X.env.locals → b ∈ X.fs → b ∉ ch → s.heap.get? b = some o → H b = none → ∃ sl, h'.get? b = some { o with slots := sl }) (free : ∀ b o, b ∉ ch → s.heap.get? b = some o → H b = none → H' b = none)
  (there : ∀ b o, b ∉ ch → s.heap.get? b = some o → ∃ o', h'.get? b = some o')
  (tups : ∀ b xs, H b = some (.tup xs) → H' b = some (.tup xs)) (frzs : ∀ b o u, H b = some (.frz o u) → H' b = some (.frz o u)) (tbls : ∀ b ps, H b = some (.tbl ps) → ∃ more, H' b = some (.tbl (ps ++ more)))
  (ns : ∀ m, s.heap.Ns X.env.locals m → h'.Ns X.env.locals m) (hok : HOk X.prog X.w H' h') (hg : AllBare g') :
  Inv X pins σ H' { s with heap := h', gens := g', drawn := d', toks := t' } := by
 have neL : ∀ b o, X.s₀.heap.get? b = some o → b ≠ X.env.locals := fun b o e => Nat.ne_of_lt (Nat.lt_of_lt_of_le (Heap.lt_size e) I.ok.above)
 have neC : ∀ b o, X.s₀.heap.get? b = some o → b ∉ X.ex → b ∉ ch := fun b o e hx hb => by
  rcases (hch b hb).1 with z | z
  ·exact hx z
  ·exact absurd (Nat.lt_of_lt_of_le (Heap.lt_size e) z) (Nat.lt_irrefl _)
 have cellK : ∀ x c, X.env.cells.lookup x = some c → ∀ v, s.heap.IsCell c v → h'.IsCell c v := fun x c e v ⟨o, ho, hd⟩ => by
  have nch : c ∉ ch := fun z => (hch c z).2.2.1 x c e rfl
  by_cases hc : c ∈ X.fs
  ·obtain ⟨sl, q⟩ := slot c o (I.cne x c e) hc nch ho (I.freeC x c e)
   exact ⟨_, q, hd⟩
  ·exact ⟨o, keep c o (I.cne x c e) hc nch ho (I.freeC x c e), hd⟩
 refine ⟨I.ok, I.os, hg, ⟨fun b o e n hb hx => ?_, fun b o e n hb hx => ?_, fun b o e n hx => ?_, fun b o e hx => ?_, fun b xs e => tups b xs (I.base.tups b xs e), fun b o xs e => frzs b o xs (I.base.frzs b o xs e), fun b ps e => ?_⟩, ?_, fun x c e => ?_, ?_, fun x c e => ?_, fun p hp => ?_, hok, I.len⟩
 ·exact keep b o (neL b o e) hb (neC b o e hx) (I.base.keep b o e n hb hx) (I.base.free b o e n hx)
 ·obtain ⟨sl, e1⟩ := I.base.slot b o e n hb hx
  obtain ⟨sl', e2⟩ := slot b _ (neL b o e) hb (neC b o e hx) e1 (I.base.free b o e n hx)
  exact ⟨sl', e2⟩
 ·obtain ⟨o', e1⟩ := I.base.there b o e hx
  exact free b o' (neC b o e hx) e1 (I.base.free b o e n hx)
 ·obtain ⟨o', e1⟩ := I.base.there b o e hx
  exact there b o' (neC b o e hx) e1
 ·obtain ⟨m1, e1⟩ := I.base.tbls b ps e
  obtain ⟨m2, e2⟩ := tbls b _ e1
  exact ⟨m1 ++ m2, by rw [e2, Array.append_assoc]⟩
 ·obtain ⟨m, hn, hl⟩ := I.loc
  refine ⟨m, ns m hn, fun i x v e1 e2 e3 => ?_⟩
  obtain ⟨u, r, l⟩ := hl i x v e1 e2 e3
  refine ⟨u, r, ?_⟩
  rcases l with l | ⟨k, c, e, z⟩
  ·exact .inl l
  ·exact .inr ⟨k, c, e, cellK x c e _ z⟩
 ·obtain ⟨v, z⟩ := I.cell x c e
  exact ⟨v, cellK x c e v z⟩
 ·obtain ⟨m, ⟨o, _, _, ho, _⟩, _⟩ := I.loc
  exact free _ o (fun z => (hch _ z).2.1 rfl) ho I.free
 ·obtain ⟨v, o, ho, hd⟩ := I.cell x c e
  exact free c o (fun z => (hch c z).2.2.1 x c e rfl) ho (I.freeC x c e)
 ·obtain ⟨e, n, ne, nf, d⟩ := I.pin p hp
  have nch : p.1 ∉ ch := fun z => (hch p.1 z).2.2.2 p hp rfl
  exact ⟨keep p.1 p.2 ne nf nch e n, free p.1 p.2 nch e n, ne, nf, d⟩
theorem Inv.un {t' : Nat} (I : Inv X pins σ H s) (u : Un X.fs [] H H' s.heap h') (hok : HOk X.prog X.w H' h') : Inv X pins σ H' { s with heap := h', toks := t' } := by
 obtain ⟨m, ⟨o, es, ep, ho, r⟩, _⟩ := id I.loc
 obtain ⟨sl, hL⟩ := u.any ho I.free (by simp)
 exact I.step (g' := s.gens) (d' := s.drawn) (ch := []) (fun _ z => nomatch z) (fun b o _ hb _ e n => u.keep b o e n hb (by simp)) (fun b o _ hb _ e n => u.slot b o e n hb (by simp)) (fun b o _ e n => u.free b o e n (by simp)) (fun b o _ e => u.there b o e (by simp)) u.tups u.frzs u.tbls (fun m' hm => by
  obtain ⟨o', es', ep', ho', r'⟩ := hm
  rw [ho] at ho'; cases ho'
  exact ⟨_, es', ep', hL, r'⟩) hok I.bare
theorem Inv.call {g' : Array GenState} {t' : Nat} {d' : Drawn} {ch : List Addr} (I : Inv X pins σ H s) (u : Un (frs X.stack) ch H H' s.heap h') (hok : HOk X.prog X.w H' h') (hg : AllBare g')
  (hch : ∀ b ∈ ch, (b ∈ X.ex ∨ X.s₀.heap.objs.size ≤ b) ∧ b ≠ X.env.locals ∧ (∀ x c, X.env.cells.lookup x = some c → c ≠ b) ∧ ∀ p ∈ X.pn ++ pins, p.1 ≠ b) :
  Inv X pins σ H' { s with heap := h', gens := g', drawn := d', toks := t' } := by
 obtain ⟨m, ⟨o, es, ep, ho, r⟩, _⟩ := id I.loc
 obtain ⟨sl, hL⟩ := u.any ho I.free fun z => (hch _ z).2.1 rfl
 exact I.step (ch := ch) hch (fun b o hL hb hc e n => u.keep b o e n (fun z => (List.mem_cons.mp (I.stkSub b z)).elim hL hb) hc) (fun b o _ _ hc e n => u.any e n hc) (fun b o hc e n => u.free b o e n hc) (fun b o hc e => u.there b o e hc) u.tups u.frzs u.tbls (fun m' hm => by
  obtain ⟨o', es', ep', ho', r'⟩ := hm
  rw [ho] at ho'; cases ho'
  exact ⟨_, es', ep', hL, r'⟩) hok hg
theorem Inv.turned {t' : Nat} {it : Addr} (I : Inv X pins σ H s) (k : ∀ b o, b ≠ it → s.heap.get? b = some o → h'.get? b = some o) (hn : H it = none) (hL : it ≠ X.env.locals)
  (h1 : it ∈ X.ex ∨ X.s₀.heap.objs.size ≤ it) (h2 : ∀ x c, X.env.cells.lookup x = some c → c ≠ it) (h3 : ∀ p ∈ X.pn ++ pins, p.1 ≠ it) : Inv X pins σ H { s with heap := h', toks := t' } := by
 have nit : ∀ b u, H b = some u → b ≠ it := fun b u e z => by rw [z, hn] at e; cases e
 refine I.step (g' := s.gens) (d' := s.drawn) (ch := [it]) (fun b hb => ?_) (fun b o _ _ hc e _ => k b o (fun z => hc (by simp [z])) e) (fun b o _ _ hc e _ => ⟨o.slots, k b o (fun z => hc (by simp [z])) e⟩) (fun _ _ _ _ n => n)
  (fun b o hc e => ⟨o, k b o (fun z => hc (by simp [z])) e⟩) (fun _ _ e => e) (fun _ _ _ e => e) (fun b ps e => ⟨#[], by rw [e]; simp⟩) (fun m hm => ?_) (fun b u e => ?_) I.bare
 ·have e : b = it := by simpa using hb
  subst e
  exact ⟨h1, hL, h2, h3⟩
 ·obtain ⟨o, es, ep, ho, r⟩ := hm
  exact ⟨o, es, ep, k _ o (Ne.symm hL) ho, r⟩
 ·refine (I.hok b u e).stay (fun c v hc q => k c v ?_ q) (fun _ q => q) fun _ _ q => q
  rcases hc with z | z
  ·rw [z]; exact nit b u e
  ·exact nit c _ z
theorem Inv.tok (I : Inv X pins σ H s) (t : Nat) : Inv X pins σ H { s with toks := t } := I.un (h' := s.heap) (t' := t) Un.refl I.hok
theorem Inv.kept {t' : Nat} (I : Inv X pins σ H s) (k : ∀ b u, s.heap.get? b = some u → h'.get? b = some u) : Inv X pins σ H { s with heap := h', toks := t' } := I.un (Un.kept k) (I.hok.kept k)
theorem Inv.laid {a : Addr} {o : HO} {t' : Nat} (I : Inv X pins σ H s) (k : ∀ b u, s.heap.get? b = some u → h'.get? b = some u) (hp : s.heap.objs.size ≤ a) (new : ObjOk X.prog X.w (upd H a o) h' a o) :
  Inv X pins σ (upd H a o) { s with heap := h', toks := t' } := I.un (Un.laid k hp (I.hok.fresh hp)) (I.hok.laid k hp new)
theorem Inv.write {x e : Addr} {o : HO} {t' : Nat} (I : Inv X pins σ H s) (mu : Mut (H x)) (he : e = x ∨ H e = some (.own x)) (k : ∀ b u, b ≠ e → s.heap.get? b = some u → h'.get? b = some u) (heo : ∃ u, h'.get? e = some u)
  (new : ObjOk X.prog X.w (upd H x o) h' x o) : Inv X pins σ (upd H x o) { s with heap := h', toks := t' } := I.un (Un.write mu he k heo) (I.hok.write mu he k heo new)
theorem Inv.weak {σ' : List (Option V)} (I : Inv X pins σ H s) (hl : σ'.length = σ.length) (w : ∀ (i : Nat) v, σ'[i]? = some (some v) → σ[i]? = some (some v)) : Inv X pins σ' H s :=
 ⟨I.ok, I.os, I.bare, I.base, let ⟨m, hn, hl'⟩ := I.loc; ⟨m, hn, fun i x v e1 e2 e3 => hl' i x v e1 (w i v e2) e3⟩, I.cell, I.free, I.freeC, I.pin, I.hok, hl.trans I.len⟩
theorem Inv.pins_of {pins' : List (Addr × Obj)} (I : Inv X pins σ H s) (h : ∀ p ∈ pins', s.heap.get? p.1 = some p.2 ∧ H p.1 = none ∧ p.1 ≠ X.env.locals ∧ p.1 ∉ X.fs ∧ ∀ v, p.2.data ≠ .cell v) : Inv X pins' σ H s :=
 ⟨I.ok, I.os, I.bare, I.base, I.loc, I.cell, I.free, I.freeC, fun p hp => (List.mem_append.mp hp).elim (fun z => I.pin p (List.mem_append_left _ z)) (h p), I.hok, I.len⟩

theorem nodup_ix {N : List Str} (hN : N.Nodup) {i j : Nat} {x : Str} (a : N[i]? = some x) (b : N[j]? = some x) : i = j := by
 obtain ⟨h1, e1⟩ := List.getElem?_eq_some_iff.mp a
 obtain ⟨h2, e2⟩ := List.getElem?_eq_some_iff.mp b
 exact (List.getElem_inj hN).mp (e1.trans e2.symm)

theorem store_ok2 {M : Model} {A : Around} {E : Value → Shared → Prop} {i : Nat} {x : Str} {v : V} {u : Value} {Q : Unit → Shared → Prop} (I : Inv X pins σ H s) (hN : X.N.Nodup) (hi : X.N[i]? = some x) (hx : Loc X.env.scope x) (r : RelV v u)
  (h : ∀ s', Inv X pins (σ.set i (some v)) H s' → (∃ a, Heap.SameBut a s.heap s'.heap ∧ (a = X.env.locals ∨ X.env.cells.lookup x = some a)) → Q () s') (hf : X.fn x = true ∨ X.env.scope.names.lookup x = some .local := by first | exact .inl rfl | exact .inr rfl | assumption) : wpAny M A (storeName X.env x u) Q E s := by
 obtain ⟨m, hn, hl⟩ := id I.loc
 have hcls : (X.env.scope.kind == .class || (X.env.scope.kind == .module && X.env.locals != X.env.globals)) = false := by rw [I.ok.kind]; rfl
 have hiσ : i < σ.length := by rw [I.len]; exact (List.getElem?_eq_some_iff.mp hi).1
 have cne := I.cne
 have tracked : ∀ {a : Addr} {h' : Heap}, (∃ o, s.heap.get? a = some o ∧ H a = none) → Heap.SameBut a s.heap h' → HOk X.prog X.w H h' := fun {a h'} ha hs b ob e => by
  obtain ⟨_, _, hfree⟩ := ha
  refine (I.hok b ob e).stay (fun c w' hc q => (hs.2 c ?_).trans q) (fun _ q => q) fun _ _ q => q
  rintro rfl
  rcases hc with rfl | hc
  ·rw [hfree] at e; cases e
  ·rw [hfree] at hc; cases hc
 rcases hx with hk | hk
 ·refine wpAny_storeName_local hk hn (fun h' hn' hs => ?_) hcls
  obtain ⟨oL, _, _, hoL, _⟩ := id hn
  refine h _ ⟨I.ok, I.os, I.bare, ⟨fun b o e n hb hx => ?_, fun b o e n hb hx => ?_, I.base.free, fun b o e hx => ?_, I.base.tups, I.base.frzs, I.base.tbls⟩, ⟨_, hn', fun j y v' e1 e2 e3 => ?_⟩, fun y c e => ?_, I.free, I.freeC, fun p hp => ?_, tracked ⟨oL, hoL, I.free⟩ hs, by simpa using I.len⟩ ⟨_, hs, .inl rfl⟩
  ·exact (hs.2 b (Nat.ne_of_lt (Nat.lt_of_lt_of_le (Heap.lt_size e) I.ok.above))).trans (I.base.keep b o e n hb hx)
  ·obtain ⟨sl, e1⟩ := I.base.slot b o e n hb hx
   exact ⟨sl, (hs.2 b (Nat.ne_of_lt (Nat.lt_of_lt_of_le (Heap.lt_size e) I.ok.above))).trans e1⟩
  ·obtain ⟨o', e1⟩ := I.base.there b o e hx
   exact ⟨o', (hs.2 b (Nat.ne_of_lt (Nat.lt_of_lt_of_le (Heap.lt_size e) I.ok.above))).trans e1⟩
  ·by_cases hj : j = i
   ·subst hj
    rw [hi] at e1; cases e1
    rw [List.getElem?_set_self hiσ] at e2
    cases e2
    exact ⟨u, r, .inl ⟨hk, by simp⟩⟩
   ·rw [List.getElem?_set_ne (Ne.symm hj)] at e2
    obtain ⟨u', r', q⟩ := hl j y v' e1 e2 e3
    refine ⟨u', r', ?_⟩
    rcases q with ⟨k, e⟩ | ⟨k, c, e, z⟩
    ·refine .inl ⟨k, ?_⟩
     have : y ≠ x := fun e => hj (nodup_ix hN e1 (e ▸ hi))
     simp [this, e]
    ·exact .inr ⟨k, c, e, z.sameBut hs (cne y c e)⟩
  ·obtain ⟨w', z⟩ := I.cell y c e
   exact ⟨w', z.sameBut hs (cne y c e)⟩
  ·obtain ⟨e, n, ne, nf, d⟩ := I.pin p hp
   exact ⟨(hs.2 p.1 ne).trans e, n, ne, nf, d⟩
 ·have hfn : X.fn x = true := by
   rcases hf with z | z
   ·exact z
   ·rw [z] at hk; cases hk
  obtain ⟨c, hc⟩ := I.ok.has x (.inl hk)
  obtain ⟨w', z⟩ := I.cell x c hc
  refine wpAny_storeName_cell I.ok.kind hk hc z (fun h' hc' hs => ?_)
  obtain ⟨oc, hoc, hocd⟩ := id z
  refine h { s with heap := h' } ⟨I.ok, I.os, I.bare, ⟨fun b o e n hb hx => ?_, fun b o e n hb hx => ?_, I.base.free, fun b o e hx => ?_, I.base.tups, I.base.frzs, I.base.tbls⟩, ⟨m, hn.sameBut hs (Ne.symm (cne x c hc)), fun j y v' e1 e2 e3 => ?_⟩, fun y c' e => ?_, I.free, I.freeC, fun p hp => ?_, tracked ⟨oc, hoc, I.freeC x c hc⟩ hs, by simpa using I.len⟩ ⟨c, hs, .inr hc⟩
  ·exact (hs.2 b (Nat.ne_of_lt (Nat.lt_of_lt_of_le (Heap.lt_size e) (I.ok.cab x c hfn hc)))).trans (I.base.keep b o e n hb hx)
  ·obtain ⟨sl, e1⟩ := I.base.slot b o e n hb hx
   exact ⟨sl, (hs.2 b (Nat.ne_of_lt (Nat.lt_of_lt_of_le (Heap.lt_size e) (I.ok.cab x c hfn hc)))).trans e1⟩
  ·obtain ⟨o', e1⟩ := I.base.there b o e hx
   exact ⟨o', (hs.2 b (Nat.ne_of_lt (Nat.lt_of_lt_of_le (Heap.lt_size e) (I.ok.cab x c hfn hc)))).trans e1⟩
  ·by_cases hj : j = i
   ·subst hj
    rw [hi] at e1; cases e1
    rw [List.getElem?_set_self hiσ] at e2
    cases e2
    exact ⟨u, r, .inr ⟨.inl hk, c, hc, hc'⟩⟩
   ·rw [List.getElem?_set_ne (Ne.symm hj)] at e2
    obtain ⟨u', r', q⟩ := hl j y v' e1 e2 e3
    refine ⟨u', r', ?_⟩
    rcases q with q | ⟨k, c', e, z'⟩
    ·exact .inl q
    ·refine .inr ⟨k, c', e, z'.sameBut hs ?_⟩
     rintro rfl
     exact hj (nodup_ix hN e1 (I.ok.inj _ _ _ e hc ▸ hi))
  ·by_cases hcc : c' = c
   ·subst hcc; exact ⟨_, hc'⟩
   ·obtain ⟨w2, z2⟩ := I.cell y c' e
    exact ⟨w2, z2.sameBut hs hcc⟩
  ·obtain ⟨e, n, ne, nf, d⟩ := I.pin p hp
   refine ⟨(hs.2 p.1 ?_).trans e, n, ne, nf, d⟩
   intro q
   rw [q, hoc] at e
   have q' : oc = p.2 := Option.some.inj e
   exact d w' (by rw [← q']; exact hocd)
theorem store_ok {M : Model} {A : Around} {E : Value → Shared → Prop} {i : Nat} {x : Str} {v : V} {u : Value} {Q : Unit → Shared → Prop} (I : Inv X pins σ H s) (hN : X.N.Nodup) (hi : X.N[i]? = some x) (hx : Loc X.env.scope x) (r : RelV v u)
  (h : ∀ s', Inv X pins (σ.set i (some v)) H s' → Q () s') (hf : X.fn x = true ∨ X.env.scope.names.lookup x = some .local := by first | exact .inl rfl | exact .inr rfl | assumption) : wpAny M A (storeName X.env x u) Q E s :=
 store_ok2 I hN hi hx r (fun s' I' _ => h s' I') hf
theorem Inv.call' {s' : Shared} {ch : List Addr} (I : Inv X pins σ H s) (ho : s'.os = s.os) (u : Un (frs X.stack) ch H H' s.heap s'.heap) (hok : HOk X.prog X.w H' s'.heap) (hg : AllBare s'.gens)
  (hch : ∀ b ∈ ch, (b ∈ X.ex ∨ X.s₀.heap.objs.size ≤ b) ∧ b ≠ X.env.locals ∧ (∀ x c, X.env.cells.lookup x = some c → c ≠ b) ∧ ∀ p ∈ X.pn ++ pins, p.1 ≠ b) : Inv X pins σ H' s' := by
 obtain ⟨h', g', d', t', o'⟩ := s'
 have e : o' = s.os := ho
 subst e
 exact I.call (g' := g') (t' := t') (d' := d') u hok hg hch
end

noncomputable abbrev XK := Value → Option Addr → Hp → Prop
noncomputable abbrev St := List (Option V)
noncomputable abbrev VK := V → Hp → Prop
noncomputable abbrev TE := St → Hp → VK → Prop
noncomputable abbrev TT := St → Hp → (Bool → Hp → Prop) → Prop
noncomputable abbrev TA := St → Hp → (List V → Hp → Prop) → Prop
structure Ends where
 nx : St → Hp → Prop
 rt : VK
 bk : St → Hp → Prop := fun _ _ => False
 ct : St → Hp → Prop := fun _ _ => False
noncomputable abbrev TS := Ends → St → Hp → Prop

noncomputable def EP (X : Cx) (pins : List (Addr × Obj)) (σ : St) (Q : VK) (u : Value) (s' : Shared) : Prop := ∃ v H', Inv X pins σ H' s' ∧ RelV v u ∧ Q v H'
noncomputable def TP (X : Cx) (pins : List (Addr × Obj)) (σ : St) (Q : Bool → Hp → Prop) (b : Bool) (s' : Shared) : Prop := ∃ H', Inv X pins σ H' s' ∧ Q b H'
noncomputable def AP (X : Cx) (pins : List (Addr × Obj)) (σ : St) (Q : List V → Hp → Prop) (us : List Value) (s' : Shared) : Prop := ∃ vs H', Inv X pins σ H' s' ∧ Vals vs us ∧ Q vs H'
noncomputable def SP (X : Cx) (pins : List (Addr × Obj)) (D : Ends) (f : Flow) (s' : Shared) : Prop :=
 match f with
 | .next => ∃ σ' H', Inv X pins σ' H' s' ∧ D.nx σ' H'
 | .brk => ∃ σ' H', Inv X pins σ' H' s' ∧ D.bk σ' H'
 | .cont => ∃ σ' H', Inv X pins σ' H' s' ∧ D.ct σ' H'
 | .ret u => ∃ v σ' H', Inv X pins σ' H' s' ∧ RelV v u ∧ D.rt v H'

noncomputable def PE (X : Cx) (e : Expr) (t : TE) : Prop :=
 ∀ (pins : List (Addr × Obj)) (s : Shared) (σ : St) (H : Hp) (Q : VK), Inv X pins σ H s → t σ H Q → wpAny (model X.prog X.w) X.A (eval e X.env) (EP X pins σ Q) X.xe s
noncomputable def PT (X : Cx) (e : Expr) (t : TT) : Prop :=
 ∀ (pins : List (Addr × Obj)) (s : Shared) (σ : St) (H : Hp) (Q : Bool → Hp → Prop), Inv X pins σ H s → t σ H Q → wpAny (model X.prog X.w) X.A (isTrue e X.env (eval e X.env)) (TP X pins σ Q) X.xe s
noncomputable def PW (X : Cx) (e : Expr) (t : TT) : Prop :=
 ∀ (whole : Sem Value) (pins : List (Addr × Obj)) (s : Shared) (σ : St) (H : Hp) (Q : Bool → Hp → Prop), Inv X pins σ H s → t σ H Q → wpAny (model X.prog X.w) X.A (isTrue e X.env whole) (TP X pins σ Q) X.xe s
theorem PW.pt {X : Cx} {e : Expr} {t : TT} (h : PW X e t) : PT X e t := h _
noncomputable def PA (X : Cx) (es : List Expr) (t : TA) : Prop :=
 ∀ (pos : Pos) (pins : List (Addr × Obj)) (s : Shared) (σ : St) (H : Hp) (Q : List V → Hp → Prop), Inv X pins σ H s → t σ H Q → wpAny (model X.prog X.w) X.A (spliced (backTo pos (starEach es X.env))) (AP X pins σ Q) X.xe s
noncomputable def PS (X : Cx) (st : Stmt) (t : TS) : Prop :=
 ∀ (pins : List (Addr × Obj)) (s : Shared) (σ : St) (H : Hp) (D : Ends), Inv X pins σ H s → t D σ H → wpAny (model X.prog X.w) X.A (exec st X.env) (SP X pins D) X.xe s
noncomputable def PSs (X : Cx) (st : List Stmt) (t : TS) : Prop :=
 ∀ (pins : List (Addr × Obj)) (s : Shared) (σ : St) (H : Hp) (D : Ends), Inv X pins σ H s → t D σ H → wpAny (model X.prog X.w) X.A (execs st X.env) (SP X pins D) X.xe s
theorem thn {α : Type} {t : Sem α} {Q Q' : α → Shared → Prop} {M : Model} {A : Around} {E : Value → Shared → Prop} {s : Shared} (h : wpAny M A t Q E s) (hQ : ∀ a s, Q a s → Q' a s) : wpAny M A t Q' E s := wpAny_mono h hQ fun _ _ x => x
end L2

namespace L2
open PySem PySem.Spec PyProof.Rows
section
variable {X : Cx}

theorem bin {a b : Expr} {ta tb : TE} (ha : PE X a ta) (hb : PE X b tb) {pins : List (Addr × Obj)} {s : Shared} {σ : St} {H : Hp} {R : V → V → Hp → Prop} (I : Inv X pins σ H s) (h : ta σ H fun x H1 => tb σ H1 fun y H2 => R x y H2)
  {α : Type} {Q : α → Shared → Prop} {f : Value → Value → Sem α}
  (hf : ∀ v u s2 x y H2, Inv X pins σ H2 s2 → RelV x v → RelV y u → R x y H2 → wpAny (model X.prog X.w) X.A (f v u) Q X.xe s2) :
  wpAny (model X.prog X.w) X.A (eval a X.env) (fun v s₁ => wpAny (model X.prog X.w) X.A (eval b X.env) (fun u s₂ => wpAny (model X.prog X.w) X.A (f v u) Q X.xe s₂) X.xe s₁) X.xe s := by
 refine thn (ha pins s σ H _ I h) fun v s1 ⟨x, H1, I1, r1, q1⟩ => ?_
 refine thn (hb pins s1 σ H1 _ I1 q1) fun u s2 ⟨y, H2, I2, r2, q2⟩ => ?_
 exact hf v u s2 x y H2 I2 r1 r2 q2

noncomputable def tVar (i : Nat) : TE := fun σ H Q => ∃ v, σ[i]? = some (some v) ∧ Q v H
noncomputable def tC (v : V) : TE := fun _ H Q => Q v H
theorem pe_var {i : Nat} {x : Str} {pos : Pos} (hN : X.N[i]? = some x) (hv : Vis X.env.scope x) (hd : (x == ("__debug__" : Str)) = false := by decide) (hcd : (x == ("__classdict__" : Str)) = false := by decide) : PE X (.Name x pos) (tVar i) := by
 intro pins s σ H Q I h
 obtain ⟨v, e, h⟩ := h
 obtain ⟨m, hn, hl⟩ := I.loc
 obtain ⟨u, r, l⟩ := hl i x v hN e hv
 have fin : EP X pins σ Q u s := ⟨v, H, I, r, h⟩
 rcases l with ⟨hk, hm⟩ | ⟨hk, c, hc, hcell⟩
 ·exact wpAny_Name (wpAny_loadName_local I.ok.kind hk hn hm fin) hd
 ·rcases hk with hk | hk
  ·exact wpAny_Name (wpAny_loadName_cell I.ok.kind hk hc hcell fin) hd
  ·exact wpAny_Name (wpAny_loadName_free I.ok.kind hk hc hcell fin hcd) hd
theorem pe_int {i j pos} : PE X (.Constant (.int i) j pos) (tC (.int i)) := fun _ _ _ H _ I h => wpAny_Constant_int ⟨.int i, H, I.tok _, ⟨_, rfl⟩, h⟩
theorem pe_bl {b j pos} : PE X (.Constant (.bool b) j pos) (tC (.bl b)) := fun _ _ _ H _ I h => Constant_bool ⟨.bl b, H, I, rfl, h⟩
theorem pe_non {j pos} : PE X (.Constant .none j pos) (tC .non) := fun _ _ _ H _ I h => Constant_none ⟨.non, H, I, rfl, h⟩

noncomputable def Gl (X : Cx) (x : Str) : Prop := X.env.kindOf x = some .globalImplicit
theorem ld_glob {E : Value → Shared → Prop} {pins : List (Addr × Obj)} {s : Shared} {σ : St} {H : Hp} {x : Str} {u : Value} {pos : Pos} {Q : Value → Shared → Prop} (I : Inv X pins σ H s) (hg : Gl X x) (hm : X.mg x = some u) (h : Q u s)
  (hd : (x == ("__debug__" : Str)) = false := by decide) : wpAny (model X.prog X.w) X.A (eval (.Name x pos) X.env) Q E s :=
 Calls.Name_function_global I.ok.kind hg (Calls.loadGlobal_global (by rw [I.ok.glob]; exact I.mod.glob.keeps I.bk) hm h) hd
theorem ld_blt {E : Value → Shared → Prop} {pins : List (Addr × Obj)} {s : Shared} {σ : St} {H : Hp} {x : Str} {u : Value} {pos : Pos} {Q : Value → Shared → Prop} (I : Inv X pins σ H s) (hg : Gl X x) (hm : X.mg x = none) (hv : bootBuiltins x = some u) (h : Q u s)
  (hn : x ≠ "__name__" := by decide) (hd : (x == ("__debug__" : Str)) = false := by decide) : wpAny (model X.prog X.w) X.A (eval (.Name x pos) X.env) Q E s := by
 obtain ⟨mb, h1, h2⟩ := I.mod.blt
 exact Calls.Name_function_global I.ok.kind hg (Calls.loadGlobal_builtin (by rw [I.ok.glob]; exact I.mod.glob.keeps I.bk) hm (by rw [I.ok.blt]; exact h1.keeps I.bk) ((h2 x hn).trans hv) h) hd
theorem pe_glob {x : Str} {v : V} {u : Value} {pos : Pos} (hg : Gl X x) (hm : X.mg x = some u) (r : RelV v u) (hd : (x == ("__debug__" : Str)) = false := by decide) : PE X (.Name x pos) (tC v) :=
 fun _ _ _ H _ I h => ld_glob I hg hm ⟨v, H, I, r, h⟩ hd
theorem pe_bltn {x : Str} {v : V} {u : Value} {pos : Pos} (hg : Gl X x) (hm : X.mg x = none) (hv : bootBuiltins x = some u) (r : RelV v u) (hn : x ≠ "__name__" := by decide) (hd : (x == ("__debug__" : Str)) = false := by decide) : PE X (.Name x pos) (tC v) :=
 fun _ _ _ H _ I h => ld_blt I hg hm hv ⟨v, H, I, r, h⟩ hn hd

noncomputable def t2I (ta tb : TE) (k : Int → Int → Hp → Prop) : St → Hp → Prop := fun σ H => ta σ H fun x H1 => tb σ H1 fun y H2 => ∃ i j, x = .int i ∧ y = .int j ∧ k i j H2
variable {a b : Expr} {ta tb : TE} {pos : Pos}

noncomputable def PC (X : Cx) (op : CmpOp) (a b : Expr) (t : TE) : Prop :=
 ∀ (pins : List (Addr × Obj)) (s : Shared) (σ : St) (H : Hp) (Q : VK), Inv X pins σ H s → t σ H Q →
  wpAny (model X.prog X.w) X.A (eval a X.env) (fun v s₁ => wpAny (model X.prog X.w) X.A (eval b X.env) (fun u s₂ => wpAny (model X.prog X.w) X.A (compareOp op v u) (EP X pins σ Q) X.xe s₂) X.xe s₁) X.xe s
theorem nobehind (b : Expr) {op : CmpOp} (h : op ≠ .In) (h2 : op ≠ .NotIn) : behindInMarks op b = false := by
 have e1 : (op == CmpOp.In) = false := by cases op <;> first | rfl | exact absurd rfl h
 have e2 : (op == CmpOp.NotIn) = false := by cases op <;> first | rfl | exact absurd rfl h2
 cases b <;> simp [behindInMarks, e1, e2]
noncomputable def tCmp (p : Int → Int → Bool) (ta tb : TE) : TE := fun σ H Q => t2I ta tb (fun i j H2 => Q (.bl (p i j)) H2) σ H
noncomputable abbrev tLt : TE → TE → TE := tCmp fun i j => decide (i < j)
noncomputable abbrev tLe : TE → TE → TE := tCmp fun i j => decide (i ≤ j)
noncomputable abbrev tGt : TE → TE → TE := tCmp fun i j => decide (j < i)
noncomputable abbrev tGe : TE → TE → TE := tCmp fun i j => decide (j ≤ i)
noncomputable abbrev tEqI : TE → TE → TE := tCmp fun i j => decide (i = j)
noncomputable abbrev tNeI : TE → TE → TE := tCmp fun i j => !decide (i = j)
theorem pc_int {op : CmpOp} {p : Int → Int → Bool} (ha : PE X a ta) (hb : PE X b tb)
  (rule : ∀ (i j : Int) (t u : Tok) (Q : Value → Shared → Prop) (s : Shared), Q (.bool (p i j)) s → wpAny (model X.prog X.w) X.A (compareOp op (.int i t) (.int j u)) Q X.xe s) : PC X op a b (tCmp p ta tb) := by
 intro pins s σ H Q I h
 refine bin ha hb I h fun v u s2 x y H2 I2 rx ry q => ?_
 obtain ⟨i, j, rfl, rfl, q⟩ := q
 obtain ⟨t, rfl⟩ := rx
 obtain ⟨t', rfl⟩ := ry
 exact rule i j t t' _ s2 ⟨.bl _, H2, I2, rfl, q⟩
theorem pc_lt (ha : PE X a ta) (hb : PE X b tb) : PC X .Lt a b (tLt ta tb) := pc_int ha hb fun _ _ _ _ _ _ h => lt_int h
theorem pc_gt (ha : PE X a ta) (hb : PE X b tb) : PC X .Gt a b (tGt ta tb) := pc_int ha hb fun _ _ _ _ _ _ h => gt_int h
theorem pc_eqI (ha : PE X a ta) (hb : PE X b tb) : PC X .Eq a b (tEqI ta tb) := pc_int ha hb fun _ _ _ _ _ _ h => eq_int (by rw [Bool.beq_eq_decide_eq]; exact h)
theorem pc_neI (ha : PE X a ta) (hb : PE X b tb) : PC X .NotEq a b (tNeI ta tb) := pc_int ha hb fun _ _ _ _ _ _ h => ne_int (by rw [bne, Bool.beq_eq_decide_eq]; exact h)
noncomputable def tNotN (ta : TE) : TE := fun σ H Q => ta σ H fun x H1 => Q (.bl (!decide (x = .non))) H1
theorem RelV.none_iff {x : V} {v : Value} (r : RelV x v) : (v == Value.none) = decide (x = .non) := by
 cases x with
 | non => cases r; rfl
 | bl _ => cases r; rfl
 | int _ => obtain ⟨t, rfl⟩ := r; rfl
 | str _ => obtain ⟨t, rfl⟩ := r; rfl
 | byt _ => obtain ⟨t, rfl⟩ := r; rfl
 | flt _ => obtain ⟨t, rfl⟩ := r; rfl
 | ref _ => cases r; rfl
 | ty _ => cases r; rfl
theorem pc_notN {j pos'} (ha : PE X a ta) : PC X .IsNot a (.Constant .none j pos') (tNotN ta) := by
 intro pins s σ H Q I h
 refine thn (ha pins s σ H _ I h) fun v s1 ⟨x, H1, I1, r1, q1⟩ => ?_
 exact Constant_none (isnot_none_gen ⟨.bl _, H1, I1, by rw [r1.none_iff]; rfl, q1⟩)
noncomputable def tB (t : TE) : TT := fun σ H Q => t σ H fun x H1 => ∃ c, x = .bl c ∧ Q c H1
theorem pe_cmp {op : CmpOp} {t : TE} (h : PC X op a b t) (h1 : behindInMarks op b = false := by first | exact nobehind _ (by decide) (by decide) | rfl) : PE X (.Compare a [op] [b] pos) t := fun pins s σ H Q I hw => wpAny_Compare1 (h pins s σ H Q I hw) h1
theorem pt_cmp {op : CmpOp} {t : TE} (h : PC X op a b t) (h1 : behindInMarks op b = false := by first | exact nobehind _ (by decide) (by decide) | rfl) : PT X (.Compare a [op] [b] pos) (tB t) := by
 intro pins s σ H Q I hw
 refine wpAny_isTrue_Compare1 (thn (h pins s σ H _ I hw) fun v s1 h1 => thn h1 fun u s2 h2 => thn h2 fun c s3 ⟨x, H1, I1, r1, q1⟩ => ?_) h1
 obtain ⟨d, rfl, q⟩ := q1
 cases r1
 exact wpAny_truthy_bool ⟨H1, I1, q⟩
theorem pt_val {e : Expr} {t : TE} (h : PE X e t) (he : ∀ whole, isTrue e X.env whole = (do let v ← whole; standAt e.pos; holding [v] (truthy v)) := by intro _; rfl) : PT X e (tB t) := by
 intro pins s σ H Q I hw
 refine isTrue_plain (thn (h pins s σ H _ I hw) fun v s1 ⟨x, H1, I1, r1, q1⟩ => ?_) (he _)
 obtain ⟨d, rfl, q⟩ := q1
 cases r1
 exact wpAny_truthy_bool ⟨H1, I1, q⟩

variable {tA tB' : TT} {rest : List Expr}
noncomputable def tAnd (t u : TT) : TT := fun σ H Q => t σ H fun c H1 => if c = true then u σ H1 Q else Q false H1
noncomputable def tOr (t u : TT) : TT := fun σ H Q => t σ H fun c H1 => if c = true then Q true H1 else u σ H1 Q
noncomputable def tNot (t : TT) : TT := fun σ H Q => t σ H fun c H1 => Q (!c) H1
theorem pw_and1 (ha : PT X a tA) : PW X (.BoolOp .And [a] pos) tA := by
 intro wh pins s σ H Q I h
 refine isTrue_and (thn (ha pins s σ H Q I h) fun c s1 e => ?_)
 cases c with
 | true => exact isTrue_and_nil e
 | false => exact e
theorem pw_or1 (ha : PT X a tA) : PW X (.BoolOp .Or [a] pos) tA := by
 intro wh pins s σ H Q I h
 refine isTrue_or (thn (ha pins s σ H Q I h) fun c s1 e => ?_)
 cases c with
 | false => exact isTrue_or_nil e
 | true => exact e
theorem pw_and (ha : PT X a tA) (hb : PW X (.BoolOp .And (b :: rest) pos) tB') : PW X (.BoolOp .And (a :: b :: rest) pos) (tAnd tA tB') := by
 intro wh pins s σ H Q I h
 refine isTrue_and (thn (ha pins s σ H _ I h) fun c s1 ⟨H1, I1, q1⟩ => ?_)
 cases c with
 | true => exact hb wh pins s1 σ H1 Q I1 q1
 | false => exact ⟨H1, I1, q1⟩
theorem pw_or (ha : PT X a tA) (hb : PW X (.BoolOp .Or (b :: rest) pos) tB') : PW X (.BoolOp .Or (a :: b :: rest) pos) (tOr tA tB') := by
 intro wh pins s σ H Q I h
 refine isTrue_or (thn (ha pins s σ H _ I h) fun c s1 ⟨H1, I1, q1⟩ => ?_)
 cases c with
 | true => exact ⟨H1, I1, q1⟩
 | false => exact hb wh pins s1 σ H1 Q I1 q1
theorem pt_not (ha : PT X a tA) : PT X (.UnaryOp .Not a pos) (tNot tA) := by
 intro pins s σ H Q I h
 exact isTrue_not (ha pins s σ H (fun c H1 => Q (!c) H1) I h)
noncomputable def tAndV (ta tb : TE) : TE := fun σ H Q => ta σ H fun x H1 => ∃ c, x = .bl c ∧ if c = true then tb σ H1 Q else Q (.bl false) H1
noncomputable def tOrV (ta tb : TE) : TE := fun σ H Q => ta σ H fun x H1 => ∃ c, x = .bl c ∧ if c = true then Q (.bl true) H1 else tb σ H1 Q
theorem pe_one {op} {t : TE} (h : PE X a t) : PE X (.BoolOp op [a] pos) t := fun pins s σ H Q I hw => BoolOp_one (h pins s σ H Q I hw)
theorem pe_and (ha : PE X a ta) (hb : PE X (.BoolOp .And (b :: rest) pos) tb) : PE X (.BoolOp .And (a :: b :: rest) pos) (tAndV ta tb) := by
 intro pins s σ H Q I h
 refine BoolOp_and (thn (ha pins s σ H _ I h) fun v s1 ⟨x, H1, I1, r1, q1⟩ => ?_)
 obtain ⟨c, rfl, q1⟩ := q1
 cases r1
 refine wpAny_truthy_bool ?_
 cases c with
 | true => exact hb pins s1 σ H1 Q I1 q1
 | false => exact ⟨.bl false, H1, I1, rfl, q1⟩
theorem pe_or (ha : PE X a ta) (hb : PE X (.BoolOp .Or (b :: rest) pos) tb) : PE X (.BoolOp .Or (a :: b :: rest) pos) (tOrV ta tb) := by
 intro pins s σ H Q I h
 refine BoolOp_or (thn (ha pins s σ H _ I h) fun v s1 ⟨x, H1, I1, r1, q1⟩ => ?_)
 obtain ⟨c, rfl, q1⟩ := q1
 cases r1
 refine wpAny_truthy_bool ?_
 cases c with
 | false => exact hb pins s1 σ H1 Q I1 q1
 | true => exact ⟨.bl true, H1, I1, rfl, q1⟩
noncomputable def tIf (t : TT) (ta tb : TE) : TE := fun σ H Q => t σ H fun c H1 => if c = true then ta σ H1 Q else tb σ H1 Q
theorem pe_ifExp {c : Expr} (hc : PT X c tA) (ha : PE X a ta) (hb : PE X b tb) : PE X (.IfExp c a b pos) (tIf tA ta tb) := by
 intro pins s σ H Q I h
 refine wpAny_IfExp (thn (hc pins s σ H _ I h) fun d s1 ⟨H1, I1, q1⟩ => ?_)
 cases d with
 | true => exact ha pins s1 σ H1 Q I1 q1
 | false => exact hb pins s1 σ H1 Q I1 q1
end
end L2

namespace L2
open PySem PySem.Spec PyProof.Rows

noncomputable def SqL (K : PySem.W.Frag) (H : Hp) (a : Addr) (xs : List V) : Prop :=
 Rd H a (.lst xs) ∨
  ∃ (o : Obj) (its : Array Value) (n : Nat), K.lookup a = some o ∧ o.cls = .type "list" ∧ o.dict = none ∧ o.data = .seq its n ∧ its.size ≤ sizeLine ∧ Vals xs its.toList
noncomputable def SqT (K : PySem.W.Frag) (H : Hp) (a : Addr) (xs : List V) : Prop :=
 Rd H a (.tup xs) ∨
  ∃ (o : Obj) (its : Array Value) (n : Nat), K.lookup a = some o ∧ o.cls = .type "tuple" ∧ o.data = .seq its n ∧ its.size ≤ sizeLine ∧ Vals xs its.toList
noncomputable def SqX (K : PySem.W.Frag) (H : Hp) (a : Addr) (xs : List V) : Prop :=
 Rd H a (.lst xs) ∨ ∃ (its : Array Value) (n : Nat), K.lookup a = some { cls := .type "list", data := .seq its n } ∧ its.size ≤ sizeLine ∧ Vals xs its.toList
theorem SqX.sql {K : PySem.W.Frag} {H : Hp} {a : Addr} {xs : List V} (h : SqX K H a xs) : SqL K H a xs := by
 rcases h with h | ⟨its, n, hk, hz, r⟩
 ·exact .inl h
 ·exact .inr ⟨_, its, n, hk, rfl, rfl, rfl, hz, r⟩
theorem SqX.of {K : PySem.W.Frag} {H : Hp} {a : Addr} {xs : List V} (h : H a = some (.lst xs)) : SqX K H a xs := .inl (.inl h)
noncomputable def absV : Value → Option V
 | .none => some .non
 | .bool b => some (.bl b)
 | .int i _ => some (.int i)
 | .str x _ => some (.str x)
 | .bytes b _ => some (.byt b)
 | .float b _ => some (.flt b)
 | .ref a => some (.ref a)
 | .type n => some (.ty n)
 | _ => none
theorem RelV.abs {x : V} {u : Value} (r : RelV x u) : absV u = some x := by
 cases x with
 | non => cases r; rfl
 | bl _ => cases r; rfl
 | int _ => obtain ⟨t, rfl⟩ := r; rfl
 | str _ => obtain ⟨t, rfl⟩ := r; rfl
 | byt _ => obtain ⟨t, rfl⟩ := r; rfl
 | flt _ => obtain ⟨t, rfl⟩ := r; rfl
 | ref _ => cases r; rfl
 | ty _ => cases r; rfl
theorem RelV.inj {x y : V} {u : Value} (r : RelV x u) (q : RelV y u) : x = y := Option.some.inj (r.abs.symm.trans q.abs)
theorem Vals.inj : ∀ {xs ys : List V} {us : List Value}, Vals xs us → Vals ys us → xs = ys
 | _, _, _, .nil, .nil => rfl
 | _, _, _, .cons r t, .cons r' t' => by rw [r.inj r', Vals.inj t t']
section
variable {X : Cx} {pins : List (Addr × Obj)} {σ : St} {H : Hp} {s : Shared} {a : Addr} {xs ys : List V}
theorem SqT.of {K : PySem.W.Frag} (h : H a = some (.tup xs)) : SqT K H a xs := .inl (.inl h)
theorem Inv.list (I : Inv X pins σ H s) (h : SqL X.K H a xs) : ∃ its : List Value, Vals xs its ∧ PlainL s.heap a its.toArray ∧ xs.length ≤ sizeLine := by
 rcases h with h | ⟨o, its, n, hk, hc, hd, hs, hz, r⟩
 ·obtain ⟨z, its, n, r, e⟩ := h.ok I.hok
  exact ⟨its, r, ⟨_, n, e, rfl, rfl, rfl⟩, z⟩
 ·refine ⟨its.toList, r, ⟨o, n, I.kIn a o hk, hc, hd, by simpa using hs⟩, ?_⟩
  have e := r.length
  simp only [Array.length_toList] at e
  omega
theorem Inv.tuple (I : Inv X pins σ H s) (h : SqT X.K H a xs) : ∃ its : List Value, Vals xs its ∧ IsTup s.heap a its.toArray ∧ xs.length ≤ sizeLine := by
 rcases h with h | ⟨o, its, n, hk, hc, hs, hz, r⟩
 ·obtain ⟨z, its, r, p⟩ := h.ok I.hok
  exact ⟨its, r, p, z⟩
 ·refine ⟨its.toList, r, ⟨o, I.kIn a o hk, hc, n, by simpa using hs⟩, ?_⟩
  have e := r.length
  simp only [Array.length_toList] at e
  omega
theorem Inv.list_inj (I : Inv X pins σ H s) (h : SqL X.K H a xs) (h' : SqL X.K H a ys) : xs = ys := by
 obtain ⟨its, r, ⟨o, n, e, _, _, d⟩, _⟩ := I.list h
 obtain ⟨its', r', ⟨o', n', e', _, _, d'⟩, _⟩ := I.list h'
 rw [e] at e'; cases e'
 rw [d] at d'
 injection d' with d1 _
 have : its = its' := by simpa using congrArg Array.toList d1
 subst this
 exact r.inj r'
theorem Inv.tuple_inj (I : Inv X pins σ H s) (h : SqT X.K H a xs) (h' : SqT X.K H a ys) : xs = ys := by
 obtain ⟨its, r, ⟨o, e, _, n, d⟩, _⟩ := I.tuple h
 obtain ⟨its', r', ⟨o', e', _, n', d'⟩, _⟩ := I.tuple h'
 rw [e] at e'; cases e'
 rw [d] at d'
 injection d' with d1 _
 have : its = its' := by simpa using congrArg Array.toList d1
 subst this
 exact r.inj r'
end

noncomputable abbrev Cx.wish (X : Cx) (E : Value → Shared → Prop) : Cx := { X with xe := E }
noncomputable abbrev Cx.nox (X : Cx) : Cx := X.wish fun _ _ => False
section
variable {X : Cx} {pins : List (Addr × Obj)} {σ : St} {H : Hp} {s : Shared} {E : Value → Shared → Prop}
end

section
variable {X : Cx} {st : Stmt} {rest : List Stmt} {t u : TS} {e : Expr} {te : TE} {pos : Pos}
noncomputable def tNext : TS := fun D σ H => D.nx σ H
noncomputable def tSeq (t u : TS) : TS := fun D σ H => t { D with nx := u D } σ H
theorem pss_nil : PSs X [] tNext := fun _ _ σ H _ I h => wpAny_execs_nil ⟨σ, H, I, h⟩
theorem pss_cons (h1 : PS X st t) (h2 : PSs X rest u) : PSs X (st :: rest) (tSeq t u) := by
 intro pins s σ H D I h
 refine wpAny_execs_cons (thn (h1 pins s σ H { D with nx := u D } I h) fun f s1 q => ?_)
 cases f with
 | next =>
  obtain ⟨σ', H', I', q⟩ := q
  exact h2 pins s1 σ' H' D I' q
 | ret v => exact q
 | brk => exact q
 | cont => exact q
theorem pss_one (h1 : PS X st t) : PSs X [st] t := by
 intro pins s σ H D I h
 refine wpAny_execs_cons (thn (h1 pins s σ H D I h) fun f s1 q => ?_)
 cases f with
 | next => exact wpAny_execs_nil q
 | ret v => exact q
 | brk => exact q
 | cont => exact q
theorem Inv.quiet {pins : List (Addr × Obj)} {σ : St} {H : Hp} {s : Shared} (I : Inv X pins σ H s) : interactive X.env = false := by simp [interactive, I.ok.kind]
noncomputable def tDrop (te : TE) : TS := fun D σ H => te σ H fun _ H1 => D.nx σ H1
theorem ps_expr (he : PE X e te) (hs : swapsWith e none pos.line X.env = pure false := by rfl) : PS X (.Expr e pos) (tDrop te) := by
 intro pins s σ H D I h
 exact wpAny_Expr_any (thn (he pins s σ H _ I h) fun v s1 ⟨x, H1, I1, r1, q1⟩ => ⟨σ, H1, I1, q1⟩) I.quiet hs
noncomputable def tRet (te : TE) : TS := fun D σ H => te σ H D.rt
theorem ps_ret (he : PE X e te) : PS X (.Return (some e) pos) (tRet te) := by
 intro pins s σ H D I h
 exact wpAny_Return_some (thn (he pins s σ H _ I h) fun v s1 ⟨x, H1, I1, r1, q1⟩ => ⟨x, σ, H1, I1, r1, q1⟩)
noncomputable def tIfS (c : TT) (t u : TS) : TS := fun D σ H => c σ H fun b H1 => if b = true then t D σ H1 else u D σ H1
theorem ps_if {c : Expr} {a b : List Stmt} {tc : TT} (hc : PT X c tc) (ha : PSs X a t) (hb : PSs X b u) : PS X (.If c a b pos) (tIfS tc t u) := by
 intro pins s σ H D I h
 refine wpAny_If (thn (hc pins s σ H _ I h) fun d s1 ⟨H1, I1, q1⟩ => ?_)
 cases d with
 | true => exact ha pins s1 σ H1 D I1 q1
 | false => exact hb pins s1 σ H1 D I1 q1
noncomputable def tNever : TS := fun _ _ _ => False
theorem ps_never : PS X st tNever := fun _ _ _ _ _ _ h => h.elim
end

noncomputable abbrev TG := V → St → Hp → (St → Hp → Prop) → Prop
noncomputable abbrev TGs := List V → St → Hp → (St → Hp → Prop) → Prop
noncomputable def PG (X : Cx) (target : Expr) (t : TG) : Prop :=
 ∀ (pins : List (Addr × Obj)) (s : Shared) (σ : St) (H : Hp) (v : V) (u : Value) (Q : St → Hp → Prop), Inv X pins σ H s → RelV v u → t v σ H Q →
  wpAny (model X.prog X.w) X.A (assign target X.env u) (fun _ s' => ∃ σ' H', Inv X pins σ' H' s' ∧ Q σ' H') X.xe s
noncomputable def PGs (X : Cx) (ts : List Expr) (t : TGs) : Prop :=
 ∀ (pins : List (Addr × Obj)) (s : Shared) (σ : St) (H : Hp) (vs : List V) (us : List Value) (Q : St → Hp → Prop), Inv X pins σ H s → Vals vs us → t vs σ H Q →
  wpAny (model X.prog X.w) X.A (assignInOrder ((assignEach ts X.env).map (·.2)) us) (fun _ s' => ∃ σ' H', Inv X pins σ' H' s' ∧ Q σ' H') X.xe s
noncomputable abbrev TSet := V → V → V → Hp → (Hp → Prop) → Prop
noncomputable def PSet (X : Cx) (t : TSet) : Prop :=
 ∀ (pins : List (Addr × Obj)) (s : Shared) (σ : St) (H : Hp) (o i v : V) (ov iv u : Value) (Q : Hp → Prop), Inv X pins σ H s → RelV o ov → RelV i iv → RelV v u → t o i v H Q →
  wpAny (model X.prog X.w) X.A (setItem ov iv u) (fun _ s' => ∃ H', Inv X pins σ H' s' ∧ Q H') X.xe s
noncomputable abbrev TIp := V → V → Hp → VK → Prop
section
variable {X : Cx} {pos : Pos}
noncomputable def gName (i : Nat) : TG := fun v σ H Q => Q (σ.set i (some v)) H
theorem pg_name {i : Nat} {x : Str} (hN : X.N.Nodup) (hi : X.N[i]? = some x) (hx : Loc X.env.scope x) (hf : X.fn x = true ∨ X.env.scope.names.lookup x = some .local := by first | exact .inl rfl | exact .inr rfl | assumption) : PG X (.Name x pos) (gName i) := by
 intro pins s σ H v u Q I r h
 exact wpAny_assign_Name (store_ok I hN hi hx r (fun s' I' => ⟨_, H, I', h⟩) hf)
noncomputable def gNil : TGs := fun vs σ H Q => vs = [] ∧ Q σ H
noncomputable def gCons (t : TG) (u : TGs) : TGs := fun vs σ H Q => ∃ v r, vs = v :: r ∧ t v σ H fun σ' H' => u r σ' H' Q
theorem pgs_nil : PGs X [] gNil := by
 intro pins s σ H vs us Q I r h
 obtain ⟨e, h⟩ := h
 subst e
 cases r
 exact assignInOrder_nil ⟨σ, H, I, h⟩
theorem pgs_cons {e : Expr} {es : List Expr} {t : TG} {u : TGs} (h1 : PG X e t) (h2 : PGs X es u)
  (hs : (assignEach (e :: es) X.env).map (·.2) = assign e X.env :: (assignEach es X.env).map (·.2) := by rfl) : PGs X (e :: es) (gCons t u) := by
 intro pins s σ H vs us Q I r h
 obtain ⟨v, vr, e1, h⟩ := h
 subst e1
 cases r with
 | cons r rr =>
  rw [hs]
  refine assignInOrder_cons (thn (h1 pins s σ H _ _ _ I r h) fun _ s1 ⟨σ1, H1, I1, q1⟩ => ?_)
  exact h2 pins s1 σ1 H1 _ _ Q I1 rr q1
noncomputable def gTup (K : PySem.W.Frag) (n : Nat) (t : TGs) : TG := fun v σ H Q => ∃ a xs, v = .ref a ∧ SqT K H a xs ∧ xs.length = n ∧ t xs σ H Q
theorem pg_tup {es : List Expr} {k : Nat} {t : TGs} {n : Nat} (hc : X.calm = true) (h : PGs X es t)
  (hn : (assignEach es X.env).length = n := by rfl) (hst : (assignEach es X.env).findIdx? (·.1) = none := by rfl) : PG X (.Tuple es k pos) (gTup X.K n t) := by
 intro pins s σ H v u Q I r hw
 obtain ⟨a, xs, e1, hq, hl, hw⟩ := hw
 subst e1
 cases r
 obtain ⟨its, rv, ht, hz⟩ := I.tuple hq
 refine assign_Tuple_tuple (I.ok.hd hc) ht (by simp [hn, ← hl, rv.length]) hst fun h' hx => ?_
 have I1 : Inv X pins σ H { s with heap := h' } := I.kept (t' := s.toks) fun b o e => hx b o (Nat.ne_of_lt (Heap.lt_size e)) e
 exact h pins _ σ H xs _ Q I1 (by simpa using rv) hw
noncomputable def gSub (to ti : TE) (t : TSet) : TG := fun v σ H Q => to σ H fun o H1 => ti σ H1 fun i H2 => t o i v H2 fun H3 => Q σ H3
theorem pg_sub {o i : Expr} {to ti : TE} {t : TSet} (ho : PE X o to) (hi : PE X i ti) (hs : PSet X t)
  (ha : ∀ v, assign (.Subscript o i pos) X.env v = (do
   let ov ← holding [v] (eval o X.env)
   let iv ← holding [v, ov] (eval i X.env)
   standAt pos
   holding [v, ov, iv] (setItem ov iv v)
   release [v, ov, iv] []) := by intro _; rfl) : PG X (.Subscript o i pos) (gSub to ti t) := by
 intro pins s σ H v u Q I r h
 rw [ha]
 refine wpAny_bind (wpAny_holding (thn (ho pins s σ H _ I h) fun ov s1 ⟨x, H1, I1, r1, q1⟩ => ?_))
 refine wpAny_bind (wpAny_holding (thn (hi pins s1 σ H1 _ I1 q1) fun iv s2 ⟨y, H2, I2, r2, q2⟩ => ?_))
 refine wpAny_bind (wpAny_standAt (wpAny_bind (wpAny_holding (thn (hs pins s2 σ H2 x y v ov iv u _ I2 r1 r2 r q2) fun _ s3 ⟨H3, I3, q3⟩ => ?_))))
 exact wpAny_release ⟨σ, H3, I3, q3⟩
noncomputable def tAsg (te : TE) (g : TG) : TS := fun D σ H => te σ H fun x H1 => g x σ H1 D.nx
theorem ps_asg {tg e : Expr} {te : TE} {g : TG} (he : PE X e te) (hg : PG X tg g) (hs : swapsWithSole [tg] e pos.line X.env = pure false := by rfl) (hw : swappedStores [tg] e X.env = pure none := by rfl)
  (h1 : (assignEach [tg] X.env).map (·.2) = [assign tg X.env] := by rfl) : PS X (.Assign [tg] e pos) (tAsg te g) := by
 intro pins s σ H D I h
 refine wpAny_Assign_stores (thn (he pins s σ H _ I h) fun v s1 ⟨x, H1, I1, r1, q1⟩ => ?_) hs hw
 rw [h1]
 exact thn (hg pins s1 σ H1 x v _ I1 r1 q1) fun _ s2 q => q
theorem ps_set {i : Nat} {x : Str} {e : Expr} {te : TE} {pos' : Pos} (hN : X.N.Nodup) (hi : X.N[i]? = some x) (hx : Loc X.env.scope x) (he : PE X e te) (hs : swapsWith e (some (.Name x pos')) pos.line X.env = pure false := by rfl) (hf : X.fn x = true ∨ X.env.scope.names.lookup x = some .local := by first | exact .inl rfl | exact .inr rfl | assumption) :
  PS X (.Assign [.Name x pos'] e pos) (tAsg te (gName i)) := by
 intro pins s σ H D I h
 refine wpAny_Assign_Name (thn (he pins s σ H _ I h) fun v s1 ⟨y, H1, I1, r1, q1⟩ => ?_) hs
 exact store_ok I1 hN hi hx r1 (fun s2 I2 => ⟨_, H1, I2, q1⟩) hf
noncomputable def tPar (i j : Nat) (ta : TA) : TS := fun D σ H => ta σ H fun vs H1 => ∃ v w, vs = [v, w] ∧ D.nx ((σ.set i (some v)).set j (some w)) H1
theorem ps_par {i j : Nat} {x y : Str} {a b : Expr} {ta : TA} {px py pt : Pos} {kt k2 pt2} (hc : X.calm = true) (hN : X.N.Nodup) (hi : X.N[i]? = some x) (hj : X.N[j]? = some y) (hij : i ≠ j)
  (hx : X.env.scope.names.lookup x = some .local) (hy : X.env.scope.names.lookup y = some .local) (ha : PA X [a, b] ta)
  (hw : swappedStores [.Tuple [.Name x px, .Name y py] kt pt] (.Tuple [a, b] k2 pt2) X.env = pure (some [x, y]))
  (hs : swapsWithSole [.Tuple [.Name x px, .Name y py] kt pt] (.Tuple [a, b] k2 pt2) pos.line X.env = pure false := by rfl) :
  PS X (.Assign [.Tuple [.Name x px, .Name y py] kt pt] (.Tuple [a, b] k2 pt2) pos) (tPar i j ta) := by
 intro pins s σ H D I h
 rw [exec_Assign_arm]
 refine wpAny_bind (wpAny_standAt ?_)
 rw [hs]
 refine wpAny_bind (wpAny_pure ?_)
 rw [if_neg (by decide)]
 refine wpAny_bind (Tuple_ (thn (ha _ pins s σ H _ I h) fun us s1 ⟨vs, H1, I1, r1, q1⟩ => ?_))
 obtain ⟨v, w, e1, q1⟩ := q1
 subst e1
 obtain ⟨u1, u2, rfl, rv, rw'⟩ : ∃ u1 u2, us = [u1, u2] ∧ RelV v u1 ∧ RelV w u2 := by
  cases r1 with
  | cons p q =>
   cases q with
   | cons p' q' =>
    cases q'
    exact ⟨_, _, rfl, p, p'⟩
 refine wpAny_newObj_type ?_ (by show 2 ≤ sizeLine; decide)
 have I2 : Inv X pins σ H1 { s1 with heap := s1.heap.push { cls := .type "tuple", data := .seq [u1, u2].toArray } } := I1.kept (t' := s1.toks) fun b o e => Heap.get?_push_of_some _ e
 rw [hw]
 refine wpAny_bind (wpAny_pure ?_)
 show wpAny (model X.prog X.w) X.A (do rule "assign.swapped-stores"; let items ← unpackItems (.ref s1.heap.objs.size) 2 none; assignInOrder [fun v => bindName X.env y v, fun v => bindName X.env x v] items.reverse; pure Flow.next) _ _ _
 refine wpAny_bind (wpAny_rule (wpAny_bind (unpackItems_tuple (items := #[u1, u2]) (I.ok.hd hc) (IsTup.new s1.heap _) fun h' hx' => ?_)))
 have I3 := I2.kept (h' := h') (t' := s1.toks) fun b o e => hx' b o (Nat.ne_of_lt (Heap.lt_size e)) e
 show wpAny _ _ (assignInOrder [fun v => bindName X.env y v, fun v => bindName X.env x v] [u2, u1] >>= fun _ => pure Flow.next) _ _ _
 refine wpAny_bind (assignInOrder_cons (wpAny_bindName (store_ok I3 hN hj (.inl hy) rw' (fun s2 I4 => ?_) (.inr hy))))
 refine assignInOrder_cons (wpAny_bindName (store_ok I4 hN hi (.inl hx) rv (fun s3 I5 => assignInOrder_nil (wpAny_pure ?_)) (.inr hx)))
 rw [List.set_comm _ _ (Ne.symm hij)] at I5
 exact ⟨_, H1, I5, q1⟩
end

section
variable {X : Cx} {pos : Pos}
noncomputable def tWhile (c : TT) (tb : TS) : TS := fun D σ H => ∃ W : Nat → St → Hp → Prop, (∃ m, W m σ H) ∧ ∀ m σ H, W m σ H →
 c σ H fun b H1 => if b = true then ∃ N : St → Hp → Prop, (∀ σ' H', N σ' H' → ∃ m', m' < m ∧ W m' σ' H') ∧ tb { D with nx := N, ct := N, bk := D.nx } σ H1 else D.nx σ H1
theorem ps_while {c : Expr} {body : List Stmt} {tc : TT} {tb : TS} (hp : PassesOwn (model X.prog X.w) X.A X.env X.xe) (hc : PT X c tc) (hb : PSs X body tb) : PS X (.While c body [] pos) (tWhile tc tb) := by
 intro pins s σ H D I h
 obtain ⟨W, ⟨m0, w0⟩, turn⟩ := h
 refine wpAny_While (codeAny_whileLoop (fun n s' => ∃ σ' H', Inv X pins σ' H' s' ∧ W n σ' H') ?_ m0 ⟨σ, H, I, w0⟩)
 rintro n s1 ⟨σ1, H1, I1, w1⟩
 refine wpAny_passesOwn hp (thn (hc pins s1 σ1 H1 _ I1 (turn n σ1 H1 w1)) fun b s2 ⟨H2, I2, q2⟩ => ?_)
 cases b with
 | true =>
  obtain ⟨N, hN, q2⟩ := q2
  rw [if_pos rfl]
  refine wpAny_passesOwn hp (thn (hb pins s2 σ1 H2 _ I2 q2) fun f s3 q3 => ?_)
  cases f with
  | next =>
   obtain ⟨σ3, H3, I3, n3⟩ := q3
   obtain ⟨m', hm, w3⟩ := hN σ3 H3 n3
   exact ⟨m', hm, σ3, H3, I3, w3⟩
  | cont =>
   obtain ⟨σ3, H3, I3, n3⟩ := q3
   obtain ⟨m', hm, w3⟩ := hN σ3 H3 n3
   exact ⟨m', hm, σ3, H3, I3, w3⟩
  | brk => exact q3
  | ret v => exact q3
 | false =>
  rw [if_neg Bool.false_ne_true]
  exact wpAny_execs_nil ⟨σ1, H2, I2, q2⟩
end

structure It where
 go : Nat → Hp → Prop
 yld : Nat → Hp → V → Hp → Prop
 stop : Nat → Hp → Prop
noncomputable def FpOk (X : Cx) (pins : List (Addr × Obj)) (H : Hp) (b : Addr) : Prop :=
 H b = none ∧ b ≠ X.env.locals ∧ b ∉ X.fs ∧ (b ∈ X.ex ∨ X.s₀.heap.objs.size ≤ b) ∧ (∀ x c, X.env.cells.lookup x = some c → c ≠ b) ∧ ∀ p ∈ X.pn ++ pins, p.1 ≠ b
theorem Inv.fpOk {X : Cx} {pins : List (Addr × Obj)} {σ : St} {H H' : Hp} {s : Shared} {b : Addr} (I : Inv X pins σ H s) (hb : s.heap.objs.size ≤ b) (hn : H' b = none) : FpOk X pins H' b := by
 refine ⟨hn, Nat.ne_of_gt (Nat.lt_of_lt_of_le I.lt hb), I.nofs hb, .inr (Nat.le_trans I.sz hb), fun x c e z => ?_, fun p hp z => ?_⟩
 ·obtain ⟨v, q⟩ := I.cell x c e
  exact absurd (Nat.lt_of_lt_of_le q.lt (by rw [z]; exact hb)) (Nat.lt_irrefl _)
 ·exact absurd (Nat.lt_of_lt_of_le (Heap.lt_size (I.pin p hp).1) (by rw [z]; exact hb)) (Nat.lt_irrefl _)
structure Turn (P : Program) (w : World) (K : PySem.W.Frag) (tg : Expr) (J : It) (fp : List Addr) (it : Addr) (tn : Nat → Heap → Prop) : Prop where
 mem : it ∈ fp
 obj : ∀ i h, tn i h → ∀ b ∈ fp, ∃ o, h.get? b = some o ∧ ∀ v, o.data ≠ .cell v
 keep : ∀ i h h', tn i h → (∀ b ∈ fp, ∀ o, h.get? b = some o → h'.get? b = some o) → tn i h'
 item : ∀ (X : Cx), X.prog = P → X.w = w → X.K = K → X.calm = true → ∀ (i : Nat) (pins : List (Addr × Obj)) (s : Shared) (σ : St) (H : Hp) (E : Value → Shared → Prop), Inv X pins σ H s → (∀ b ∈ fp, FpOk X pins H b) → tn i s.heap → J.go i H →
  wpAny (model P w) X.A (pyNext (.ref it)) (fun r s1 => ∃ u, r = some u ∧
   wpAny (model P w) X.A (letOwnedTupleGo tg (.ref it) u) (fun _ s2 => ∃ x H', Inv X pins σ H' s2 ∧ RelV x u ∧ J.yld i H x H' ∧ tn (i + 1) s2.heap ∧ ∀ b ∈ fp, H' b = none) E s1) E s
 done : ∀ (X : Cx), X.prog = P → X.w = w → X.K = K → X.calm = true → ∀ (i : Nat) (pins : List (Addr × Obj)) (s : Shared) (σ : St) (H : Hp) (E : Value → Shared → Prop), Inv X pins σ H s → (∀ b ∈ fp, FpOk X pins H b) → tn i s.heap → J.stop i H →
  wpAny (model P w) X.A (pyNext (.ref it)) (fun r s1 => r = none ∧ Inv X pins σ H s1) E s
 self : ∀ (A : Around) (i : Nat) (s : Shared) (Q : Value → Shared → Prop) (E : Value → Shared → Prop), tn i s.heap → Q (.ref it) s → wpAny (model P w) A (pyIter (.ref it)) Q E s
noncomputable abbrev TI := St → Hp → (It → Hp → Prop) → Prop
noncomputable def PIE (X : Cx) (pins : List (Addr × Obj)) (σ : St) (tg : Expr) (R : It → Hp → Prop) (itv : Value) (s2 : Shared) : Prop :=
 ∃ (it : Addr) (fp : List Addr) (tn : Nat → Heap → Prop) (J : It) (H' : Hp), itv = .ref it ∧ Inv X pins σ H' s2 ∧ Turn X.prog X.w X.K tg J fp it tn ∧ tn 0 s2.heap ∧ (∀ b ∈ fp, FpOk X pins H' b) ∧ R J H'
noncomputable def PI (X : Cx) (tg iter : Expr) (wi : TI) : Prop :=
 ∀ (pins : List (Addr × Obj)) (s : Shared) (σ : St) (H : Hp) (R : It → Hp → Prop), Inv X pins σ H s → wi σ H R →
  wpAny (model X.prog X.w) X.A (eval iter X.env) (fun v s1 => wpAny (model X.prog X.w) X.A (pyIter v) (PIE X pins σ tg R) X.xe s1) X.xe s

theorem go_of {M : Model} {A : Around} {E : Value → Shared → Prop} {s : Shared} {tg : Expr} {it : Addr} {u : Value} {o : Obj} {n : String} {vs : Array Value} {Q : Unit → Shared → Prop} (ho : s.heap.get? it = some o) (hc : o.cls = .type n) (hd : o.data = .fields vs)
    (hn : ["enumerate", "zip", "dict_itemiterator", "dict_reverseitemiterator", "odict_iterator", "itertools.zip_longest", "itertools.pairwise"].contains n = false) (hQ : Q () s) : wpAny M A (letOwnedTupleGo tg (.ref it) u) Q E s := by
  unfold letOwnedTupleGo
  cases tg <;> first
    | exact wpAny_pure hQ
    | (cases u <;> first
        | exact wpAny_pure hQ
        | (refine wpAny_bind (wpAny_load ho ?_)
           rw [hc, hd]
           show wpAny M A (if (["enumerate", "zip", "dict_itemiterator", "dict_reverseitemiterator", "odict_iterator", "itertools.zip_longest", "itertools.pairwise"].contains n && vs[0]? == some (rawInt _)) = true then _ else _) Q E s
           rw [if_neg (by intro h; rw [hn, Bool.false_and] at h; cases h)]
           exact wpAny_pure hQ))

noncomputable def Itl (K : PySem.W.Frag) (a : Addr) : It :=
 ⟨fun i H => ∃ xs x, SqL K H a xs ∧ xs[i]? = some x, fun i H x H' => H' = H ∧ ∀ xs, SqL K H a xs → xs[i]? = some x, fun i H => ∃ xs, SqL K H a xs ∧ xs.length ≤ i⟩
noncomputable def Itr (lo : Int) (n : Nat) : It := ⟨fun i _ => i < n, fun i H x H' => H' = H ∧ x = .int (lo + i), fun i _ => n ≤ i⟩
theorem turn_list {P : Program} {w : World} {K : PySem.W.Frag} {tg : Expr} (a it : Addr) : Turn P w K tg (Itl K a) [it] it (fun i h => h.IsListIter it a i) where
 mem := by simp
 obj := fun i h st b hb => by
  have e : b = it := by simpa using hb
  subst e
  obtain ⟨o, e, c, d⟩ := st
  exact ⟨o, e, fun v z => by rw [d] at z; cases z⟩
 keep := fun i h h' st k => st.at fun o e => k it (by simp) o e
 item := by
  intro X hP hw hK hc i pins s σ H E I hf st hg
  subst hP hw hK
  obtain ⟨xs, x, hq, hx⟩ := hg
  obtain ⟨its, rv, p, hz⟩ := I.list hq
  obtain ⟨u, hu, ru⟩ := rv.get hx
  obtain ⟨f0, f1, f2, f3, f4, f5⟩ := hf it (by simp)
  refine wpAny_pyNext_list_item st p.isList (x := u) (by simpa using hu) fun h' st' sb => ?_
  have I1 : Inv X pins σ H { s with heap := h' } := I.turned (t' := s.toks) (fun b o hb e => (sb.2 b hb).trans e) f0 f1 f3 f4 f5
  obtain ⟨o, e, c, d⟩ := id st'
  exact ⟨u, rfl, go_of (s := { s with heap := h' }) e c d (by decide) ⟨x, H, I1, ru, ⟨rfl, fun ys hy => by rw [I.list_inj hy hq]; exact hx⟩, st', fun b hb => (hf b hb).1⟩⟩
 done := by
  intro X hP hw hK hc i pins s σ H E I hf st hg
  subst hP hw hK
  obtain ⟨xs, hq, hx⟩ := hg
  obtain ⟨its, rv, p, hz⟩ := I.list hq
  obtain ⟨f0, f1, f2, f3, f4, f5⟩ := hf it (by simp)
  have hl := rv.length
  exact wpAny_pyNext_list_end (I.ok.hd hc) st p.isList (by simp; omega) fun h' eb => ⟨rfl, I.turned (t' := s.toks) (fun b o hb e => eb b o hb e) f0 f1 f3 f4 f5⟩
 self := fun _ _ _ _ _ st h => wpAny_pyIter_listiter st h
theorem turn_range {P : Program} {w : World} {K : PySem.W.Frag} {tg : Expr} (it : Addr) (lo : Int) (n : Nat) : Turn P w K tg (Itr lo n) [it] it (fun i h => IsRangeIter h it (lo + (i : Nat) * 1) ((n : Int) - (i : Nat)) 1) where
 mem := by simp
 obj := fun i h st b hb => by
  have e : b = it := by simpa using hb
  subst e
  exact ⟨_, st, fun v z => by
   have z' : Data.fields _ = Data.cell v := z
   cases z'⟩
 keep := fun i h h' st k => k it (by simp) _ st
 item := by
  intro X hP hw hK hc i pins s σ H E I hf st hg
  subst hP hw hK
  obtain ⟨f0, f1, f2, f3, f4, f5⟩ := hf it (by simp)
  have W := Walks.range (prog := X.prog) (w := X.w) (I.ok.hd hc) it lo 1 n
  refine W.item i s _ _ hg st fun v h' tk hv st' kk => ?_
  obtain ⟨t, rfl⟩ := hv
  have I1 : Inv X pins σ H { s with heap := h', toks := tk } := I.turned (fun b o hb e => kk b o (by simpa using hb) e) f0 f1 f3 f4 f5
  refine ⟨_, rfl, go_of (s := { s with heap := h', toks := tk }) (n := "range_iterator") st' rfl rfl (by decide) ⟨.int (lo + i), H, I1, ⟨t, ?_⟩, ⟨rfl, rfl⟩, st', fun b hb => (hf b hb).1⟩⟩
  rw [Int.mul_one]
 done := by
  intro X hP hw hK hc i pins s σ H E I hf st hg
  subst hP hw hK
  obtain ⟨f0, f1, f2, f3, f4, f5⟩ := hf it (by simp)
  exact wpAny_pyNext_range_end (I.ok.hd hc) st (by have : n ≤ i := hg; omega) fun h' eb => ⟨rfl, I.turned (t' := s.toks) (fun b o hb e => eb b o hb e) f0 f1 f3 f4 f5⟩
 self := fun _ _ _ _ _ st h => wpAny_pyIter_rangeiter st h
end L2

namespace L2
open PySem PySem.Spec PyProof.Rows
section
variable {X : Cx} {tg : Expr}
noncomputable def iList (K : PySem.W.Frag) (tl : TE) : TI := fun σ H R => tl σ H fun x H1 => ∃ a, x = .ref a ∧ (∃ xs, SqL K H1 a xs) ∧ R (Itl K a) H1
theorem pi_list {l : Expr} {tl : TE} (hl : PE X l tl) : PI X tg l (iList X.K tl) := by
 intro pins s σ H R I h
 refine thn (hl pins s σ H _ I h) fun v s1 ⟨x, H1, I1, r1, q1⟩ => ?_
 obtain ⟨a, e, ⟨xs, hq⟩, q⟩ := q1
 subst e
 cases r1
 obtain ⟨its, rv, p, hz⟩ := I1.list hq
 refine wpAny_pyIter_list p.isList ?_
 refine ⟨s1.heap.objs.size, [s1.heap.objs.size], _, _, H1, rfl, I1.kept (t' := s1.toks) fun b o e => Heap.get?_push_of_some _ e, turn_list a _, ⟨_, Heap.get?_push_size _ rfl, rfl, rfl⟩, fun b hb => ?_, q⟩
 have e : b = s1.heap.objs.size := by simpa using hb
 subst e
 exact I1.fpOk (Nat.le_refl _) (I1.hok.fresh (Nat.le_refl _))
theorem range_it {pins : List (Addr × Obj)} {σ : St} {H : Hp} {s : Shared} {R : It → Hp → Prop} {E : Value → Shared → Prop} {lo hi : Int} {t u v : Tok} {tk : Nat} (I : Inv X pins σ H s) (h1 : -(2 ^ 62) ≤ lo) (h2 : lo < 2 ^ 62) (h3 : -(2 ^ 62) ≤ hi) (h4 : hi < 2 ^ 62)
  (q : R (Itr lo (hi - lo).toNat) H) : wpAny (model X.prog X.w) X.A (pyIter (.ref s.heap.objs.size)) (PIE X pins σ tg R) E { s with heap := s.heap.push { cls := .type "range", data := .fields #[.int lo t, .int hi u, .int 1 v] }, toks := tk } := by
 refine wpAny_pyIter_range (IsRange.new ..) (small_one h1 h2 h3 h4) ?_
 have I1 : Inv X pins σ H { s with heap := s.heap.push { cls := .type "range", data := .fields #[.int lo t, .int hi u, .int 1 v] }, toks := tk } := I.kept fun b o e => Heap.get?_push_of_some _ e
 refine ⟨(s.heap.push { cls := .type "range", data := .fields #[.int lo t, .int hi u, .int 1 v] }).objs.size, [(s.heap.push { cls := .type "range", data := .fields #[.int lo t, .int hi u, .int 1 v] }).objs.size], _, _, H, rfl,
  I1.kept (t' := tk) fun b o e => Heap.get?_push_of_some _ e, turn_range _ lo (hi - lo).toNat, ?_, fun b hb => ?_, q⟩
 ·have e1 : lo + ((0 : Nat) : Int) * 1 = lo := by simp
  have e2 : (((hi - lo).toNat : Nat) : Int) - ((0 : Nat) : Int) = Builtin.Range.rangeSize lo hi 1 := by rw [rangeSize_one]; split <;> omega
  show IsRangeIter _ _ (lo + ((0 : Nat) : Int) * 1) ((((hi - lo).toNat : Nat) : Int) - ((0 : Nat) : Int)) 1
  rw [e1, e2]
  exact Heap.get?_push_size _ rfl
 ·have e : b = (s.heap.push { cls := .type "range", data := .fields #[.int lo t, .int hi u, .int 1 v] }).objs.size := by simpa using hb
  subst e
  exact I1.fpOk (Nat.le_refl _) (I1.hok.fresh (Nat.le_refl _))
noncomputable def iRng1 (ta : TA) : TI := fun σ H R => ta σ H fun vs H1 => ∃ j : Int, vs = [.int j] ∧ -(2 ^ 62) ≤ j ∧ j < 2 ^ 62 ∧ R (Itr 0 j.toNat) H1
theorem pi_range1 {a : Expr} {ta : TA} {p pos : Pos} (hg : Gl X "range") (hm : X.mg "range" = none) (ha : PA X [a] ta) (hs : starEach [a] X.env = [(false, eval a X.env)] := by rfl) : PI X tg (.Call (.Name "range" p) [a] [] pos) (iRng1 ta) := by
 intro pins s σ H R I h
 refine Call_ (ld_blt I hg hm boot_range (PyProof.Rows.callWith_type1 (thn (ha pos pins s σ H _ I h) fun us s1 ⟨vs, H1, I1, r1, q1⟩ => ?_) hs rfl))
 obtain ⟨j, e, q1, q2, q⟩ := q1
 subst e
 cases r1 with
 | cons r rr =>
  cases rr
  obtain ⟨t, rfl⟩ := r
  exact call_range_1 (range_it I1 (by omega) (by omega) q1 q2 (by simpa using q))

noncomputable def tFor (wi : TI) (g : TG) (tb : TS) : TS := fun D σ H => wi σ H fun J H1 => ∃ W : Nat → Nat → St → Hp → Prop, (∃ m, W 0 m σ H1) ∧ ∀ i m σ H, W i m σ H →
 (J.stop i H ∧ D.nx σ H) ∨ (J.go i H ∧ ∃ N : St → Hp → Prop, (∀ σ' H', N σ' H' → ∃ m', m' < m ∧ W (i + 1) m' σ' H') ∧ ∀ x H', J.yld i H x H' → g x σ H' fun σ2 H2 => tb { D with nx := N, ct := N, bk := D.nx } σ2 H2)
noncomputable def pinsAt (fp : List Addr) (h : Heap) : List (Addr × Obj) := fp.filterMap fun b => (h.get? b).map fun o => (b, o)
theorem mem_pinsAt {fp : List Addr} {h : Heap} {b : Addr} {o : Obj} (hb : b ∈ fp) (e : h.get? b = some o) : (b, o) ∈ pinsAt fp h := List.mem_filterMap.mpr ⟨b, hb, by rw [e]; rfl⟩
theorem of_pinsAt {fp : List Addr} {h : Heap} {p : Addr × Obj} (hp : p ∈ pinsAt fp h) : p.1 ∈ fp ∧ h.get? p.1 = some p.2 := by
 obtain ⟨b, hb, e⟩ := List.mem_filterMap.mp hp
 cases q : h.get? b with
 | none => rw [q] at e; cases e
 | some o =>
  rw [q] at e
  have e' : (b, o) = p := Option.some.inj e
  subst e'
  exact ⟨hb, q⟩
theorem Inv.pinned {pins : List (Addr × Obj)} {σ : St} {H : Hp} {s : Shared} {fp : List Addr} (I : Inv X pins σ H s) (hf : ∀ b ∈ fp, FpOk X pins H b) (ho : ∀ b ∈ fp, ∃ o, s.heap.get? b = some o ∧ ∀ v, o.data ≠ .cell v) : Inv X (pins ++ pinsAt fp s.heap) σ H s :=
 I.pins_of fun p hp => (List.mem_append.mp hp).elim (fun z => I.pin p (List.mem_append_right _ z)) fun z => by
  obtain ⟨hb, e⟩ := of_pinsAt z
  obtain ⟨f0, f1, f2, _⟩ := hf p.1 hb
  obtain ⟨o, e', d⟩ := ho p.1 hb
  rw [e] at e'; cases e'
  exact ⟨e, f0, f1, f2, d⟩
theorem Inv.unpinned {pins pl : List (Addr × Obj)} {σ : St} {H : Hp} {s : Shared} (I : Inv X (pins ++ pl) σ H s) : Inv X pins σ H s := I.pins_of fun p hp => I.pin p (List.mem_append_right _ (List.mem_append_left _ hp))
theorem ps_for {iter : Expr} {body : List Stmt} {wi : TI} {g : TG} {tb : TS} {pos : Pos} (hp : PassesOwn (model X.prog X.w) X.A X.env X.xe) (hc : X.calm = true) (hi : PI X tg iter wi) (hg : PG X tg g) (hb : PSs X body tb)
  (hs : ∀ x, foldedSetIterable iter X.env x = pure x := by intro _; rfl) : PS X (.For tg iter body [] pos) (tFor wi g tb) := by
 intro pins s σ H D I h
 refine wpAny_For (thn (hi pins s σ H _ I h) fun v s1 h1 => thn h1 fun itv s2 h2 => ?_) hs
 obtain ⟨it, fp, tn, J, H2, e, I2, T, st2, f2, W, ⟨m0, w0⟩, turn⟩ := h2
 subst e
 have stat : ∀ {H' : Hp}, (∀ b ∈ fp, H' b = none) → ∀ b ∈ fp, FpOk X pins H' b := fun hn b hb => ⟨hn b hb, (f2 b hb).2⟩
 refine codeAny_forLoop_any (fun n s' => ∃ i σ' H', Inv X pins σ' H' s' ∧ tn i s'.heap ∧ (∀ b ∈ fp, H' b = none) ∧ W i n σ' H') ?_ m0 ⟨0, σ, H2, I2, st2, fun b hb => (f2 b hb).1, w0⟩
 rintro n s3 ⟨i, σ3, H3, I3, st3, fr3, w3⟩
 rcases turn i n σ3 H3 w3 with ⟨stop, qn⟩ | ⟨go, N, hN, step⟩
 ·refine wpAny_passesOwn hp (thn (T.done X rfl rfl rfl hc i pins s3 σ3 H3 X.xe I3 (stat fr3) st3 stop) fun r s4 ⟨hr, I4⟩ => ?_)
  subst hr
  exact wpAny_execs_nil ⟨σ3, H3, I4, qn⟩
 ·refine wpAny_passesOwn hp (thn (T.item X rfl rfl rfl hc i pins s3 σ3 H3 X.xe I3 (stat fr3) st3 go) fun r s4 ⟨u, hr, h4⟩ => ?_)
  subst hr
  refine wpAny_passesOwn hp (thn h4 fun _ s5 ⟨x, H5, I5, r5, y5, st5, fr5⟩ => ?_)
  have I5' := I5.pinned (stat fr5) (T.obj _ _ st5)
  refine wpAny_passesOwn hp (thn (hg _ s5 σ3 H5 x u _ I5' r5 (step x H5 y5)) fun _ s6 ⟨σ6, H6, I6, q6⟩ => ?_)
  refine wpAny_passesOwn hp (thn (hb _ s6 σ6 H6 _ I6 q6) fun f s7 q7 => ?_)
  have again : ∀ {σ7 : St} {H7 : Hp}, Inv X (pins ++ pinsAt fp s5.heap) σ7 H7 s7 → N σ7 H7 → ∃ m, m < n ∧ ∃ i σ' H', Inv X pins σ' H' s7 ∧ tn i s7.heap ∧ (∀ b ∈ fp, H' b = none) ∧ W i m σ' H' := fun {σ7 H7} I7 n7 => by
   obtain ⟨m', hm, w7⟩ := hN σ7 H7 n7
   refine ⟨m', hm, i + 1, σ7, H7, I7.unpinned, T.keep _ _ _ st5 fun b hb o e => (I7.pin (b, o) (List.mem_append_right _ (List.mem_append_right _ (mem_pinsAt hb e)))).1, fun b hb => ?_, w7⟩
   obtain ⟨o, e, d⟩ := T.obj _ _ st5 b hb
   exact (I7.pin (b, o) (List.mem_append_right _ (List.mem_append_right _ (mem_pinsAt hb e)))).2.1
  cases f with
  | next => obtain ⟨σ7, H7, I7, n7⟩ := q7; exact again I7 n7
  | cont => obtain ⟨σ7, H7, I7, n7⟩ := q7; exact again I7 n7
  | brk => obtain ⟨σ7, H7, I7, q7⟩ := q7; exact ⟨σ7, H7, I7.unpinned, q7⟩
  | ret v => obtain ⟨x7, σ7, H7, I7, r7, q7⟩ := q7; exact ⟨x7, σ7, H7, I7.unpinned, r7, q7⟩
end

end L2

namespace L2
open PySem PySem.Spec PyProof.Rows

noncomputable abbrev R2 := V → V → Hp → VK → Prop
noncomputable def OpR (X : Cx) (f : Value → Value → Sem Value) (r : R2) : Prop :=
 ∀ (pins : List (Addr × Obj)) (s : Shared) (σ : St) (H : Hp) (x y : V) (v u : Value) (Q : VK), Inv X pins σ H s → RelV x v → RelV y u → r x y H Q →
  wpAny (model X.prog X.w) X.A (f v u) (EP X pins σ Q) X.xe s
noncomputable def UnR (X : Cx) (f : Value → Sem Value) (r : V → Hp → VK → Prop) : Prop :=
 ∀ (pins : List (Addr × Obj)) (s : Shared) (σ : St) (H : Hp) (x : V) (v : Value) (Q : VK), Inv X pins σ H s → RelV x v → r x H Q →
  wpAny (model X.prog X.w) X.A (f v) (EP X pins σ Q) X.xe s
noncomputable def CallR (X : Cx) (f : Value) (r : List V → Hp → VK → Prop) : Prop :=
 ∀ (pins : List (Addr × Obj)) (s : Shared) (σ : St) (H : Hp) (xs : List V) (us : List Value) (Q : VK), Inv X pins σ H s → Vals xs us → r xs H Q →
  wpAny (model X.prog X.w) X.A (call f us) (EP X pins σ Q) X.xe s

noncomputable def tOp (r : R2) (ta tb : TE) : TE := fun σ H Q => ta σ H fun x H1 => tb σ H1 fun y H2 => r x y H2 Q
noncomputable def tUn (r : V → Hp → VK → Prop) (ta : TE) : TE := fun σ H Q => ta σ H fun x H1 => r x H1 Q
noncomputable def rI (C : Int → Int → Prop) (g : Int → Int → V) : R2 := fun x y H Q => ∃ i j, x = .int i ∧ y = .int j ∧ C i j ∧ Q (g i j) H
noncomputable def rI0 (g : Int → Int → V) : R2 := fun x y H Q => ∃ i j, x = .int i ∧ y = .int j ∧ Q (g i j) H
noncomputable def rU (g : Int → V) : V → Hp → VK → Prop := fun x H Q => ∃ i, x = .int i ∧ Q (g i) H

section
variable {X : Cx} {a b c : Expr} {ta tb tc : TE} {pos : Pos}

theorem binT (ha : PE X a ta) (hb : PE X b tb) {pins : List (Addr × Obj)} {s : Shared} {σ : St} {H : Hp} {R : V → V → Hp → Prop} (I : Inv X pins σ H s)
  (h : ta σ H fun x H1 => tb σ H1 fun y H2 => R x y H2) {Q : Value → Shared → Prop} {f : Value → Value → Sem Value}
  (hf : ∀ v u s2 x y H2, Inv X pins σ H2 s2 → RelV x v → RelV y u → R x y H2 → wpAny (model X.prog X.w) X.A (f v u) Q X.xe s2) :
  wpAny (model X.prog X.w) X.A (eval a X.env) (fun v s₁ => wpAny (model X.prog X.w) X.A (eval b X.env) (fun u s₂ => wpAny (model X.prog X.w) X.A (f v u) Q X.xe s₂) X.xe s₁) X.xe s := by
 refine thn (ha pins s σ H _ I h) fun v s1 ⟨x, H1, I1, r1, q1⟩ => ?_
 refine thn (hb pins s1 σ H1 _ I1 q1) fun u s2 ⟨y, H2, I2, r2, q2⟩ => ?_
 exact hf v u s2 x y H2 I2 r1 r2 q2

theorem pe_op {op : Operator} {r : R2} (ho : OpR X (binaryOp op) r) (ha : PE X a ta) (hb : PE X b tb) : PE X (.BinOp a op b pos) (tOp r ta tb) := by
 intro pins s σ H Q I h
 exact wpAny_BinOp (binT ha hb I h fun v u s2 x y H2 I2 rx ry q => ho pins s2 σ H2 x y v u Q I2 rx ry q)
theorem pe_un {op : UnaryOp} {r : V → Hp → VK → Prop} (ho : UnR X (unaryOp op) r) (ha : PE X a ta) : PE X (.UnaryOp op a pos) (tUn r ta) := by
 intro pins s σ H Q I h
 exact UnaryOp_ (thn (ha pins s σ H _ I h) fun v s1 ⟨x, H1, I1, r1, q1⟩ => ho pins s1 σ H1 x v Q I1 r1 q1)

theorem opI {f : Value → Value → Sem Value} {C : Int → Int → Prop} {g : Int → Int → Int}
  (rule : ∀ (i j : Int) (t u : Tok) (s : Shared) (Q : Value → Shared → Prop) (E : Value → Shared → Prop), C i j → Q (.int (g i j) s.toks) { s with toks := s.toks + 1 } → wpAny (model X.prog X.w) X.A (f (.int i t) (.int j u)) Q E s) :
  OpR X f (rI C fun i j => .int (g i j)) := by
 intro pins s σ H x y v u Q I rx ry h
 obtain ⟨i, j, rfl, rfl, hc, q⟩ := h
 obtain ⟨t, rfl⟩ := rx
 obtain ⟨t', rfl⟩ := ry
 exact rule i j t t' s _ _ hc ⟨.int (g i j), H, I.tok _, ⟨_, rfl⟩, q⟩
theorem opI0 {f : Value → Value → Sem Value} {g : Int → Int → Int}
  (rule : ∀ (i j : Int) (t u : Tok) (s : Shared) (Q : Value → Shared → Prop) (E : Value → Shared → Prop), Q (.int (g i j) s.toks) { s with toks := s.toks + 1 } → wpAny (model X.prog X.w) X.A (f (.int i t) (.int j u)) Q E s) :
  OpR X f (rI0 fun i j => .int (g i j)) := by
 intro pins s σ H x y v u Q I rx ry h
 obtain ⟨i, j, rfl, rfl, q⟩ := h
 obtain ⟨t, rfl⟩ := rx
 obtain ⟨t', rfl⟩ := ry
 exact rule i j t t' s _ _ ⟨.int (g i j), H, I.tok _, ⟨_, rfl⟩, q⟩
theorem opB0 {f : Value → Value → Sem Value} {g : Int → Int → Bool}
  (rule : ∀ (i j : Int) (t u : Tok) (s : Shared) (Q : Value → Shared → Prop) (E : Value → Shared → Prop), Q (.bool (g i j)) s → wpAny (model X.prog X.w) X.A (f (.int i t) (.int j u)) Q E s) :
  OpR X f (rI0 fun i j => .bl (g i j)) := by
 intro pins s σ H x y v u Q I rx ry h
 obtain ⟨i, j, rfl, rfl, q⟩ := h
 obtain ⟨t, rfl⟩ := rx
 obtain ⟨t', rfl⟩ := ry
 exact rule i j t t' s _ _ ⟨.bl (g i j), H, I, rfl, q⟩

noncomputable def CPow (i j : Int) : Prop := 0 ≤ j ∧ j ≤ 1000000 ∧ i.natAbs < 2 ^ 64
noncomputable def CMul (i j : Int) : Prop := (-(2 ^ 64) < i ∧ i < 2 ^ 64) ∨ (-(2 ^ 64) < j ∧ j < 2 ^ 64)
theorem CMul.ok {i j : Int} (h : CMul i j) : IntMulOk i j := by
 rcases h with ⟨h1, h2⟩ | ⟨h1, h2⟩
 ·exact .of_left (intBits_le_64 h1 h2)
 ·exact .of_right (intBits_le_64 h1 h2)
theorem two_pow_nn (k : Nat) : (0 : Int) ≤ 2 ^ k := by
 rw [two_pow_cast]
 exact Int.natCast_nonneg _

theorem op_add : OpR X (binaryOp .Add) (rI0 fun i j => .int (i + j)) := opI0 fun _ _ _ _ _ _ _ q => add_int q
theorem op_sub : OpR X (binaryOp .Sub) (rI0 fun i j => .int (i - j)) := opI0 fun _ _ _ _ _ _ _ q => sub_int q
theorem op_mul : OpR X (binaryOp .Mult) (rI CMul fun i j => .int (i * j)) := opI fun _ _ _ _ _ _ _ hc q => mul_int q hc.ok
theorem op_mod : OpR X (binaryOp .Mod) (rI (fun _ j => 0 < j) fun i j => .int (i % j)) := opI fun i j _ _ _ _ _ hc q => by
 have h1 : (0 : Int) < j := hc
 exact mod_int' (by omega) (by rw [Int.fmod_eq_emod_of_nonneg i (by omega)]; exact q)
theorem op_pow : OpR X (binaryOp .Pow) (rI CPow fun i j => .int (i ^ j.toNat)) := opI fun _ _ _ _ _ _ _ hc q => pow_int_small hc.1 hc.2.1 hc.2.2 q
theorem op_shl : OpR X (binaryOp .LShift) (rI CPow fun i j => .int (i * 2 ^ j.toNat)) := opI fun _ _ _ _ _ _ _ hc q => lshift_int_small hc.1 hc.2.1 hc.2.2 q
theorem op_shr : OpR X (binaryOp .RShift) (rI (fun _ j => 0 ≤ j) fun i j => .int (i / 2 ^ j.toNat)) := opI fun i j _ _ _ _ _ hc q =>
 rshift_int hc (by rw [Int.fdiv_eq_ediv_of_nonneg i (two_pow_nn _)]; exact q)
theorem op_and : OpR X (binaryOp .BitAnd) (rI0 fun i j => .int (Builtin.bitAnd i j)) := opI0 fun _ _ _ _ _ _ _ q => and_int q
theorem op_or : OpR X (binaryOp .BitOr) (rI0 fun i j => .int (Builtin.bitOr i j)) := opI0 fun _ _ _ _ _ _ _ q => or_int q


theorem unI {f : Value → Sem Value} {g : Int → Int}
  (rule : ∀ (i : Int) (t : Tok) (s : Shared) (Q : Value → Shared → Prop) (E : Value → Shared → Prop), Q (.int (g i) s.toks) { s with toks := s.toks + 1 } → wpAny (model X.prog X.w) X.A (f (.int i t)) Q E s) :
  UnR X f (rU fun i => .int (g i)) := by
 intro pins s σ H x v Q I rx h
 obtain ⟨i, rfl, q⟩ := h
 obtain ⟨t, rfl⟩ := rx
 exact rule i t s _ _ ⟨.int (g i), H, I.tok _, ⟨_, rfl⟩, q⟩
theorem un_neg : UnR X (unaryOp .USub) (rU fun i => .int (-i)) := unI fun _ _ _ _ _ q => neg_int q

end



section
variable {X : Cx} {a b c : Expr} {ta tb tc : TE} {pos : Pos}

theorem op_lt : OpR X (compareOp .Lt) (rI0 fun i j => .bl (decide (i < j))) := opB0 fun _ _ _ _ _ _ _ q => lt_int q
theorem op_le : OpR X (compareOp .LtE) (rI0 fun i j => .bl (decide (i ≤ j))) := opB0 fun _ _ _ _ _ _ _ q => le_int q




theorem pe_cmpR {op : CmpOp} {r : R2} (ho : OpR X (compareOp op) r) (ha : PE X a ta) (hb : PE X b tb) (hm : behindInMarks op b = false) : PE X (.Compare a [op] [b] pos) (tOp r ta tb) := by
 intro pins s σ H Q I h
 exact wpAny_Compare1 (binT ha hb I h fun v u s2 x y H2 I2 rx ry q => ho pins s2 σ H2 x y v u Q I2 rx ry q) hm
noncomputable def tTest (t : TE) : TT := fun σ H Q => t σ H fun x H' => ∃ k, x = .bl k ∧ Q k H'
theorem pt_cmpR {op : CmpOp} {r : R2} (ho : OpR X (compareOp op) r) (ha : PE X a ta) (hb : PE X b tb) (hm : behindInMarks op b = false) : PT X (.Compare a [op] [b] pos) (tTest (tOp r ta tb)) := by
 intro pins s σ H Q I h
 refine wpAny_isTrue_Compare1 (thn (ha pins s σ H _ I h) fun v s1 ⟨x, H1, I1, r1, q1⟩ => thn (hb pins s1 σ H1 _ I1 q1) fun u s2 ⟨y, H2, I2, r2, q2⟩ =>
  thn (ho pins s2 σ H2 x y v u _ I2 r1 r2 q2) fun c s3 ⟨z, H3, I3, r3, k, e, q3⟩ => ?_) hm
 subst e
 cases r3
 exact wpAny_truthy_bool ⟨H3, I3, q3⟩
noncomputable def tChain (r r' : R2) (ta tb tc : TE) : TE := fun σ H Q => ta σ H fun x H1 => tb σ H1 fun y H2 => r x y H2 fun z H3 => ∃ k, z = .bl k ∧
 (if k = true then tc σ H3 fun w' H4 => r' y w' H4 Q else Q (.bl false) H3)
theorem pt_chain {op op' : CmpOp} {r r' : R2} (ho : OpR X (compareOp op) r) (ho' : OpR X (compareOp op') r') (ha : PE X a ta) (hb : PE X b tb) (hc : PE X c tc)
  (hm : lastMarks [op, op'] [b, c] = false := by with_unfolding_all rfl) : PT X (.Compare a [op, op'] [b, c] pos) (tTest (tChain r r' ta tb tc)) := by
 intro pins s σ H Q I h
 refine isTrue_chain (thn (ha pins s σ H _ I h) fun v s1 ⟨x, H1, I1, r1, q1⟩ => test_link (thn (hb pins s1 σ H1 _ I1 q1) fun u s2 ⟨y, H2, I2, r2, q2⟩ =>
  thn (ho pins s2 σ H2 x y v u _ I2 r1 r2 q2) fun d s3 ⟨z, H3, I3, r3, k, e, q3⟩ => ?_)) hm
 subst e
 cases r3
 refine wpAny_truthy_bool ?_
 cases k with
 | false =>
  obtain ⟨k', e', q'⟩ := q3
  cases e'
  exact ite_ff ⟨H3, I3, q'⟩
 | true =>
  refine ite_tt (test_last (thn (hc pins s3 σ H3 _ I3 q3) fun w' s4 ⟨z', H4, I4, r4, q4⟩ => thn (ho' pins s4 σ H4 y z' u w' _ I4 r2 r4 q4) fun d' s5 ⟨z2, H5, I5, r5, k2, e2, q5⟩ => ?_))
  subst e2
  cases r5
  exact wpAny_truthy_bool ⟨H5, I5, q5⟩

theorem line63 : (sizeLine : Nat) < 2 ^ 63 := by rw [sizeLine_eq]; decide



theorem vals1 {x : V} {us : List Value} (r : Vals [x] us) : ∃ u, us = [u] ∧ RelV x u := by
 cases r with
 | cons r1 r2 => cases r2; exact ⟨_, rfl, r1⟩
theorem vals2 {x y : V} {us : List Value} (r : Vals [x, y] us) : ∃ u w', us = [u, w'] ∧ RelV x u ∧ RelV y w' := by
 cases r with
 | cons r1 r2 =>
  cases r2 with
  | cons r3 r4 => cases r4; exact ⟨_, _, rfl, r1, r3⟩
theorem call_min2 (hc : X.calm = true) : CallR X (.builtin "min") (fun xs H Q => ∃ i j, xs = [.int i, .int j] ∧ Q (.int (if j < i then j else i)) H) := by
 intro pins s σ H xs us Q I r h
 obtain ⟨i, j, rfl, q⟩ := h
 obtain ⟨u, w', rfl, ⟨t, rfl⟩, ⟨t', rfl⟩⟩ := vals2 r
 refine min_two_ints (I.ok.hd hc) fun h' tk k => ⟨_, H, I.kept k, ?_, q⟩
 by_cases hj : j < i
 ·rw [if_pos hj, if_pos hj]; exact ⟨_, rfl⟩
 ·rw [if_neg hj, if_neg hj]; exact ⟨_, rfl⟩
end
end L2

namespace L2
open PySem PySem.Spec PyProof.Rows

structure ObjM (h : Heap) (x dx C : Addr) (mA : Str → Option Value) : Prop where
 obj : h.get? x = some (PySem.W.instObj C dx)
 ns : h.Ns1 dx mA
 ne : dx ≠ x

theorem lookIn_ns {h : Heap} {dx : Addr} {mA : Str → Option Value} (n : h.Ns1 dx mA) : ∃ od, h.get? dx = some od ∧ ∀ name, PySem.W.lookIn name od = some (mA name) := by
 obtain ⟨o, es, ep, ho, hd, hk, _, hm⟩ := n
 refine ⟨o, ho, fun name => ?_⟩
 have e := hm name
 unfold nsFind findBy at e
 rw [← Array.find?_toList] at e
 unfold PySem.W.lookIn
 rw [hd]
 dsimp only
 split
 ·rename_i y q
  rw [q] at e
  exact congrArg some e
 ·rename_i q
  rw [q] at e
  have a : es.toList.any (·.refKey) = false := by
   rw [List.any_eq_false]
   intro y hy
   obtain ⟨z, t, hkey⟩ := hk y (Array.mem_toList_iff.mp hy)
   simp [DictEntry.refKey, hkey]
  have a' : ¬ es.toList.any (·.refKey) = true := by rw [a]; exact Bool.false_ne_true
  rw [if_neg a']
  exact congrArg some e

theorem ObjM.look {h : Heap} {x dx C : Addr} {mA : Str → Option Value} (I : ObjM h x dx C mA) : ∃ od, PySem.W.InstAt h x (PySem.W.instObj C dx) C (some od) ∧ ∀ name, PySem.W.lookIn name od = some (mA name) :=
 let ⟨od, ho, hl⟩ := lookIn_ns I.ns
 ⟨od, ⟨I.obj, rfl, rfl, ho⟩, hl⟩

section
variable {prog : Program} {w : World} {A : Around} {E : Value → Shared → Prop} {s : Shared} {K : PySem.W.Frag} {x dx C f : Addr} {mA : Str → Option Value} {name : Str} {v : Value}





end


theorem RelO.some_of {v : V} {o : Option Value} (r : RelO (some v) o) : ∃ u, o = some u ∧ RelV v u := by
 cases o with
 | none => exact (show False from r).elim
 | some u => exact ⟨u, rfl, r⟩

section
variable {P : Program} {w : World} {H H' : Hp} {h h' : Heap} {a C dx : Addr} {fs fs' : List (Str × V)}
theorem ins_get (hok : HOk P w H h) (e : H a = some (.ins C dx fs)) : ∃ mA, ObjM h a dx C mA ∧ (∀ f, RelO (fs.lookup f) (mA f)) ∧ PySem.Within mA (fs.map (·.1)) ∧ fs.length ≤ 1000 ∧ H dx = some (.own a) := by
 obtain ⟨d, z, ne, ob, mA, n, r, q⟩ := (show ObjOk P w H h a (.ins C dx fs) from hok a _ e)
 exact ⟨mA, ⟨ob, n, ne⟩, r, q, z, d⟩
end

structure Cls (K : PySem.W.Frag) (C : Addr) : Prop where
 pg : PySem.W.plainGet K C Str.empty = true
 hd : PySem.W.hasDictIn K C = true
 po : PySem.W.plainOver K C = true
 sa : PySem.W.findIn K (.ref C) "__setattr__" = some (some (.builtin "object.__setattr__"))
theorem Cls.get {K : PySem.W.Frag} {C : Addr} (c : Cls K C) (f : Str) : PySem.W.plainGet K C f = true := c.pg
structure Con (K : PySem.W.Frag) (C : Addr) (f : Str) (v : V) (u : Value) : Prop where
 at_ : PySem.W.findIn K (.ref C) f = some (some u)
 rel : RelV v u
 get : PySem.W.specialIn K u "__get__" = some none
 cp : PySem.W.copiedNames.contains f = false
structure Meth (K : PySem.W.Frag) (C : Addr) (m : Str) (f : Addr) : Prop where
 at_ : PySem.W.findIn K (.ref C) m = some (some (.ref f))
 fn : PySem.W.isFn K (.ref f) = true
 kp : PySem.W.keepIn K (.ref f) = true

section
variable {X : Cx} {pins : List (Addr × Obj)} {σ : St} {H : Hp} {s : Shared} {a C dx : Addr} {fs : List (Str × V)} {f : Str} {v : V} {A : Around} {E : Value → Shared → Prop}






end


section
variable {X : Cx} {o e value : Expr} {f : Str} {pos pos' tpos : Pos} {ta tv : TE}

end

section
variable {X : Cx} {pins : List (Addr × Obj)} {σ : St} {H : Hp} {s : Shared} {A : Around} {E : Value → Shared → Prop} {Q : Value → Shared → Prop} {c : Value} {b : Bool}
inductive TyOf (K : PySem.W.Frag) (H : Hp) : V → Value → Prop where
 | non : TyOf K H .non (.type "NoneType")
 | bl (x : Bool) : TyOf K H (.bl x) (.type "bool")
 | int (i : Int) : TyOf K H (.int i) (.type "int")
 | str (x : Str) : TyOf K H (.str x) (.type "str")
 | flt (x : UInt64) : TyOf K H (.flt x) (.type "float")
 | lst {a : Addr} {xs : List V} (e : H a = some (.lst xs)) : TyOf K H (.ref a) (.type "list")
 | frz {a : Addr} {o : Obj} {xs : List V} (e : H a = some (.frz o (.lst xs))) : TyOf K H (.ref a) (.type "list")
 | tup {a : Addr} {xs : List V} (e : H a = some (.tup xs)) : TyOf K H (.ref a) (.type "tuple")
 | dK {a : Addr} {kvs : List (Key × V)} (e : H a = some (.dK kvs)) : TyOf K H (.ref a) (.type "dict")
 | dT {a : Addr} {kvs : List (List Key × V)} (e : H a = some (.dT kvs)) : TyOf K H (.ref a) (.type "dict")
 | ins {a C dx : Addr} {fs : List (Str × V)} (e : H a = some (.ins C dx fs)) (cl : Cls K C) (ha : PySem.W.findIn K (.ref C) "__class__" = some (some (.builtin "object.__class__")))
   (hn : PySem.W.specialIn K (.builtin "object.__class__") "__get__" = some (some (.builtin "getset_descriptor.__get__"))) (htk : PySem.W.takesIn K (.builtin "object.__class__") = some true)
   (hm : PySem.W.mroIn K C (.type "object") = some true) : TyOf K H (.ref a) (.ref C)
end
end L2

namespace L2
open PySem PySem.Spec PyProof.Rows

structure Room (k : Nat) (A : Around) : Prop where
 hd : A.handled = none
 dp : A.depth + 3 * k + 5 < recursionLimit
 un : A.units + 16 * k + 200 < cLine
 gd : A.guards = some []
theorem Room.mono {j k : Nat} {A : Around} (r : Room k A) (h : j ≤ k) : Room j A := ⟨r.hd, by have := r.dp; omega, by have := r.un; omega, r.gd⟩
theorem Room.deeper {k : Nat} {A : Around} (r : Room (k + 1) A) (env : Env) : Room k (A.deeper env) :=
 ⟨r.hd, by have := r.dp; show A.depth + 1 + 3 * k + 5 < _; omega, by have := r.un; show A.units + 3 + 16 * k + 200 < _; omega, r.gd⟩
theorem Room.depth {k : Nat} {A : Around} (r : Room k A) : A.depth < recursionLimit := by have := r.dp; omega
theorem Room.units {k : Nat} {A : Around} (r : Room k A) : A.units + 64 < cLine := by have := r.un; omega

noncomputable def tNil : TA := fun _ H Q => Q [] H
noncomputable def tCons (ta : TE) (tr : TA) : TA := fun σ H Q => ta σ H fun x H1 => tr σ H1 fun xs H2 => Q (x :: xs) H2
section
variable {X : Cx} {e : Expr} {es : List Expr} {te : TE} {t : TA} {pos : Pos}
theorem pa_nil : PA X [] tNil := fun _ _ _ _ H Q I h => Calls.spliced_nil ⟨[], H, I, .nil, h⟩
theorem pa_cons (ha : PE X e te) (hr : PA X es t) (hs : starEach (e :: es) X.env = (false, eval e X.env) :: starEach es X.env := by rfl) : PA X (e :: es) (tCons te t) := by
 intro pos pins s σ H Q I h
 rw [hs]
 show wpAny _ _ (spliced ((false, eval e X.env) :: backTo pos (starEach es X.env))) _ _ s
 refine Calls.spliced_cons (thn (ha pins s σ H _ I h) fun u s1 ⟨x, H1, I1, r1, q1⟩ => ?_)
 exact thn (hr pos pins s1 σ H1 _ I1 q1) fun us s2 ⟨xs, H2, I2, r2, q2⟩ => ⟨x :: xs, H2, I2, .cons r1 r2, q2⟩

noncomputable def tTup (t : TA) : TE := fun σ H Q => t σ H fun xs H1 => xs.length ≤ sizeLine ∧ ∀ p, H1 p = none → Q (.ref p) (upd H1 p (.tup xs))
noncomputable def tLst (t : TA) : TE := fun σ H Q => t σ H fun xs H1 => xs.length ≤ sizeLine ∧ ∀ p, H1 p = none → Q (.ref p) (upd H1 p (.lst xs))
theorem pe_tup {x1} (h : PA X es t) : PE X (.Tuple es x1 pos) (tTup t) := by
 intro pins s σ H Q I hq
 refine wpAny_Tuple_spliced (thn (h pos pins s σ H _ I hq) fun us s1 ⟨xs, H1, I1, r, z, q⟩ => ⟨by rw [← r.length]; exact z, ?_⟩)
 have hf : H1 s1.heap.objs.size = none := I1.hok.fresh (Nat.le_refl _)
 refine ⟨.ref s1.heap.objs.size, upd H1 s1.heap.objs.size (.tup xs), I1.laid (t' := s1.toks) (fun b u e => Heap.get?_push_of_some _ e) (Nat.le_refl _) ?_, rfl, q _ hf⟩
 exact ⟨z, us, r, ⟨_, Heap.get?_push_size _ rfl, rfl, _, rfl⟩⟩
theorem pe_lst (h : PA X es t) : PE X (.List es pos) (tLst t) := by
 intro pins s σ H Q I hq
 refine wpAny_List_spliced (thn (h pos pins s σ H _ I hq) fun us s1 ⟨xs, H1, I1, r, z, q⟩ => ⟨by rw [← r.length]; exact z, ?_⟩)
 have hf : H1 s1.heap.objs.size = none := I1.hok.fresh (Nat.le_refl _)
 refine ⟨.ref s1.heap.objs.size, upd H1 s1.heap.objs.size (.lst xs), I1.laid (t' := s1.toks) (fun b u e => Heap.get?_push_of_some _ e) (Nat.le_refl _) ?_, rfl, q _ hf⟩
 exact ⟨z, us, 0, r, Heap.get?_push_size _ rfl⟩
end

noncomputable abbrev Sp := List V → Hp → VK → XK → Prop
noncomputable abbrev CXT := List Env → Hp → Shared → XK → Value → Shared → Prop

structure Env0 (P : Program) (w : World) (K : PySem.W.Frag) (mg : Str → Option Value) (base : Heap) (A : Around) (outer : List Env) (s : Shared) (H : Hp) : Prop where
 frames : A.frames = some outer
 mod : Mod K mg base
 bs : ∀ b o, base.get? b = some o → s.heap.get? b = some o ∧ H b = none
 bsz : base.objs.size ≤ s.heap.objs.size
 funs : s.heap.FunFrames base outer
 frf : ∀ b ∈ frs outer, H b = none
 hok : HOk P w H s.heap
 bare : AllBare s.gens
noncomputable def CE (outer : List Env) (P : Program) (w : World) (H : Hp) (s : Shared) (Q : VK) (u : Value) (s' : Shared) : Prop :=
 ∃ v H', s'.os = s.os ∧ AllBare s'.gens ∧ Un (frs outer) [] H H' s.heap s'.heap ∧ HOk P w H' s'.heap ∧ RelV v u ∧ Q v H'
noncomputable def CR (CX : CXT) (outer : List Env) (P : Program) (w : World) (H : Hp) (s : Shared) (Q : VK) (E : XK) (r : Result) (s' : Shared) : Prop :=
 match r with
 | .ok (.ret u) => CE outer P w H s Q u s'
 | .ok _ => False
 | .error e => CX outer H s E e s'
structure FnOk (P : Program) (w : World) (K : PySem.W.Frag) (mg : Str → Option Value) (base : Heap) (CX : CXT) (k : Nat) (f : Addr) (fd : FuncData) (ps : List Str) (sp : Sp) : Prop where
 len : ∀ vs H Q E, sp vs H Q E → vs.length = ps.length
 run : ∀ (A : Around) (outer : List Env) (s : Shared) (H : Hp) (args : Args) (us : List Value) (vs : List V) (Q : VK) (E : XK), Room k A → Env0 P w K mg base A outer s H → BindsTo s fd args (ps.zip us) → Vals vs us → sp vs H Q E →
  codeAny (model P w) A (.call (.ref f) args) (CR CX outer P w H s Q E) s
theorem FnOk.imp {P : Program} {w : World} {K : PySem.W.Frag} {mg : Str → Option Value} {base : Heap} {CX : CXT} {k : Nat} {f : Addr} {fd : FuncData} {ps : List Str} {sp sp' : Sp} (F : FnOk P w K mg base CX k f fd ps sp)
  (h : ∀ vs H Q E, sp' vs H Q E → sp vs H Q E) : FnOk P w K mg base CX k f fd ps sp' :=
 ⟨fun vs H Q E q => F.len vs H Q E (h _ _ _ _ q), fun A outer s H args us vs Q E hr he hb hv hs => F.run A outer s H args us vs Q E hr he hb hv (h _ _ _ _ hs)⟩


section
variable {X : Cx} {pins : List (Addr × Obj)} {σ : St} {H : Hp} {s s' : Shared}
theorem Inv.env0 (I : Inv X pins σ H s) : Env0 X.prog X.w X.K X.mg X.base X.A X.stack s H :=
 ⟨I.ok.frames, I.ok.mod, I.bs, Nat.le_trans I.ok.bsz I.sz, I.stack, I.stkFree, I.hok, I.bare⟩
theorem Inv.after {Q : VK} {u : Value} (I : Inv X pins σ H s) (h : CE X.stack X.prog X.w H s Q u s') : EP X pins σ Q u s' := by
 obtain ⟨v, H', os, bare, un, hok, r, q⟩ := h
 obtain ⟨hh, g, d, t, os'⟩ := s'
 obtain rfl : os' = s.os := os
 exact ⟨v, H', I.call (h' := hh) (g' := g) (d' := d) (t' := t) (ch := []) un hok bare (fun b z => absurd z (by simp)), r, q⟩
end

noncomputable def tCall (sp : Sp) (dvs : List V) (E : XK) (t : TA) : TE := fun σ H Q => t σ H fun vs H1 => sp (vs ++ dvs) H1 Q E

noncomputable def Binds (K : PySem.W.Frag) (fd : FuncData) (ps : List Str) (ds : List Value) : Prop :=
 ∀ (s : Shared) (us : List Value), K.In s.heap → (us ++ ds).length = ps.length → BindsTo s fd ⟨us, []⟩ (ps.zip (us ++ ds))
theorem Binds.all {K : PySem.W.Frag} {fd : FuncData} {ps : List Str} (h : ∀ us : List Value, us.length = ps.length → bindArgs fd ⟨us, []⟩ = pure (ps.zip us)) : Binds K fd ps [] := fun s us _ hl => by
 rw [List.append_nil] at hl ⊢
 exact .of_eq (h us hl)

noncomputable def Passes (CX : CXT) (X : Cx) (E : XK) : Prop := ∀ (pins : List (Addr × Obj)) (σ : St) (H : Hp) (s : Shared) (e : Value) (s' : Shared), Inv X pins σ H s → CX X.stack H s E e s' → X.xe e s'

section
variable {X : Cx} {CX : CXT} {k : Nat} {f C : Addr} {fd : FuncData} {ps : List Str} {sp : Sp} {dvs : List V} {ds : List Value} {E : XK} {x m : Str} {p pos apos : Pos} {e o : Expr} {es : List Expr} {ta : TE} {t : TA}

theorem run_fn {pins : List (Addr × Obj)} {σ : St} {H : Hp} {s : Shared} {Q : VK} {us : List Value} {vs : List V} (F : FnOk X.prog X.w X.K X.mg X.base CX k f fd ps sp) (hr : Room k X.A) (hb : Binds X.K fd ps ds) (hd : Vals dvs ds) (hx : Passes CX X E)
  (I : Inv X pins σ H s) (r : Vals vs us) (h : sp (vs ++ dvs) H Q E) : wpAny (model X.prog X.w) X.A (call (.ref f) us) (EP X pins σ Q) X.xe s := by
 have r2 : Vals (vs ++ dvs) (us ++ ds) := r.append hd
 have hl : (us ++ ds).length = ps.length := by rw [← r2.length]; exact F.len _ _ _ _ h
 refine wpAny_call (codeAny_mono (F.run X.A X.stack s H ⟨us, []⟩ (us ++ ds) (vs ++ dvs) Q E hr I.env0 (hb s us I.kIn hl) r2 h) fun r s' hq => ?_)
 cases r with
 | error e => exact hx pins σ H s e s' I hq
 | ok fl =>
  cases fl with
  | ret u => exact I.after hq
  | next => exact False.elim hq
  | brk => exact False.elim hq
  | cont => exact False.elim hq

theorem pe_call (F : FnOk X.prog X.w X.K X.mg X.base CX k f fd ps sp) (hr : Room k X.A) (hg : Gl X x) (hm : X.mg x = some (.ref f)) (hk : PySem.W.keepIn X.K (.ref f) = true) (hb : Binds X.K fd ps ds) (hd : Vals dvs ds) (hx : Passes CX X E)
  (ha : PA X (e :: es) t) (hdb : (x == ("__debug__" : Str)) = false := by decide) (he : starEach (e :: es) X.env = (false, eval e X.env) :: starEach es X.env := by rfl) (hpl : (backTo pos (starEach es X.env)).any (·.1) = false := by rfl) :
  PE X (.Call (.Name x p) (e :: es) [] pos) (tCall sp dvs E t) := by
 intro pins s σ H Q I h
 refine wpAny_Call_Name_kw (ld_glob I hg hm ?_ hdb)
 refine PySem.W.callWith_K (h₀ := X.base) I.ok.mod.kin hk (thn (ha pos pins s σ H _ I h) fun us s1 ⟨vs, H1, I1, r, q⟩ => ⟨I1.kIn, ?_⟩) he hpl
 exact run_fn F hr hb hd hx I1 r q


structure Mk (K : PySem.W.Frag) (C f : Addr) : Prop where
 makes : PySem.W.makesIn K C = true
 init : PySem.W.findIn K (.ref C) "__init__" = some (some (.ref f))
 fn : PySem.W.isFn K (.ref f) = true
 kp : PySem.W.keepIn K (.ref C) = true

end

section
variable {X : Cx} {CX : CXT} {k : Nat} {f C : Addr} {fd : FuncData} {ps ks : List Str} {sp : Sp} {E : XK} {x m : Str} {p pos apos kpos : Pos} {e o : Expr} {es : List Expr} {kws : List Keyword} {te ta : TE} {t tk : TA} {nm : Option Str}

structure KBinds (K : PySem.W.Frag) (fd : FuncData) (ps ks : List Str) (g : List Value → List Value → List Value) (gV : List V → List V → List V) : Prop where
 to : ∀ (s : Shared) (us ws : List Value), K.In s.heap → (g us ws).length = ps.length → BindsTo s fd ⟨us, ks.zip ws⟩ (ps.zip (g us ws))
 rel : ∀ {vs : List V} {us : List Value} {zs : List V} {ws : List Value}, Vals vs us → Vals zs ws → Vals (gV vs zs) (g us ws)
variable {g : List Value → List Value → List Value} {gV : List V → List V → List V}
end

structure FnScope (N P : List Str) (sc : Scope) : Prop where
 kind : sc.kind = .function
 co : sc.isCoroutine = false
 gen : sc.isGenerator = false
 nd : N.Nodup
 pre : N.take P.length = P
 par : ∀ x ∈ P, sc.names.lookup x = some .local ∨ sc.names.lookup x = some .cell
 nofree : ∀ y ∈ sc.names, y.2 ≠ .free

theorem bindL_out {kindOf : Str → Option NameKind} {x : Str} : ∀ {binds : List (Str × Value)} {m : Str → Option Value}, (∀ v, (x, v) ∉ binds) → bindL kindOf binds m x = m x
 | [], _, _ => rfl
 | (n, v) :: r, m, h => by
  unfold bindL
  rw [bindL_out fun w hw => h w (List.mem_cons_of_mem _ hw)]
  split
  ·have : x ≠ n := by rintro rfl; exact h v List.mem_cons_self
   simp [this]
  ·rfl
theorem bindC_out {kindOf : Str → Option NameKind} {x : Str} : ∀ {binds : List (Str × Value)} {m : Str → Option Value}, (∀ v, (x, v) ∉ binds) → bindC kindOf binds m x = m x
 | [], _, _ => rfl
 | (n, v) :: r, m, h => by
  unfold bindC
  rw [bindC_out fun w hw => h w (List.mem_cons_of_mem _ hw)]
  split
  ·rfl
  ·have : x ≠ n := by rintro rfl; exact h v List.mem_cons_self
   simp [this]
theorem bindL_get {kindOf : Str → Option NameKind} {x : Str} {v : Value} : ∀ {P : List Str} {vs : List Value} {i : Nat} {m : Str → Option Value}, P.Nodup → P[i]? = some x → vs[i]? = some v → kindOf x = some .local →
  bindL kindOf (P.zip vs) m x = some v
 | [], _, _, _, _, h, _, _ => by simp at h
 | _ :: _, [], _, _, _, _, h, _ => by simp at h
 | p :: P, w :: vs, 0, m, nd, h1, h2, hk => by
  simp at h1 h2; subst h1; subst h2
  show bindL kindOf ((p, w) :: P.zip vs) m p = _
  unfold bindL
  rw [bindL_out fun v hv => (List.nodup_cons.mp nd).1 (List.of_mem_zip hv).1, if_pos hk]
  simp
 | p :: P, w :: vs, i + 1, m, nd, h1, h2, hk => by
  show bindL kindOf ((p, w) :: P.zip vs) m x = _
  unfold bindL
  exact bindL_get (i := i) (List.nodup_cons.mp nd).2 (by simpa using h1) (by simpa using h2) hk
theorem bindC_get {kindOf : Str → Option NameKind} {x : Str} {v : Value} : ∀ {P : List Str} {vs : List Value} {i : Nat} {m : Str → Option Value}, P.Nodup → P[i]? = some x → vs[i]? = some v → kindOf x ≠ some .local →
  bindC kindOf (P.zip vs) m x = some v
 | [], _, _, _, _, h, _, _ => by simp at h
 | _ :: _, [], _, _, _, _, h, _ => by simp at h
 | p :: P, w :: vs, 0, m, nd, h1, h2, hk => by
  simp at h1 h2; subst h1; subst h2
  show bindC kindOf ((p, w) :: P.zip vs) m p = _
  unfold bindC
  rw [bindC_out fun v hv => (List.nodup_cons.mp nd).1 (List.of_mem_zip hv).1, if_neg hk]
  simp
 | p :: P, w :: vs, i + 1, m, nd, h1, h2, hk => by
  show bindC kindOf ((p, w) :: P.zip vs) m x = _
  unfold bindC
  exact bindC_get (i := i) (List.nodup_cons.mp nd).2 (by simpa using h1) (by simpa using h2) hk

noncomputable def start (N : List Str) (vs : List V) : St := vs.map some ++ List.replicate (N.length - vs.length) none

noncomputable def cxOf (CX : CXT) (P : Program) (w : World) (K : PySem.W.Frag) (mg : Str → Option Value) (base : Heap) (N : List Str) (qual : Str) (scope : Scope) (f : Addr) (cd : Value) (A : Around) (outer : List Env) (s : Shared) (H : Hp) (E : XK) : Cx where
 prog := P
 w := w
 K := K
 mg := mg
 base := base
 A := A.deeper (envOfC qual scope s.heap.objs.size f cd)
 N := N
 s₀ := s
 H₀ := H
 env := envOfC qual scope s.heap.objs.size f cd
 outer := outer
 stack := envOfC qual scope s.heap.objs.size f cd :: outer
 ex := []
 calm := true
 fn := fun _ => true
 pn := []
 xe := fun e s' => wpAny (model P w) (A.deeper (envOfC qual scope s.heap.objs.size f cd)) (leaving (envOfC qual scope s.heap.objs.size f cd) e) (fun _ s'' => CX outer H s E e s'') (fun e' s'' => CX outer H s E e' s'') s'

theorem cell_has {sc : Scope} {n : Nat} {x : Str} (h : sc.names.lookup x = some .cell) : ∃ c, (cellsFrom n sc.names []).lookup x = some c := by
 have q := PySem.W.cellsFrom_some sc.names n [] (.inl h)
 exact Option.isSome_iff_exists.mp q

theorem inv_start {CX : CXT} {P : Program} {w : World} {K : PySem.W.Frag} {mg : Str → Option Value} {base : Heap} {N ps : List Str} {qual : Str} {scope : Scope} {f : Addr} {cd : Value} {A : Around} {outer : List Env} {s s1 : Shared} {H : Hp} {E : XK} {us : List Value} {vs : List V}
  (S : FnScope N ps scope) (hd : A.handled = none) (e0 : Env0 P w K mg base A outer s H) (hl : vs.length = ps.length) (r : Vals vs us)
  (x : InCallC s s.heap.objs.size (bindL (envOfC qual scope s.heap.objs.size f cd).kindOf (ps.zip us) fun _ => none) (cellsFrom (s.heap.objs.size + 1) scope.names []) (bindC (envOfC qual scope s.heap.objs.size f cd).kindOf (ps.zip us) fun _ => none) s1) :
  Inv (cxOf CX P w K mg base N qual scope f cd A outer s H E) [] (start N vs) H s1 := by
 have hpl : ps.length ≤ N.length := by have := congrArg List.length S.pre; rw [List.length_take] at this; omega
 obtain ⟨h1, tk, rfl, hk⟩ := x.done
 have noA : ∀ b : Addr, b ∉ (cxOf CX P w K mg base N qual scope f cd A outer s H E).ex := fun b z => absurd (show b ∈ ([] : List Addr) from z) (by simp)
 refine ⟨⟨e0.mod, S.kind, rfl, rfl, Nat.le_refl _, fun y z c h1 h2 => ?_, fun y hy => ?_, fun y c _ h => ?_, fun _ => hd, Around.frames_deeper e0.frames, .inr ⟨rfl, rfl⟩, fun b z => absurd z (noA b), e0.bs, e0.bsz, fun b _ _ => noA b, fun b z => absurd z (noA b), e0.funs, e0.frf⟩,
  rfl, e0.bare, Un.kept hk, ⟨_, x.toInCall.ns, fun i y v h1 h2 h3 => ?_⟩, fun y c h => ⟨_, x.cell y c h⟩, e0.hok.fresh (Nat.le_refl _), fun y c h => ?_, fun p hp => absurd (show p ∈ ([] : List (Addr × Obj)) from hp) (by simp), e0.hok.kept hk, ?_⟩
 ·exact name_of_addr x.apart (PySem.mem_of_lookup h1) (PySem.mem_of_lookup h2)
 ·have hy : scope.names.lookup y = some .cell ∨ scope.names.lookup y = some .free := hy
  rcases hy with hy | hy
  ·exact cell_has hy
  ·exact absurd rfl (S.nofree _ (PySem.mem_of_lookup hy))
 ·exact Nat.le_of_lt (x.above y c (PySem.mem_of_lookup h))
 ·have hi : i < vs.length := by
   unfold start at h2
   by_cases hi : i < vs.length
   ·exact hi
   ·rw [List.getElem?_append_right (by simpa using hi)] at h2
    rw [List.getElem?_replicate] at h2
    split at h2 <;> cases h2
  have ha : vs[i]? = some v := by
   unfold start at h2
   rw [List.getElem?_append_left (by simpa using hi), List.getElem?_map] at h2
   cases e : vs[i]? with
   | none => rw [e] at h2; cases h2
   | some a => rw [e] at h2; cases h2; rfl
  obtain ⟨u, hu, rv⟩ := r.get ha
  have hp : ps[i]? = some y := by
   rw [← S.pre, List.getElem?_take_of_lt (by omega)]; exact h1
  have ndP : ps.Nodup := by rw [← S.pre]; exact S.nd.sublist (List.take_sublist _ _)
  refine ⟨u, rv, ?_⟩
  rcases S.par y (List.mem_of_getElem? hp) with k | k
  ·exact .inl ⟨k, bindL_get ndP hp hu k⟩
  ·obtain ⟨c, e⟩ := cell_has (n := s.heap.objs.size + 1) k
   refine .inr ⟨.inl k, c, e, ?_⟩
   have q := x.cell y c e
   rw [bindC_get ndP hp hu (by show scope.names.lookup y ≠ _; rw [k]; decide)] at q
   exact q
 ·exact e0.hok.fresh (Nat.le_of_lt (x.above y c (PySem.mem_of_lookup h)))
 ·unfold start
  show _ = N.length
  rw [List.length_append, List.length_map, List.length_replicate]
  omega

theorem fn_of {CX : CXT} {P : Program} {w : World} {K : PySem.W.Frag} {mg : Str → Option Value} {base : Heap} {k : Nat} {f : Addr} {name qual : Str} {params : Arguments} {body : List Stmt} {scope : Scope} {dV kV doc pm cdv ct oc : Value} {an od : Option Addr}
  {osl : Array (Option Value)} {N ps : List Str} {sp : Sp} (lk : K.lookup f = some ⟨oc, od, .func (PySem.W.fnOf name qual params body scope dV kV doc pm an cdv ct), osl⟩) (hcd : PySem.W.codeIn K cdv qual = true) (S : FnScope N ps scope)
  (len : ∀ vs H Q E, sp vs H Q E → vs.length = ps.length)
  (hbody : ∀ (A : Around) (outer : List Env) (s : Shared) (H : Hp) (vs : List V) (Q : VK) (E : XK), Room k (A.deeper (envOfC qual scope s.heap.objs.size f cdv)) → sp vs H Q E →
   ∃ t, PSs (cxOf CX P w K mg base N qual scope f cdv A outer s H E) body t ∧ t { nx := fun _ H' => Q .non H', rt := Q } (start N vs) H) :
  FnOk P w K mg base CX (k + 1) f (PySem.W.fnOf name qual params body scope dV kV doc pm an cdv ct) ps sp := by
 refine ⟨len, fun A outer s H args us vs Q E hr e0 hb r hsp => ?_⟩
 have hl := len _ _ _ _ hsp
 have KX : K.In s.heap := e0.mod.kin.keeps fun b o e => (e0.bs b o e).1
 have lim : s.heap.NoLimit := e0.mod.nolimit.keeps fun b o e => (e0.bs b o e).1
 have hkind : ∀ y ∈ ps.zip us, scope.names.lookup y.1 = some .local ∨ (scope.names.lookup y.1 = some .cell ∧ ((cellsFrom (s.heap.objs.size + 1) scope.names []).lookup y.1).isSome = true) := fun ⟨n, v⟩ hy => by
  rcases S.par n (List.of_mem_zip hy).1 with q | q
  ·exact .inl q
  ·exact .inr ⟨q, PySem.W.cellsFrom_some _ _ _ (.inl q)⟩
 refine codeAny_call_function hr.depth (KX _ _ lk) rfl S.co S.gen rfl (PySem.W.codeRec_of KX hcd) (hb _ _ _ _ ?_)
 refine wpAny_newFunctionEnv_cells S.kind hkind fun env he s1 x => ?_
 subst he
 refine ⟨lim.keeps x.toInCall.keep, codeAny_func ?_⟩
 obtain ⟨t, ht, hq⟩ := hbody A outer s H vs Q E (hr.deeper _) hsp
 have I : Inv (cxOf CX P w K mg base N qual scope f cdv A outer s H E) [] (start N vs) H s1 := inv_start S hr.hd e0 hl r x
 refine wpAny_mono (ht [] s1 (start N vs) H _ I hq) (fun fl s' hs => ?_) fun e s' hs => hs
 have fin : ∀ {σ' : St} {H' : Hp} {v : V} {u : Value}, Inv (cxOf CX P w K mg base N qual scope f cdv A outer s H E) [] σ' H' s' → RelV v u → Q v H' → CE outer P w H s Q u s' :=
  fun {σ' H' v u} J rv q => ⟨v, H', J.os, J.bare, J.base, J.hok, rv, q⟩
 cases fl with
 | ret u =>
  obtain ⟨v, σ', H', J, rv, q⟩ := hs
  exact fin J rv q
 | next =>
  obtain ⟨σ', H', J, q⟩ := hs
  exact fin (v := V.non) (u := Value.none) J rfl q
 | brk =>
  obtain ⟨_, _, _, q⟩ := hs
  exact False.elim q
 | cont =>
  obtain ⟨_, _, _, q⟩ := hs
  exact False.elim q
end L2

namespace L2
open PySem PySem.Spec PyProof.Rows
section
variable {X : Cx} {x : Str} {p pos : Pos} {e : Expr} {es : List Expr} {t : TA} {id T : String} {r : List V → Hp → VK → Prop}

noncomputable def tCB (r : List V → Hp → VK → Prop) (t : TA) : TE := fun σ H Q => t σ H fun vs H1 => r vs H1 Q
theorem pe_callB (hc : CallR X (.builtin id) r) (hg : Gl X x) (hm : X.mg x = none) (hv : bootBuiltins x = some (.builtin id)) (ha : PA X (e :: es) t) (hn : x ≠ "__name__" := by decide) (hdb : (x == ("__debug__" : Str)) = false := by decide)
  (he : starEach (e :: es) X.env = (false, eval e X.env) :: starEach es X.env := by rfl) (hpl : (backTo pos (starEach es X.env)).any (·.1) = false := by rfl) : PE X (.Call (.Name x p) (e :: es) [] pos) (tCB r t) := by
 intro pins s σ H Q I h
 refine wpAny_Call_Name_kw (ld_blt I hg hm hv ?_ hn hdb)
 exact PyProof.Rows.callWith_builtin1 (thn (ha pos pins s σ H _ I h) fun us s1 ⟨vs, H1, I1, r1, q1⟩ => hc pins s1 σ H1 vs us Q I1 r1 q1) he hpl
theorem pe_callTy (hc : CallR X (.type T) r) (hg : Gl X x) (hm : X.mg x = none) (hv : bootBuiltins x = some (.type T)) (ha : PA X (e :: es) t) (hn : x ≠ "__name__" := by decide) (hdb : (x == ("__debug__" : Str)) = false := by decide)
  (he : starEach (e :: es) X.env = (false, eval e X.env) :: starEach es X.env := by rfl) (hpl : (backTo pos (starEach es X.env)).any (·.1) = false := by rfl) : PE X (.Call (.Name x p) (e :: es) [] pos) (tCB r t) := by
 intro pins s σ H Q I h
 refine wpAny_Call_Name_kw (ld_blt I hg hm hv ?_ hn hdb)
 exact PyProof.Rows.callWith_type1 (thn (ha pos pins s σ H _ I h) fun us s1 ⟨vs, H1, I1, r1, q1⟩ => hc pins s1 σ H1 vs us Q I1 r1 q1) he hpl
end
end L2
namespace HT
open PySem PyProof.Rows



section
open PySem.SeqAt
open PySem.AutoSeq1 (wpAny_loadPart')
open PySem.MeetsSeq PySem.MeetsSeq2 PySem.MeetsSeq3

end

section
variable {prog : Program} {w : World} {A : Around} {E : Value → Shared → Prop} {s : Shared}



noncomputable def sIx (n d : Nat) : Option Int → Nat
 | none => d
 | some v => if v < 0 then (v + (n : Int)).toNat else min v.toNat n

end
end HT

namespace L2
open PySem PySem.Spec PyProof.Rows

noncomputable abbrev TO := St → Hp → (Option Int → Hp → Prop) → Prop
noncomputable def PO (X : Cx) (e : Option Expr) (t : TO) : Prop :=
 ∀ (pins : List (Addr × Obj)) (s : Shared) (σ : St) (H : Hp) (Q : Option Int → Hp → Prop), Inv X pins σ H s → t σ H Q →
  wpAny (model X.prog X.w) X.A (evalPart e X.env) (fun u s' => ∃ o H', Inv X pins σ H' s' ∧ IsPart u o ∧ Q o H') X.xe s
noncomputable def tPart (t : TE) : TO := fun σ H Q => t σ H fun x H1 => ∃ i, x = .int i ∧ Q (some i) H1

theorem intsAre_of {ns : List Int} : ∀ {us : List Value}, Vals (ns.map V.int) us → IntsAre us ns := by
 induction ns with
 | nil => intro us r; rw [List.map_nil] at r; cases r; exact .nil
 | cons n ns ih =>
  intro us r
  rw [List.map_cons] at r
  cases r with
  | cons r1 r2 =>
   obtain ⟨t, e⟩ := r1
   subst e
   exact .cons n t (ih r2)

section
variable {X : Cx} {e : Expr} {te : TE} {lo hi : Option Expr} {tl th : TO} {pos p2 : Pos}

theorem po_some (h : PE X e te) : PO X (some e) (tPart te) := by
 intro pins s σ H Q I hw
 rw [evalPart_some]
 refine thn (h pins s σ H _ I hw) fun u s1 ⟨x, H1, I1, r1, q1⟩ => ?_
 obtain ⟨i, rfl, q⟩ := q1
 obtain ⟨t, rfl⟩ := r1
 exact ⟨some i, H1, I1, .int i t, q⟩

noncomputable def SlR (X : Cx) (r : V → Option Int → Option Int → Hp → VK → Prop) : Prop :=
 ∀ (pins : List (Addr × Obj)) (s : Shared) (σ : St) (H : Hp) (x : V) (v vl vu : Value) (lo hi : Option Int) (sl : Addr) (Q : VK), Inv X pins σ H s → RelV x v → s.heap.IsSliceOf sl vl vu .none → IsPart vl lo → IsPart vu hi → r x lo hi H Q →
  ∃ T id, typeLookup (.type T) "__getitem__" = pure (some (.builtin id)) ∧ s.TypeIs v T ∧ wpAny (model X.prog X.w) X.A (getItem v (.ref sl)) (EP X pins σ Q) X.xe s
noncomputable def tSl (r : V → Option Int → Option Int → Hp → VK → Prop) (te : TE) (tl th : TO) : TE := fun σ H Q => te σ H fun x H1 => tl σ H1 fun l H2 => th σ H2 fun u H3 => r x l u H3 Q
theorem pe_slice {r : V → Option Int → Option Int → Hp → VK → Prop} (hr : SlR X r) (he : PE X e te) (hl : PO X lo tl) (hu : PO X hi th) : PE X (.Subscript e (.Slice lo hi none p2) pos) (tSl r te tl th) := by
 intro pins s σ H Q I h
 refine Subscript_ (thn (he pins s σ H _ I h) fun v s1 ⟨x, H1, I1, r1, q1⟩ => ?_)
 refine wpAny_Slice (thn (hl pins s1 σ H1 _ I1 q1) fun vl s2 ⟨l, H2, I2, pl, q2⟩ => thn (hu pins s2 σ H2 _ I2 q2) fun vu s3 ⟨u, H3, I3, pu, q3⟩ => ?_)
 rw [evalPart_none]
 refine wpAny_pure ?_
 have I4 : Inv X pins σ H3 { s3 with heap := s3.heap.push { cls := .type "slice", data := .fields #[vl, vu, .none] } } := I3.kept (t' := s3.toks) fun b ob q => Heap.get?_push_of_some _ q
 obtain ⟨T, id, hT, ht, hg⟩ := hr pins { s3 with heap := s3.heap.push { cls := .type "slice", data := .fields #[vl, vu, .none] } } σ H3 x v vl vu l u s3.heap.objs.size Q I4 r1 (Heap.IsSliceOf.new ..) pl pu q3
 show wpAny (model X.prog X.w) X.A (subscriptTail e (.Slice lo hi none p2) v (.ref s3.heap.objs.size)) (EP X pins σ Q) X.xe { s3 with heap := s3.heap.push { cls := .type "slice", data := .fields #[vl, vu, .none] } }
 exact tail_any (ops := [.ref s3.heap.objs.size, v]) ht hT hg (by with_unfolding_all rfl)

noncomputable def cutV (xs : List V) (lo hi : Option Int) : List V := (xs.drop (HT.sIx xs.length 0 lo)).take (HT.sIx xs.length xs.length hi - HT.sIx xs.length 0 lo)
theorem cutV_length (xs : List V) (lo hi : Option Int) : (cutV xs lo hi).length ≤ xs.length := by
 unfold cutV
 rw [List.length_take, List.length_drop]
 omega

end
end L2

namespace L2
open PySem PySem.Spec PyProof.Rows

noncomputable def ixN (n : Nat) (i : Int) : Option Nat := if 0 ≤ i then (if i < n then some i.toNat else none) else if -(n : Int) ≤ i then some (i + n).toNat else none
noncomputable def atI {α : Type} (xs : List α) (i : Int) : Option α := (ixN xs.length i).bind fun j => xs[j]?
theorem ixN_seq {n : Nat} {i : Int} {j : Nat} (h : ixN n i = some j) : seqIndex? i n = some j ∧ j < n ∧ -(n : Int) ≤ i ∧ i < n := by
 unfold ixN at h
 by_cases h0 : 0 ≤ i
 ·rw [if_pos h0] at h
  by_cases h1 : i < n
  ·rw [if_pos h1] at h
   have e : i.toNat = j := Option.some.inj h
   exact ⟨by rw [seqIndex_of h0 h1, e], by omega, by omega, h1⟩
  ·rw [if_neg h1] at h; cases h
 ·rw [if_neg h0] at h
  by_cases h1 : -(n : Int) ≤ i
  ·rw [if_pos h1] at h
   have e : (i + n).toNat = j := Option.some.inj h
   exact ⟨by rw [seqIndex_neg (by omega) h1, e], by omega, h1, by omega⟩
  ·rw [if_neg h1] at h; cases h
theorem atI_get {α : Type} {xs : List α} {i : Int} {v : α} (h : atI xs i = some v) : ∃ j, seqIndex? i xs.length = some j ∧ xs[j]? = some v ∧ j < xs.length ∧ -(xs.length : Int) ≤ i ∧ i < xs.length := by
 unfold atI at h
 cases e : ixN xs.length i with
 | none => rw [e] at h; cases h
 | some j =>
  rw [e] at h
  obtain ⟨h1, h2, h3, h4⟩ := ixN_seq e
  exact ⟨j, h1, h, h2, h3, h4⟩

noncomputable def PlainIx (b : Expr) : Prop := ∀ o i, subscripted b false o i = operate [o, i] (getItem o i)
noncomputable def IxR (X : Cx) (r : R2) : Prop :=
 ∀ (value slice : Expr) (pins : List (Addr × Obj)) (s : Shared) (σ : St) (H : Hp) (x y : V) (v u : Value) (Q : VK), Inv X pins σ H s → RelV x v → RelV y u → r x y H Q →
  subscripted slice false v u = operate [v, u] (getItem v u) → wpAny (model X.prog X.w) X.A (subscriptTail value slice v u) (EP X pins σ Q) X.xe s
noncomputable def MtR (X : Cx) (id : String) (r : V → List V → Hp → VK → Prop) : Prop :=
 ∀ (pins : List (Addr × Obj)) (s : Shared) (σ : St) (H : Hp) (x : V) (xs : List V) (v : Value) (us : List Value) (Q : VK), Inv X pins σ H s → RelV x v → Vals xs us → r x xs H Q →
  wpAny (model X.prog X.w) X.A (call (.builtin id) (v :: us)) (EP X pins σ Q) X.xe s
section
variable {X : Cx} {a b : Expr} {ta tb : TE} {pos : Pos}
theorem pe_ix {r : R2} (hr : IxR X r) (ha : PE X a ta) (hb : PE X b tb) (hs : PlainIx b) : PE X (.Subscript a b pos) (tOp r ta tb) := by
 intro pins s σ H Q I h
 exact Subscript_ (binT ha hb I h fun v u s2 x y H2 I2 rx ry q => hr a b pins s2 σ H2 x y v u Q I2 rx ry q (hs _ _))

noncomputable def rIxL (K : PySem.W.Frag) : R2 := fun x y H Q => ∃ p xs i v, x = .ref p ∧ y = .int i ∧ SqL K H p xs ∧ atI xs i = some v ∧ Q v H
noncomputable def rIxT (K : PySem.W.Frag) : R2 := fun x y H Q => ∃ p xs i v, x = .ref p ∧ y = .int i ∧ SqT K H p xs ∧ atI xs i = some v ∧ Q v H
theorem ix_list : IxR X (rIxL X.K) := by
 intro value slice pins s σ H x y v u Q I rx ry h hs
 obtain ⟨p, xs, i, z, rfl, rfl, hq, he, q⟩ := h
 cases rx
 obtain ⟨t, rfl⟩ := ry
 obtain ⟨its, r, pl, hz⟩ := I.list hq
 obtain ⟨j, h1, h2, h3, h4, h5⟩ := atI_get he
 obtain ⟨w, ew, rw'⟩ := r.get h2
 have hl := r.length
 have hn := line63
 have fin : EP X pins σ Q w s := ⟨z, H, I, rw', q⟩
 by_cases h0 : 0 ≤ i
 ·have hj : i.toNat = j := by
   rw [seqIndex_of h0 h5] at h1
   exact Option.some.inj h1
  exact item_listR pl.isList h0 (by omega) (by rw [hj]; simpa using ew) fin hs
 ·have hj : (i + (its.toArray.size : Int)).toNat = j := by
   rw [seqIndex_neg (by omega) h4] at h1
   rw [List.size_toArray, ← hl]
   exact Option.some.inj h1
  exact subscriptTail_builtinR (x := w) pl.isList.typeIs slot_list_getitem.lookup
   (wpAny_getItem_list_neg (Q := fun r s' => r = w ∧ EP X pins σ Q r s') pl.isList (by omega) (by rw [List.size_toArray] <;> omega) (by omega) (by rw [hj]; simpa using ew) ⟨rfl, fin⟩) hs
theorem ix_tup : IxR X (rIxT X.K) := by
 intro value slice pins s σ H x y v u Q I rx ry h hs
 obtain ⟨p, xs, i, z, rfl, rfl, hq, he, q⟩ := h
 cases rx
 obtain ⟨t, rfl⟩ := ry
 obtain ⟨its, r, pl, hz⟩ := I.tuple hq
 obtain ⟨j, h1, h2, h3, h4, h5⟩ := atI_get he
 obtain ⟨w, ew, rw'⟩ := r.get h2
 have hl := r.length
 have hn := line63
 have fin : EP X pins σ Q w s := ⟨z, H, I, rw', q⟩
 exact subscriptTail_builtinR (x := w) pl.typeIs slot_tuple_getitem.lookup
  (getItem_tuple (j := j) (Q := fun r s' => r = w ∧ EP X pins σ Q r s') pl (by omega) (by omega) (by rw [List.size_toArray, ← hl]; exact h1) (by simpa using ew) ⟨rfl, fin⟩) hs

theorem mapSeq_set (its : List Value) (n j : Nat) (u : Value) : Obj.mapSeq (·.setIfInBounds j u) { cls := .type "list", data := .seq its.toArray n } = { cls := .type "list", data := .seq (its.set j u).toArray n } := by
 simp [Obj.mapSeq]
theorem Inv.lst {pins : List (Addr × Obj)} {σ : St} {H : Hp} {s : Shared} {p : Addr} {xs : List V} (I : Inv X pins σ H s) (h : H p = some (.lst xs)) :
  ∃ (its : List Value) (n : Nat), Vals xs its ∧ s.heap.get? p = some { cls := .type "list", data := .seq its.toArray n } ∧ xs.length ≤ sizeLine := by
 obtain ⟨z, its, n, r, e⟩ := I.hok p _ h
 exact ⟨its, n, r, e, z⟩
theorem Inv.lstUpd {pins : List (Addr × Obj)} {σ : St} {H : Hp} {s : Shared} {p : Addr} {xs ys : List V} {its its' : List Value} {n n' : Nat} {f : Obj → Obj} (I : Inv X pins σ H s) (h : H p = some (.lst xs))
  (ho : s.heap.get? p = some { cls := .type "list", data := .seq its.toArray n }) (hf : f { cls := .type "list", data := .seq its.toArray n } = { cls := .type "list", data := .seq its'.toArray n' }) (r : Vals ys its') (hz : ys.length ≤ sizeLine) (t : Nat) :
  Inv X pins σ (upd H p (.lst ys)) { s with heap := s.heap.update p f, toks := t } := by
 have e : (s.heap.update p f).get? p = some { cls := .type "list", data := .seq its'.toArray n' } := by
  rw [Heap.get?_update_self f ho (by rw [hf] <;> rfl), hf]
 refine I.write (x := p) (e := p) (by rw [h]; trivial) (.inl rfl) (fun b u hb q => (Heap.get?_update_other _ _ (Ne.symm hb)).trans q) ⟨_, e⟩ ?_
 exact ⟨hz, its', n', r, e⟩
noncomputable def rSetL : V → V → V → Hp → (Hp → Prop) → Prop := fun o i v H Q => ∃ p xs k j, o = .ref p ∧ i = .int k ∧ H p = some (.lst xs) ∧ ixN xs.length k = some j ∧ Q (upd H p (.lst (xs.set j v)))
theorem set_list : PSet X rSetL := by
 intro pins s σ H o i v ov iv u Q I ro ri rv h
 obtain ⟨p, xs, k, j, rfl, rfl, hp, hj, q⟩ := h
 cases ro
 obtain ⟨t, rfl⟩ := ri
 obtain ⟨its, n, r, ho, hz⟩ := I.lst hp
 obtain ⟨h1, h2, h3, h4⟩ := ixN_seq hj
 have hl := r.length
 have hn := line63
 have I' : Inv X pins σ (upd H p (.lst (xs.set j v))) { s with heap := s.heap.update p (Obj.mapSeq (·.setIfInBounds j u)) } :=
  I.lstUpd hp ho (mapSeq_set its n j u) (r.set rv j) (by rw [List.length_set]; exact hz) s.toks
 by_cases h0 : 0 ≤ k
 ·have hk : k.toNat = j := by
   rw [seqIndex_of h0 h4] at h1
   exact Option.some.inj h1
  exact PySem.W.ki_setAt ho h0 (by omega) (by rw [List.size_toArray, ← hl]; exact h4) (by rw [hk]; exact ⟨_, I', q⟩)
 ·have hk : (k + (its.toArray.size : Int)).toNat = j := by
   rw [seqIndex_neg (by omega) h3] at h1
   rw [List.size_toArray, ← hl]
   exact Option.some.inj h1
  exact PySem.W.ki_setBack ho (by omega) (by rw [List.size_toArray, ← hl]; exact h3) (by omega) (by rw [hk]; exact ⟨_, I', q⟩)

theorem slice_bounds (lo hi : Option Int) (n : Nat) : (sliceBounds lo hi none n).1 = ((HT.sIx n 0 lo : Nat) : Int) ∧ (sliceBounds lo hi none n).2.1 = ((HT.sIx n n hi : Nat) : Int) ∧ (sliceBounds lo hi none n).2.2 = 1 := by
 refine ⟨?_, ?_, rfl⟩
 ·cases lo with
  | none => simp [sliceBounds, HT.sIx]
  | some i =>
   simp only [sliceBounds, HT.sIx, Option.getD_none, show (1 : Int) > 0 by decide, if_true]
   by_cases h : i < 0
   ·simp only [h, if_true] <;> omega
   ·simp only [h, if_false] <;> omega
 ·cases hi with
  | none => simp [sliceBounds, HT.sIx]
  | some i =>
   simp only [sliceBounds, HT.sIx, Option.getD_none, show (1 : Int) > 0 by decide, if_true]
   by_cases h : i < 0
   ·simp only [h, if_true] <;> omega
   ·simp only [h, if_false] <;> omega
theorem slicePick_cut (its : List Value) (lo hi : Option Int) : slicePick its.toArray lo hi none = ((its.drop (HT.sIx its.length 0 lo)).take (HT.sIx its.length its.length hi - HT.sIx its.length 0 lo)).toArray := by
 obtain ⟨h1, h2, h3⟩ := slice_bounds lo hi its.toArray.size
 unfold slicePick
 rw [h1, h2, h3]
 simp only [sliceRange_one, pick_run, List.size_toArray] <;> rfl
noncomputable def rSlL (K : PySem.W.Frag) : V → Option Int → Option Int → Hp → VK → Prop := fun x lo hi H Q => ∃ a xs, x = .ref a ∧ SqL K H a xs ∧ ∀ p, H p = none → Q (.ref p) (upd H p (.lst (cutV xs lo hi)))
theorem sl_list : SlR X (rSlL X.K) := by
 intro pins s σ H x v vl vu lo hi sl Q I rx hs pl pu h
 obtain ⟨a, xs, rfl, hx, q⟩ := h
 cases rx
 obtain ⟨its, r, ht, hz⟩ := I.list hx
 have hlen := r.length
 refine ⟨"list", _, slot_list_getitem.lookup, ht.isList.typeIs, ?_⟩
 refine wpAny_getItem_list_slice ht.isList hs pl pu .none (by simp) ?_ (by rw [List.size_toArray] <;> omega)
 rw [slicePick_cut, ← hlen]
 refine ⟨.ref s.heap.objs.size, _, I.laid (t' := s.toks) (o := .lst (cutV xs lo hi)) (fun b ob q => Heap.get?_push_of_some _ q) (Nat.le_refl _) ?_, rfl, q _ (I.hok.fresh (Nat.le_refl _))⟩
 exact ⟨Nat.le_trans (cutV_length xs lo hi) hz, _, 0, (r.drop (HT.sIx xs.length 0 lo)).take (HT.sIx xs.length xs.length hi - HT.sIx xs.length 0 lo), Heap.get?_push_size _ rfl⟩

noncomputable def flatV : V → Bool
 | .non => true
 | .bl _ => true
 | .int _ => true
 | .str _ => true
 | _ => false
noncomputable def eqV : V → V → Bool
 | .non, .non => true
 | .bl a, .bl b => a == b
 | .bl a, .int b => (if a then 1 else 0) == b
 | .int a, .bl b => a == (if b then 1 else 0)
 | .int a, .int b => a == b
 | .str a, .str b => a == b
 | _, _ => false
theorem eqAt_V {A : Around} {s : Shared} {y x : V} {u v : Value} (ry : RelV y u) (rx : RelV x v) (fy : flatV y = true) (fx : flatV x = true) : SeqAt.EqAt A s u v (eqV y x) := by
 cases y with
 | non =>
  cases ry
  cases x with
  | non => cases rx; exact SeqAt.EqAt.same _
  | bl b => cases rx; exact SeqAt.EqAt.none_bool b
  | int b => obtain ⟨t, rfl⟩ := rx; exact SeqAt.EqAt.none_int b t
  | str b => obtain ⟨t, rfl⟩ := rx; exact SeqAt.EqAt.none_str b t
  | _ => exact absurd (show false = true from fx) Bool.false_ne_true
 | bl a =>
  cases ry
  cases x with
  | non => cases rx; exact SeqAt.EqAt.bool_none a
  | bl b => cases rx; exact SeqAt.EqAt.bool_bool a b
  | int b => obtain ⟨t, rfl⟩ := rx; exact SeqAt.EqAt.bool_int a b t
  | str b => obtain ⟨t, rfl⟩ := rx; exact SeqAt.EqAt.bool_str a b t
  | _ => exact absurd (show false = true from fx) Bool.false_ne_true
 | int a =>
  obtain ⟨t', rfl⟩ := ry
  cases x with
  | non => cases rx; exact SeqAt.EqAt.int_none a t'
  | bl b => cases rx; exact SeqAt.EqAt.int_bool a t' b
  | int b => obtain ⟨t, rfl⟩ := rx; exact SeqAt.EqAt.int_int a t' b t
  | str b => obtain ⟨t, rfl⟩ := rx; exact SeqAt.EqAt.int_str a t' b t
  | _ => exact absurd (show false = true from fx) Bool.false_ne_true
 | str a =>
  obtain ⟨t', rfl⟩ := ry
  cases x with
  | non => cases rx; exact SeqAt.EqAt.str_none a t'
  | bl b => cases rx; exact SeqAt.EqAt.str_bool a t' b
  | int b => obtain ⟨t, rfl⟩ := rx; exact SeqAt.EqAt.str_int a t' b t
  | str b => obtain ⟨t, rfl⟩ := rx; exact SeqAt.EqAt.str_str a t' b t
  | _ => exact absurd (show false = true from fx) Bool.false_ne_true
 | _ => exact absurd (show false = true from fy) Bool.false_ne_true
noncomputable def eqU (x : V) (u : Value) : Bool := match u with
 | .none => eqV .non x
 | .bool b => eqV (.bl b) x
 | .int i _ => eqV (.int i) x
 | .str z _ => eqV (.str z) x
 | _ => false
theorem eqU_of {x y : V} {u : Value} (r : RelV y u) (f : flatV y = true) : eqU x u = eqV y x := by
 cases y with
 | non => cases r; rfl
 | bl b => cases r; rfl
 | int i => obtain ⟨t, rfl⟩ := r; rfl
 | str z => obtain ⟨t, rfl⟩ := r; rfl
 | _ => exact absurd (show false = true from f) Bool.false_ne_true
theorem any_eqU {x : V} : ∀ {xs : List V} {us : List Value}, Vals xs us → xs.all flatV = true → us.any (eqU x) = xs.any fun y => eqV y x
 | _, _, .nil, _ => rfl
 | y :: xs, u :: us, .cons r t, f => by
  rw [List.all_cons, Bool.and_eq_true] at f
  rw [List.any_cons, List.any_cons, eqU_of r f.1, any_eqU t f.2]
theorem mem_eqAt {A : Around} {s : Shared} {x : V} {v : Value} (rx : RelV x v) (fx : flatV x = true) : ∀ {xs : List V} {us : List Value}, Vals xs us → xs.all flatV = true → ∀ u ∈ us, SeqAt.EqAt A s u v (eqU x u)
 | _, _, .nil, _ => fun u hu => by cases hu
 | y :: xs, u :: us, .cons r t, f => fun u' hu => by
  rw [List.all_cons, Bool.and_eq_true] at f
  rcases List.mem_cons.mp hu with rfl | hu
  ·rw [eqU_of r f.1]; exact eqAt_V r rx f.1 fx
  ·exact mem_eqAt rx fx t f.2 u' hu
noncomputable def inV (x : V) (xs : List V) : Bool := xs.any fun y => eqV y x
noncomputable def rIn (K : PySem.W.Frag) (neg : Bool) : R2 := fun x y H Q => ∃ p xs, y = .ref p ∧ (SqL K H p xs ∨ SqT K H p xs) ∧ flatV x = true ∧ xs.all flatV = true ∧ Q (.bl (if neg then !inV x xs else inV x xs)) H
theorem op_in_seq : OpR X (compareOp .In) (rIn X.K false) := by
 intro pins s σ H x y v u Q I rx ry h
 obtain ⟨p, xs, rfl, hq, fx, fs, q⟩ := h
 cases ry
 rcases hq with hq | hq
 ·obtain ⟨its, r, pl, hz⟩ := I.list hq
  refine SeqAt.in_listAt (eqU x) pl.isList (fun w hw => mem_eqAt rx fx r fs w (by simpa using hw)) ⟨.bl _, H, I, rfl, ?_⟩
  rw [show its.toArray.any (eqU x) = its.any (eqU x) by simp, any_eqU r fs]
  exact q
 ·obtain ⟨its, r, pl, hz⟩ := I.tuple hq
  refine SeqAt.in_tupleAt (eqU x) pl (fun w hw => mem_eqAt rx fx r fs w (by simpa using hw)) ⟨.bl _, H, I, rfl, ?_⟩
  rw [show its.toArray.any (eqU x) = its.any (eqU x) by simp, any_eqU r fs]
  exact q
theorem op_notIn_seq : OpR X (compareOp .NotIn) (rIn X.K true) := by
 intro pins s σ H x y v u Q I rx ry h
 obtain ⟨p, xs, rfl, hq, fx, fs, q⟩ := h
 cases ry
 rcases hq with hq | hq
 ·obtain ⟨its, r, pl, hz⟩ := I.list hq
  refine SeqAt.notIn_listAt (eqU x) pl.isList (fun w hw => mem_eqAt rx fx r fs w (by simpa using hw)) ⟨.bl _, H, I, rfl, ?_⟩
  rw [show its.toArray.any (eqU x) = its.any (eqU x) by simp, any_eqU r fs]
  exact q
 ·obtain ⟨its, r, pl, hz⟩ := I.tuple hq
  refine SeqAt.notIn_tupleAt (eqU x) pl (fun w hw => mem_eqAt rx fx r fs w (by simpa using hw)) ⟨.bl _, H, I, rfl, ?_⟩
  rw [show its.toArray.any (eqU x) = its.any (eqU x) by simp, any_eqU r fs]
  exact q

theorem call_len_seq : CallR X (.builtin "len") (fun xs H Q => ∃ p ys, xs = [.ref p] ∧ (SqL X.K H p ys ∨ SqT X.K H p ys) ∧ Q (.int ys.length) H) := by
 intro pins s σ H xs us Q I r h
 obtain ⟨p, ys, rfl, hq, q⟩ := h
 obtain ⟨u, rfl, rx⟩ := vals1 r
 cases rx
 have hn := line63
 rcases hq with hq | hq
 ·obtain ⟨its, r', pl, hz⟩ := I.list hq
  have hlen := r'.length
  exact Calls.call_len_list pl.isList (by simp only [List.size_toArray] <;> omega) ⟨.int ys.length, H, I.tok _, ⟨s.toks + 1, by rw [List.size_toArray, hlen]⟩, q⟩
 ·obtain ⟨its, r', pl, hz⟩ := I.tuple hq
  have hlen := r'.length
  exact len_tuple pl (by simp only [List.size_toArray] <;> omega) ⟨.int ys.length, H, I.tok _, ⟨s.toks + 1, by rw [List.size_toArray, hlen]⟩, q⟩
theorem call_list_of : CallR X (.type "list") (fun xs H Q => ∃ p ys, xs = [.ref p] ∧ (SqL X.K H p ys ∨ SqT X.K H p ys) ∧ ∀ l, H l = none → Q (.ref l) (upd H l (.lst ys))) := by
 intro pins s σ H xs us Q I r h
 obtain ⟨p, ys, rfl, hq, q⟩ := h
 obtain ⟨u, rfl, rx⟩ := vals1 r
 cases rx
 have fin : ∀ (its : List Value), Vals ys its → ys.length ≤ sizeLine → ∀ (h' : Heap) (c' : Nat), (∀ b o', s.heap.get? b = some o' → h'.get? b = some o') →
   h'.get? s.heap.objs.size = some { cls := .type "list", dict := none, data := .seq its.toArray c', slots := #[] } → EP X pins σ Q (.ref s.heap.objs.size) { s with heap := h' } := fun its r' hz h' c' kp e =>
  ⟨.ref s.heap.objs.size, _, I.laid (t' := s.toks) kp (Nat.le_refl _) (show ObjOk X.prog X.w _ h' _ (.lst ys) from ⟨hz, its, c', r', e⟩), rfl, q _ (I.hok.fresh (Nat.le_refl _))⟩
 rcases hq with hq | hq
 ·obtain ⟨its, r', pl, hz⟩ := I.list hq
  have hlen := r'.length
  obtain ⟨o, ho, hc, n, hd⟩ := pl.isList
  exact call_list_seq p (.inl rfl) ho hc hd (fun h' c' kp e => fin its r' hz h' c' kp e) (by simp only [List.size_toArray] <;> omega)
 ·obtain ⟨its, r', pl, hz⟩ := I.tuple hq
  have hlen := r'.length
  obtain ⟨o, ho, hc, n, hd⟩ := pl
  exact call_list_seq p (.inr rfl) ho hc hd (fun h' c' kp e => fin its r' hz h' c' kp e) (by simp only [List.size_toArray] <;> omega)

noncomputable def tyV (K : PySem.W.Frag) (T : String) (x : V) (H : Hp) : Prop := match x with
 | .str _ => T = "str"
 | .int _ => T = "int"
 | .ref p => (T = "list" ∧ ∃ xs, SqL K H p xs) ∨ (T = "tuple" ∧ ∃ o, K.lookup p = some o ∧ o.cls = .type "tuple" ∧ o.dict = none) ∨
   (T = "dict" ∧ ((∃ kvs, H p = some (.dK kvs)) ∨ ∃ kvs, H p = some (.dT kvs))) ∨ (T = "set" ∧ ∃ S n, H p = some (.set S n))
 | _ => False
theorem tyV_is {pins : List (Addr × Obj)} {σ : St} {H : Hp} {s : Shared} {T : String} {x : V} {v : Value} (I : Inv X pins σ H s) (r : RelV x v) (ty : tyV X.K T x H) :
  s.TypeIs v T ∧ ∀ a, v = .ref a → ∃ ob, s.heap.get? a = some ob ∧ ob.dict = none := by
 cases x with
 | str z =>
  obtain ⟨t, rfl⟩ := r
  cases (show T = "str" from ty)
  exact ⟨typeIs_str s z t, fun _ e => nomatch e⟩
 | int i =>
  obtain ⟨t, rfl⟩ := r
  cases (show T = "int" from ty)
  exact ⟨typeIs_int s i t, fun _ e => nomatch e⟩
 | ref p =>
  cases r
  rcases ty with ⟨rfl, xs, hq⟩ | ⟨rfl, o, hk, hc, hd⟩ | ⟨rfl, hk⟩ | ⟨rfl, S, n, hk⟩
  ·obtain ⟨its, _, pl, _⟩ := I.list hq
   refine ⟨pl.isList.typeIs, fun a e => ?_⟩
   cases e
   obtain ⟨o, n, e, c, hd, _⟩ := pl
   exact ⟨o, e, hd⟩
  ·refine ⟨⟨o, I.kIn p o hk, hc⟩, fun a e => ?_⟩
   cases e
   exact ⟨o, I.kIn _ o hk, hd⟩
  ·have z : ∃ o, s.heap.get? p = some o ∧ o.ExactDict := by
    rcases hk with ⟨kvs, hk⟩ | ⟨kvs, hk⟩
    ·obtain ⟨_, _, _, _, o, _, _, e, ex, _⟩ := I.hok p _ hk
     exact ⟨o, e, ex⟩
    ·obtain ⟨_, _, _, _, o, _, _, e, ex, _⟩ := I.hok p _ hk
     exact ⟨o, e, ex⟩
   obtain ⟨o, e, ex⟩ := z
   refine ⟨⟨o, e, ex.1⟩, fun a e2 => ?_⟩
   cases e2
   exact ⟨o, e, ex.2.1⟩
  ·obtain ⟨o, _, _, _, e, ex, _⟩ := I.hok p _ hk
   refine ⟨⟨o, e, ex.1⟩, fun a e2 => ?_⟩
   cases e2
   exact ⟨o, e, ex.2.1⟩
 | _ => exact False.elim ty
noncomputable def tBM0 (K : PySem.W.Frag) (T : String) (r : V → List V → Hp → VK → Prop) (to : TE) : TE := fun σ H Q => to σ H fun x H1 => tyV K T x H1 ∧ r x [] H1 Q
noncomputable def tBM (K : PySem.W.Frag) (T : String) (r : V → List V → Hp → VK → Prop) (to : TE) (t : TA) : TE := fun σ H Q => to σ H fun x H1 => tyV K T x H1 ∧ t σ H1 fun xs H2 => r x xs H2 Q
variable {o e : Expr} {es : List Expr} {to : TE} {t : TA} {name : Str} {apos cpos : Pos} {T id : String} {r : V → List V → Hp → VK → Prop}
theorem pe_bm0 (pa : PlainAttrs T) (slot : Slot T name id) (hty : typeOf (.builtin id) = pure (.type "method_descriptor")) (hm : MtR X id r) (ho : PE X o to)
  (hbase : attributeBase o name X.env (eval o X.env) = eval o X.env := by rfl) (hline : (apos.endLine == cpos.line) = true := by rfl) : PE X (.Call (.Attribute o name apos) [] [] cpos) (tBM0 X.K T r to) := by
 intro pins s σ H Q I h
 refine wpAny_Call_method0_late hbase hline (thn (ho pins s σ H _ I h) fun v s1 ⟨x, H1, I1, r1, ty, q1⟩ => ?_)
 obtain ⟨h1, h2⟩ := tyV_is I1 r1 ty
 exact ⟨T, id, pa, slot, hty, h1, h2, Calls.callWith_builtin rfl (PySem.evalArgs_none (hm pins s1 σ H1 x [] v [] Q I1 r1 .nil q1))⟩
theorem pe_bm (pa : PlainAttrs T) (slot : Slot T name id) (hty : typeOf (.builtin id) = pure (.type "method_descriptor")) (hm : MtR X id r) (ho : PE X o to) (ha : PA X (e :: es) t)
  (hbase : attributeBase o name X.env (eval o X.env) = eval o X.env := by rfl)
  (hfew : ((backTo cpos (starEach (e :: es) X.env)).all (fun x => !x.1) && (backToKw cpos (keywordEach [] X.env)).all (fun x => x.1.isSome)
   && decide ((e :: es).length + ([] : List Keyword).length + (if ([] : List Keyword).isEmpty then 0 else 1) < 30)) = true := by rfl)
  (hline : (apos.endLine == cpos.line) = true := by rfl) (hs : starEach (e :: es) X.env = (false, eval e X.env) :: starEach es X.env := by rfl) (hplain : (backTo cpos (starEach es X.env)).any (·.1) = false := by rfl) :
  PE X (.Call (.Attribute o name apos) (e :: es) [] cpos) (tBM X.K T r to t) := by
 intro pins s σ H Q I h
 refine wpAny_Call_method_late hbase hfew hline rfl (thn (ho pins s σ H _ I h) fun v s1 ⟨x, H1, I1, r1, ty, q1⟩ => ?_)
 obtain ⟨h1, h2⟩ := tyV_is I1 r1 ty
 refine ⟨T, id, pa, slot, hty, h1, h2, ?_⟩
 have hA := ha cpos pins s1 σ H1 _ I1 q1
 rw [hs] at hA ⊢
 refine Calls.callWith_builtin (by show (false || (backTo cpos (starEach es X.env)).any (·.1)) = false; rw [hplain] <;> rfl) (Calls.evalArgs_plain ?_)
 exact thn hA fun us s2 ⟨vs, H2, I2, r2, q2⟩ => hm pins s2 σ H2 x vs v us Q I2 r1 r2 q2
/- xs.append(e), list.index on a module's tuple .. are MtR facts of 06m -/
end
end L2

namespace L2
open PySem PySem.Spec PyProof.Rows

noncomputable def MtM (X : Cx) (id : String) (r : V → List V → Hp → VK → Prop) : Prop :=
 ∀ (pins : List (Addr × Obj)) (s : Shared) (σ : St) (H : Hp) (x : V) (xs : List V) (v : Value) (us : List Value) (Q : VK), Inv X pins σ H s → RelV x v → Vals xs us → r x xs H Q →
  wpAny (model X.prog X.w) X.A (call (.builtin id) (v :: us)) (EP X pins σ Q) X.xe s

theorem Vals.one : ∀ {x : V} {us : List Value}, Vals [x] us → ∃ u, us = [u] ∧ RelV x u
 | _, _, .cons r .nil => ⟨_, rfl, r⟩
theorem Vals.reverse {xs : List V} {us : List Value} (h : Vals xs us) : Vals xs.reverse us.reverse := by
 induction h with
 | nil => exact .nil
 | cons r t ih => rw [List.reverse_cons, List.reverse_cons]; exact Vals.append ih (.cons r .nil)

section
variable {X : Cx} {pins : List (Addr × Obj)} {σ : St} {H : Hp} {s : Shared} {l b : Addr} {xs ys zs : List V}

theorem Inv.lset {its its' : List Value} {n : Nat} {f : Array Value → Array Value} {t' : Nat} (I : Inv X pins σ H s) (hH : H l = some (.lst xs))
  (e : s.heap.get? l = some { cls := .type "list", data := .seq its.toArray n }) (hf : f its.toArray = its'.toArray) (hv : Vals ys its') (hz : ys.length ≤ sizeLine) :
  Inv X pins σ (upd H l (.lst ys)) { s with heap := s.heap.update l (Obj.mapSeq f), toks := t' } := by
 have q := PySem.IsL.update e f
 rw [hf] at q
 refine I.write (x := l) (e := l) (by rw [hH]; exact trivial) (.inl rfl) (fun b' u hb hu => (Heap.get?_update_other s.heap (Obj.mapSeq f) (Ne.symm hb)).trans hu) ⟨_, q⟩ ?_
 exact ⟨hz, its', _, hv, q⟩
theorem Inv.fresh (I : Inv X pins σ H s) : H s.heap.objs.size = none := I.hok.fresh (Nat.le_refl _)
theorem Inv.lstM (I : Inv X pins σ H s) (hH : H l = some (.lst xs)) : xs.length ≤ sizeLine ∧ ∃ (its : List Value) (n : Nat), Vals xs its ∧ xs.length = its.length ∧ s.heap.get? l = some { cls := .type "list", data := .seq its.toArray n } := by
 obtain ⟨z, its, n, r, e⟩ := I.hok l _ hH
 exact ⟨z, its, n, r, r.length, e⟩

end

section
variable {X : Cx}

noncomputable def rAppend : V → List V → Hp → VK → Prop := fun x vs H Q => ∃ l xs y, x = .ref l ∧ vs = [y] ∧ H l = some (.lst xs) ∧ xs.length < sizeLine ∧ Q .non (upd H l (.lst (xs ++ [y])))
theorem mt_append : MtM X "list.append" rAppend := by
 intro pins s σ H x vs v us Q I rx rv h
 obtain ⟨l, xs, y, rfl, rfl, hH, hz, q⟩ := h
 cases rx
 obtain ⟨u, rfl, ru⟩ := rv.one
 obtain ⟨z, its, n, r, hl, e⟩ := I.lstM hH
 refine call_meets F.slot_list_append ⟨_, e, rfl⟩ F.entry_list_append (F.args_list_append_2 _ _) (PySem.list_append l its.toArray n u (by rw [List.size_toArray]; omega)) ⟨e, ?_⟩
 refine ⟨.non, _, I.lset (its' := its ++ [u]) hH e (by simp) (r.append (.cons ru .nil)) ?_, rfl, q⟩
 rw [List.length_append, List.length_singleton]
 omega







end

section
variable {prog : Program} {w : World} {A : Around} {E : Value → Shared → Prop} {s : Shared}
end

section
variable {X : Cx}
end
end L2
namespace L2
open PySem PySem.Spec PyProof.Rows

section
variable {κ : Type} [DecidableEq κ]
noncomputable def valV (kvs : List (κ × V)) (k : κ) : Option V := (kvs.find? fun kv => decide (kv.1 = k)).map (·.2)
noncomputable def putK (kvs : List (κ × V)) (k : κ) (v : V) : List (κ × V) :=
 if (kvs.any fun kv => decide (kv.1 = k)) = true then kvs.map (fun kv => if kv.1 = k then (kv.1, v) else kv) else kvs ++ [(k, v)]

theorem valV_pos {p : κ × V} {r : List (κ × V)} {k : κ} (e : p.1 = k) : valV (p :: r) k = some p.2 := by simp [valV, List.find?_cons, e]
theorem valV_neg {p : κ × V} {r : List (κ × V)} {k : κ} (e : ¬ p.1 = k) : valV (p :: r) k = valV r k := by simp [valV, List.find?_cons, e]
theorem valV_any (k : κ) : ∀ kvs : List (κ × V), (kvs.any fun kv => decide (kv.1 = k)) = (valV kvs k).isSome
 | [] => rfl
 | p :: r => by
  rw [List.any_cons]
  by_cases e : p.1 = k
  ·simp only [valV_pos e, decide_eq_true e, Bool.true_or, Option.isSome_some]
  ·rw [valV_neg e, decide_eq_false e, Bool.false_or]; exact valV_any k r
theorem length_putK (kvs : List (κ × V)) (k : κ) (v : V) : (putK kvs k v).length ≤ kvs.length + 1 := by
 unfold putK
 split
 ·rw [List.length_map]; omega
 ·rw [List.length_append, List.length_cons, List.length_nil]; omega

theorem RelO.isSome_eq {o : Option V} {u : Option Value} (r : RelO o u) : o.isSome = u.isSome := by
 cases o with
 | none => cases u with
  | none => rfl
  | some _ => exact (show False from r).elim
 | some _ => cases u with
  | none => exact (show False from r).elim
  | some _ => rfl
theorem RelO.getD {o : Option V} {u : Option Value} {d : V} {d' : Value} (r : RelO o u) (rd : RelV d d') : RelV (o.getD d) (u.getD d') := by
 cases o with
 | none => cases u with
  | none => exact rd
  | some _ => exact (show False from r).elim
 | some _ => cases u with
  | none => exact (show False from r).elim
  | some _ => exact r

theorem KV.val {kvs : List (κ × V)} {vs : List (κ × Value)} (r : KV kvs vs) (k : κ) : RelO (valV kvs k) (valueAt vs k) := by
 unfold KV at r
 induction r with
 | nil => exact True.intro
 | @cons p q ps qs h t ih =>
  obtain ⟨h1, h2⟩ := h
  by_cases e : p.1 = k
  ·have e' : q.1 = k := h1.symm.trans e
   have b : valueAt (q :: qs) k = some q.2 := by simp [valueAt, List.find?_cons, e']
   rw [valV_pos e, b]; exact h2
  ·have e' : ¬ q.1 = k := fun z => e (h1.trans z)
   have b : valueAt (q :: qs) k = valueAt qs k := by simp [valueAt, List.find?_cons, e']
   rw [valV_neg e, b]; exact ih
theorem KV.any {kvs : List (κ × V)} {vs : List (κ × Value)} (r : KV kvs vs) (k : κ) : (kvs.any fun kv => decide (kv.1 = k)) = vs.any fun kv => decide (kv.1 = k) := by
 unfold KV at r
 induction r with
 | nil => rfl
 | cons h t ih => rw [List.any_cons, List.any_cons, ih, h.1]
theorem KV.repl {kvs : List (κ × V)} {vs : List (κ × Value)} (r : KV kvs vs) (k : κ) {y : V} {u : Value} (ry : RelV y u) :
  KV (kvs.map fun kv => if kv.1 = k then (kv.1, y) else kv) (vs.map fun kv => if kv.1 = k then (kv.1, u) else kv) := by
 unfold KV at r ⊢
 induction r with
 | nil => exact .nil
 | @cons p q ps qs h t ih =>
  rw [List.map_cons, List.map_cons]
  refine .cons ?_ ih
  obtain ⟨h1, h2⟩ := h
  by_cases e : p.1 = k
  ·rw [if_pos e, if_pos (h1.symm.trans e)]; exact ⟨h1, ry⟩
  ·rw [if_neg e, if_neg (fun z => e (h1.trans z))]; exact ⟨h1, h2⟩
theorem KV.put {kvs : List (κ × V)} {vs : List (κ × Value)} (r : KV kvs vs) (k : κ) {y : V} {u : Value} (ry : RelV y u) : KV (putK kvs k y) (stored vs k u) := by
 unfold putK stored
 rw [r.any k]
 by_cases e : (vs.any fun kv => decide (kv.1 = k)) = true
 ·rw [if_pos e, if_pos e]; exact r.repl k ry
 ·rw [if_neg e, if_neg e]; exact Paired.snoc r ⟨rfl, ry⟩
theorem KV.keys {kvs : List (κ × V)} {vs : List (κ × Value)} (r : KV kvs vs) : kvs.map (·.1) = vs.map (·.1) := by
 unfold KV at r
 induction r with
 | nil => rfl
 | cons h t ih => rw [List.map_cons, List.map_cons, ih, h.1]
theorem KV.length {kvs : List (κ × V)} {vs : List (κ × Value)} (r : KV kvs vs) : kvs.length = vs.length := Paired.length r
end


theorem kV_is {P : Program} {w : World} {k : Key} {u : Value} (r : RelV (kV k) u) : (mixKind P w).is k u = true := by
 cases k with
 | inl i => obtain ⟨t, e⟩ := (show ∃ t, u = Value.int i t from r); subst e; exact mixKind_int P w i t
 | inr x => obtain ⟨t, e⟩ := (show ∃ t, u = Value.str x t from r); subst e; exact mixKind_str P w x t
theorem items_are {P : Program} {w : World} : ∀ {ks : List Key} {us : List Value}, Vals (ks.map kV) us → ItemsAre (mixKind P w) ks us
 | [], _, r => by rw [List.map_nil] at r; cases r; exact .nil
 | k :: ks, _, r => by
  rw [List.map_cons] at r
  cases r with
  | cons h t => exact .cons (kV_is h) (items_are t)

noncomputable abbrev KT (H : Hp) : List (List Key × V) → List (List Key × Addr × Value) → Prop := Paired fun p q => p.1 = q.1 ∧ H q.2.1 = some (.tup (p.1.map kV)) ∧ RelV p.2 q.2.2
theorem KT.val {H : Hp} {kvs : List (List Key × V)} {xs : List (List Key × Addr × Value)} (r : KT H kvs xs) (k : List Key) : RelO (valV kvs k) ((atKey xs k).map (·.2)) := by
 induction r with
 | nil => exact True.intro
 | @cons p q ps qs h t ih =>
  obtain ⟨h1, _, h2⟩ := h
  by_cases e : p.1 = k
  ·have e' : q.1 = k := h1.symm.trans e
   have b : atKey (q :: qs) k = some q.2 := by simp [atKey, List.find?_cons, e']
   rw [valV_pos e, b]; exact h2
  ·have e' : ¬ q.1 = k := fun z => e (h1.trans z)
   have b : atKey (q :: qs) k = atKey qs k := by simp [atKey, List.find?_cons, e']
   rw [valV_neg e, b]; exact ih
theorem KT.repl {H : Hp} {kvs : List (List Key × V)} {xs : List (List Key × Addr × Value)} (r : KT H kvs xs) (k : List Key) {y : V} {u : Value} (ry : RelV y u) :
  KT H (kvs.map fun kv => if kv.1 = k then (kv.1, y) else kv) (xs.map (putAt k u)) := by
 induction r with
 | nil => exact .nil
 | @cons p q ps qs h t ih =>
  rw [List.map_cons, List.map_cons]
  refine .cons ?_ ih
  obtain ⟨h1, h2, h3⟩ := h
  unfold putAt
  by_cases e : p.1 = k
  ·rw [if_pos e, if_pos (h1.symm.trans e)]; exact ⟨h1, h2, ry⟩
  ·rw [if_neg e, if_neg (fun z => e (h1.trans z))]; exact ⟨h1, h2, h3⟩
theorem KT.put {H : Hp} {kvs : List (List Key × V)} {xs : List (List Key × Addr × Value)} (r : KT H kvs xs) (k : List Key) {b : Addr} {y : V} {u : Value} (hb : H b = some (.tup (k.map kV))) (ry : RelV y u) :
  KT H (putK kvs k y) (storedH xs k b u) := by
 have e : (kvs.any fun kv => decide (kv.1 = k)) = (atKey xs k).isSome := by
  rw [valV_any, (r.val k).isSome_eq, Option.isSome_map]
 unfold putK storedH
 rw [e]
 by_cases q : (atKey xs k).isSome = true
 ·rw [if_pos q, if_pos q]; exact r.repl k ry
 ·rw [if_neg q, if_neg q]; exact Paired.snoc r ⟨rfl, hb, ry⟩
theorem KT.keeps {H H' : Hp} {kvs : List (List Key × V)} {xs : List (List Key × Addr × Value)} (r : KT H kvs xs) (ht : ∀ b ys, H b = some (.tup ys) → H' b = some (.tup ys)) : KT H' kvs xs :=
 Paired.mapP r fun _ _ z => ⟨z.1, ht _ _ z.2.1, z.2.2⟩

section
variable {P : Program} {w : World} {H : Hp} {h : Heap} {a : Addr}
theorem rd_of {u : HO} (ok : HOk P w H h) (e : Rd H a u) : ObjOk P w H h a u := e.ok ok
theorem dk_rd {kvs : List (Key × V)} (ok : HOk P w H h) (e : Rd H a (.dK kvs)) : kvs.length ≤ sizeLine ∧ (a == sysModules) = false ∧ ∃ vs, KV kvs vs ∧ h.DictOf (mixKind P w) a vs :=
 show ObjOk P w H h a (.dK kvs) from rd_of ok e
theorem dk_of {kvs : List (Key × V)} (ok : HOk P w H h) (e : H a = some (.dK kvs)) : kvs.length ≤ sizeLine ∧ (a == sysModules) = false ∧ ∃ vs, KV kvs vs ∧ h.DictOf (mixKind P w) a vs := dk_rd ok (.inl e)
theorem key_of {ks : List Key} (ok : HOk P w H h) (e : H a = some (.tup (ks.map kV))) : (tupleKind (mixKind P w)).is h ks a := by
 obtain ⟨_, its, r, o, h1, h2, n, h3⟩ := (show ObjOk P w H h a (.tup (ks.map kV)) from ok a _ e)
 exact ⟨o, its.toArray, n, h1, h2, h3, by simpa using items_are r⟩
theorem dt_rd {kvs : List (List Key × V)} (ok : HOk P w H h) (e : Rd H a (.dT kvs)) : kvs.length ≤ sizeLine ∧ (a == sysModules) = false ∧
  ∃ xs, KT H kvs xs ∧ h.DictOfH (tupleKind (mixKind P w)) a xs := by
 obtain ⟨z, y, xs, r, o, es, ep, h1, h2, h3, h4, h5⟩ := (show ObjOk P w H h a (.dT kvs) from rd_of ok e)
 refine ⟨z, y, xs, r, o, es, ep, h1, h2, h3, h4, fun x hx => ?_, h5⟩
 have all : ∀ {l : List (List Key × V)} {m : List (List Key × Addr × Value)}, KT H l m → ∀ x ∈ m, (tupleKind (mixKind P w)).is h x.1 x.2.1 := by
  intro l m q
  induction q with
  | nil => intro x hx; exact nomatch hx
  | @cons p q ps qs hq t ih =>
   intro x hx
   rcases List.mem_cons.mp hx with e | hx
   ·subst e
    exact key_of ok (by rw [← hq.1]; exact hq.2.1)
   ·exact ih x hx
 exact all r x hx
theorem dt_of {kvs : List (List Key × V)} (ok : HOk P w H h) (e : H a = some (.dT kvs)) : kvs.length ≤ sizeLine ∧ (a == sysModules) = false ∧
  ∃ xs, KT H kvs xs ∧ h.DictOfH (tupleKind (mixKind P w)) a xs := dt_rd ok (.inl e)
end

noncomputable def DGet (H : Hp) (a : Addr) (y : V) (r : Option V) : Prop :=
 (∃ kvs k, Rd H a (.dK kvs) ∧ y = kV k ∧ r = valV kvs k) ∨ ∃ kvs k b, Rd H a (.dT kvs) ∧ y = .ref b ∧ H b = some (.tup (k.map kV)) ∧ r = valV kvs k
noncomputable def DPut (H : Hp) (a : Addr) (y v : V) (H' : Hp) : Prop :=
 (∃ kvs k, H a = some (.dK kvs) ∧ y = kV k ∧ kvs.length < sizeLine ∧ H' = upd H a (.dK (putK kvs k v))) ∨
 ∃ kvs k b, H a = some (.dT kvs) ∧ y = .ref b ∧ H b = some (.tup (k.map kV)) ∧ kvs.length < sizeLine ∧ H' = upd H a (.dT (putK kvs k v))
theorem DGet.k {H : Hp} {a : Addr} {kvs : List (Key × V)} {k : Key} (e : H a = some (.dK kvs)) : DGet H a (kV k) (valV kvs k) := .inl ⟨kvs, k, .inl e, rfl, rfl⟩
theorem DPut.k {H : Hp} {a : Addr} {kvs : List (Key × V)} {k : Key} {v : V} (e : H a = some (.dK kvs)) (hl : kvs.length < sizeLine) : DPut H a (kV k) v (upd H a (.dK (putK kvs k v))) := .inl ⟨kvs, k, e, rfl, hl, rfl⟩


section
variable {X : Cx} {pins : List (Addr × Obj)} {σ : St} {H : Hp} {s : Shared} {a : Addr} {y v : V} {u r : Value} {o : Option V} {A : Around} {E : Value → Shared → Prop}

theorem Inv.big (I : Inv X pins σ H s) : sysModules < s.heap.objs.size := by
 have h : mainGlobals < s.heap.objs.size := (I.mod.glob.keeps I.bk).lt
 exact Nat.lt_trans (by decide) h

theorem d_getItem {Q : Value → Shared → Prop} (hu : A.units + 1 < cLine) (I : Inv X pins σ H s) (g : DGet H a y (some v)) (ry : RelV y u) (h : ∀ w' s', Inv X pins σ H s' → RelV v w' → Q w' s') :
  wpAny (model X.prog X.w) A (getItem (.ref a) u) Q E s := by
 rcases g with ⟨kvs, k, e, ey, l⟩ | ⟨kvs, k, b, e, ey, eb, l⟩
 ·subst ey
  obtain ⟨z, hd, vs, rel, dd⟩ := dk_rd I.hok e
  obtain ⟨w', hw, rw'⟩ := RelO.some_of (v := v) (o := valueAt vs k) (by rw [l]; exact rel.val k)
  exact wpAny_getItem_of (kV_is ry) dd.mapOf hw (h w' _ (I.tok _) rw')
 ·subst ey
  cases (show u = Value.ref b from ry)
  obtain ⟨z, hd, xs, rel, dd⟩ := dt_rd I.hok e
  obtain ⟨w', hw, rw'⟩ := RelO.some_of (v := v) (o := (atKey xs k).map (·.2)) (by rw [l]; exact rel.val k)
  obtain ⟨p, hp, hp2⟩ := Option.map_eq_some_iff.mp hw
  refine wpAny_getItem_heap (tupleKind_room_in1 hu) (key_of I.hok eb) dd hp ?_
  rw [hp2]
  exact h w' _ (I.tok _) rw'
theorem d_notIn {Q : Value → Shared → Prop} (hu : A.units + 1 < cLine) (I : Inv X pins σ H s) (g : DGet H a y o) (ry : RelV y u) (h : ∀ s', Inv X pins σ H s' → Q (.bool (!o.isSome)) s') :
  wpAny (model X.prog X.w) A (compareOp .NotIn u (.ref a)) Q E s := by
 rcases g with ⟨kvs, k, e, ey, l⟩ | ⟨kvs, k, b, e, ey, eb, l⟩
 ·subst ey
  obtain ⟨z, hd, vs, rel, dd⟩ := dk_rd I.hok e
  refine wpAny_notIn_of (kV_is ry) hd dd.mapOf ?_
  rw [← (rel.val k).isSome_eq, ← l]
  exact h _ (I.tok _)
 ·subst ey
  cases (show u = Value.ref b from ry)
  obtain ⟨z, hd, xs, rel, dd⟩ := dt_rd I.hok e
  refine wpAny_notIn_heap (tupleKind_room_in1 hu) (key_of I.hok eb) hd dd ?_
  have q := (rel.val k).isSome_eq
  rw [Option.isSome_map] at q
  rw [← q, ← l]
  exact h _ (I.tok _)
theorem d_write {h' : Heap} {t' : Nat} {ob : HO} (I : Inv X pins σ H s) (mu : Mut (H a)) (hs : Heap.SameBut a s.heap h') (he : ∃ q, h'.get? a = some q) (new : ObjOk X.prog X.w (upd H a ob) h' a ob) :
  Inv X pins σ (upd H a ob) { s with heap := h', toks := t' } :=
 I.write (x := a) (e := a) mu (.inl rfl) (fun b q hb z => (hs.2 b hb).trans z) he new
theorem dk_new {P : Program} {w : World} {H' : Hp} {h' : Heap} {kvs : List (Key × V)} {vs : List (Key × Value)} (z : kvs.length ≤ sizeLine) (hd : (a == sysModules) = false) (rel : KV kvs vs) (dd : h'.DictOf (mixKind P w) a vs) :
  ObjOk P w H' h' a (.dK kvs) := ⟨z, hd, vs, rel, dd⟩
theorem d_setItem {H' : Hp} {Q : Unit → Shared → Prop} (hu : A.units + 1 < cLine) (I : Inv X pins σ H s) (g : DPut H a y v H') (ry : RelV y u) (rv : RelV v r) (h : ∀ s', Inv X pins σ H' s' → Q () s') :
  wpAny (model X.prog X.w) A (setItem (.ref a) u r) Q E s := by
 rcases g with ⟨kvs, k, e, ey, l, eH⟩ | ⟨kvs, k, b, e, ey, eb, l, eH⟩
 ·subst ey eH
  obtain ⟨z, hd, vs, rel, dd⟩ := dk_of I.hok e
  have hz : vs.length ≤ sizeLine := by rw [← rel.length]; exact z
  have hl : (putK kvs k v).length ≤ sizeLine := by have := length_putK kvs k v; omega
  refine wpAny_setItem_pairs (hsz := hz) (kV_is ry) dd fun h' dd' hs => h _ ?_
  have he : ∃ q, h'.get? a = some q := let ⟨q, _, _, hq, _⟩ := dd'; ⟨q, hq⟩
  exact d_write I (by rw [e]; exact True.intro) hs he (dk_new hl hd (rel.put k rv) dd')
 ·subst ey eH
  cases (show u = Value.ref b from ry)
  obtain ⟨z, hd, xs, rel, dd⟩ := dt_of I.hok e
  have hz : xs.length ≤ sizeLine := by rw [← Paired.length rel]; exact z
  have hl : (putK kvs k v).length ≤ sizeLine := by have := length_putK kvs k v; omega
  refine wpAny_setItem_heap (hsz := hz) (tupleKind_room_in1 hu) (key_of I.hok eb) dd fun h' dd' hs => h _ ?_
  obtain ⟨q, es, ep, hq, h2, h3, h4, _, h5⟩ := dd'
  refine d_write I (by rw [e]; exact True.intro) hs ⟨q, hq⟩ ⟨hl, hd, _, (rel.put k eb rv).keeps fun c ys ec => ?_, q, es, ep, hq, h2, h3, h4, h5⟩
  rw [upd_ne (ne_of ec e (fun z => nomatch z))]
  exact ec
end

section
variable {X : Cx} {pins : List (Addr × Obj)} {σ : St} {H : Hp} {s : Shared} {a : Addr} {kvs : List (Key × V)} {k : Key} {u : Value} {A : Around} {E : Value → Shared → Prop}
end


noncomputable def NoSl (i : Expr) : Prop := ∀ ov iv, subscripted i false ov iv = operate [ov, iv] (getItem ov iv)
theorem subD_of {prog : Program} {w : World} {A : Around} {E : Value → Shared → Prop} {s : Shared} {env : Env} {value slice : Expr} {pos : Pos} {T id : String} {Q : Value → Shared → Prop}
  (hl : typeLookup (.type T) "__getitem__" = pure (some (.builtin id))) (hs : NoSl slice)
  (h : wpAny (model prog w) A (eval value env) (fun o s₁ => wpAny (model prog w) A (eval slice env) (fun i s₂ => s₂.TypeIs o T ∧ wpAny (model prog w) A (getItem o i) Q E s₂) E s₁) E s) :
  wpAny (model prog w) A (eval (.Subscript value slice pos) env) Q E s := by
 refine Subscript_ (wpAny_mono h (fun o s₁ h₁ => wpAny_mono h₁ (fun i s₂ h₂ => ?_) fun _ _ x => x) fun _ _ x => x)
 obtain ⟨hT, h₂⟩ := h₂
 unfold subscriptTail
 refine wpAny_bind ?_
 rw [getitemInPython_of_ne hT.not_modules]
 refine wpAny_bind (wpAny_specialOf hT hl ?_)
 have fin : wpAny (model prog w) A (subscripted slice false o i) (fun r s₃ => wpAny (model prog w) A (letTemporaryGo value o r >>= fun _ => pure r) Q E s₃) E s₂ := by
  rw [hs o i]
  exact wpAny_operating (wpAny_mono h₂ (fun r s₃ h₃ => wpAny_bind (wpAny_letTemporaryGo (wpAny_pure h₃))) fun _ _ x => x)
 first
  | exact wpAny_pure (wpAny_bind fin)
  | exact wpAny_bind (wpAny_pure (wpAny_bind fin))
  | exact wpAny_bind fin

theorem dict_typeIs {X : Cx} {pins : List (Addr × Obj)} {σ : St} {H : Hp} {s : Shared} {a : Addr} {y : V} {o : Option V} (I : Inv X pins σ H s) (g : DGet H a y o) : s.TypeIs (.ref a) "dict" := by
 rcases g with ⟨kvs, k, e, _, _⟩ | ⟨kvs, k, b, e, _, _, _⟩
 ·obtain ⟨_, _, vs, _, dd⟩ := dk_rd I.hok e
  exact dd.typeIs
 ·obtain ⟨_, _, xs, _, dd⟩ := dt_rd I.hok e
  exact dd.typeIs

noncomputable def tDGet (td ty : TE) : TE := fun σ H Q => td σ H fun x H1 => ty σ H1 fun y H2 => ∃ a v, x = .ref a ∧ DGet H2 a y (some v) ∧ Q v H2
noncomputable def tDNotIn (ty td : TE) : TE := fun σ H Q => ty σ H fun y H1 => td σ H1 fun x H2 => ∃ a o, x = .ref a ∧ DGet H2 a y o ∧ Q (.bl (!o.isSome)) H2
noncomputable def sDPut (td ty tv : TE) : TS := fun D σ H => tv σ H fun v H1 => td σ H1 fun x H2 => ty σ H2 fun y H3 => ∃ a H4, x = .ref a ∧ DPut H3 a y v H4 ∧ D.nx σ H4

section
variable {X : Cx} {o i e value : Expr} {pos pos' tpos : Pos} {td ty tv : TE}
theorem pe_dget (hu : X.A.units + 1 < cLine) (ho : PE X o td) (hi : PE X i ty) (hs : NoSl i) : PE X (.Subscript o i pos) (tDGet td ty) := by
 intro pins s σ H Q I h
 refine subD_of PySem.F.slot_dict_getitem.lookup hs (thn (ho pins s σ H _ I h) fun u s1 ⟨x, H1, I1, rx, q1⟩ => thn (hi pins s1 σ H1 _ I1 q1) fun iv s2 ⟨y, H2, I2, ry, a, v, ex, g, q2⟩ => ?_)
 subst ex
 obtain rfl : u = Value.ref a := rx
 exact ⟨dict_typeIs I2 g, d_getItem hu I2 g ry fun w' s3 I3 rw' => ⟨v, H2, I3, rw', q2⟩⟩
theorem pc_dnotin (hu : X.A.units + 1 < cLine) (hi : PE X i ty) (ho : PE X o td) : PC X .NotIn i o (tDNotIn ty td) := by
 intro pins s σ H Q I h
 refine thn (hi pins s σ H _ I h) fun iv s1 ⟨y, H1, I1, ry, q1⟩ => thn (ho pins s1 σ H1 _ I1 q1) fun u s2 ⟨x, H2, I2, rx, a, ov, ex, g, q2⟩ => ?_
 subst ex
 obtain rfl : u = Value.ref a := rx
 exact d_notIn hu I2 g ry fun s3 I3 => ⟨.bl (!ov.isSome), H2, I3, rfl, q2⟩
theorem ps_dput (hu : X.A.units + 1 < cLine) (ho : PE X o td) (hi : PE X i ty) (hv : PE X value tv) (hs : swapsWith value (some (.Subscript o i pos')) pos.line X.env = pure false) :
  PS X (.Assign [.Subscript o i pos'] value pos) (sDPut td ty tv) := by
 intro pins s σ H D I h
 refine wpAny_Assign_Subscript (thn (hv pins s σ H _ I h) fun r s1 ⟨v, H1, I1, rv, q1⟩ => thn (ho pins s1 σ H1 _ I1 q1) fun u s2 ⟨x, H2, I2, rx, q2⟩ => thn (hi pins s2 σ H2 _ I2 q2) fun iv s3 ⟨y, H3, I3, ry, a, H4, ex, g, q3⟩ => ?_) hs
 subst ex
 obtain rfl : u = Value.ref a := rx
 exact d_setItem hu I3 g ry rv fun s4 I4 => ⟨σ, H4, I4, q3⟩
end


theorem dk_empty {P : Program} {w : World} {H : Hp} (h : Heap) (hb : sysModules < h.objs.size) : ObjOk P w H (h.push { cls := .type "dict", data := .dict #[] }) h.objs.size (.dK []) :=
 ⟨Nat.zero_le _, beq_eq_false_iff_ne.mpr (Ne.symm (Nat.ne_of_lt hb)), [], .nil, Heap.DictOf.new h⟩
noncomputable def tDNewK : TE := fun _ H Q => ∀ p, H p = none → Q (.ref p) (upd H p (.dK []))
section
variable {X : Cx} {pos : Pos}
theorem pe_dnewK : PE X (.Dict [] [] pos) tDNewK := fun pins s σ H Q I h =>
 wpAny_Dict_empty ⟨.ref s.heap.objs.size, _, I.laid (a := s.heap.objs.size) (o := .dK []) (t' := s.toks) (fun _ _ q => Heap.get?_push_of_some _ q) (Nat.le_refl _) (dk_empty s.heap I.big), rfl, h _ (I.hok.fresh (Nat.le_refl _))⟩
end

noncomputable def tPairs : List (TE × TE) → St → Hp → (List (V × V) → Hp → Prop) → Prop
 | [], _, H, Q => Q [] H
 | (tk, tv) :: r, σ, H, Q => tk σ H fun x H1 => tv σ H1 fun y H2 => tPairs r σ H2 fun ps H3 => Q ((x, y) :: ps) H3
noncomputable abbrev VV : List (V × V) → List (Value × Value) → Prop := Paired fun p q => RelV p.1 q.1 ∧ RelV p.2 q.2
noncomputable def PPs (X : Cx) (pos : Pos) (keys : List (Option Expr)) (values : List Expr) (trs : List (TE × TE)) : Prop :=
 ∀ (pins : List (Addr × Obj)) (s : Shared) (σ : St) (H : Hp) (Q : List (V × V) → Hp → Prop), Inv X pins σ H s → tPairs trs σ H Q →
  wpAny (model X.prog X.w) X.A (evalPairs (pairTrees keys values X.env pos)) (fun vs s' => ∃ ps H', Inv X pins σ H' s' ∧ VV ps vs ∧ Q ps H') X.xe s
theorem pps_nil {X : Cx} {pos : Pos} : PPs X pos [] [] [] := fun pins s σ H Q I h => pairTrees_nil_walk ⟨[], H, I, .nil, h⟩
theorem pps_cons {X : Cx} {pos : Pos} {k v : Expr} {ks : List (Option Expr)} {vs : List Expr} {tk tv : TE} {trs : List (TE × TE)} (hk : PE X k tk) (hv : PE X v tv) (hr : PPs X pos ks vs trs) :
  PPs X pos (some k :: ks) (v :: vs) ((tk, tv) :: trs) := fun pins s σ H Q I h =>
 pairTrees_cons_walk (thn (hk pins s σ H _ I h) fun u s1 ⟨x, H1, I1, rx, q1⟩ => thn (hv pins s1 σ H1 _ I1 q1) fun w2 s2 ⟨y, H2, I2, ry, q2⟩ =>
  thn (hr pins s2 σ H2 _ I2 q2) fun ws s3 ⟨ps, H3, I3, rel, q3⟩ => ⟨(x, y) :: ps, H3, I3, .cons ⟨rx, ry⟩ rel, q3⟩)

noncomputable def mergeK (kvs more : List (Key × V)) : List (Key × V) := more.foldl (fun acc kv => putK acc kv.1 kv.2) kvs
theorem KV.merge : ∀ {more : List (Key × V)} {rs : List (Key × Value)} {kvs : List (Key × V)} {vs : List (Key × Value)}, KV more rs → KV kvs vs → KV (mergeK kvs more) (merged vs rs) := by
 intro more rs kvs vs r
 unfold KV at r
 induction r generalizing kvs vs with
 | nil => intro q; exact q
 | @cons p q ps qs h t ih =>
  intro r0
  have e : KV (putK kvs p.1 p.2) (stored vs q.1 q.2) := by
   have := r0.put p.1 h.2
   rw [← h.1]; exact this
  exact ih e
theorem length_mergeK : ∀ (more kvs : List (Key × V)), (mergeK kvs more).length ≤ kvs.length + more.length
 | [], kvs => by show kvs.length ≤ kvs.length + 0; omega
 | p :: r, kvs => by
  have h1 := length_mergeK r (putK kvs p.1 p.2)
  have h2 := length_putK kvs p.1 p.2
  show (mergeK (putK kvs p.1 p.2) r).length ≤ _
  rw [List.length_cons]; omega
theorem carries_of {P : Program} {w : World} : ∀ {kvs : List (Key × V)} {ws : List (Value × Value)}, VV (kvs.map fun kv => (kV kv.1, kv.2)) ws → ∃ rs, Carries (mixKind P w) ws rs ∧ KV kvs rs
 | [], _, r => by rw [List.map_nil] at r; cases r; exact ⟨[], True.intro, .nil⟩
 | p :: kvs, _, r => by
  rw [List.map_cons] at r
  cases r with
  | @cons a b as bs h t =>
   obtain ⟨rs, c, q⟩ := carries_of (P := P) (w := w) t
   obtain ⟨b1, b2⟩ := b
   exact ⟨(p.1, b2) :: rs, ⟨kV_is h.1, rfl, c⟩, .cons ⟨rfl, h.2⟩ q⟩
noncomputable def tDisp (trs : List (TE × TE)) : TE := fun σ H Q => ∀ p, H p = none → tPairs trs σ (upd H p (.dK [])) fun ps H2 => H2 p = some (.dK []) ∧ ∃ kvs : List (Key × V), ps = kvs.map (fun kv => (kV kv.1, kv.2)) ∧ kvs.length ≤ 15 ∧ Q (.ref p) (upd H2 p (.dK (mergeK [] kvs)))
theorem pe_disp {X : Cx} {pos : Pos} {keys : List (Option Expr)} {values : List Expr} {trs : List (TE × TE)} (h : PPs X pos keys values trs) (hall : keys.all (·.isSome) = true) (hl : keys.length = values.length) (h0 : keys ≠ [])
  (h15 : keys.length ≤ 15) : PE X (.Dict keys values pos) (tDisp trs) := by
 intro pins s σ H Q I q
 have hn := I.hok.fresh (Nat.le_refl s.heap.objs.size)
 have I1 := I.laid (a := s.heap.objs.size) (o := .dK []) (h' := s.heap.push { cls := .type "dict", data := .dict #[] }) (t' := s.toks) (fun _ _ q => Heap.get?_push_of_some _ q) (Nat.le_refl _) (dk_empty s.heap I.big)
 refine wpAny_Dict_walk (knd := mixKind X.prog X.w) hall hl h0 h15 (thn (h pins _ σ _ _ I1 (q _ hn)) fun ws s2 ⟨ps, H2, I2, rel, e, kvs, ep, lk, q2⟩ => ?_)
 subst ep
 obtain ⟨rs, c, rk⟩ := carries_of (P := X.prog) (w := X.w) rel
 obtain ⟨z, hd, vs0, r0, dd⟩ := dk_of I2.hok e
 cases r0
 refine ⟨rs, c, dd, fun h' dd' hs => ⟨.ref s.heap.objs.size, _, ?_, rfl, q2⟩⟩
 have hz : (mergeK [] kvs).length ≤ sizeLine := by
  have h1 := length_mergeK kvs []
  rw [List.length_nil] at h1
  rw [sizeLine_eq]; omega
 have he : ∃ q, h'.get? s.heap.objs.size = some q := let ⟨q, _, _, hq, _⟩ := dd'; ⟨q, hq⟩
 exact d_write I2 (by rw [e]; exact True.intro) hs he (dk_new hz hd (rk.merge .nil) dd')


structure M1 (X : Cx) (o : Expr) (m : Str) (apos : Pos) (e : Expr) (cpos : Pos) : Prop where
 base : attributeBase o m X.env (eval o X.env) = eval o X.env
 few : ((backTo cpos (starEach [e] X.env)).all (fun x => !x.1) && (backToKw cpos (keywordEach [] X.env)).all (fun x => x.1.isSome)
  && decide (([e] : List Expr).length + ([] : List Keyword).length + (if ([] : List Keyword).isEmpty then 0 else 1) < 30)) = true
 line : (apos.endLine == cpos.line) = true
 trees : backTo cpos (starEach [e] X.env) = [(false, eval e X.env)]
structure M2 (X : Cx) (o : Expr) (m : Str) (apos : Pos) (e f : Expr) (cpos : Pos) : Prop where
 base : attributeBase o m X.env (eval o X.env) = eval o X.env
 few : ((backTo cpos (starEach [e, f] X.env)).all (fun x => !x.1) && (backToKw cpos (keywordEach [] X.env)).all (fun x => x.1.isSome)
  && decide (([e, f] : List Expr).length + ([] : List Keyword).length + (if ([] : List Keyword).isEmpty then 0 else 1) < 30)) = true
 line : (apos.endLine == cpos.line) = true
 trees : backTo cpos (starEach [e, f] X.env) = [(false, eval e X.env), (false, eval f X.env)]

noncomputable def IsD (H : Hp) (a : Addr) : Prop := (∃ kvs, Rd H a (.dK kvs)) ∨ ∃ kvs, Rd H a (.dT kvs)
theorem isD_at {X : Cx} {pins : List (Addr × Obj)} {σ : St} {H : Hp} {s : Shared} {a : Addr} (I : Inv X pins σ H s) (d : IsD H a) :
  s.TypeIs (.ref a) "dict" ∧ (∀ b, Value.ref a = .ref b → ∃ ob, s.heap.get? b = some ob ∧ ob.dict = none) ∧ (a == sysModules) = false := by
 rcases d with ⟨kvs, e⟩ | ⟨kvs, e⟩
 ·obtain ⟨_, hd, vs, _, dd⟩ := dk_rd I.hok e
  refine ⟨dd.typeIs, fun b q => ?_, hd⟩
  cases q
  obtain ⟨ob, _, _, h1, h2, _⟩ := dd
  exact ⟨ob, h1, h2.2.1⟩
 ·obtain ⟨_, hd, xs, _, dd⟩ := dt_rd I.hok e
  refine ⟨dd.typeIs, fun b q => ?_, hd⟩
  cases q
  obtain ⟨ob, _, _, h1, h2, _⟩ := dd
  exact ⟨ob, h1, h2.2.1⟩

section
variable {X : Cx} {pins : List (Addr × Obj)} {σ : St} {H : Hp} {s : Shared} {a : Addr} {y d : V} {u r : Value} {o : Option V} {A : Around} {E : Value → Shared → Prop}
theorem d_get2 {Q : Value → Shared → Prop} (hu : A.units + 1 < cLine) (I : Inv X pins σ H s) (g : DGet H a y o) (ry : RelV y u) (rd : RelV d r) (h : ∀ w' s', Inv X pins σ H s' → RelV (o.getD d) w' → Q w' s') :
  wpAny (model X.prog X.w) A (call (.builtin "dict.get") [.ref a, u, r]) Q E s := by
 rcases g with ⟨kvs, k, e, ey, l⟩ | ⟨kvs, k, b, e, ey, eb, l⟩
 ·subst ey
  obtain ⟨z, hd, vs, rel, dd⟩ := dk_rd I.hok e
  refine call_meetsIn PySem.F.slot_dict_get dd.typeIs PySem.F.entry_dict_get (PySem.F.args_dict_get_3 _ _ _) (meets_dict_get_default (mixKind X.prog X.w) a (kV_is ry) hd r) ⟨_, dd.mapOf, h _ _ (I.tok _) ?_⟩
  rw [l]
  exact (rel.val k).getD rd
 ·subst ey
  cases (show u = Value.ref b from ry)
  obtain ⟨z, hd, xs, rel, dd⟩ := dt_rd I.hok e
  refine call_meetsIn PySem.F.slot_dict_get dd.typeIs PySem.F.entry_dict_get (PySem.F.args_dict_get_3 _ _ _) (meetsH_dict_get_default (tupleKind (mixKind X.prog X.w)) a b hd r) ⟨tupleKind_room_in1 hu, k, xs, key_of I.hok eb, dd, h _ _ (I.tok _) ?_⟩
  rw [l]
  exact (rel.val k).getD rd
end

noncomputable def tDGet2 (td ty tx : TE) : TE := fun σ H Q => td σ H fun x H1 => ∃ a, x = .ref a ∧ IsD H1 a ∧ ty σ H1 fun y H2 => tx σ H2 fun z H3 => ∃ o, DGet H3 a y o ∧ Q (o.getD z) H3
section
variable {X : Cx} {o e f : Expr} {apos cpos : Pos} {td ty tx : TE}
theorem pe_dget2 (hu : X.A.units + 1 < cLine) (ho : PE X o td) (he : PE X e ty) (hf : PE X f tx) (m : M2 X o "get" apos e f cpos) : PE X (.Call (.Attribute o "get" apos) [e, f] [] cpos) (tDGet2 td ty tx) := by
 intro pins s σ H Q I h
 refine wpAny_Call_method m.base m.few m.line PySem.F.plainAttrs_dict PySem.F.slot_dict_get PySem.F.type_dict_get (thn (ho pins s σ H _ I h) fun u s1 ⟨x, H1, I1, rx, a, ex, d, q1⟩ => ?_)
 subst ex
 obtain rfl : u = Value.ref a := rx
 obtain ⟨t1, t2, _⟩ := isD_at I1 d
 refine ⟨t1, t2, ?_⟩
 rw [m.trees]
 refine Calls.callWith_builtin rfl (Calls.evalArgs_plain (Calls.spliced_cons (thn (he pins s1 σ H1 _ I1 q1) fun iv s2 ⟨y, H2, I2, ry, q2⟩ =>
  Calls.spliced_cons (thn (hf pins s2 σ H2 _ I2 q2) fun fv s3 ⟨z, H3, I3, rz, ov, g, q3⟩ => Calls.spliced_nil ?_))))
 exact d_get2 hu I3 g ry rz fun w' s4 I4 rw' => ⟨_, H3, I4, rw', q3⟩
end

section
variable {X : Cx} {pins : List (Addr × Obj)} {σ : St} {H : Hp} {s : Shared} {a : Addr} {kvs : List (Key × V)} {A : Around} {E : Value → Shared → Prop}
end


section
variable {X : Cx} {pins : List (Addr × Obj)} {σ : St} {H : Hp} {s : Shared} {a : Addr} {y : V} {u : Value} {A : Around} {E : Value → Shared → Prop}
end
end L2
namespace Att
open PySem PySem.W PySem.Calls PyProof.Rows

theorem ints_of_wellAll {P : Params} {h : Heap} : ∀ (ns : List Int) (vs : List Value), WellAll P h vs (ns.map WData.int) → IntsAre vs ns := by
 intro ns
 induction ns with
 | nil =>
  intro vs w
  rw [List.map_nil] at w
  cases w
  exact .nil
 | cons n ns ih =>
  intro vs w
  rw [List.map_cons] at w
  cases w with
  | cons a b =>
   cases a
   exact .cons _ _ (ih _ b)

theorem script_of {l : OpenLaw} {n : Nat} (hn : l.most = some n) {P : Params} {h : Heap} {args : List WData} {vals : List Value}
  (hpre : l.row.toRowW.claim.pre args = true) (hwl : WellAll P h vals args) :
  ∃ a vs ns, vals = [Value.ref a] ∧ args = [WData.list (ns.map WData.int)] ∧ h.get? a = some { cls := .type "list", data := .seq vs.toArray } ∧ IntsAre vs ns ∧ ns.length ≤ n := by
 have hsh : WShape.hasAll [] args [.list .int] = true := (pre_splitW hpre).1
 have hc : l.pre.holds [] { args := args } = true := (pre_splitW hpre).2
 obtain ⟨d, r, rfl, h1, h2⟩ := hasAllW_cons hsh
 obtain rfl := hasAllW_nil h2
 obtain ⟨xs, rfl, h3⟩ := hasW_list h1
 obtain ⟨ns, rfl⟩ := items_int h3
 have hlen : ns.length ≤ n := by
  unfold OpenLaw.pre at hc
  have h4 : (WTm.not (.lt (.lit (.int (n : Int))) (.len (.arg 0)))).holds [] { args := [.list (ns.map .int)] } = true := by
   have h4 := (holds_andW hc).1
   rw [hn] at h4
   exact h4
  have h5 := condW_of h4 (w_not (w_lt w_lit (w_len_list (w_arg rfl))))
  rw [List.length_map] at h5
  refine Nat.le_of_not_lt fun q => ?_
  have q' : (n : Int) < ((ns.length : Nat) : Int) := by omega
  first
   | (rw [decide_eq_true q'] at h5; exact absurd h5 (by decide))
   | (simp at h5; omega)
 cases hwl with
 | cons w1 w2 =>
  cases w2
  cases w1 with
  | list ho hall => exact ⟨_, _, ns, rfl, rfl, ho, ints_of_wellAll ns _ hall, hlen⟩

theorem post_true (l : OpenLaw) (args : List WData) : l.row.toRowW.claim.post args (.bool true) args = true :=
 postW_of (r := l.row.toRowW) (X := (true == true))
  (show WShape.has [] (.bool true) .bool = true by first | rfl | decide | simp [WShape.has, WShape.arms, WShape.armsAll])
  (show (WTm.eq .res (.lit (.bool true))).value [] { args := args, res := some (.bool true), after := args } = some (.bool (true == true)) from w_eq_bool (w_res rfl) w_lit) rfl


theorem attach_call {l : OpenLaw} {n : Nat} {q : Program} {loose : List Str} {XP : (Str → Option Value) → Heap → Prop} {YP : World → Heap → Prop} {d : DefRec}
  (hn : l.most = some n) (hdf : d.params.defaults = [])
  (call : ∀ (w : World) (s₀ s₁ : Shared) (mg mb : Str → Option Value) (fa : Addr) (o : Obj) (pm cd doc : Value) (a : Addr) (vs : List Value) (ns : List Int),
   Ground q loose [] XP w s₀ mg mb s₁.heap → YP w s₁.heap →
   s₁.heap.get? fa = some o → o.data = .func (docDef d.name d.params d.body d.scope pm cd doc) → s₁.heap.CodeRec cd d.name → mg d.name = some (.ref fa) →
   s₁.heap.get? a = some { cls := .type "list", data := .seq vs.toArray } → IntsAre vs ns → ns.length ≤ n → s₁.gens = #[] →
   codeAny (model l.prog w) callerA (.call (.ref fa) ⟨[.ref a], []⟩) (fun r s' => r = .ok (.ret (.bool true)) ∧ OldK s₁.heap s'.heap ∧ s'.os = s₁.os ∧ AllBare s'.gens) s₁) :
  WalkO q loose XP YP l.row.toRowW d [] (fun f vs => PySem.call f vs) := by
 intro w s₀ s₁ mg mb G Y fa o pm cd doc dV kV ho hd hcd hD hmg hg args vals as hpre hlay hrd hwl hlo
 obtain rfl : dV = .none := Dflts.none hD hdf
 obtain rfl : kV = .none := Dflts.noKw hD
 obtain ⟨a, vs, ns, rfl, rfl, hobj, hints, hlen⟩ := script_of hn hpre hwl
 refine enter_call (codeAny_mono (call w s₀ s₁ mg mb fa o pm cd doc a vs ns G Y ho (fd_plain hd) hcd hmg hobj hints hlen hg) fun r s' hq => ?_)
 obtain ⟨rfl, h2, h3, h4⟩ := hq
 exact ⟨.inl ⟨.bool true, .bool true, [], rfl, fun _ => rfl, .bool true, post_true l _, fun _ => ⟨List.Pairwise.nil, fun _ hm => (nomatch hm)⟩⟩, h2, h3, h4⟩


section
variable {prog : Program} {w : World} {A : Around} {E : Value → Shared → Prop} {s : Shared} {K : Frag}






end
end Att

namespace L2
open PySem PySem.Spec PyProof.Rows

theorem vals_ints : ∀ {vs : List Value} {ns : List Int}, IntsAre vs ns → Vals (ns.map V.int) vs
 | _, _, .nil => .nil
 | _, _, .cons n t h => .cons ⟨t, rfl⟩ (vals_ints h)

noncomputable def Only (H : Hp) : Prop := ∀ b, H b = none ∨ ∃ o xs, H b = some (.frz o (.lst xs))

theorem law_call {P : Program} {w : World} {K : PySem.W.Frag} {mg mb : Str → Option Value} {CX : CXT} {k : Nat} {fa a : Addr} {fd : FuncData} {x : Str} {sp : Sp} {s₁ : Shared} {vs : List Value} {ns : List Int}
  (KX : K.In s₁.heap) (hns : s₁.heap.Ns mainGlobals mg) (hb : s₁.heap.Ns builtinsNs mb) (hbb : ∀ x : Str, x ≠ "__name__" → mb x = bootBuiltins x) (hlim : s₁.heap.NoLimit) (hg : s₁.gens = #[])
  (ha : s₁.heap.get? a = some { cls := .type "list", data := .seq vs.toArray }) (hi : IntsAre vs ns) (hl : ns.length ≤ sizeLine) (hr : Room k callerA)
  (F : ∀ base : Heap, K.In base → base.Ns mainGlobals mg → FnOk P w K mg base CX k fa fd [x] sp) (hbind : ∀ (s : Shared) (u : Value), BindsTo s fd ⟨[u], []⟩ [(x, u)])
  (hsp : ∀ H : Hp, Only H → SqX K H a (ns.map V.int) → sp [.ref a] H (fun v _ => v = .bl true) fun _ _ _ => False)
  (hCX : ∀ H e s', CX [] H s₁ (fun _ _ _ => False) e s' → False) :
  codeAny (model P w) callerA (.call (.ref fa) ⟨[.ref a], []⟩) (fun r s' => r = .ok (.ret (.bool true)) ∧ OldK s₁.heap s'.heap ∧ s'.os = s₁.os ∧ AllBare s'.gens) s₁ := by
 have rv := vals_ints hi
 have lenV := hi.length
 have core : ∀ H : Hp, Only H → SqX K H a (ns.map V.int) → HOk P w H s₁.heap → (∀ b, H b ≠ none → b = a) → (H a ≠ none → K.lookup a = none) →
   codeAny (model P w) callerA (.call (.ref fa) ⟨[.ref a], []⟩) (fun r s' => r = .ok (.ret (.bool true)) ∧ OldK s₁.heap s'.heap ∧ s'.os = s₁.os ∧ AllBare s'.gens) s₁ := by
  intro H hO hS hok hA hK
  have base_of : ∀ {b : Addr} {o : Obj}, s₁.heap.get? b = some o → H b = none → (hidT s₁.heap H).get? b = some o := fun e n => hidT_get e n
  have noA : ∀ {b : Addr} {o : Obj} {es : Array DictEntry} {ep : Nat}, s₁.heap.get? b = some o → o.data = .dict es ep → H b = none := fun {b o es ep} e d => by
   cases q : H b with
   | none => rfl
   | some u =>
    have e' : b = a := hA b (by rw [q]; simp)
    subst e'
    rw [ha] at e; cases e
    have d' : Data.seq vs.toArray _ = Data.dict es ep := d
    cases d'
  have nsK : ∀ {b : Addr} {m : Str → Option Value}, s₁.heap.Ns b m → (hidT s₁.heap H).Ns b m := fun {b m} ⟨o, es, ep, e, d, r⟩ => ⟨o, es, ep, base_of e (noA e d), d, r⟩
  have hKb : K.In (hidT s₁.heap H) := fun b o e => base_of (KX b o e) (by
   cases q : H b with
   | none => rfl
   | some u =>
    have e' : b = a := hA b (by rw [q]; simp)
    subst e'
    rw [hK (by rw [q]; simp)] at e; cases e)
  have hM : Mod K mg (hidT s₁.heap H) := ⟨hKb, nsK hns, ⟨mb, nsK hb, hbb⟩, let ⟨mc, h1, h2⟩ := hlim; ⟨mc, nsK h1, h2⟩⟩
  have e0 : Env0 P w K mg (hidT s₁.heap H) callerA [] s₁ H := ⟨rfl, hM, fun b o e => of_hidT e, Nat.le_of_eq (hidT_size _ _), trivial, fun b hb => absurd (show b ∈ ([] : List Addr) from hb) (by simp), hok, .of_eq hg⟩
  refine codeAny_mono ((F _ hKb (nsK hns)).run callerA [] s₁ H ⟨[.ref a], []⟩ [.ref a] [.ref a] _ _ hr e0 (hbind s₁ (.ref a)) (.cons rfl .nil) (hsp H hO hS)) fun r s' h => ?_
  cases r with
  | error e => exact (hCX H e s' h).elim
  | ok fl =>
   cases fl with
   | next => exact False.elim h
   | brk => exact False.elim h
   | cont => exact False.elim h
   | ret u =>
    obtain ⟨v, H', os, bare, un, hok', r', q⟩ := h
    have q' : v = .bl true := q
    subst q'
    obtain rfl : u = Value.bool true := r'
    refine ⟨rfl, OldK.of_keep fun b o e => ?_, os, bare⟩
    cases q : H b with
    | none => exact un.keep b o e q (by intro z; exact absurd (show b ∈ ([] : List Addr) from z) (by simp)) (by simp)
    | some u =>
     rcases hO b with z | ⟨ob, xs, z⟩
     ·rw [q] at z; cases z
     ·have z2 := un.frzs b ob _ z
      obtain ⟨e1, _⟩ := hok b _ z
      obtain ⟨e2, _⟩ := hok' b _ z2
      rw [e] at e1; cases e1
      exact e2
 cases hk : K.lookup a with
 | some o =>
  have e := KX a o hk
  rw [ha] at e
  cases e
  refine core (fun _ => none) (fun _ => .inl rfl) (.inr ⟨vs.toArray, _, hk, by rw [List.size_toArray, lenV]; exact hl, by simpa using rv⟩) (fun b u z => by have z' : (none : Option HO) = some u := z; cases z') (fun b z => absurd rfl z) fun z => absurd rfl z
 | none =>
  refine core (fun b => if b = a then some (.frz { cls := .type "list", data := .seq vs.toArray } (.lst (ns.map V.int))) else none) (fun b => ?_) (.inl (.inr ⟨{ cls := .type "list", data := .seq vs.toArray }, if_pos rfl⟩)) (fun b u z => ?_) (fun b z => ?_) fun _ => hk
  ·by_cases hb : b = a
   ·exact .inr ⟨_, _, if_pos hb⟩
   ·exact .inl (if_neg hb)
  ·by_cases hb : b = a
   ·have z' := (if_pos hb).symm.trans z
    cases z'
    subst hb
    exact ⟨ha, by rw [List.length_map]; exact hl, vs, _, rv, ha⟩
   ·have z' := (if_neg hb).symm.trans z
    cases z'
  ·by_cases hb : b = a
   ·exact hb
   ·exact absurd (if_neg hb) z
end L2

namespace L2
open PySem PySem.Spec PyProof.Rows

noncomputable abbrev KOf {K : PySem.W.Frag} {h : Heap} (_ : K.In h) : PySem.W.Frag := K

theorem walk_of {l : PySem.W.OpenLaw} {n k : Nat} {q : Program} {loose : List Str} {XP : (Str → Option Value) → Heap → Prop} {YP : World → Heap → Prop} {d : DefRec} {K : Params → PySem.W.Frag} {CX : World → CXT} {sp : World → Sp} {x : Str}
  (hn : l.most = some n) (hn2 : n ≤ sizeLine) (hdf : d.params.defaults = []) (hr : Room k callerA)
  (hY : ∀ (w : World) (h : Heap), YP w h → (K w.params).In h)
  (F : ∀ (w : World) (mg : Str → Option Value) (fa : Addr) (h : Heap), (K w.params).In h → h.Ns mainGlobals mg → mg d.name = some (.ref fa) →
   ∃ fd : FuncData, (∀ (s : Shared) (u : Value), BindsTo s fd ⟨[u], []⟩ [(x, u)]) ∧
    ∀ base : Heap, (K w.params).In base → base.Ns mainGlobals mg → FnOk l.prog w (K w.params) mg base (CX w) k fa fd [x] (sp w))
  (hsp : ∀ (w : World) (H : Hp) (a : Addr) (ns : List Int), ns.length ≤ n → Only H → SqX (K w.params) H a (ns.map V.int) → sp w [.ref a] H (fun v _ => v = .bl true) fun _ _ _ => False)
  (hCX : ∀ (w : World) (H : Hp) (s : Shared) (e : Value) (s' : Shared), CX w [] H s (fun _ _ _ => False) e s' → False) :
  PySem.W.WalkO q loose XP YP l.row.toRowW d [] (fun f vs => PySem.call f vs) := by
 refine Att.attach_call hn hdf fun w s₀ s₁ mg mb fa o pm cd doc a vs ns G Y ho hd hcd hmg hobj hints hlen hg => ?_
 have KX := hY w _ Y
 obtain ⟨fd, hb, hF⟩ := F w mg fa _ KX G.T.g hmg
 exact law_call KX G.T.g G.T.b G.T.builtins G.T.nolimit hg hobj hints (Nat.le_trans hlen hn2) hr hF hb (fun H hO hS => hsp w H a ns hlen hO hS) fun H e s' => hCX w H s₁ e s'
end L2

/- THE LAST THEOREM (shape; LID, My.* are yours):
   My.Adr: a structure of the addresses that your layer names (classes, functions); My.Txt K t: a structure (Prop) of the equations over K;
   My.txt_mk : {K} {implicit addresses ..} (e1 : nsIn K mainGlobals "law" = some (some (.ref f))) (e2 : K.lookup f = some ⟨oc, od, .func (fnOf "law" "law" params body scope dV kV doc pm an cdv ct), sl⟩) (e3 : codeIn K cdv "law" = true) .. : ∃ t, My.Txt K t

set_option maxHeartbeats 0 in
theorem PySem.Challenge.cw_LID_holds : PySem.Challenge.rw_LID.Holds := by
 w_on; o_law; k_head; (case hw => w_witness2)
 k_fill
 refine L2.walk_of (l := PySem.Challenge.rw_LID) (n := 63) (k := 40) (x := "script") (CX := fun w => ..) (sp := fun _ => My.sp_law) rfl (by decide) rfl ⟨rfl, by decide, by decide⟩ (fun w h Y => PySem.W.kIn_of Y) ?F ?S ?C
 case F =>
  intro w mg fa h KX G hmg
  have T : ∃ t, My.Txt (L2.KOf KX) t := by
   dsimp only [L2.KOf]                          -- K must stand as «<heap const> w.params» for k_is
   refine' My.txt_mk ?e1 ?e2 ?e3 ..
   (case e1 => PySem.W.k_is)                    -- in the order: a name -> its address -> its object -> its parts
   (case e2 => PySem.W.k_is)
   ..
  obtain ⟨t, T⟩ := T
  have e0 := hmg.symm.trans (PySem.W.mg_of KX G T.law)
  cases e0                                       -- fa is the law's own address
  exact ⟨_, fun s u => .of_eq rfl, fun base kb nb => My.law_fn T kb nb⟩     -- if «.of_eq rfl» comes too early: refine' ⟨_, ?b, fun base kb nb => My.law_fn T kb nb⟩; exact fun s u => .of_eq rfl
 case S => exact fun w H a ns hl hO hS => ..
 case C => exact ..
(the tactic k_is has no namespace: write k_is) -/

namespace L2
open PySem PySem.Spec PyProof.Rows

noncomputable def defArgs (s : Stmt) : Arguments := match s with
 | .FunctionDef _ a _ _ _ _ _ _ _ _ => a
 | _ => { posonlyargs := [], args := [], vararg := none, kwonlyargs := [], kw_defaults := [], kwarg := none, defaults := [] }
noncomputable def defBody (s : Stmt) : List Stmt := match s with
 | .FunctionDef _ _ b _ _ _ _ _ _ _ => b
 | _ => []
noncomputable def defScope (s : Stmt) : Scope := match s with
 | .FunctionDef _ _ _ _ _ _ sc _ _ _ => sc
 | _ => { kind := .function, names := [], isGenerator := false, isCoroutine := false }

noncomputable abbrev CX0 : CXT := fun _ _ _ _ _ _ => False
noncomputable abbrev E0 : XK := fun _ _ _ => False

structure Fun (K : PySem.W.Frag) (x qual : Str) (st : Stmt) (f : Addr) (fd : FuncData) : Prop where
 ex : ∃ (oc : Value) (od : Option Addr) (kV doc pm : Value) (an : Option Addr) (cdv ct : Value) (osl : Array (Option Value)),
  fd = PySem.W.fnOf x qual (defArgs st) (defBody st) (defScope st) .none kV doc pm an cdv ct ∧ K.lookup f = some ⟨oc, od, .func fd, osl⟩ ∧ PySem.W.codeIn K cdv qual = true
 kp : PySem.W.keepIn K (.ref f) = true
section
variable {P : Program} {w : World} {K : PySem.W.Frag} {mg : Str → Option Value} {base : Heap}
theorem Fun.binds {x qual : Str} {st : Stmt} {f : Addr} {fd : FuncData} {ps : List Str} (F : Fun K x qual st f fd)
  (h : ∀ (kV doc pm : Value) (an : Option Addr) (cdv ct : Value) (us : List Value), us.length = ps.length → bindArgs (PySem.W.fnOf x qual (defArgs st) (defBody st) (defScope st) .none kV doc pm an cdv ct) ⟨us, []⟩ = pure (ps.zip us)) : Binds K fd ps [] := by
 obtain ⟨oc, od, kV, doc, pm, an, cdv, ct, osl, rfl, lk, hcd⟩ := F.ex
 exact .all (h kV doc pm an cdv ct)
theorem fun_mk {x qual : Str} {st : Stmt} {f : Addr} {oc : Value} {od an : Option Addr} {osl : Array (Option Value)} {kV doc pm cdv ct : Value} (l : K.lookup f = some ⟨oc, od, .func (PySem.W.fnOf x qual (defArgs st) (defBody st) (defScope st) .none kV doc pm an cdv ct), osl⟩)
  (c : PySem.W.codeIn K cdv qual = true) (k : PySem.W.keepIn K (.ref f) = true) : Fun K x qual st f (PySem.W.fnOf x qual (defArgs st) (defBody st) (defScope st) .none kV doc pm an cdv ct) := ⟨⟨oc, od, kV, doc, pm, an, cdv, ct, osl, rfl, l, c⟩, k⟩
end
theorem hu_of {A : Around} {k : Nat} (hr : Room k A) : A.units + 1 < cLine := Nat.lt_of_le_of_lt (Nat.add_le_add_left (by decide : 1 ≤ 64) _) hr.units

section
variable {X : Cx}
theorem pv (i : Nat) {x : Str} {pos : Pos} (hN : X.N[i]? = some x := by rfl) (hv : Vis X.env.scope x := by first | exact Or.inl rfl | exact Or.inr (Or.inl rfl) | exact Or.inr (Or.inr rfl)) (hd : (x == ("__debug__" : Str)) = false := by decide)
  (hcd : (x == ("__classdict__" : Str)) = false := by decide) : PE X (.Name x pos) (tVar i) := pe_var hN hv hd hcd
end


noncomputable def Same (H H' : Hp) : Prop := ∀ b o, H b = some o → H' b = some o
theorem Same.refl (H : Hp) : Same H H := fun _ _ h => h

section
variable {κ : Type} [DecidableEq κ]
end
end L2
namespace L2
open PySem PySem.Spec PyProof.Rows

theorem codeAny_compLoop_any {prog : Program} {w : World} {A : Around} {elt iter tg : Expr} {ifs : List Expr} {scope : Scope} {pos : Pos} {it acc : Value} {env : Env} {s : Shared} {R : Result → Shared → Prop} (I : Nat → Shared → Prop)
  (turn : ∀ n s, I n s → wpAny (model prog w) A (pyNext it) (fun r s₁ => match r with
   | none => R (.ok .next) s₁
   | some v => wpAny (model prog w) A (letOwnedTupleGo tg it v) (fun _ s₁' => wpAny (model prog w) A (assign tg env v) (fun _ s₂ =>
     wpAny (model prog w) A (forIn ifs true fun c r => if r = true then do let ok ← isTrue c env (eval c env); pure (ForInStep.yield ok) else pure (ForInStep.yield r)) (fun ok s₃ =>
      if ok = true then wpAny (model prog w) A (eval elt env) (fun x s₄ =>
       wpAny (model prog w) A (call (.builtin "list.append") [acc, x]) (fun _ s₅ => ∃ m, m < n ∧ I m s₅) (fun _ _ => False) s₄) (fun _ _ => False) s₃
      else ∃ m, m < n ∧ I m s₃) (fun _ _ => False) s₂)
     (fun _ _ => False) s₁') (fun _ _ => False) s₁) (fun _ _ => False) s)
  (n : Nat) (h : I n s) : codeAny (model prog w) A (.compLoop (.ListComp elt [⟨tg, iter, ifs, 0⟩] scope pos) 0 it acc env) R s := by
 refine codeAny_loop rfl I (fun n s hI => ?_) n h
 show wpAny _ A ((compTurn (.ListComp elt [⟨tg, iter, ifs, 0⟩] scope pos) 0 it acc env).onRaise (fun x => do noteFrame x env; theTreesLotGoes x)) _ _ s
 refine wpAny_noted ?_
 rw [compTurn_list]
 refine wpAny_bind (wpAny_standAt (wpAny_bind (wpAny_mono (turn n s hI) (fun r s₁ h₁ => ?_) fun _ _ h' => h'.elim)))
 cases r with
 | none => exact wpAny_pure h₁
 | some v =>
  refine wpAny_bind (wpAny_mono h₁ (fun _ s₁' h₁' => ?_) fun _ _ h' => h'.elim)
  refine wpAny_bind (wpAny_mono h₁' (fun _ s₂ h₂ => wpAny_bind (wpAny_mono h₂ (fun ok s₃ h₃ => ?_) fun _ _ h' => h'.elim)) fun _ _ h' => h'.elim)
  cases ok with
  | false => exact wpAny_pure ⟨rfl, h₃⟩
  | true =>
   exact wpAny_bind (wpAny_bind (wpAny_mono h₃ (fun x s₄ h₄ => wpAny_bind (wpAny_mono h₄ (fun _ s₅ h₅ => wpAny_pure (wpAny_pure ⟨rfl, h₅⟩)) fun _ _ h' => h'.elim)) fun _ _ h' => h'.elim))

noncomputable def clGo (env : Env) : List (Str × NameKind) → List (Str × Addr) → List (Str × Addr)
 | [], cs => cs
 | (n, k) :: r, cs => clGo env r (if k == .free then (match env.cells.lookup n with | some c => (n, c) :: cs | none => cs) else cs)
noncomputable def clOf (sc : Scope) (env : Env) : List (Str × Addr) := clGo env sc.names []
theorem clGo_mem {env : Env} : ∀ {ns : List (Str × NameKind)} {cs : List (Str × Addr)}, (∀ p ∈ cs, env.cells.lookup p.1 = some p.2) → ∀ p ∈ clGo env ns cs, env.cells.lookup p.1 = some p.2
 | [], _, h => h
 | (n, k) :: r, cs, h => by
  unfold clGo
  refine clGo_mem ?_
  by_cases hk : (k == .free) = true
  ·rw [if_pos hk]
   cases e : env.cells.lookup n with
   | none => exact h
   | some c =>
    intro p hp
    rcases List.mem_cons.mp hp with rfl | hp
    ·exact e
    ·exact h p hp
  ·rw [if_neg hk]; exact h
theorem clGo_sub {env : Env} : ∀ {ns : List (Str × NameKind)} {cs : List (Str × Addr)} {p : Str × Addr}, p ∈ cs → p ∈ clGo env ns cs
 | [], _, _, h => h
 | (n, k) :: r, cs, p, h => by
  unfold clGo
  refine clGo_sub ?_
  by_cases hk : (k == .free) = true
  ·rw [if_pos hk]
   cases env.cells.lookup n with
   | none => exact h
   | some c => exact List.mem_cons_of_mem _ h
  ·rw [if_neg hk]; exact h
theorem clGo_has {env : Env} {x : Str} {c : Addr} (e : env.cells.lookup x = some c) : ∀ {ns : List (Str × NameKind)} {cs : List (Str × Addr)}, (x, NameKind.free) ∈ ns → (x, c) ∈ clGo env ns cs
 | [], _, h => by cases h
 | (n, k) :: r, cs, h => by
  unfold clGo
  rcases List.mem_cons.mp h with h | h
  ·injection h with h1 h2
   subst h1 h2
   refine clGo_sub ?_
   rw [if_pos (by rfl), e]
   exact List.mem_cons_self
  ·exact clGo_has e h
theorem lookup_of_mem : ∀ {l : List (Str × Addr)} {x : Str} {c : Addr}, (x, c) ∈ l → ∃ d, l.lookup x = some d
 | [], _, _, h => by cases h
 | (n, d) :: r, x, c, h => by
  rw [List.lookup_cons]
  cases e : x == n with
  | true => exact ⟨d, rfl⟩
  | false =>
   rcases List.mem_cons.mp h with h | h
   ·injection h with h1 h2
    subst h1
    simp at e
   ·exact lookup_of_mem h
theorem clOf_look {sc : Scope} {env : Env} {x : Str} {c : Addr} (e : (clOf sc env).lookup x = some c) : env.cells.lookup x = some c :=
 clGo_mem (cs := []) (fun p hp => by cases hp) (x, c) (PySem.mem_of_lookup e)
theorem clOf_has {sc : Scope} {env : Env} {x : Str} {c : Addr} (h : (x, NameKind.free) ∈ sc.names) (e : env.cells.lookup x = some c) : (clOf sc env).lookup x = some c := by
 obtain ⟨d, hd⟩ := lookup_of_mem (clGo_has (cs := []) e h)
 have := clOf_look (sc := sc) hd
 rw [e] at this
 cases this
 exact hd
theorem closureFor_of {sc : Scope} {env : Env} (h : ∀ y ∈ sc.names, y.2 = .free → ∃ c, env.cells.lookup y.1 = some c) : closureFor sc env = pure (clOf sc env) := by
 unfold clOf closureFor
 generalize sc.names = ns at h
 suffices hh : ∀ cs : List (Str × Addr), (forIn ns cs (fun (x : Str × NameKind) (r : List (Str × Addr)) =>
    (match x with
     | (name, kind) => if (kind == NameKind.free) = true then (cellOf env name >>= fun c => pure (ForInStep.yield ((name, c) :: r))) else pure (ForInStep.yield r) : Sem (ForInStep (List (Str × Addr))))) >>= fun r => pure r : Sem (List (Str × Addr))) = pure (clGo env ns cs) from hh []
 induction ns with
 | nil => intro cs; rfl
 | cons p r ih =>
  intro cs
  obtain ⟨n, k⟩ := p
  rw [List.forIn_cons]
  unfold clGo
  have ih' := ih fun y hy => h y (List.mem_cons_of_mem _ hy)
  by_cases hk : (k == .free) = true
  ·obtain ⟨c, hc⟩ := h (n, k) List.mem_cons_self (by simpa using hk)
   have hc : env.cells.lookup n = some c := hc
   have h1 : cellOf env n = pure c := by unfold cellOf; rw [hc]
   simp only [hk, if_true, h1, hc, pure_bind]
   exact ih' _
  ·simp only [hk, if_false, pure_bind]
   exact ih' _

noncomputable def cxComp (X : Cx) (N' : List Str) (sc : Scope) (C : Addr) (s₀ : Shared) (H₀ : Hp) (fp : List Addr) : Cx where
 prog := X.prog
 w := X.w
 K := X.K
 mg := X.mg
 base := X.base
 A := X.A
 N := N'
 s₀ := s₀
 H₀ := H₀
 env := compEnvC sc (clOf sc X.env) C X.env
 outer := X.stack
 stack := X.stack
 ex := fp
 fn := fun _ => false
 calm := X.calm
 pn := []
 xe := fun _ _ => False

theorem lookup_relabel_free {env : Env} : ∀ {names : List (Str × NameKind)} {x : Str}, names.lookup x = some .free →
  (names.map fun (n, k) => if (k == NameKind.free && env.scope.kind == .function && env.kindOf n == some .cell) then (n, NameKind.cell) else (n, k)).lookup x = some .cell ∨
  (names.map fun (n, k) => if (k == NameKind.free && env.scope.kind == .function && env.kindOf n == some .cell) then (n, NameKind.cell) else (n, k)).lookup x = some .free
 | [], _, h => by simp at h
 | (n, k) :: r, x, h => by
  have ih := @lookup_relabel_free env r x
  show List.lookup x ((if (k == NameKind.free && env.scope.kind == .function && env.kindOf n == some .cell) = true then (n, NameKind.cell) else (n, k)) :: _) = _ ∨ List.lookup x ((if (k == NameKind.free && env.scope.kind == .function && env.kindOf n == some .cell) = true then (n, NameKind.cell) else (n, k)) :: _) = _
  cases hx : x == n with
  | true =>
   simp only [List.lookup_cons, hx] at h
   cases h
   by_cases hc : (NameKind.free == NameKind.free && env.scope.kind == .function && env.kindOf n == some .cell) = true
   ·rw [if_pos hc]; left; simp [List.lookup_cons, hx]
   ·rw [if_neg hc]; right; simp [List.lookup_cons, hx]
  | false =>
   simp only [List.lookup_cons, hx] at h
   by_cases hc : (k == NameKind.free && env.scope.kind == .function && env.kindOf n == some .cell) = true
   ·rw [if_pos hc]; simp only [List.lookup_cons, hx]; exact ih h
   ·rw [if_neg hc]; simp only [List.lookup_cons, hx]; exact ih h
theorem mem_relabel {env : Env} {x : Str} {k : NameKind} (hk : k = .cell ∨ k = .free) : ∀ {names : List (Str × NameKind)}, (∀ y ∈ names, y.2 ≠ .cell) →
  (names.map fun (n, k) => if (k == NameKind.free && env.scope.kind == .function && env.kindOf n == some .cell) then (n, NameKind.cell) else (n, k)).lookup x = some k → (x, NameKind.free) ∈ names
 | [], _, h => by simp at h
 | (n, j) :: r, hc, h => by
  have hr : ∀ y ∈ r, y.2 ≠ .cell := fun y hy => hc y (List.mem_cons_of_mem _ hy)
  have h : List.lookup x ((if (j == NameKind.free && env.scope.kind == .function && env.kindOf n == some .cell) = true then (n, NameKind.cell) else (n, j)) :: _) = _ := h
  by_cases hj : (j == NameKind.free && env.scope.kind == .function && env.kindOf n == some .cell) = true
  ·rw [if_pos hj, List.lookup_cons] at h
   have hj' : j = .free := by
    simp only [Bool.and_eq_true, beq_iff_eq] at hj
    exact hj.1.1
   cases hx : x == n with
   | true =>
    rw [eq_of_beq hx, ← hj']
    exact List.mem_cons_self
   | false =>
    rw [hx] at h
    exact List.mem_cons_of_mem _ (mem_relabel hk hr h)
  ·rw [if_neg hj, List.lookup_cons] at h
   cases hx : x == n with
   | true =>
    rw [hx] at h
    have h' : j = k := Option.some.inj h
    have hjc : j ≠ .cell := hc (n, j) List.mem_cons_self
    rcases hk with e | e
    ·exact absurd (h'.trans e) hjc
    ·rw [eq_of_beq hx]
     have : j = .free := h'.trans e
     rw [this]
     exact List.mem_cons_self
   | false =>
    rw [hx] at h
    exact List.mem_cons_of_mem _ (mem_relabel hk hr h)

noncomputable def CapOk (X : Cx) (sc : Scope) : List (Option Nat) → List Str → Prop
 | [], [] => True
 | none :: r, _ :: n => CapOk X sc r n
 | some i :: r, x :: n => (X.N[i]? = some x ∧ sc.names.lookup x = some .free) ∧ CapOk X sc r n
 | _, _ => False
noncomputable def capSt (cap : List (Option Nat)) (σ : St) : St := cap.map fun o => o.bind fun i => (σ[i]?).join
theorem CapOk.at {X : Cx} {sc : Scope} : ∀ {cap : List (Option Nat)} {N' : List Str}, CapOk X sc cap N' → ∀ (j i : Nat) (x : Str), cap[j]? = some (some i) → N'[j]? = some x → X.N[i]? = some x ∧ sc.names.lookup x = some .free
 | [], [], _, j, i, x, h, _ => by simp at h
 | none :: r, y :: n, c, 0, i, x, h, _ => by simp at h
 | none :: r, y :: n, c, j + 1, i, x, h, h2 => CapOk.at (cap := r) c j i x (by simpa using h) (by simpa using h2)
 | some k :: r, y :: n, c, 0, i, x, h, h2 => by
  simp at h h2
  subst h h2
  exact c.1
 | some k :: r, y :: n, c, j + 1, i, x, h, h2 => CapOk.at (cap := r) c.2 j i x (by simpa using h) (by simpa using h2)
theorem CapOk.len {X : Cx} {sc : Scope} : ∀ {cap : List (Option Nat)} {N' : List Str}, CapOk X sc cap N' → cap.length = N'.length
 | [], [], _ => rfl
 | none :: r, y :: n, c => by simpa using CapOk.len (cap := r) (N' := n) c
 | some k :: r, y :: n, c => by simpa using CapOk.len (cap := r) (N' := n) c.2
theorem capSt_get {cap : List (Option Nat)} {σ : St} {j : Nat} {v : V} (h : (capSt cap σ)[j]? = some (some v)) : ∃ i, cap[j]? = some (some i) ∧ σ[i]? = some (some v) := by
 unfold capSt at h
 rw [List.getElem?_map] at h
 cases e : cap[j]? with
 | none => rw [e] at h; cases h
 | some o =>
  rw [e] at h
  cases o with
  | none => simp at h
  | some i =>
   refine ⟨i, rfl, ?_⟩
   simp only [Option.map_some, Option.bind_some, Option.some.injEq] at h
   cases q : σ[i]? with
   | none => rw [q] at h; simp at h
   | some z => rw [q] at h; simp at h; rw [h]

noncomputable def PTs (X : Cx) (ifs : List Expr) (t : TT) : Prop :=
 ∀ (pins : List (Addr × Obj)) (s : Shared) (σ : St) (H : Hp) (Q : Bool → Hp → Prop), Inv X pins σ H s → t σ H Q →
  wpAny (model X.prog X.w) X.A (forIn ifs true fun c r => if r = true then do let ok ← isTrue c X.env (eval c X.env); pure (ForInStep.yield ok) else pure (ForInStep.yield r)) (TP X pins σ Q) X.xe s
theorem pts_nil {X : Cx} : PTs X [] (fun _ H Q => Q true H) := fun _ _ _ H _ I h => wpAny_tests_nil ⟨H, I, h⟩
theorem pts_one {X : Cx} {c : Expr} {t : TT} (h : PT X c t) : PTs X [c] t := fun pins s σ H Q I hw => wpAny_tests_one (h pins s σ H Q I hw)

noncomputable def CompW (cap : List (Option Nat)) (g : TG) (tt : TT) (te : TE) (J : It) (σ : St) (acc : Addr) (H0 : Hp) (Q : Hp → Prop) : Prop :=
 ∃ W : Nat → Nat → List V → Hp → Prop, (∃ m, W 0 m [] (upd H0 acc (.lst []))) ∧ ∀ i m ys H, W i m ys H →
  (J.stop i H ∧ Q H) ∨ (J.go i H ∧ ∀ x H', J.yld i H x H' → g x (capSt cap σ) H' fun σ2 H2 => tt σ2 H2 fun b H3 =>
   if b = true then te σ2 H3 fun v H4 => H4 acc = some (.lst ys) ∧ ys.length < sizeLine ∧ ∃ m', m' < m ∧ W (i + 1) m' (ys ++ [v]) (upd H4 acc (.lst (ys ++ [v])))
   else ∃ m', m' < m ∧ W (i + 1) m' ys H3)
noncomputable def tComp (cap : List (Option Nat)) (wi : TI) (g : TG) (tt : TT) (te : TE) : TE := fun σ H Q => wi σ H fun J H1 => ∀ acc, H1 acc = none → CompW cap g tt te J σ acc H1 fun H2 => Q (.ref acc) H2
noncomputable def tSetComp (i : Nat) (cap : List (Option Nat)) (wi : TI) (g : TG) (tt : TT) (te : TE) : TS := fun D σ H => wi σ H fun J H1 => ∀ acc, H1 acc = none → CompW cap g tt te J σ acc H1 fun H2 => D.nx (σ.set i (some (.ref acc))) H2

structure BlockOk (X : Cx) (sc : Scope) : Prop where
 cell : ∀ y ∈ sc.names, y.2 ≠ .cell
 kind : sc.kind = .function
 names : ∀ y ∈ sc.names, y.2 = .local → sc.names.lookup y.1 = some .local
 free : ∀ y ∈ sc.names, y.2 = .free → X.env.kindOf y.1 = some .cell ∨ X.env.kindOf y.1 = some .free

section
variable {X : Cx} {elt tg iter : Expr} {ifs : List Expr} {sc : Scope} {pos : Pos} {wi : TI} {g : TG} {tt : TT} {te : TE} {N' : List Str} {cap : List (Option Nat)}

theorem Inv.closure {pins : List (Addr × Obj)} {σ : St} {H : Hp} {s : Shared} (I : Inv X pins σ H s) (B : BlockOk X sc) : closureFor sc X.env = pure (clOf sc X.env) :=
 closureFor_of fun y hy e => I.ok.has y.1 (B.free y hy e)

theorem inv_block {pins : List (Addr × Obj)} {σ : St} {H : Hp} {s : Shared} {h₁ : Heap} {t' : Nat} {fp : List Addr} {acc C : Addr} {s₀ : Shared} {m : Str → Option Value}
  (I : Inv X pins σ H s) (B : BlockOk X sc) (cp : CapOk X sc cap N') (hf : ∀ b ∈ fp, FpOk X pins H b) (hfo : ∀ b ∈ fp, b < s.heap.objs.size) (hacc : acc = s.heap.objs.size) (ho : s₀.os = s.os) (hgen : s₀.gens = s.gens)
  (h0 : s₀.heap = s.heap.push { cls := .type "list", data := .seq #[] }) (hC : C = s₀.heap.objs.size)
  (hns : h₁.Ns C m) (hsb : ∀ b o, s₀.heap.get? b = some o → h₁.get? b = some o) :
  Inv (cxComp X N' sc C s₀ (upd H acc (.lst [])) fp) [] (capSt cap σ) (upd H acc (.lst [])) { s₀ with heap := h₁, toks := t' } := by
 have hfr : H acc = none := I.hok.fresh (Nat.le_of_eq hacc.symm)
 have up0 : ∀ b o, s.heap.get? b = some o → s₀.heap.get? b = some o := fun b o e => by rw [h0]; exact Heap.get?_push_of_some _ e
 have sz0 : s₀.heap.objs.size = s.heap.objs.size + 1 := by rw [h0, Heap.size_push]
 have I0 : Inv X pins σ (upd H acc (.lst [])) { s with heap := s₀.heap, toks := s.toks } := I.laid up0 (Nat.le_of_eq hacc.symm) ⟨Nat.zero_le _, [], 0, .nil, by rw [h0, hacc]; exact Heap.get?_push_size _ rfl⟩
 have CX' : ∀ b, b < s.heap.objs.size → b ≠ C := fun b hb => Nat.ne_of_lt (by rw [hC, sz0]; exact Nat.lt_succ_of_lt hb)
 have CA : ∀ b, b < s.heap.objs.size → b ≠ acc := fun b hb => Nat.ne_of_lt (by rw [hacc]; exact hb)
 have cellLt : ∀ x c, X.env.cells.lookup x = some c → c < s.heap.objs.size := fun x c e => by
  obtain ⟨v, o, q, _⟩ := I.cell x c e
  exact Heap.lt_size q
 refine ⟨⟨I.ok.mod, B.kind, I.ok.glob, I.ok.blt, Nat.le_of_eq hC.symm, fun x y c h1 h2 => I.ok.inj x y c (clOf_look h1) (clOf_look h2), fun x hx => ?_, fun x c h => Bool.noConfusion h, I.ok.hd, I.ok.frames, .inl rfl, fun b hb => ⟨CX' b (hfo b hb), fun x c e => (hf b hb).2.2.2.2.1 x c (clOf_look e)⟩,
   fun b o e => ?_, ?_, fun b o e hb => ?_, fun b hb hz => ?_, I0.stack, I0.stkFree⟩,
  rfl, ?_, Un.kept hsb, ⟨m, hns, fun j x v h1 h2 h3 => ?_⟩, fun x c e => ?_, ?_, fun x c e => ?_, fun p hp => absurd (show p ∈ ([] : List (Addr × Obj)) from hp) (by simp), I0.hok.kept hsb, ?_⟩
 ·have hm : (x, NameKind.free) ∈ sc.names := by
   rcases hx with hx | hx
   ·exact mem_relabel (env := X.env) (.inl rfl) B.cell hx
   ·exact mem_relabel (env := X.env) (.inr rfl) B.cell hx
  obtain ⟨c, hc⟩ := I.ok.has x (B.free _ hm rfl)
  exact ⟨c, clOf_has hm hc⟩
 ·obtain ⟨e1, e2⟩ := I.bs b o e
  exact ⟨up0 b o e1, by show upd H acc (.lst []) b = none; rw [upd_ne (CA b (Heap.lt_size e1))]; exact e2⟩
 ·exact Nat.le_trans I.ok.bsz (Nat.le_trans I.sz (by show _ ≤ s₀.heap.objs.size; omega))
 ·rcases (hf b hb).2.2.2.1 with z | z
  ·exact I.ok.noex b o e z
  ·exact absurd (Nat.lt_of_lt_of_le (Heap.lt_size e) (Nat.le_trans I.ok.bsz z)) (Nat.lt_irrefl _)
 ·rcases List.mem_cons.mp (I.stkSub b hz) with e | e
  ·exact (hf b hb).2.1 e
  ·exact (hf b hb).2.2.1 e
 ·show AllBare s₀.gens
  rw [hgen]; exact I.bare
 ·obtain ⟨i, e1, e2⟩ := capSt_get h2
  obtain ⟨e3, e4⟩ := cp.at j i x e1 h1
  have hm : (x, NameKind.free) ∈ sc.names := PySem.mem_of_lookup e4
  have hk := B.free _ hm rfl
  obtain ⟨m0, hn0, hl⟩ := I.loc
  obtain ⟨u, r, l⟩ := hl i x v e3 e2 (by rcases hk with k | k; exact .inr (.inl k); exact .inr (.inr k))
  refine ⟨u, r, .inr ?_⟩
  rcases l with ⟨k, _⟩ | ⟨_, c, hc, o, q, d⟩
  ·rcases hk with k' | k'
   ·rw [k] at k'; cases k'
   ·rw [k] at k'; cases k'
  ·exact ⟨lookup_relabel_free (env := X.env) e4, c, clOf_has hm hc, o, hsb c o (up0 c o q), d⟩
 ·obtain ⟨v, o, q, d⟩ := I.cell x c (clOf_look e)
  exact ⟨v, o, hsb c o (up0 c o q), d⟩
 ·show upd H acc (.lst []) C = none
  rw [upd_ne (by rw [hC, hacc, sz0]; exact Nat.succ_ne_self _)]
  exact I.hok.fresh (by rw [hC, sz0]; exact Nat.le_succ _)
 ·show upd H acc (.lst []) c = none
  rw [upd_ne (CA c (cellLt x c (clOf_look e)))]
  exact I.freeC x c (clOf_look e)
 ·show (capSt cap σ).length = N'.length
  unfold capSt
  rw [List.length_map]
  exact cp.len

noncomputable def Kp (σ0 σ : St) : Prop := σ.length = σ0.length ∧ ∀ (j : Nat) v, σ0[j]? = some (some v) → σ[j]? = some (some v)
noncomputable def GOwn (cap : List (Option Nat)) (g : TG) : Prop := ∀ σ0 σ x H Q, Kp (capSt cap σ0) σ → g x σ H Q → g x σ H fun σ2 H2 => Q σ2 H2 ∧ Kp (capSt cap σ0) σ2
noncomputable def GsOwn (cap : List (Option Nat)) (g : TGs) : Prop := ∀ σ0 σ x H Q, Kp (capSt cap σ0) σ → g x σ H Q → g x σ H fun σ2 H2 => Q σ2 H2 ∧ Kp (capSt cap σ0) σ2
theorem gown_name {i : Nat} (h : cap[i]? = some none) : GOwn cap (gName i) := fun σ0 σ x H Q k q => by
 refine ⟨q, by rw [List.length_set]; exact k.1, fun j v e => ?_⟩
 have : j ≠ i := by
  rintro rfl
  obtain ⟨i', e1, _⟩ := capSt_get e
  rw [h] at e1; cases e1
 rw [List.getElem?_set_ne (Ne.symm this)]
 exact k.2 j v e
theorem gsown_nil : GsOwn cap gNil := fun σ0 σ x H Q k ⟨e, q⟩ => ⟨e, q, k⟩
theorem gsown_cons {t : TG} {u : TGs} (h1 : GOwn cap t) (h2 : GsOwn cap u) (mono : ∀ v σ H (Q Q' : St → Hp → Prop), (∀ σ H, Q σ H → Q' σ H) → t v σ H Q → t v σ H Q') : GsOwn cap (gCons t u) := fun σ0 σ x H Q k ⟨v, r, e, q⟩ =>
 ⟨v, r, e, mono v σ H _ _ (fun σ' H' ⟨q', k'⟩ => h2 σ0 σ' r H' Q k' q') (h1 σ0 σ v H _ k q)⟩
theorem gname_mono {i : Nat} : ∀ v σ H (Q Q' : St → Hp → Prop), (∀ σ H, Q σ H → Q' σ H) → gName i v σ H Q → gName i v σ H Q' := fun _ _ _ _ _ f q => f _ _ q
theorem gown_tup {K : PySem.W.Frag} {n : Nat} {t : TGs} (h : GsOwn cap t) : GOwn cap (gTup K n t) := fun σ0 σ x H Q k ⟨a, xs, e, hq, hl, q⟩ => ⟨a, xs, e, hq, hl, h σ0 σ xs H Q k q⟩

theorem comp_core {pins : List (Addr × Obj)} {σ : St} {H : Hp} {s : Shared} {use : Option (Value → Sem Unit)} {Q : Value → Shared → Prop} {R : Addr → Hp → Prop} {p : Pos}
  (hc : X.calm = true) (B : BlockOk X sc) (cp : CapOk X sc cap N') (hi : PI X tg iter wi) (ow : GOwn cap g)
  (hg : ∀ C s₀ H₀ fp, PG (cxComp X N' sc C s₀ H₀ fp) tg g) (ht : ∀ C s₀ H₀ fp, PTs (cxComp X N' sc C s₀ H₀ fp) ifs tt) (he : ∀ C s₀ H₀ fp, PE (cxComp X N' sc C s₀ H₀ fp) elt te)
  (hs : ∀ x, foldedSetIterable iter X.env x = pure x)
  (I : Inv X pins σ H s) (h : wi σ H fun J H1 => ∀ acc, H1 acc = none → CompW cap g tt te J σ acc H1 (R acc))
  (fin : ∀ (acc C : Addr) (H' : Hp) (s' : Shared) (m : Str → Option Value), Inv X pins σ H' s' → s'.heap.Ns C m → C ≠ X.env.locals →
   (∀ {σ' : St} {s'' : Shared}, Inv X pins σ' H' s'' → ∀ h', Heap.SameBut C s''.heap h' → Inv X pins σ' H' { s'' with heap := h' }) →
   R acc H' → compPost (model X.prog X.w) X.A X.xe use Q (.ref acc) C (.ok .next) s') :
  wpAny (model X.prog X.w) X.A (comprehension (.ListComp elt [⟨tg, iter, ifs, 0⟩] sc pos) sc X.env p (newList []) false (eval iter X.env) use) Q X.xe s := by
 refine wpAny_comprehension_free rfl hs (I.closure B) B.kind B.names (thn (hi pins s σ H _ I h) fun xv s1 h1 => thn h1 fun itv s2 h2 => ?_)
 obtain ⟨it, fp, tn, J, H2, e, I2, T, st2, f2, r2⟩ := h2
 subst e
 have fpo : ∀ b ∈ fp, b < s2.heap.objs.size := fun b hb => by
  obtain ⟨o, e, _⟩ := T.obj _ _ st2 b hb
  exact Heap.lt_size e
 refine wpAny_newObj_type (wpAny_newFunctionEnv B.cell (by intro y hy; simp at hy) (fun h₁ hns₁ hsb₁ => ?_) B.kind)
 dsimp only at hns₁ hsb₁ ⊢
 obtain ⟨s₀, es0⟩ : ∃ s₀ : Shared, s₀ = { s2 with heap := s2.heap.push { cls := .type "list", dict := none, data := .seq ([] : List Value).toArray } } := ⟨_, rfl⟩
 have e0h : s₀.heap = s2.heap.push { cls := .type "list", data := .seq #[] } := by rw [es0]
 obtain ⟨C, eC⟩ : ∃ C : Addr, C = s₀.heap.objs.size := ⟨_, rfl⟩
 obtain ⟨acc, eA⟩ : ∃ a : Addr, a = s2.heap.objs.size := ⟨_, rfl⟩
 rw [show (s2.heap.push { cls := .type "list", dict := none, data := .seq ([] : List Value).toArray }).objs.size = C by rw [eC, e0h]] at hns₁ hsb₁ ⊢
 have keep₁ : ∀ b o, s₀.heap.get? b = some o → h₁.get? b = some o := fun b o e => by
  refine hsb₁.extBut b o ?_ ?_
  ·rw [eC]; exact Nat.ne_of_lt (Heap.lt_size e)
  ·rw [e0h] at e; exact Heap.get?_push_of_some _ e
 have szC : C = s2.heap.objs.size + 1 := by rw [eC, e0h, Heap.size_push]
 have up0 : ∀ b o, s2.heap.get? b = some o → s₀.heap.get? b = some o := fun b o e => by rw [e0h]; exact Heap.get?_push_of_some _ e
 have fr0 : H2 acc = none := I2.hok.fresh (Nat.le_of_eq eA.symm)
 show codeAny (model X.prog X.w) X.A (.compStart (.ListComp elt [⟨tg, iter, ifs, 0⟩] sc pos) 0 (.ref it) (.ref s2.heap.objs.size) (compEnvC sc (clOf sc X.env) C X.env))
  (compPost (model X.prog X.w) X.A X.xe use Q (.ref s2.heap.objs.size) C) { s2 with heap := h₁, toks := s2.toks + ([] : List (Str × Value)).length }
 rw [← eA]
 have es1 : ({ s2 with heap := h₁, toks := s2.toks + ([] : List (Str × Value)).length } : Shared) = { s₀ with heap := h₁, toks := s2.toks + ([] : List (Str × Value)).length } := by rw [es0]
 rw [es1]
 obtain ⟨W, ⟨m0, w0⟩, turn⟩ := r2 acc fr0
 have Ib : Inv (cxComp X N' sc C s₀ (upd H2 acc (.lst [])) fp) [] (capSt cap σ) (upd H2 acc (.lst [])) { s₀ with heap := h₁, toks := s2.toks + ([] : List (Str × Value)).length } :=
  inv_block I2 B cp f2 fpo eA (by rw [es0]) (by rw [es0]) e0h eC hns₁ keep₁
 have stat : ∀ {H' : Hp}, (∀ b ∈ fp, H' b = none) → ∀ b ∈ fp, FpOk (cxComp X N' sc C s₀ (upd H2 acc (.lst [])) fp) [] H' b := fun hn b hb =>
  ⟨hn b hb, (Ib.ok.exf b hb).1, Ib.ok.exfs b hb, .inl hb, fun x c e => (Ib.ok.exf b hb).2 x c e, fun p hp => absurd (show p ∈ ([] : List (Addr × Obj)) from hp) (by simp)⟩
 have fp0 : ∀ b ∈ fp, upd H2 acc (.lst []) b = none := fun b hb => by
  rw [upd_ne (by rw [eA]; exact Nat.ne_of_lt (fpo b hb))]
  exact (f2 b hb).1
 have loop : codeAny (model X.prog X.w) X.A (.compLoop (.ListComp elt [⟨tg, iter, ifs, 0⟩] sc pos) 0 (.ref it) (.ref acc) (compEnvC sc (clOf sc X.env) C X.env))
   (compPost (model X.prog X.w) X.A X.xe use Q (.ref acc) C) { s₀ with heap := h₁, toks := s2.toks + ([] : List (Str × Value)).length } := by
  refine codeAny_compLoop_any (fun n s' => ∃ i ys H', Inv (cxComp X N' sc C s₀ (upd H2 acc (.lst [])) fp) [] (capSt cap σ) H' s' ∧ tn i s'.heap ∧ (∀ b ∈ fp, H' b = none) ∧ W i n ys H') ?_ m0
   ⟨0, [], _, Ib, T.keep _ _ _ st2 fun b hb o e => keep₁ b o (up0 b o e), fp0, w0⟩
  rintro n s3 ⟨i, ys, H3, I3, st3, fr3, w3⟩
  rcases turn i n ys H3 w3 with ⟨stop, qn⟩ | ⟨go, step⟩
  ·refine thn (T.done (cxComp X N' sc C s₀ (upd H2 acc (.lst [])) fp) rfl rfl rfl hc i [] s3 _ H3 (fun _ _ => False) I3 (stat fr3) st3 stop) fun r s4 ⟨hr, I4⟩ => ?_
   subst hr
   have u0 : Un (frs X.stack) fp H2 (upd H2 acc (.lst [])) s2.heap s₀.heap := Un.laid up0 (Nat.le_of_eq eA.symm) fr0
   have un : Un (frs X.stack) fp H2 H3 s2.heap s4.heap := u0.trans I4.base
   have I5 : Inv X pins σ H3 s4 := I2.call' (by rw [I4.os]; show s₀.os = _; rw [es0]) un I4.hok I4.bare fun b hb => ⟨(f2 b hb).2.2.2.1, (f2 b hb).2.1, (f2 b hb).2.2.2.2.1, (f2 b hb).2.2.2.2.2⟩
   obtain ⟨m4, hn4, _⟩ := I4.loc
   have CL : C ≠ X.env.locals := fun z => by
    have := I2.lt
    rw [← z, szC] at this
    exact absurd this (Nat.not_lt.mpr (Nat.le_succ _))
   refine fin acc C H3 s4 m4 I5 hn4 CL (fun {σ' s''} I6 h' sb => ?_) qn
   refine I6.turned (t' := s''.toks) (fun b o hb e => (sb.2 b hb).trans e) I4.free CL (.inr ?_) (fun x c e z => ?_) fun p hp z => ?_
   ·have := I2.sz
    rw [szC]
    omega
   ·obtain ⟨v, o, q, _⟩ := I2.cell x c e
    have := Heap.lt_size q
    rw [z, szC] at this
    exact absurd this (Nat.not_lt.mpr (Nat.le_succ _))
   ·obtain ⟨q, _⟩ := I2.pin p hp
    have := Heap.lt_size q
    rw [z, szC] at this
    exact absurd this (Nat.not_lt.mpr (Nat.le_succ _))
  ·refine thn (T.item (cxComp X N' sc C s₀ (upd H2 acc (.lst [])) fp) rfl rfl rfl hc i [] s3 _ H3 (fun _ _ => False) I3 (stat fr3) st3 go) fun r s4 ⟨u, hr, h4⟩ => ?_
   subst hr
   refine thn h4 fun _ s5 ⟨x, H5, I5, r5, y5, st5, fr5⟩ => ?_
   have I5' := I5.pinned (stat fr5) (T.obj _ _ st5)
   refine thn (hg C s₀ _ fp _ s5 _ H5 x u _ I5' r5 (ow σ _ x H5 _ ⟨rfl, fun _ _ e => e⟩ (step x H5 y5))) fun _ s6 ⟨σ6, H6, I6, q6, kp6⟩ => ?_
   have again : ∀ {H7 : Hp} {s7 : Shared} {zs : List V}, Inv (cxComp X N' sc C s₀ (upd H2 acc (.lst [])) fp) ([] ++ pinsAt fp s5.heap) σ6 H7 s7 → (∃ m', m' < n ∧ W (i + 1) m' zs H7) →
     ∃ m, m < n ∧ ∃ i ys H', Inv (cxComp X N' sc C s₀ (upd H2 acc (.lst [])) fp) [] (capSt cap σ) H' s7 ∧ tn i s7.heap ∧ (∀ b ∈ fp, H' b = none) ∧ W i m ys H' := fun {H7 s7 zs} I7 w7 => by
    obtain ⟨m', hm, w7⟩ := w7
    refine ⟨m', hm, i + 1, zs, H7, (I7.unpinned).weak kp6.1.symm kp6.2, T.keep _ _ _ st5 fun b hb o e => (I7.pin (b, o) (List.mem_append_right _ (List.mem_append_right _ (mem_pinsAt hb e)))).1, fun b hb => ?_, w7⟩
    obtain ⟨o, e, d⟩ := T.obj _ _ st5 b hb
    exact (I7.pin (b, o) (List.mem_append_right _ (List.mem_append_right _ (mem_pinsAt hb e)))).2.1
   refine thn (ht C s₀ _ fp _ s6 σ6 H6 _ I6 q6) fun ok s7 ⟨H7, I7, q7⟩ => ?_
   cases ok with
   | false =>
    rw [if_neg Bool.false_ne_true] at q7 ⊢
    exact again I7 q7
   | true =>
    rw [if_pos rfl] at q7 ⊢
    refine thn (he C s₀ _ fp _ s7 σ6 H7 _ I7 q7) fun xv s8 ⟨v, H8, I8, r8, hacc8, hl8, w8⟩ => ?_
    refine thn (mt_append _ s8 σ6 H8 (.ref acc) [v] (.ref acc) [xv] (fun _ H9 => H9 = upd H8 acc (.lst (ys ++ [v]))) I8 rfl (.cons r8 .nil) ⟨acc, ys, v, rfl, rfl, hacc8, hl8, rfl⟩) fun _ s9 ⟨_, H9, I9, _, e9⟩ => ?_
    subst e9
    exact again I9 w8
 exact codeAny_compStart_list loop (T.self _ 0 _ _ _ (T.keep _ _ _ st2 fun b hb o e => keep₁ b o (up0 b o e)) loop)

theorem pe_comp (hc : X.calm = true) (B : BlockOk X sc) (cp : CapOk X sc cap N') (hi : PI X tg iter wi) (ow : GOwn cap g)
  (hg : ∀ C s₀ H₀ fp, PG (cxComp X N' sc C s₀ H₀ fp) tg g) (ht : ∀ C s₀ H₀ fp, PTs (cxComp X N' sc C s₀ H₀ fp) ifs tt) (he : ∀ C s₀ H₀ fp, PE (cxComp X N' sc C s₀ H₀ fp) elt te)
  (hs : ∀ x, foldedSetIterable iter X.env x = pure x := by intro _; rfl) : PE X (.ListComp elt [⟨tg, iter, ifs, 0⟩] sc pos) (tComp cap wi g tt te) := by
 intro pins s σ H Q I h
 rw [eval_ListComp]
 refine comp_core (use := none) (R := fun acc H2 => Q (.ref acc) H2) hc B cp hi ow hg ht he hs I h fun acc C H' s' m I' hn CL mk r => ?_
 exact ⟨m, hn, fun h' sb => ⟨.ref acc, H', mk I' h' sb, rfl, r⟩⟩
theorem ps_setComp {i : Nat} {y : Str} {py spos : Pos} (hc : X.calm = true) (B : BlockOk X sc) (cp : CapOk X sc cap N') (hi : PI X tg iter wi) (ow : GOwn cap g)
  (hg : ∀ C s₀ H₀ fp, PG (cxComp X N' sc C s₀ H₀ fp) tg g) (ht : ∀ C s₀ H₀ fp, PTs (cxComp X N' sc C s₀ H₀ fp) ifs tt) (he : ∀ C s₀ H₀ fp, PE (cxComp X N' sc C s₀ H₀ fp) elt te)
  (hN : X.N.Nodup) (hy : X.N[i]? = some y) (hl : X.env.scope.names.lookup y = some .local)
  (hsw : swapsWith (.ListComp elt [⟨tg, iter, ifs, 0⟩] sc pos) (some (.Name y py)) spos.line X.env = pure true := by rfl)
  (hs : ∀ x, foldedSetIterable iter X.env x = pure x := by intro _; rfl) : PS X (.Assign [.Name y py] (.ListComp elt [⟨tg, iter, ifs, 0⟩] sc pos) spos) (tSetComp i cap wi g tt te) := by
 intro pins s σ H D I h
 rw [exec_Assign_Name_used _ _ _ _ hsw]
 refine wpAny_bind (wpAny_standAt (wpAny_bind ?_))
 show wpAny _ X.A (do let _ ← comprehension (.ListComp elt [⟨tg, iter, ifs, 0⟩] sc pos) sc X.env _ (newList []) false (eval iter X.env) (some (assign (.Name y py) X.env))) _ _ s
 refine wpAny_bind (thn (comp_core (use := some (assign (.Name y py) X.env)) (Q := fun _ s' => SP X pins D .next s') (R := fun acc H2 => D.nx (σ.set i (some (.ref acc))) H2) hc B cp hi ow hg ht he hs I h fun acc C H' s' m I' hn CL mk r => ?_) fun _ s' hq => wpAny_pure (wpAny_pure hq))
 show wpAny _ X.A (assign (.Name y py) X.env (.ref acc)) _ _ _
 refine wpAny_assign_Name (store_ok2 I' hN hy (.inl hl) (v := .ref acc) rfl (fun s'' I'' hsb => ?_) (.inr hl))
 obtain ⟨a, sb, ha⟩ := hsb
 have hCa : C ≠ a := by
  rcases ha with ha | ha
  ·rw [ha]; exact CL
  ·intro z
   rw [← z] at ha
   obtain ⟨v, o, q, d⟩ := I'.cell y C ha
   obtain ⟨o', es, ep, q', d', _⟩ := hn
   rw [q] at q'; cases q'
   rw [d] at d'; cases d'
 exact ⟨m, hn.sameBut sb hCa, fun h' sb' => ⟨_, H', mk I'' h' sb', r⟩⟩
end
end L2
namespace L2
open PySem PySem.Spec PyProof.Rows

noncomputable def Tame {α : Type} : Sem α → Prop
 | .pure _ => True
 | .raise _ => True
 | .unsupported _ => True
 | .finish _ => True
 | .rule _ k => ∀ u, Tame (k u)
 | .at _ k => ∀ u, Tame (k u)
 | .load _ _ k => ∀ o, Tame (k o)
 | .update _ _ f k => (∀ o, (f o).dict = o.dict ∧ (f o).cls = o.cls) ∧ ∀ u, Tame (k u)
 | .alloc _ k => ∀ a, Tame (k a)
 | .loadIfAlive _ k => ∀ o, Tame (k o)
 | .point _ k => ∀ u, Tame (k u)
 | .stack k => ∀ x, Tame (k x)
 | .ask k => ∀ x, Tame (k x)
 | _ => False
noncomputable def KD (h h' : Heap) : Prop := ∀ (b : Nat) o, h.objs[b]? = some o → ∃ o', h'.objs[b]? = some o' ∧ o'.dict = o.dict ∧ o'.cls = o.cls
theorem KD.refl (h : Heap) : KD h h := fun _ o e => ⟨o, e, rfl, rfl⟩
theorem KD.trans {h h1 h2 : Heap} (x : KD h h1) (y : KD h1 h2) : KD h h2 := fun b o e => by
 obtain ⟨o1, e1, d1, c1⟩ := x b o e
 obtain ⟨o2, e2, d2, c2⟩ := y b o1 e1
 exact ⟨o2, e2, d2.trans d1, c2.trans c1⟩
theorem KD.push (h : Heap) (o : Obj) : KD h (h.push o) := fun b o' e => by
 refine ⟨o', ?_, rfl, rfl⟩
 obtain ⟨objs, l⟩ := h
 show (objs.push o)[b]? = some o'
 have e : objs[b]? = some o' := e
 rw [Array.getElem?_push]
 have hb : b < objs.size := (Array.getElem?_eq_some_iff.mp e).1
 rw [if_neg (Nat.ne_of_lt hb)]
 exact e
theorem KD.update (h : Heap) (a : Addr) {f : Obj → Obj} (hf : ∀ o, (f o).dict = o.dict ∧ (f o).cls = o.cls) : KD h (h.update a f) := fun b o e => by
 obtain ⟨objs, l⟩ := h
 show ∃ o', (objs.modify a f)[b]? = some o' ∧ _
 rw [Array.getElem?_modify]
 have e : objs[b]? = some o := e
 by_cases hab : a = b
 ·rw [if_pos hab, e]
  exact ⟨f o, rfl, hf o⟩
 ·rw [if_neg hab, e]
  exact ⟨o, rfl, rfl, rfl⟩
theorem get_objs {h : Heap} {a : Addr} {o : Obj} (e : h.get? a = some o) : h.objs[a]? = some o := by
 unfold Heap.get? at e
 split at e
 ·cases e
 ·exact e
theorem KD.at {h h' : Heap} {a : Addr} {o o' : Obj} (k : KD h h') (e : h.get? a = some o) (e' : h'.get? a = some o') : o'.dict = o.dict ∧ o'.cls = o.cls := by
 obtain ⟨o1, e1, d⟩ := k a o (get_objs e)
 rw [get_objs e'] at e1
 cases e1
 exact d
theorem tame_wp {α : Type} {M : Model} {Γ : PySem.Ctx} {t : Sem α} : ∀ {Q : α → Pos → Shared → Prop} {E : Value → Pos → Shared → Prop} {p : Pos} {s : Shared} {h₀ : Heap}, Tame t → KD h₀ s.heap → Sem.wp M Γ t Q E p s →
  Sem.wp M Γ t (fun a p' s' => Q a p' s' ∧ KD h₀ s'.heap) (fun e p' s' => E e p' s' ∧ KD h₀ s'.heap) p s := by
 induction t with
 | pure a => exact fun _ k h => ⟨h, k⟩
 | raise e => exact fun _ k h => ⟨h, k⟩
 | unsupported w => exact fun _ _ h => h.elim
 | finish e => exact fun _ _ h => h.elim
 | rule _ k ih => exact fun t z h => ih () (t ()) z h
 | «at» _ k ih => exact fun t z h => ih () (t ()) z h
 | load a _ k ih =>
  intro Q E p s h₀ t z h
  obtain ⟨o, e, h⟩ := h
  exact ⟨o, e, ih o (t o) z h⟩
 | update a _ f k ih =>
  intro Q E p s h₀ t z h
  obtain ⟨e, h⟩ := h
  exact ⟨e, ih () (t.2 ()) (z.trans (KD.update _ _ t.1)) h⟩
 | alloc o k ih => exact fun t z h => ih _ (t _) (z.trans (KD.push _ _)) h
 | loadIfAlive a k ih => exact fun t z h => ih _ (t _) z h
 | point _ k ih => exact fun t z h => ih () (t ()) z h
 | stack k ih => exact fun t z h => ih _ (t _) z h
 | ask k ih => exact fun t z h => ih _ (t _) z h
 | register _ _ _ => exact fun t => t.elim
 | fresh _ _ => exact fun t => t.elim
 | choose _ _ _ _ => exact fun t => t.elim
 | os _ _ _ _ => exact fun t => t.elim
 | call _ _ _ _ _ _ => exact fun t => t.elim
 | handled _ _ _ => exact fun t => t.elim
 | newGen _ _ _ => exact fun t => t.elim
 | genState _ _ _ => exact fun t => t.elim
 | resume _ _ _ _ _ => exact fun t => t.elim
 | yield _ _ _ _ _ => exact fun t => t.elim
 | fork _ _ _ => exact fun t => t.elim
 | thread _ _ => exact fun t => t.elim
 | await _ _ _ _ _ _ => exact fun t => t.elim
theorem tame_any {α : Type} {M : Model} {A : Around} {t : Sem α} {Q : α → Shared → Prop} {E : Value → Shared → Prop} {s : Shared} (T : Tame t) (h : wpAny M A t Q E s) : wpAny M A t (fun a s' => Q a s' ∧ KD s.heap s'.heap) (fun e s' => E e s' ∧ KD s.heap s'.heap) s :=
 fun Γ p hΓ => tame_wp T (KD.refl _) (h Γ p hΓ)
theorem tame_bind {α β : Type} {f : α → Sem β} (hf : ∀ a, Tame (f a)) : ∀ {t : Sem α}, Tame t → Tame (t.bind f) := by
 intro t
 induction t with
 | pure a => exact fun _ => hf a
 | raise e => exact fun _ => trivial
 | unsupported w => exact fun _ => trivial
 | finish e => exact fun _ => trivial
 | rule _ k ih => exact fun t u => ih u (t u)
 | «at» _ k ih => exact fun t u => ih u (t u)
 | load a _ k ih => exact fun t u => ih u (t u)
 | update a _ f k ih => exact fun t => ⟨t.1, fun u => ih u (t.2 u)⟩
 | alloc o k ih => exact fun t u => ih u (t u)
 | loadIfAlive a k ih => exact fun t u => ih u (t u)
 | point _ k ih => exact fun t u => ih u (t u)
 | stack k ih => exact fun t u => ih u (t u)
 | ask k ih => exact fun t u => ih u (t u)
 | register _ _ _ => exact fun t => t.elim
 | fresh _ _ => exact fun t => t.elim
 | choose _ _ _ _ => exact fun t => t.elim
 | os _ _ _ _ => exact fun t => t.elim
 | call _ _ _ _ _ _ => exact fun t => t.elim
 | handled _ _ _ => exact fun t => t.elim
 | newGen _ _ _ => exact fun t => t.elim
 | genState _ _ _ => exact fun t => t.elim
 | resume _ _ _ _ _ => exact fun t => t.elim
 | yield _ _ _ _ _ => exact fun t => t.elim
 | fork _ _ _ => exact fun t => t.elim
 | thread _ _ => exact fun t => t.elim
 | await _ _ _ _ _ _ => exact fun t => t.elim
theorem tb {α β : Type} {t : Sem α} {f : α → Sem β} (h : Tame t) (hf : ∀ a, Tame (f a)) : Tame (t >>= f) := tame_bind hf h
theorem tame_fieldsOf (v : Value) : Tame (fieldsOf v) := by
 unfold fieldsOf
 split
 ·refine tb (fun o => trivial) fun o => ?_
  split <;> trivial
 ·trivial
theorem tame_field (v : Value) (i : Nat) : Tame (field v i) := by
 unfold field
 refine tb (tame_fieldsOf v) fun a => ?_
 split <;> trivial
theorem mapFields_keep (g : Array Value → Array Value) (o : Obj) : (Obj.mapFields g o).dict = o.dict ∧ (Obj.mapFields g o).cls = o.cls := by
 obtain ⟨c, d, dt, sl⟩ := o
 cases dt <;> exact ⟨rfl, rfl⟩
theorem tame_setField (v : Value) (i : Nat) (x : Value) : Tame (setField v i x) := by
 unfold setField
 split
 ·unfold updateField
  refine tb (fun o => trivial) fun o => ?_
  split
  ·split
   ·exact ⟨fun o => mapFields_keep _ o, fun _ => trivial⟩
   ·trivial
  ·trivial
 ·trivial
theorem tame_setFlight (e : Value) (f : Option Addr) : Tame (setFlight e f) := by
 unfold setFlight
 refine tb (tame_field _ _) fun tb' => ?_
 split
 ·exact tame_setField _ _ _
 ·trivial
theorem tame_newFields (ty : String) (vs : List Value) : Tame (newFields ty vs) := by
 have h : Tame (newObjAsIs (Value.type ty) (Data.fields vs.toArray)) := by
  unfold newObjAsIs
  exact tb (fun a => trivial) fun a => trivial
 unfold newFields newObj
 show Tame (if vs.toArray.size > sizeLine + 2 then (unsupported "record:memory" >>= fun _ => newObjAsIs (Value.type ty) (Data.fields vs.toArray)) else newObjAsIs (Value.type ty) (Data.fields vs.toArray))
 split
 ·trivial
 ·exact h
theorem tame_behind (env : Env) (outer : List Env) : Tame (behindIsImport env outer) := by
 unfold behindIsImport
 split
 ·trivial
 ·split
  ·trivial
  ·exact tb (tame_field _ _) fun _ => trivial
theorem tame_under : Tame underTheClaimsCaller := tb (fun _ => trivial) fun _ => trivial
theorem tame_keptBack (env : Env) (i : Bool) (outer : List Env) : Tame (keptBack env i outer) := by
 cases outer with
 | nil =>
  unfold keptBack
  by_cases h : (env.scope.isGenerator || env.scope.isCoroutine) = true
  ·rw [if_pos h]; trivial
  ·rw [if_neg h]
   refine tb tame_under fun x => ?_
   trivial
 | cons c r =>
  unfold keptBack
  trivial
theorem tame_ready : ∀ l : List Env, Tame (readyFrames l)
 | [] => trivial
 | env :: outer => by
  unfold readyFrames
  split
  ·refine tb (fun o => trivial) fun o => ?_
   split
   ·trivial
   ·exact tb (tame_behind _ _) fun i => tb (tame_keptBack _ _ _) fun b => tb ⟨fun o => ⟨rfl, rfl⟩, fun _ => trivial⟩ fun _ => tame_ready outer
  ·trivial
theorem tame_frameOf (env : Env) : Tame (PySem.frameOf env) := by
 unfold PySem.frameOf
 refine tb (fun x => trivial) fun l => tb ?_ fun o => ?_
 ·generalize List.dropWhile _ l = l'
  unfold frameObject
  cases l' with
  | nil => trivial
  | cons a r => exact tb (tame_ready _) fun _ => trivial
 ·split <;> trivial
theorem tame_entryPlace (f : Addr) (b : Bool) : Tame (entryPlaceOf f b) := by
 unfold entryPlaceOf
 refine tb (fun x => trivial) fun l => ?_
 split <;> trivial
theorem tame_noteFrame (e : Value) (env : Env) : Tame (noteFrame e env) := by
 unfold noteFrame
 split
 ·rename_i f _
  have last : ∀ head : Value, Tame (do setField e 1 (← EntryCells.newEntry head (← PySem.frameOf env) .none (rawInt f) .none (← entryPlaceOf f (head != .none)))) := fun head =>
   tb (tame_frameOf env) fun a => tb (tame_entryPlace _ _) fun pl => tb (tame_newFields _ _) fun b => tame_setField _ _ _
  refine tb (tame_field _ _) fun head => ?_
  split
  ·refine tb (tame_field _ _) fun x => ?_
   split
   ·trivial
   ·exact tb (tame_setField _ _ _) fun _ => last head
  ·exact last head
 ·trivial
theorem tame_leaving (env : Env) (e : Value) : Tame (leaving env e) := tb (tame_noteFrame e env) fun _ => tame_setFlight _ _
end L2
namespace L2
open PySem PySem.Spec PyProof.Rows

theorem ObjOk.there {P : Program} {w : World} {H : Hp} {h : Heap} {a : Addr} {o : HO} (x : ObjOk P w H h a o) : ∃ ob, h.get? a = some ob := by
 cases o with
 | lst xs => obtain ⟨_, _, _, _, e⟩ := x; exact ⟨_, e⟩
 | tup xs => obtain ⟨_, _, _, ob, e, _⟩ := x; exact ⟨_, e⟩
 | dK kvs => obtain ⟨_, _, _, _, o, _, _, e, _⟩ := x; exact ⟨_, e⟩
 | dT kvs => obtain ⟨_, _, _, _, o, _, _, e, _⟩ := x; exact ⟨_, e⟩
 | set S n => obtain ⟨o, _, _, _, e, _⟩ := x; exact ⟨_, e⟩
 | ins C dx fs => obtain ⟨_, _, _, e, _⟩ := x; exact ⟨_, e⟩
 | own y => obtain ⟨_, e⟩ := x; exact ⟨_, e⟩
 | xd fs => obtain ⟨_, ⟨_, _, _, e, _⟩, _⟩ := x; exact ⟨_, e⟩
 | rng lo hi => obtain ⟨_, _, _, e⟩ := x; exact ⟨_, e⟩
 | frz ob u => obtain ⟨e, _⟩ := x; exact ⟨_, e⟩
 | tbl ps => exact ⟨_, (show h.get? a = some _ from x)⟩
 | met f y => exact ⟨_, (show h.get? a = some _ from x)⟩
 | ext φ => obtain ⟨_, ⟨_, e⟩, _⟩ := x; exact ⟨_, e⟩

noncomputable def Cov (outer : List Env) (H' : Hp) (old h' B : Heap) : Prop :=
 (∀ b o, (∃ o0, old.get? b = some o0) → b ∉ frs outer → h'.get? b = some o → B.get? b = some o) ∧ ∀ b u o, H' b = some u → h'.get? b = some o → B.get? b = some o
structure Fly (P : Program) (w : World) (outer : List Env) (H : Hp) (s : Shared) (e : Addr) (cls : Value) (H' : Hp) (s' : Shared) : Prop where
 os : s'.os = s.os
 bare : AllBare s'.gens
 un : Un (frs outer) [] H H' s.heap s'.heap
 hok : HOk P w H' s'.heap
 fly : ∃ B t, Heap.FlyingW B outer e cls (.ref t) s'.heap ∧ Cov outer H' s.heap s'.heap B
 new : s.heap.get? e = none
 free : H' e = none
 nd : ∀ o, s'.heap.get? e = some o → o.dict = none
noncomputable def CXE (P : Program) (w : World) : CXT := fun outer H s E ev s' => ∃ e cls H', ev = .ref e ∧ Fly P w outer H s e cls H' s' ∧ E cls none H'

theorem Fly.moved {P : Program} {w : World} {outer : List Env} {H H' : Hp} {s s' : Shared} {e : Addr} {cls a0 : Value} {B h2 : Heap} (F : Fly P w outer H s e cls H' s') (fl : Heap.FlyingW B outer e cls a0 s'.heap) (cov : Cov outer H' s.heap s'.heap B)
  (st : B.StaysIn h2) (sm : s'.heap.UpToSlots h2) : Un (frs outer) [] H H' s.heap h2 ∧ HOk P w H' h2 ∧ Cov outer H' s.heap h2 B := by
 have nofs : ∀ b u, H' b = some u → ∃ o, s'.heap.get? b = some o ∧ B.get? b = some o ∧ h2.get? b = some o := fun b u q => by
  obtain ⟨o, e1⟩ := (F.hok b u q).there
  have e2 := cov.2 b u o q e1
  exact ⟨o, e1, e2, st b o e2⟩
 have old : ∀ b o0, s.heap.get? b = some o0 → b ∉ frs outer → ∃ o, s'.heap.get? b = some o ∧ B.get? b = some o ∧ h2.get? b = some o := fun b o0 q hb => by
  obtain ⟨o, e1⟩ := F.un.there b o0 q (by simp)
  have e2 := cov.1 b o ⟨o0, q⟩ hb e1
  exact ⟨o, e1, e2, st b o e2⟩
 have fr : ∀ b ∈ frs outer, ∃ o sl, s'.heap.get? b = some o ∧ h2.get? b = some { o with slots := sl } := fun b hb => by
  obtain ⟨_, o, e1, d⟩ := fl.2.2.1.mem hb
  obtain ⟨sl, e2⟩ := sm b o e1 d
  exact ⟨o, sl, e1, e2⟩
 refine ⟨⟨fun b o q n hb _ => ?_, fun b o q n hb _ => ?_, fun b o q n hx => F.un.free b o q n hx, fun b o q _ => ?_, F.un.tups, F.un.frzs, F.un.tbls⟩, fun a u q => ?_, fun b o q hb e1 => ?_, fun b u o q e1 => ?_⟩
 ·obtain ⟨o1, e1, _, e3⟩ := old b o q hb
  have e4 := F.un.keep b o q n hb (by simp)
  rw [e1] at e4; cases e4
  exact e3
 ·obtain ⟨o1, sl1, e1, e2⟩ := fr b hb
  obtain ⟨sl, e4⟩ := F.un.slot b o q n hb (by simp)
  rw [e1] at e4; cases e4
  exact ⟨sl1, e2⟩
 ·by_cases hb : b ∈ frs outer
  ·obtain ⟨o1, sl1, e1, e2⟩ := fr b hb
   exact ⟨_, e2⟩
  ·obtain ⟨o1, _, _, e3⟩ := old b o q hb
   exact ⟨_, e3⟩
 ·refine (F.hok a u q).stay (fun b ob hb eb => ?_) (fun _ z => z) fun _ _ z => z
  have : ∃ u', H' b = some u' := by
   rcases hb with z | z
   ·exact ⟨u, z ▸ q⟩
   ·exact ⟨_, z⟩
  obtain ⟨u', hu⟩ := this
  obtain ⟨o1, e1, _, e3⟩ := nofs b u' hu
  rw [eb] at e1; cases e1
  exact e3
 ·obtain ⟨o0, q⟩ := q
  obtain ⟨o1, _, e2, e3⟩ := old b o0 q hb
  rw [e1] at e3; cases e3
  exact e2
 ·obtain ⟨o1, _, e2, e3⟩ := nofs b u q
  rw [e1] at e3; cases e3
  exact e2

section
variable {P : Program} {w : World} {K : PySem.W.Frag} {mg : Str → Option Value} {base : Heap} {N : List Str} {qual : Str} {scope : Scope} {f : Addr} {cdv : Value} {A : Around} {outer : List Env} {s : Shared} {H : Hp} {E : XK}


theorem passE : Passes (CXE P w) (cxOf (CXE P w) P w K mg base N qual scope f cdv A outer s H E) E := by
 rintro pins σ H1 s1 ev s' I ⟨e, cls, H', rfl, F, hE⟩
 obtain ⟨B, t, fl, cov⟩ := F.fly
 have hfs : ∀ b ∈ frs (envOfC qual scope s.heap.objs.size f cdv :: outer), b ∈ s.heap.objs.size :: frs outer := I.stkSub
 refine wpAny_mono (tame_any (tame_leaving _ _) (wpAny_leaves_onW (E := fun _ _ => False) (Q := fun _ s'' => ∃ h', s'' = { s' with heap := h' } ∧ Heap.FlyingW B outer e cls (.ref t) h' ∧ s'.heap.UpToSlots h') (L := s.heap.objs.size) I.ok.frames rfl fl fun h' x1 x2 => ⟨h', rfl, x1, x2⟩)) (fun _ s3 h3 => ?_) fun _ _ h3 => h3.1.elim
 obtain ⟨⟨h', rfl, x1, x2⟩, kd⟩ := h3
 obtain ⟨un, hok, cov'⟩ := F.moved fl cov x1.1 x2
 have exn : ∀ b : Addr, b ∉ (cxOf (CXE P w) P w K mg base N qual scope f cdv A outer s H E).ex := fun b z => absurd (show b ∈ ([] : List Addr) from z) (by simp)
 have nfs : ∀ b o, s.heap.get? b = some o → b ∉ frs outer → b ∉ frs (envOfC qual scope s.heap.objs.size f cdv :: outer) := fun b o q hb hz => by
  rcases List.mem_cons.mp (hfs b hz) with z | z
  ·exact Nat.ne_of_lt (Heap.lt_size q) z
  ·exact hb z
 have sub : ∀ b ∈ frs outer, b ∈ frs (envOfC qual scope s.heap.objs.size f cdv :: outer) := fun b hb => by
  unfold frs at hb ⊢
  rw [List.filterMap_cons]
  exact List.mem_cons_of_mem _ hb
 refine ⟨e, cls, H', rfl, ⟨F.os.trans I.os, F.bare, ⟨fun b o q n hb _ => ?_, fun b o q n hb _ => ?_, fun b o q n _ => ?_, fun b o q _ => ?_, fun b xs q => un.tups b xs (I.base.tups b xs q), fun b o xs q => un.frzs b o xs (I.base.frzs b o xs q), fun b ps q => ?_⟩, hok,
  ⟨B, t, x1, fun b o q hb e1 => ?_, cov'.2⟩, ?_, F.free, fun o q => ?_⟩, hE⟩
 ·exact un.keep b o (I.base.keep b o q n hb (exn b)) (I.base.free b o q n (exn b)) (nfs b o q hb) (by simp)
 ·obtain ⟨sl, e1⟩ := I.base.slot b o q n hb (exn b)
  obtain ⟨sl2, e2⟩ := un.slot b _ e1 (I.base.free b o q n (exn b)) (sub b hb) (by simp)
  exact ⟨sl2, e2⟩
 ·obtain ⟨o1, e1⟩ := I.base.there b o q (exn b)
  exact un.free b o1 e1 (I.base.free b o q n (exn b)) (by simp)
 ·obtain ⟨o1, e1⟩ := I.base.there b o q (exn b)
  exact un.there b o1 e1 (by simp)
 ·obtain ⟨m1, e1⟩ := I.base.tbls b ps q
  obtain ⟨m2, e2⟩ := un.tbls b _ e1
  exact ⟨m1 ++ m2, by rw [e2, Array.append_assoc]⟩
 ·obtain ⟨o0, q⟩ := q
  obtain ⟨o1, q1⟩ := I.base.there b o0 q (exn b)
  exact cov'.1 b o ⟨o1, q1⟩ (nfs b o0 q hb) e1
 ·cases q : s.heap.get? e with
  | none => rfl
  | some o =>
   obtain ⟨o', q'⟩ := I.base.there e o q (exn e)
   have := F.new
   rw [q'] at this; cases this
 ·obtain ⟨ob, hob, _⟩ := fl.there
  exact (kd.at hob q).1.trans (F.nd ob hob)
end

structure ExcCls (K : PySem.W.Frag) (mg : Str → Option Value) (x : Str) (C : Addr) (bmB : List Value) (newId : String) : Prop where
 mg : mg x = some (.ref C)
 inK : PySem.W.excIn K C bmB newId = true

end L2
namespace L2
open PySem PySem.Spec PyProof.Rows

theorem passF {P : Program} {w : World} {X : Cx} : Passes (CXE P w) X E0 := fun _ _ _ _ _ _ _ ⟨_, _, _, _, _, h⟩ => h.elim

noncomputable abbrev TEx := St → Hp → VK → (Value → Hp → Prop) → Prop
noncomputable abbrev TAx := St → Hp → (List V → Hp → Prop) → (Value → Hp → Prop) → Prop
noncomputable abbrev TSx := Ends → (Value → Hp → Prop) → St → Hp → Prop
section
variable {X : Cx} {e : Expr} {es : List Expr} {te : TE}
end

noncomputable def excO (e : Addr) (cls : Value) : HO := .ext fun h => ∃ ob, h.get? e = some ob ∧ ob.cls = cls ∧ ob.dict = none ∧ ∃ vs, ob.data = .fields vs
noncomputable abbrev Cx.hand (X : Cx) (e : Addr) : Cx := { X with A := X.A.mark (some (.ref e)), calm := false, xe := fun _ _ => False }
section
variable {X : Cx} {pins : List (Addr × Obj)} {σ : St} {H : Hp} {s : Shared}
end


end L2
namespace L2
open PySem PySem.Spec PyProof.Rows
open PySem.Builtin.Int (intBits)

noncomputable def CMulB (i j : Int) : Prop := ∃ m n : Nat, intBits i ≤ m ∧ intBits j ≤ n ∧ m + n ≤ 134217728
noncomputable def CDivB (i j : Int) : Prop := j ≠ 0 ∧ intBits j ≤ 9000
section
variable {X : Cx}
theorem op_mulB : OpR X (binaryOp .Mult) (rI CMulB fun i j => .int (i * j)) := opI fun _ _ _ _ _ _ _ hc q => by
 obtain ⟨m, n, h1, h2, h3⟩ := hc
 exact mul_int q (IntMulOk.of_le h1 h2 h3)
theorem op_fdivB : OpR X (binaryOp .FloorDiv) (rI CDivB fun i j => .int (i.fdiv j)) := opI fun i j _ _ _ _ _ hc q => floordiv_int hc.1 q (.inl (PyProof.noPylong_of_log2 (by
 have h := PySem.intBits_le_iff.mp hc.2
 by_cases z : j.natAbs = 0
 ·rw [z]; decide
 ·exact (Nat.log2_lt z).mpr h)))


end
section
variable {prog : Program} {w : World} {A : Around} {E : Value → Shared → Prop} {s : Shared} {K : PySem.W.Frag} {x D : Addr} {ox : Obj}
theorem exc_ga_check {M : Model} {nameV : Value} {Q : Unit → Shared → Prop} (X : K.In s.heap) (I : PySem.W.InstAt s.heap x ox D none) (be : PySem.W.mroIn K D (.type "BaseException") = some true) (hq : Q () s) :
  wpAny M A (checkBuiltinCall "BaseException.__getattribute__" ⟨[.ref x, nameV], []⟩) Q E s := by
 obtain ⟨hh, g, d, t, os⟩ := s
 have hk : builtinKind "BaseException.__getattribute__" = some .slot := by decide +kernel
 have hsplit : splitId "BaseException.__getattribute__" = some ("BaseException", "__getattribute__") := by decide +kernel
 have L0 := I.type (M := M)
 have L1 := PySem.W.looks_mroIn (M := M) X be
 have ha := F.args_bexc_ga (.ref x) nameV
 simp only [checkBuiltinCall, hk, hsplit]
 refine wpAny_bind ?_
 unfold isInstance
 refine wpAny_bind (L0.at (L1.at ?_))
 repeat (first | wp_step)
 exact hq
theorem exc_class {Q : Option Value → Shared → Prop} (X : K.In s.heap) (I : PySem.W.InstAt s.heap x ox D none) (ga : PySem.W.findIn K (.ref D) "__getattribute__" = some (some (.builtin "BaseException.__getattribute__"))) (noga : PySem.W.findIn K (.ref D) "__getattr__" = some none)
  (be : PySem.W.mroIn K D (.type "BaseException") = some true) (hf : PySem.W.findObj K D none "__class__" = some (.bind (.builtin "getset_descriptor.__get__") (.builtin "object.__class__"))) (hm : PySem.W.mroIn K D (.type "object") = some true)
  (h : Q (some (.ref D)) { s with toks := s.toks + 1 }) : wpAny (model prog w) A (getAttr? (.ref x) "__class__") Q E s := by
 obtain ⟨hh, g, d, t, os⟩ := s
 have L0 := I.type (M := model prog w)
 have L1 := PySem.W.looks_findIn (M := model prog w) X ga
 have L2 := PySem.W.looks_findIn (M := model prog w) X noga
 have L3 := PySem.W.looks_find (M := model prog w) X I hf
 have hb := F.attrBase_ValueError.ga.bind (.ref x)
 unfold getAttr? getAttrBy? getAttrBy
 refine wpAny_bind (wpAny_mkText (wpAny_bind (wpAny_attempt (wpAny_holding (wpAny_bind (L0.at (wpAny_bind (L1.at ?_))))))))
 dsimp only
 rw [if_neg (show ¬ (onTheHeap (Value.ref D) && (Value.builtin "BaseException.__getattribute__" == Value.builtin "object.__getattribute__")) = true by rw [show (Value.builtin "BaseException.__getattribute__" == Value.builtin "object.__getattribute__") = false by decide +kernel]; simp)]
 unfold getAttrByItsOwn hookBefore
 refine wpAny_bind ?_
 show wpAny _ _ (typeLookup (.ref D) "__getattr__") _ _ _
 refine L2.at ?_
 refine wpAny_bind (wpAny_attempt (wpAny_holding ?_))
 unfold callGetattribute boundAndCalled
 rw [if_neg (by decide), hb]
 refine wpAny_bind (wpAny_pure ?_)
 dsimp only
 refine wpAny_call (codeAny_call_builtin F.attrBase_ValueError.ga.plain F.entry_bexc_ga (exc_ga_check (ox := ox) X I be ?_))
 unfold Builtin.«object.__getattribute__»
 refine wpAny_bind (wpAny_of_eq (show slotArgs "__getattribute__" 1 { pos := [Value.ref x] ++ [Value.str (Str.ofString "__class__") t] } = pure (.ref x, [Value.str (Str.ofString "__class__") t]) from rfl) ?_)
 dsimp only
 refine wpAny_bind (wpAny_of_eq (show Builtin.ObjectAttr.attrName (Value.str (Str.ofString "__class__") t) = pure (Str.ofString "__class__") from rfl) ?_)
 refine wpAny_bind (L0.at (wpAny_bind (L3.at ?_)))
 dsimp only
 show wpAny _ _ (do ret (← holding [Value.builtin "object.__class__"] (call (.builtin "getset_descriptor.__get__") [.builtin "object.__class__", .ref x, .ref D]))) _ _ _
 refine wpAny_bind (wpAny_holding (wpAny_call (PySem.W.class_get (ox := ox) (od := none) X I hm ?_)))
 exact wpAny_pure (PySem.W.handed_on rfl (wpAny_pure h))
end
section
variable {X : Cx}
structure ExcIs (K : PySem.W.Frag) (D : Addr) : Prop where
 ga : PySem.W.findIn K (.ref D) "__getattribute__" = some (some (.builtin "BaseException.__getattribute__"))
 noga : PySem.W.findIn K (.ref D) "__getattr__" = some none
 be : PySem.W.mroIn K D (.type "BaseException") = some true
 hc : (PySem.W.clsIn K D).isSome = true
 ha : PySem.W.findIn K (.ref D) "__class__" = some (some (.builtin "object.__class__"))
 hn : PySem.W.specialIn K (.builtin "object.__class__") "__get__" = some (some (.builtin "getset_descriptor.__get__"))
 htk : PySem.W.takesIn K (.builtin "object.__class__") = some true
 hm : PySem.W.mroIn K D (.type "object") = some true
theorem kitx_exc {K : PySem.W.Frag} {x D : Addr} (e : ExcIs K D) : PySem.W.KitX K (.ref x) (.ref D) (fun h => ∃ ox, PySem.W.InstAt h x ox D none) where
 ty := fun _ _ _ ⟨_, I⟩ => I.type
 it := fun _ _ X _ => by
  obtain ⟨cd, hcd⟩ := Option.isSome_iff_exists.mp e.hc
  unfold PySem.W.clsIn at hcd
  split at hcd
  ·rename_i ho
   intro A' Q' E' s' k q
   unfold isType loadHead
   exact wpAny_bind (wpAny_loadPart (k _ _ (X _ _ ho)) (wpAny_pure q))
  ·cases hcd
 ne := fun h tp dd its n sl X htp => by
  obtain ⟨cd, hcd⟩ := Option.isSome_iff_exists.mp e.hc
  refine Bool.eq_false_iff.mpr fun q => ?_
  have z : D = tp := Value.ref.inj (beq_iff_eq.mp q)
  subst z
  unfold PySem.W.clsIn at hcd
  split at hcd
  ·rename_i ho
   have y := (X _ _ ho).symm.trans htp
   cases y
  ·cases hcd
 ca := fun {_ _ _ _ _ s} X I k => by
  obtain ⟨ox, I⟩ := I
  obtain ⟨cd, hcd⟩ := Option.isSome_iff_exists.mp e.hc
  have hf : PySem.W.findObj K D none "__class__" = some (.bind (.builtin "getset_descriptor.__get__") (.builtin "object.__class__")) := by
   unfold PySem.W.findObj
   rw [hcd, Option.bind_some, e.ha, Option.bind_some]
   simp [e.hn, e.htk]
  exact exc_class X I e.ga e.noga e.be hf e.hm k

inductive TyX (K : PySem.W.Frag) (H : Hp) : V → Value → Prop where
 | of {x : V} {t : Value} (h : TyOf K H x t) : TyX K H x t
 | exc {e D : Addr} (h : H e = some (excO e (.ref D))) (k : ExcIs K D) : TyX K H (.ref e) (.ref D)
 | sqt {a : Addr} {xs : List V} (h : SqT K H a xs) : TyX K H (.ref a) (.type "tuple")
 | sql {a : Addr} {xs : List V} (h : SqL K H a xs) : TyX K H (.ref a) (.type "list")
theorem TyX.kit {pins : List (Addr × Obj)} {σ : St} {H : Hp} {s : Shared} {x : V} {u t : Value} (I : Inv X pins σ H s) (rx : RelV x u) (ty : TyX X.K H x t) : ∃ Hh, PySem.W.KitX X.K u t Hh ∧ Hh s.heap := by
 cases ty with
 | of ty =>
  cases ty with
  | non => cases (show u = Value.none from rx); exact ⟨_, PySem.W.kitx_none, True.intro⟩
  | bl y => cases (show u = Value.bool y from rx); exact ⟨_, PySem.W.kitx_bool, True.intro⟩
  | int i => obtain ⟨t, q⟩ := (show ∃ t, u = Value.int i t from rx); cases q; exact ⟨_, PySem.W.kitx_int, True.intro⟩
  | str y => obtain ⟨t, q⟩ := (show ∃ t, u = Value.str y t from rx); cases q; exact ⟨_, PySem.W.kitx_str, True.intro⟩
  | flt y => obtain ⟨t, q⟩ := (show ∃ t, u = Value.float y t from rx); cases q; exact ⟨_, PySem.W.kitx_float, True.intro⟩
  | @lst a xs ea =>
   cases (show u = Value.ref a from rx)
   obtain ⟨_, _, n, _, h1⟩ := (show ObjOk X.prog X.w H s.heap a (.lst xs) from I.hok a _ ea)
   exact ⟨_, PySem.W.kitx_list, ⟨_, h1, rfl⟩⟩
  | @frz a ob xs ea =>
   cases (show u = Value.ref a from rx)
   obtain ⟨_, _, _, n, _, h1⟩ := (show ObjOk X.prog X.w H s.heap a (.frz ob (.lst xs)) from I.hok a _ ea)
   exact ⟨_, PySem.W.kitx_list, ⟨_, h1, rfl⟩⟩
  | @tup a xs ea =>
   cases (show u = Value.ref a from rx)
   obtain ⟨_, _, _, p⟩ := (show ObjOk X.prog X.w H s.heap a (.tup xs) from I.hok a _ ea)
   obtain ⟨o, h1, h2, _⟩ := p
   exact ⟨_, PySem.W.kitx_tuple, ⟨o, h1, h2⟩⟩
  | @dK a kvs ea =>
   cases (show u = Value.ref a from rx)
   obtain ⟨_, _, vs, _, p⟩ := (show ObjOk X.prog X.w H s.heap a (.dK kvs) from I.hok a _ ea)
   obtain ⟨o, es, ep, h1, h2, _⟩ := p
   exact ⟨_, PySem.W.kitx_dict, ⟨o, h1, h2.1⟩⟩
  | @dT a kvs ea =>
   cases (show u = Value.ref a from rx)
   obtain ⟨_, _, xs, _, o, es, ep, h1, h2, _⟩ := (show ObjOk X.prog X.w H s.heap a (.dT kvs) from I.hok a _ ea)
   exact ⟨_, PySem.W.kitx_dict, ⟨o, h1, h2.1⟩⟩
  | @ins a C dx fs ea cl ha hn htk hm =>
   cases (show u = Value.ref a from rx)
   obtain ⟨mA, O, _⟩ := ins_get I.hok ea
   obtain ⟨od, J, _⟩ := O.look
   exact ⟨_, PySem.W.kitx_own (cl.get _) cl.hd ha hn htk hm, J⟩
 | @sqt a xs h =>
  cases (show u = Value.ref a from rx)
  obtain ⟨its, _, ⟨o, h1, h2, _⟩, _⟩ := I.tuple h
  exact ⟨_, PySem.W.kitx_tuple, ⟨o, h1, h2⟩⟩
 | @sql a xs h =>
  cases (show u = Value.ref a from rx)
  obtain ⟨its, _, ⟨o, n, h1, h2, _⟩, _⟩ := I.list h
  exact ⟨_, PySem.W.kitx_list, ⟨o, h1, h2⟩⟩
 | @exc e D h k =>
  cases (show u = Value.ref e from rx)
  obtain ⟨⟨ob, h1, h2, h3, vs, h4⟩, _⟩ := (show ObjOk X.prog X.w H s.heap e (excO e (.ref D)) from I.hok e _ h)
  refine ⟨_, kitx_exc k, ob, h1, h2, ?_, ?_⟩
  ·unfold PySem.W.notCls
   rw [h4]
  ·rw [h3]; trivial
noncomputable def clsV : V → Option Value
 | .ref a => some (.ref a)
 | .ty n => some (.type n)
 | _ => none
theorem clsV_rel {c : V} {cv u : Value} (h : clsV c = some cv) (r : RelV c u) : u = cv := by
 cases c with
 | ref a => cases h; exact r
 | ty n => cases h; exact r
 | _ => cases h
theorem RelV.nb {x : V} {u : Value} (r : RelV x u) : u ≠ .builtin "__main__.__loader__#opaque" := by
 cases x with
 | non => rintro rfl; cases r
 | bl b => rintro rfl; cases r
 | int i => rintro rfl; obtain ⟨_, q⟩ := r; cases q
 | str i => rintro rfl; obtain ⟨_, q⟩ := r; cases q
 | byt i => rintro rfl; obtain ⟨_, q⟩ := r; cases q
 | flt i => rintro rfl; obtain ⟨_, q⟩ := r; cases q
 | ref a => rintro rfl; cases r
 | ty a => rintro rfl; cases r
noncomputable def rIsi (K : PySem.W.Frag) : List V → Hp → VK → Prop := fun xs H Q => ∃ x c cv t b, xs = [x, c] ∧ clsV c = some cv ∧ TyX K H x t ∧ PySem.W.kitOne K t cv = some b ∧ Q (.bl b) H
theorem call_isi : CallR X (.builtin "isinstance") (rIsi X.K) := by
 intro pins s σ H xs us Q I r h
 obtain ⟨x, c, cv, t, b, rfl, hc, ty, e, q⟩ := h
 obtain ⟨u, w', rfl, ru, rw'⟩ := vals2 r
 obtain rfl := clsV_rel hc rw'
 obtain ⟨Hh, Z, p⟩ := ty.kit I ru
 exact PySem.W.kia_one Z I.kIn p e ru.nb fun tk => ⟨.bl b, H, I.tok tk, rfl, q⟩
end
theorem kit_same {K : PySem.W.Frag} {t : Value} : PySem.W.kitOne K t t = some true := by unfold PySem.W.kitOne; rw [if_pos (by simp)]
theorem kit_bool_int {K : PySem.W.Frag} : PySem.W.kitOne K (.type "bool") (.type "int") = some true := by
 have h : (fastBuiltinMro "bool").map (·.contains (.type "int")) = some true := by decide +kernel
 have hm : PySem.W.kitMeta "int" = true := by decide +kernel
 unfold PySem.W.kitOne PySem.W.kitCls
 rw [if_neg (by decide)]
 show (if PySem.W.kitMeta "int" = true then PySem.W.subIn K (.type "bool") (.type "int") else none) = _
 rw [if_pos hm]
 exact h
theorem kit_int_bool {K : PySem.W.Frag} : PySem.W.kitOne K (.type "int") (.type "bool") = some false := by
 have h : (fastBuiltinMro "int").map (·.contains (.type "bool")) = some false := by decide +kernel
 have hm : PySem.W.kitMeta "bool" = true := by decide +kernel
 unfold PySem.W.kitOne PySem.W.kitCls
 rw [if_neg (by decide)]
 show (if PySem.W.kitMeta "bool" = true then PySem.W.subIn K (.type "int") (.type "bool") else none) = _
 rw [if_pos hm]
 exact h
end L2
namespace L2
open PySem PySem.Spec PyProof.Rows

inductive D where
 | non | bl (b : Bool) | int (i : Int) | str (x : Str) | tup (l : List D) | lst (l : List D) | ins (C : Addr) (ns : List Str) (l : List D)
mutual
inductive Is (K : PySem.W.Frag) (H : Hp) : V → D → Prop where
 | non : Is K H .non .non
 | bl (b : Bool) : Is K H (.bl b) (.bl b)
 | int (i : Int) : Is K H (.int i) (.int i)
 | str (x : Str) : Is K H (.str x) (.str x)
 | tup {a : Addr} {xs : List V} {ds : List D} : SqT K H a xs → IsL K H xs ds → Is K H (.ref a) (.tup ds)
 | lst {a : Addr} {xs : List V} {ds : List D} : SqL K H a xs → IsL K H xs ds → Is K H (.ref a) (.lst ds)
 | ins {a C dx : Addr} {ns : List Str} {xs : List V} {ds : List D} : H a = some (.ins C dx (ns.zip xs)) → ns.length = xs.length → IsL K H xs ds → Is K H (.ref a) (.ins C ns ds)
inductive IsL (K : PySem.W.Frag) (H : Hp) : List V → List D → Prop where
 | nil : IsL K H [] []
 | cons {v : V} {d : D} {vs : List V} {ds : List D} : Is K H v d → IsL K H vs ds → IsL K H (v :: vs) (d :: ds)
end
theorem same_upd {H : Hp} {p : Addr} {o : HO} (h : H p = none) : Same H (upd H p o) := fun b u e => by rw [upd_ne (ne_of_none e h)]; exact e
theorem IsL.len {K : PySem.W.Frag} {H : Hp} : ∀ {vs : List V} {ds : List D}, IsL K H vs ds → vs.length = ds.length
 | _, _, .nil => rfl
 | _, _, .cons _ l => by rw [List.length_cons, List.length_cons, l.len]
theorem IsL.get {K : PySem.W.Frag} {H : Hp} : ∀ {vs : List V} {ds : List D} {i : Nat} {d : D}, IsL K H vs ds → ds[i]? = some d → ∃ v, vs[i]? = some v ∧ Is K H v d
 | _, _, _, _, .nil, e => by simp at e
 | _, _, 0, _, .cons h _, e => by simp at e; subst e; exact ⟨_, rfl, h⟩
 | _, _, i + 1, d, .cons _ l, e => by
  obtain ⟨v, e1, e2⟩ := l.get (i := i) (d := d) (by simpa using e)
  exact ⟨v, by simpa using e1, e2⟩
theorem Is.int_inv {K : PySem.W.Frag} {H : Hp} {v : V} {i : Int} (h : Is K H v (.int i)) : v = .int i := by cases h; rfl
theorem Is.bl_inv {K : PySem.W.Frag} {H : Hp} {v : V} {b : Bool} (h : Is K H v (.bl b)) : v = .bl b := by cases h; rfl
theorem Is.str_inv {K : PySem.W.Frag} {H : Hp} {v : V} {b : Str} (h : Is K H v (.str b)) : v = .str b := by cases h; rfl
theorem Is.non_inv {K : PySem.W.Frag} {H : Hp} {v : V} (h : Is K H v .non) : v = .non := by cases h; rfl
theorem Is.tup_inv {K : PySem.W.Frag} {H : Hp} {v : V} {ds : List D} (h : Is K H v (.tup ds)) : ∃ a xs, v = .ref a ∧ SqT K H a xs ∧ IsL K H xs ds := by cases h with | tup a b => exact ⟨_, _, rfl, a, b⟩
theorem Is.lst_inv {K : PySem.W.Frag} {H : Hp} {v : V} {ds : List D} (h : Is K H v (.lst ds)) : ∃ a xs, v = .ref a ∧ SqL K H a xs ∧ IsL K H xs ds := by cases h with | lst a b => exact ⟨_, _, rfl, a, b⟩

noncomputable abbrev dQ (a b : Int) : D := .tup [.int a, .int b]


section
variable {σ : St} {H : Hp} {Q : VK} {ta tb tc : TE} {D' : Ends} {v : V} {i : Nat}
end
local macro_rules | `(tactic| walk_at "rd") => `(tactic| repeat (first | refine i_seq ?_ | refine i_asg ?_ | refine i_gName ?_ | refine i_var rfl ?_ | refine i_c ?_ | refine i_op ?_ | refine i_I0 ?_ | refine i_U ?_ | refine i_un ?_ | refine i_cmp ?_ | refine i_2 ?_ | refine i_B ?_ | refine i_bl ?_ | refine i_not ?_ | refine i_and ?_ | refine i_or ?_ | refine i_andV ?_ | refine i_orV ?_ | refine i_notV ?_ | refine i_ifE ?_ | refine i_next ?_ | refine i_drop ?_ | refine i_ret ?_ | refine i_retN ?_ | refine i_ifS ?_ | refine i_nil ?_ | refine i_cons ?_ | refine i_call ?_ | refine i_CB ?_ | refine i_tup ?_ | refine i_lst ?_ | refine i_par ?_ | refine i_par2 ?_ | refine i_raise ?_))
end L2
namespace L2
open PySem PySem.Spec PyProof.Rows
section
variable {σ : St} {H : Hp} {Q : VK} {D' : Ends} {E : XK}
end
theorem Fun.okE {P : Program} {w : World} {K : PySem.W.Frag} {mg : Str → Option Value} {base : Heap} {x qual : Str} {st : Stmt} {f : Addr} {fd : FuncData} {N ps : List Str} {k : Nat} {sp : Sp} (F : Fun K x qual st f fd) (S : FnScope N ps (defScope st)) (len : ∀ vs H Q E, sp vs H Q E → vs.length = ps.length)
  (hbody : ∀ (cdv : Value) (A : Around) (outer : List Env) (s : Shared) (H : Hp) (vs : List V) (Q : VK) (E : XK), Room k (A.deeper (envOfC qual (defScope st) s.heap.objs.size f cdv)) → sp vs H Q E →
   ∃ t, PSs (cxOf (CXE P w) P w K mg base N qual (defScope st) f cdv A outer s H E) (defBody st) t ∧ t { nx := fun _ H' => Q .non H', rt := Q } (start N vs) H) : FnOk P w K mg base (CXE P w) (k + 1) f fd ps sp := by
 obtain ⟨oc, od, kV, doc, pm, an, cdv, ct, osl, rfl, lk, hcd⟩ := F.ex
 exact fn_of lk hcd S len fun A outer s H vs Q E hr hsp => hbody cdv A outer s H vs Q E hr hsp
end L2
namespace L2
open PySem PySem.Spec PyProof.Rows
section
variable {σ : St} {H : Hp} {Q : VK} {D' : Ends} {E : XK} {EX : Value → Hp → Prop}
end
end L2
namespace L2
open PySem PySem.Spec PyProof.Rows
section
variable {X : Cx} {K : PySem.W.Frag}
theorem ix_tupK (h : X.K = K := by rfl) : IxR X (rIxT K) := h ▸ ix_tup
theorem ix_listK (h : X.K = K := by rfl) : IxR X (rIxL K) := h ▸ ix_list
theorem call_isiK (h : X.K = K := by rfl) : CallR X (.builtin "isinstance") (rIsi K) := h ▸ call_isi
theorem call_lenK (h : X.K = K := by rfl) : CallR X (.builtin "len") (fun xs H Q => ∃ p ys, xs = [.ref p] ∧ (SqL K H p ys ∨ SqT K H p ys) ∧ Q (.int ys.length) H) := h ▸ call_len_seq
theorem call_listK (h : X.K = K := by rfl) : CallR X (.type "list") (fun xs H Q => ∃ p ys, xs = [.ref p] ∧ (SqL K H p ys ∨ SqT K H p ys) ∧ ∀ l, H l = none → Q (.ref l) (upd H l (.lst ys))) := h ▸ call_list_of
theorem op_inK (h : X.K = K := by rfl) : OpR X (compareOp .In) (rIn K false) := h ▸ op_in_seq
theorem op_notInK (h : X.K = K := by rfl) : OpR X (compareOp .NotIn) (rIn K true) := h ▸ op_notIn_seq
theorem sl_listK (h : X.K = K := by rfl) : SlR X (rSlL K) := h ▸ sl_list
variable {tg l : Expr} {tl : TE}
theorem pi_listK (hl : PE X l tl) (h : X.K = K := by rfl) : PI X tg l (iList K tl) := h ▸ pi_list hl
theorem pg_tupK {es : List Expr} {k : Nat} {t : TGs} {n : Nat} {pos : Pos} (hc : X.calm = true) (h : PGs X es t) (hK : X.K = K := by rfl)
  (hn : (assignEach es X.env).length = n := by rfl) (hst : (assignEach es X.env).findIdx? (·.1) = none := by rfl) : PG X (.Tuple es k pos) (gTup K n t) := hK ▸ pg_tup hc h hn hst
theorem cap_nil {sc : Scope} : CapOk X sc [] [] := trivial
theorem cap_own {sc : Scope} {r : List (Option Nat)} {n : List Str} {x : Str} (h : CapOk X sc r n) : CapOk X sc (none :: r) (x :: n) := h
theorem cap_out {sc : Scope} {r : List (Option Nat)} {n : List Str} {x : Str} {i : Nat} (h1 : X.N[i]? = some x) (h2 : sc.names.lookup x = some .free) (h : CapOk X sc r n) : CapOk X sc (some i :: r) (x :: n) := ⟨⟨h1, h2⟩, h⟩
end
noncomputable def blkOk (osc sc : Scope) : Bool := sc.names.all (fun y => y.2 != .cell) && sc.kind == .function && sc.names.all (fun y => y.2 != .local || sc.names.lookup y.1 == some .local) &&
 sc.names.all (fun y => y.2 != .free || (osc.names.lookup y.1 == some .cell || osc.names.lookup y.1 == some .free))
theorem blk {X : Cx} {osc sc : Scope} (hs : X.env.scope = osc) (h : blkOk osc sc = true) : BlockOk X sc := by
 unfold blkOk at h
 simp only [Bool.and_eq_true, List.all_eq_true, bne_iff_ne, ne_eq, beq_iff_eq, Bool.or_eq_true] at h
 obtain ⟨⟨⟨h1, h2⟩, h3⟩, h4⟩ := h
 refine ⟨h1, h2, fun y hy e => (h3 y hy).resolve_left fun z => z e, fun y hy e => ?_⟩
 show X.env.scope.names.lookup y.1 = _ ∨ X.env.scope.names.lookup y.1 = _
 rw [hs]
 exact (h4 y hy).resolve_left fun z => z e
end L2
namespace L2
open PySem PySem.Spec PyProof.Rows
section
variable {g : TG} {tb : TS} {σ : St} {H : Hp} {nx : St → Hp → Prop} {rt : VK}
end
end L2
namespace L2
open PySem PySem.Spec PyProof.Rows

mutual
noncomputable def D.depth : D → Nat
 | .tup l => D.depths l + 1
 | .lst l => D.depths l + 1
 | .ins _ _ _ => 1000
 | _ => 0
noncomputable def D.depths : List D → Nat
 | [] => 0
 | d :: r => max (D.depth d) (D.depths r)
end
section
variable {X : Cx} {pins : List (Addr × Obj)} {σ : St} {H : Hp} {s : Shared}
end
end L2
namespace L2
open PySem PySem.Spec PyProof.Rows
section
variable {σ : St} {H : Hp} {Q : VK} {D' : Ends} {cap : List (Option Nat)} {wi : TI} {g : TG} {tt : TT} {te : TE}
variable {acc : Addr} {H0 : Hp} {Qh : Hp → Prop}
end
end L2
namespace L2
open PySem PySem.Spec PyProof.Rows
section
variable {X : Cx}
end
end L2
namespace L2
open PySem PySem.Spec PyProof.Rows
section
variable {X : Cx} {pins : List (Addr × Obj)} {σ : List (Option V)} {H H' : Hp} {s : Shared} {h' : Heap}
theorem Inv.turnedL {t' : Nat} {fp : List Addr} (I : Inv X pins σ H s) (k : ∀ b o, b ∉ fp → s.heap.get? b = some o → h'.get? b = some o) (hf : ∀ b ∈ fp, FpOk X pins H b) : Inv X pins σ H { s with heap := h', toks := t' } := by
 have nit : ∀ b u, H b = some u → b ∉ fp := fun b u e z => by rw [(hf b z).1] at e; cases e
 refine I.step (g' := s.gens) (d' := s.drawn) (ch := fp) (fun b hb => ?_) (fun b o _ _ hc e _ => k b o hc e) (fun b o _ _ hc e _ => ⟨o.slots, k b o hc e⟩) (fun _ _ _ _ n => n)
  (fun b o hc e => ⟨o, k b o hc e⟩) (fun _ _ e => e) (fun _ _ _ e => e) (fun b ps e => ⟨#[], by rw [e]; simp⟩) (fun m hm => ?_) (fun b u e => ?_) I.bare
 ·obtain ⟨f0, f1, f2, f3, f4, f5⟩ := hf b hb
  exact ⟨f3, f1, f4, f5⟩
 ·obtain ⟨o, es, ep, ho, r⟩ := hm
  exact ⟨o, es, ep, k _ o (fun z => (hf _ z).2.1 rfl) ho, r⟩
 ·refine (I.hok b u e).stay (fun c v hc q => k c v ?_ q) (fun _ q => q) fun _ _ q => q
  rcases hc with z | z
  ·rw [z]; exact nit b u e
  ·exact nit c _ z
theorem Inv.turnedT {t' : Nat} {fp : List Addr} {ys : List V} {us : List Value} (I : Inv X pins σ H s) (hv : Vals ys us) (hl : ys.length ≤ sizeLine) (k : ∀ b o, b ∉ fp → s.heap.get? b = some o → h'.get? b = some o)
  (hp : h'.get? s.heap.objs.size = some { cls := .type "tuple", data := .seq us.toArray }) (hf : ∀ b ∈ fp, FpOk X pins H b) (hx : ∀ b ∈ fp, ∃ o, s.heap.get? b = some o) :
  Inv X pins σ (upd H s.heap.objs.size (.tup ys)) { s with heap := h', toks := t' } ∧ H s.heap.objs.size = none ∧ ∀ b ∈ fp, upd H s.heap.objs.size (.tup ys) b = none := by
 have fr : H s.heap.objs.size = none := I.hok.fresh (Nat.le_refl _)
 have nb : ∀ b ∈ fp, b ≠ s.heap.objs.size := fun b hb z => by
  obtain ⟨o, e⟩ := hx b hb
  exact absurd (Heap.lt_size e) (by rw [z]; exact Nat.lt_irrefl _)
 have fb : ∀ b ∈ fp, upd H s.heap.objs.size (.tup ys) b = none := fun b hb => by rw [upd_ne (nb b hb)]; exact (hf b hb).1
 have I0 : Inv X pins σ (upd H s.heap.objs.size (.tup ys)) { s with heap := s.heap.push { cls := .type "tuple", data := .seq us.toArray } } :=
  I.laid (t' := s.toks) (fun b o e => Heap.get?_push_of_some _ e) (Nat.le_refl _) ⟨hl, us, hv, IsTup.new _ _⟩
 refine ⟨Inv.turnedL (s := { s with heap := s.heap.push { cls := .type "tuple", data := .seq us.toArray } }) (t' := t') (fp := fp) I0 (fun b o hb e => ?_) (fun b hb => ?_), fr, fb⟩
 ·by_cases z : b = s.heap.objs.size
  ·subst z
   rw [Heap.get?_push_size _ rfl] at e
   cases e
   exact hp
  ·refine k b o hb ?_
   rwa [Heap.get?_push_ne _ _ _ z] at e
 ·obtain ⟨f0, f1, f2, f3, f4, f5⟩ := hf b hb
  exact ⟨fb b hb, f1, f2, f3, f4, f5⟩
end
end L2
namespace L2
open PySem PySem.Spec PyProof.Rows
noncomputable def Ite (K : PySem.W.Frag) (a : Addr) : It :=
 ⟨fun i H => ∃ xs x, SqL K H a xs ∧ xs[i]? = some x, fun i H x H' => ∃ p y, x = .ref p ∧ H p = none ∧ H' = upd H p (.tup [.int i, y]) ∧ ∀ xs, SqL K H a xs → xs[i]? = some y, fun i H => ∃ xs, SqL K H a xs ∧ xs.length ≤ i⟩
theorem turn_enum {P : Program} {w : World} {K : PySem.W.Frag} {elts : List Expr} {k : Nat} {tp : Pos} (a e it : Addr) (hne : e ≠ it) :
  Turn P w K (.Tuple elts k tp) (Ite K a) [e, it] e (fun i h => (∃ old, IsEnum h e it i old) ∧ h.IsListIter it a i) where
 mem := by simp
 obj := fun i h st b hb => by
  obtain ⟨⟨old, he⟩, o, e', c, d⟩ := st
  rcases (by simpa using hb : b = e ∨ b = it) with rfl | rfl
  ·exact ⟨_, he, fun v z => by cases z⟩
  ·exact ⟨o, e', fun v z => by rw [d] at z; cases z⟩
 keep := fun i h h' st k => ⟨let ⟨old, he⟩ := st.1; ⟨old, k e (by simp) _ he⟩, st.2.at fun o e => k it (by simp) o e⟩
 item := by
  intro X hP hw hK hc i pins s σ H E I hf st hg
  subst hP hw hK
  obtain ⟨xs, x, hq, hx⟩ := hg
  obtain ⟨its, rv, p, hz⟩ := I.list hq
  obtain ⟨u, hu, ru⟩ := rv.get hx
  obtain ⟨⟨old, he⟩, hit⟩ := st
  refine wpAny_pyNext_enum_item he hit p.isList (x := u) (by simpa using hu) hne fun h1 heo hit1 ht1 hz1 hk1 => ?_
  refine ⟨_, rfl, ?_⟩
  refine wpAny_letOwnedTupleGo_enum (s := { s with heap := h1, toks := s.toks + 1 }) heo fun h2 he2 hs2 => ?_
  have hs2 : Heap.SameBut e h1 h2 := hs2
  have ltE : e < s.heap.objs.size := Heap.lt_size he
  have vv : Vals [V.int i, x] [.int i s.toks, u] := .cons ⟨_, rfl⟩ (.cons ru .nil)
  have T := Inv.turnedT (h' := h2) (t' := s.toks + 1) (fp := [e, it]) I vv (by show 2 ≤ sizeLine; decide) (fun b o hb eb => ?_) ((hs2.2 _ (Nat.ne_of_gt ltE)).trans ht1) hf (fun b hb => ?_)
  ·obtain ⟨I2, fr, fb⟩ := T
   exact ⟨.ref s.heap.objs.size, _, I2, rfl, ⟨_, x, rfl, fr, rfl, fun ys hy => by rw [I.list_inj hy hq]; exact hx⟩, ⟨⟨_, he2⟩, hit1.at fun o eo => (hs2.2 it hne.symm).trans eo⟩, fb⟩
  ·have hb : b ≠ e ∧ b ≠ it := by simpa using hb
   exact (hs2.2 b hb.1).trans (hk1 b o hb.1 hb.2 eb)
  ·obtain ⟨o, eo, _⟩ := hit
   rcases (by simpa using hb : b = e ∨ b = it) with rfl | rfl
   ·exact ⟨_, he⟩
   ·exact ⟨o, eo⟩
 done := by
  intro X hP hw hK hc i pins s σ H E I hf st hg
  subst hP hw hK
  obtain ⟨xs, hq, hx⟩ := hg
  obtain ⟨its, rv, p, hz⟩ := I.list hq
  have hl := rv.length
  obtain ⟨⟨old, he⟩, hit⟩ := st
  exact wpAny_pyNext_enum_end (I.ok.hd hc) he hit p.isList (by simp; omega) fun h' eb => ⟨rfl, Inv.turnedL (t' := s.toks) (fp := [e, it]) I (fun b o hb eo => eb b o (fun z => hb (by simp [z])) eo) hf⟩
 self := fun _ _ _ _ _ st h => let ⟨⟨_, he⟩, _⟩ := st; wpAny_pyIter_enum he h
section
variable {X : Cx}
noncomputable def iEnum (K : PySem.W.Frag) (ta : TA) : TI := fun σ H R => ta σ H fun vs H1 => ∃ a, vs = [.ref a] ∧ (∃ xs, SqL K H1 a xs) ∧ R (Ite K a) H1
theorem pi_enum {K : PySem.W.Frag} {elts : List Expr} {k : Nat} {tp : Pos} {l : Expr} {ta : TA} {p pos : Pos} (hg : Gl X "enumerate") (hm : X.mg "enumerate" = none) (ha : PA X [l] ta) (hK : X.K = K := by rfl) (hs : starEach [l] X.env = [(false, eval l X.env)] := by rfl) :
  PI X (.Tuple elts k tp) (.Call (.Name "enumerate" p) [l] [] pos) (iEnum K ta) := by
 subst hK
 intro pins s σ H R I h
 refine Call_ (ld_blt I hg hm Boot.«enumerate» (PyProof.Rows.callWith_type1 (thn (ha pos pins s σ H _ I h) fun us s1 ⟨vs, H1, I1, r1, q1⟩ => ?_) hs rfl))
 obtain ⟨a, e, ⟨xs, hq⟩, q⟩ := q1
 subst e
 obtain ⟨u, rfl, ru⟩ := vals1 r1
 cases ru
 obtain ⟨its, rv, p, hz⟩ := I1.list hq
 refine call_enumerate_list p.isList fun h' he hit hsz hk => ?_
 have I2 : Inv X pins σ H1 { s1 with heap := h' } := I1.kept (t' := s1.toks) hk
 refine wpAny_pyIter_enum (s := { s1 with heap := h' }) he ?_
 refine ⟨s1.heap.objs.size + 1, [s1.heap.objs.size + 1, s1.heap.objs.size], _, _, H1, rfl, I2, turn_enum a (s1.heap.objs.size + 1) s1.heap.objs.size (Nat.succ_ne_self _), ⟨⟨_, he⟩, hit⟩, fun b hb => ?_, q⟩
 have hb : s1.heap.objs.size ≤ b := by
  rcases (by simpa using hb : b = s1.heap.objs.size + 1 ∨ b = s1.heap.objs.size) with rfl | rfl
  ·exact Nat.le_succ _
  ·exact Nat.le_refl _
 exact Inv.fpOk I1 hb (I1.hok.fresh hb) |> fun ⟨f0, f1, f2, f3, f4, f5⟩ => ⟨f0, f1, f2, f3, f4, f5⟩
end
structure ZA (z TI TO i1 i2 : Addr) : Prop where
 TIz : TI ≠ z
 TOz : TO ≠ z
 i1z : i1 ≠ z
 i2z : i2 ≠ z
 TITO : TI ≠ TO
 TIi1 : TI ≠ i1
 TIi2 : TI ≠ i2
 TOi1 : TO ≠ i1
 TOi2 : TO ≠ i2
 i12 : i1 ≠ i2
section
variable {X : Cx}
end
section
variable {σ : St} {H : Hp} {cap : List (Option Nat)} {g : TG} {tt : TT} {te : TE} {acc : Addr} {H0 : Hp} {Qh : Hp → Prop}
structure Pairs (J : It) (n : Nat) (f : Nat → Option (V × V)) (ok : Hp → Prop) : Prop where
 go : ∀ i H, ok H → i < n → J.go i H
 stop : ∀ H, ok H → J.stop n H
 yld : ∀ i H x H', ok H → i < n → J.yld i H x H' → ∃ p u v, x = .ref p ∧ H p = none ∧ H' = upd H p (.tup [u, v]) ∧ f i = some (u, v)
end
end L2
namespace L2
open PySem PySem.Spec PyProof.Rows
section
variable {σ : St} {H : Hp} {Q : VK} {D' : Ends}
end
section
variable {σ : St} {H : Hp} {Q : VK}
end
end L2
namespace L2
open PySem PySem.Spec PyProof.Rows
open Classical in
noncomputable def frG (H H' : Hp) : Hp := fun b => match H' b with
 | some (.lst xs) => if H b = none then some (.lst xs) else none
 | o => o
noncomputable def Dom (H H' : Hp) : Prop := ∀ b, H' b = none → H b = none
structure Acc (K : PySem.W.Frag) (H0 : Hp) (acc : Addr) (ys : List V) (ds : List D) (H : Hp) : Prop where
 at_ : H acc = some (.lst ys)
 new : IsL K (frG (upd H0 acc (.lst [])) H) ys ds
 same : Same H0 H
 dom : Dom (upd H0 acc (.lst [])) H
end L2
namespace L2
open PySem PySem.Spec PyProof.Rows
section
variable {X : Cx}
theorem preSum_eq (ns : List Int) : ∀ k, preSum (fun i => ns.getD i 0) k = (ns.take k).sum
 | 0 => by simp [preSum]
 | k + 1 => by
  unfold preSum
  rw [preSum_eq ns k, List.take_add_one, List.sum_append]
  cases h : ns[k]? <;> simp [List.getD_eq_getElem?_getD, h]
end
section
variable {σ : St} {H : Hp} {Q : VK}
end
end L2
namespace L2
open PySem PySem.Spec PyProof.Rows
section
variable {σ : St} {H : Hp} {v : V}
end
end L2
namespace L2
open PySem PySem.Spec PyProof.Rows PyProof
section
variable {X : Cx}
theorem kit_no {K : PySem.W.Frag} {a b : String} (h1 : (Value.type a == Value.type b) = false) (h : (fastBuiltinMro a).map (·.contains (.type b)) = some false) (hm : PySem.W.kitMeta b = true) (hs : PySem.W.subIn K (.type a) (.type b) = (fastBuiltinMro a).map (·.contains (.type b))) : PySem.W.kitOne K (.type a) (.type b) = some false := by
 unfold PySem.W.kitOne PySem.W.kitCls
 rw [if_neg (by rw [h1]; decide)]
 show (if PySem.W.kitMeta b = true then PySem.W.subIn K (.type a) (.type b) else none) = _
 rw [if_pos hm, hs, h]
end
end L2
namespace L2
open PySem PySem.Spec PyProof.Rows
open AutoSeq1 (wpAny_loadPart')
section
variable {prog : Program} {w : World} {A : Around} {E : Value → Shared → Prop} {s : Shared}
end
section
variable {X : Cx}
end
end L2
namespace L2
open PySem PySem.Spec PyProof.Rows
section
variable {prog : Program} {w : World} {A : Around} {E : Value → Shared → Prop} {s : Shared}
noncomputable abbrev zT1 (h : Heap) (l1 : Addr) : Heap := h.push { cls := .type "tuple_iterator", data := .fields #[.ref l1, .int 0 0] }
noncomputable abbrev zT2 (h : Heap) (l1 l2 : Addr) : Heap := (zT1 h l1).push { cls := .type "tuple_iterator", data := .fields #[.ref l2, .int 0 0] }
noncomputable abbrev zT3 (h : Heap) (l1 l2 : Addr) : Heap := (zT2 h l1 l2).push { cls := .type "tuple", data := .seq #[.ref h.objs.size, .ref (zT1 h l1).objs.size] }
noncomputable abbrev zT4 (h : Heap) (l1 l2 : Addr) : Heap := (zT3 h l1 l2).push { cls := .type "tuple", data := .seq #[.none, .none] }
noncomputable abbrev zT5 (h : Heap) (l1 l2 : Addr) : Heap := (zT4 h l1 l2).push { cls := .type "zip", data := .fields #[.none, .bool false, .bool false, .ref (zT2 h l1 l2).objs.size, .ref (zT3 h l1 l2).objs.size] }
end
section
variable {X : Cx}
end
end L2
namespace L2
open PySem PySem.Spec PyProof.Rows
mutual
noncomputable def D.small (n : Nat) : D → Prop
 | .int i => i.natAbs < 2 ^ n
 | .tup l => D.smalls n l
 | .lst l => D.smalls n l
 | .non => True
 | .bl _ => True
 | .str _ => False
 | .ins _ _ _ => False
noncomputable def D.smalls (n : Nat) : List D → Prop
 | [] => True
 | d :: r => D.small n d ∧ D.smalls n r
end
mutual
noncomputable def D.wt (n : Nat) : D → Nat
 | .tup l => D.wts n l
 | .lst l => D.wts n l
 | .int _ => n
 | _ => 0
noncomputable def D.wts (n : Nat) : List D → Nat
 | [] => 0
 | d :: r => D.wt n d + 1 + D.wts n r
end
section
variable {X : Cx} {pins : List (Addr × Obj)} {σ : St} {H : Hp} {s : Shared}
end
structure ShowOk (n : Nat) (d : D) : Prop where
 seq : ∃ l, d = .tup l ∨ d = .lst l
 small : D.small n d
 n0 : 8 ≤ n
 n1 : n ≤ 1900
 deep : D.depth d ≤ 40
 size : (n + 3) * D.wt n d + n + 1 ≤ 16777216
section
variable {X : Cx}
end
end L2
namespace L2
open PySem PySem.Spec PyProof.Rows
noncomputable abbrev rvObj (t : Addr) (i : Int) : Obj := { cls := .type "reversed", data := .fields #[.ref t, rawInt i] }
noncomputable abbrev IsRv (h : Heap) (a t : Addr) (i : Int) : Prop := h.get? a = some (rvObj t i)
section
variable {prog : Program} {w : World} {A : Around} {E : Value → Shared → Prop} {s : Shared}
end
section
variable {X : Cx} {tg : Expr}
end
end L2
namespace L2
open PySem PySem.Spec PyProof.Rows PyProof
section
variable {X : Cx}
end
end L2
namespace L2
open PySem PySem.Spec PyProof.Rows
section
variable {X : Cx}
noncomputable def rAny (K : PySem.W.Frag) : List V → Hp → VK → Prop := fun xs H Q => ∃ (p : Addr) (bs : List Bool), xs = [.ref p] ∧ SqL K H p (bs.map V.bl) ∧ Q (.bl (bs.any id)) H
theorem range_any : ∀ (bs : List Bool), (List.range bs.length).any (fun i => bs.getD i false) = bs.any id := fun bs => by
 rw [Bool.eq_iff_iff, List.any_eq_true, List.any_eq_true]
 constructor
 ·rintro ⟨i, hi, h⟩
  have hi := List.mem_range.1 hi
  rw [List.getD_eq_getElem?_getD, List.getElem?_eq_getElem hi, Option.getD_some] at h
  exact ⟨_, List.getElem_mem hi, h⟩
 ·rintro ⟨b, hb, h⟩
  obtain ⟨i, hi, e⟩ := List.mem_iff_getElem.1 hb
  refine ⟨i, List.mem_range.2 hi, ?_⟩
  rw [List.getD_eq_getElem?_getD, List.getElem?_eq_getElem hi, Option.getD_some, e]
  exact h
theorem walk_bools {pins : List (Addr × Obj)} {σ : St} {H : Hp} {s : Shared} {p : Addr} {bs : List Bool} (hc : X.calm = true) (I : Inv X pins σ H s) (hq : SqL X.K H p (bs.map V.bl)) {R : Value → Shared → Prop}
  (k : ∀ Ia fp wr G n P St tr (s₂ : Shared), WalksS X.prog X.w X.A.in1 Ia fp wr G n P St → St 0 s₂ → TruthOf X.prog X.w X.A.in1 P tr → n = bs.length → (tr = fun i => bs.getD i false) → (∀ s', Moved wr G s₂ s' → Inv X pins σ H s') → R (.ref Ia) s₂) :
  wpAny (model X.prog X.w) X.A.in1 (pyIter (.ref p)) R X.xe s := by
 obtain ⟨its, rv, pl, hz⟩ := I.list hq
 have lt : p < s.heap.objs.size := by
  obtain ⟨o, n, e, _⟩ := id pl
  exact Heap.lt_size e
 have hl := rv.length
 rw [List.length_map] at hl
 refine wpAny_pyIter_list pl.isList ?_
 have W := (Walks.list (prog := X.prog) (w := X.w) (A := X.A.in1) (I.ok.hd hc) s.heap.objs.size p (Nat.ne_of_lt lt) its.toArray).toS
 refine k s.heap.objs.size _ _ _ _ _ _ (fun i => bs.getD i false) _ W ?_ ?_ ?_ rfl ?_
 ·exact ⟨⟨_, Heap.get?_push_size _ rfl, rfl, rfl⟩, Heap.IsList.push pl.isList _⟩
 ·intro i v s Q E hv hQ
  have hv : its[i]? = some v := by simpa using hv
  have hi : i < bs.length := by rw [hl]; exact (List.getElem?_eq_some_iff.1 hv).1
  obtain ⟨u, hu, ru⟩ := rv.get (i := i) (x := V.bl bs[i]) (by rw [List.getElem?_map, List.getElem?_eq_getElem hi]; rfl)
  have e0 : u = v := by
   rw [hu] at hv
   exact Option.some.inj hv
  have ru : u = Value.bool bs[i] := ru
  rw [← e0, ru]
  refine wpAny_truthy_bool ?_
  have e : bs.getD i false = bs[i] := by rw [List.getD_eq_getElem?_getD, List.getElem?_eq_getElem hi, Option.getD_some]
  rw [← e]
  exact hQ
 ·rw [List.size_toArray, ← hl]
 ·intro s' m
  have I1 : Inv X pins σ H { s with heap := s'.heap, toks := s'.toks } := I.kept fun b o e => m.heap b o (fun z => by
   have z : b = s.heap.objs.size := by simpa using z
   exact absurd (Heap.lt_size e) (by rw [z]; exact Nat.lt_irrefl _)) (Heap.get?_push_of_some _ e)
  have e : ({ s with heap := s'.heap, toks := s'.toks } : Shared) = s' := by
   have h1 := m.gens
   have h2 := m.drawn
   have h3 := m.os
   cases s'
   simp only at h1 h2 h3
   subst h1 h2 h3
   rfl
  rw [e] at I1
  exact I1
theorem call_anyK {K : PySem.W.Frag} (hc : X.calm = true) (hK : X.K = K := by rfl) : CallR X (.builtin "any") (rAny K) := by
 subst hK
 intro pins s σ H xs us Q I r h
 obtain ⟨p, bs, rfl, hq, q⟩ := h
 obtain ⟨u, rfl, ru⟩ := vals1 r
 cases ru
 refine call_any_walkS (walk_bools hc I hq fun Ia fp wr G n P St tr s₂ W h0 ht hn htr hm => ⟨Ia, fp, wr, G, n, P, St, tr, rfl, W, h0, ht, fun s' m => ⟨.bl _, H, hm s' m, rfl, ?_⟩⟩)
 rw [hn, htr, range_any]
 exact q
theorem Inv.lstR {pins : List (Addr × Obj)} {σ : St} {H : Hp} {s : Shared} {l : Addr} {xs : List V} (I : Inv X pins σ H s) (hH : SqX X.K H l xs) : xs.length ≤ sizeLine ∧ ∃ (its : List Value) (n : Nat), Vals xs its ∧ xs.length = its.length ∧ s.heap.get? l = some { cls := .type "list", data := .seq its.toArray n } := by
 rcases hH with hH | ⟨its, n, hk, hz, r⟩
 ·obtain ⟨z, its, n, r, e⟩ := hH.ok I.hok
  exact ⟨z, its, n, r, r.length, e⟩
 ·have hl := r.length
  have hl2 : its.toList.length = its.size := Array.length_toList
  exact ⟨by omega, its.toList, n, r, r.length, I.kIn l _ hk⟩
end
end L2
namespace L2
open PySem PySem.Spec PyProof.Rows
theorem nolen_lri : typeLookup (.type "list_reverseiterator") "__len__" = pure none := by rw [typeLookup_type, builtinLookup_eq_fast]; kernel_rfl
theorem hint_lri : typeLookup (.type "list_reverseiterator") "__length_hint__" = pure (some (.builtin "list_reverseiterator.__length_hint__")) := by rw [typeLookup_type, builtinLookup_eq_fast]; kernel_rfl
section
variable {prog : Program} {w : World} {A : Around} {E : Value → Shared → Prop} {s : Shared}
theorem extend_rev {R : Result → Shared → Prop} (hh : A.handled = none) {it l : Addr} {items : Array Value} (hn : items.size ≤ sizeLine) (S : Addr) (res : Value) (c₀ : Nat) (hS : s.heap.get? S = some { cls := .type "list", data := .seq #[] c₀ })
  (hit : s.heap.IsRevIter it l ((items.size : Int) - 1)) (hl : s.heap.IsList l items) (hil : l ≠ it) (hSI : S ≠ it) (hSl : S ≠ l)
  (hR : ∀ h' tk acc' c', (∀ b o, b ≠ S → b ≠ it → s.heap.get? b = some o → h'.get? b = some o) → h'.get? S = some { cls := .type "list", dict := none, data := .seq acc' c', slots := #[] } →
   ItemsOf (fun i v => items[items.size - 1 - i]? = some v) acc' items.size → R (.ok (.ret res)) { s with heap := h', toks := tk }) :
  wpAny (model prog w) A.in1 (Builtin.List.listExtendWith (.ref S) (.ref it) res)
   (fun fin s' => match fin with | .done f => R (.ok f) s' | .again c' => c'.quiet = true ∧ codeAny (model prog w) A c' R s') (fun e s' => R (.error e) s') s := by
 have hSf : S ∉ [it, l] := fun hm => by
  rcases List.mem_cons.mp hm with e | hm
  ·exact hSI e
  ·exact hSl (List.mem_singleton.mp hm)
 have W := (Walks.listRev (prog := prog) (w := w) (A := A.in1) hh it l hil items).toS
 have hst : 0 ≤ items.size ∧ s.heap.IsRevIter it l ((items.size : Int) - 1 - ((0 : Nat) : Int)) ∧ s.heap.IsList l items := ⟨Nat.zero_le _, by simpa using hit, hl⟩
 unfold Builtin.List.listExtendWith
 refine wpAny_bind (wpAny_typeOf (T := "list_reverseiterator") hit.typeIs ?_)
 have h1 : Builtin.List.listSameRef (.ref S) (.ref it) = false := by simp [Builtin.List.listSameRef, hSI]
 rw [if_neg (by rw [h1]; decide)]
 refine wpAny_bind (wpAny_pyIter_revIter hit ?_)
 refine wpAny_bind (wpAny_holding ?_)
 unfold Builtin.List.listLengthHint
 refine wpAny_bind (wpAny_specialOf hit.typeIs nolen_lri ?_)
 show wpAny _ A.in1 (specialOf (Value.ref it) (Str.ofString "__length_hint__") >>= _) _ _ _
 refine wpAny_bind (wpAny_specialOf hit.typeIs hint_lri ?_)
 (generalize hid : ("list_reverseiterator.__length_hint__" : String) = id0; (fail_if_success (clear hid id0)); wp_delta; rw [show splitId id0 = some ("list_reverseiterator", "__length_hint__") from by subst hid; decide +kernel]; subst hid)
 refine wpAny_bind (wpAny_isInstance (b := true) hit.typeIs (by rw [isSubtype_type]; kernel_rfl) ?_)
 refine wpAny_pure ?_
 rw [if_neg (by decide)]
 refine wpAny_pure ⟨plainId_quiet F.plain_extend_loop _, codeAny_extend_loopS W hn _ hSf _ items.size 0 _ _ _ rfl (Nat.zero_le _) hst hS (ItemsOf.nil _) fun s' acc' c' hm hS' hacc => ?_⟩
 rw [Moved.eq_with hm]
 refine hR s'.heap s'.toks acc' c' (fun b ob hb hb2 e => hm.heap b ob (fun hmem => ?_) e) hS' hacc
 rcases List.mem_cons.mp hmem with e' | hmem
 ·exact hb e'
 ·exact hb2 (List.mem_singleton.mp hmem)
theorem call_list_rev {Q : Value → Shared → Prop} (hh : A.handled = none) {it l : Addr} {items : Array Value} (hn : items.size ≤ sizeLine) (hit : s.heap.IsRevIter it l ((items.size : Int) - 1)) (hl : s.heap.IsList l items) (hil : l ≠ it)
  (hQ : ∀ h' tk acc' c', (∀ b o, b ≠ it → s.heap.get? b = some o → h'.get? b = some o) →
   h'.get? s.heap.objs.size = some { cls := .type "list", dict := none, data := .seq acc' c', slots := #[] } → ItemsOf (fun i v => items[items.size - 1 - i]? = some v) acc' items.size → Q (.ref s.heap.objs.size) { s with heap := h', toks := tk }) :
  wpAny (model prog w) A (call (.type "list") [.ref it]) Q E s := by
 refine callType_codes (Q₁ := fun obj s₁ => obj = .ref s.heap.objs.size ∧ s₁ = { s with heap := s.heap.push { cls := .type "list", data := .seq #[] } }) F.called_list (F.typeCall_list_1 _) F.entry_list_init
  (code_list_new _ ⟨rfl, rfl⟩) fun obj s₁ h₁ => ?_
 obtain ⟨rfl, rfl⟩ := h₁
 have hS : (s.heap.push { cls := .type "list", data := .seq #[] }).get? s.heap.objs.size = some { cls := .type "list", data := .seq #[] } := Heap.get?_push_size _ rfl
 refine ⟨⟨_, hS, rfl⟩, F.args_list_init_2 _ _, ?_⟩
 show wpAny _ _ (do let old ← Builtin.List.listItems (.ref s.heap.objs.size); Builtin.List.listUpdate (.ref s.heap.objs.size) (fun _ => #[]); letGo old.toList.reverse; Builtin.List.listExtendWith (.ref s.heap.objs.size) (.ref it) .none) _ _ _
 refine wpAny_bind ?_
 unfold Builtin.List.listItems
 refine wpAny_bind (wpAny_seqItems hS rfl (wpAny_pure ?_))
 show wpAny _ _ (updateSeq s.heap.objs.size (fun _ => #[]) >>= fun _ => letGo (#[] : Array Value).toList.reverse >>= fun _ => Builtin.List.listExtendWith (.ref s.heap.objs.size) (.ref it) .none) _ _ _
 refine wpAny_bind (wpAny_updateSeq hS rfl ?_)
 have hS₂ := Heap.get?_update_self (Obj.mapSeq (fun _ => (#[] : Array Value))) hS rfl
 have ltI : it < s.heap.objs.size := let ⟨_, ho, _⟩ := hit; Heap.lt_size ho
 have ltl : l < s.heap.objs.size := let ⟨_, ho, _⟩ := hl; Heap.lt_size ho
 have oth : ∀ b o, b ≠ s.heap.objs.size → (s.heap.push { cls := .type "list", data := .seq #[] }).get? b = some o → ((s.heap.push { cls := .type "list", data := .seq #[] }).update s.heap.objs.size (Obj.mapSeq (fun _ => (#[] : Array Value)))).get? b = some o :=
  fun b o hb e => (Heap.get?_update_other _ _ (Ne.symm hb)).trans e
 have old : ∀ b o, s.heap.get? b = some o → ((s.heap.push { cls := .type "list", data := .seq #[] }).update s.heap.objs.size (Obj.mapSeq (fun _ => (#[] : Array Value)))).get? b = some o :=
  fun b o e => oth b o (Nat.ne_of_lt (Heap.lt_size e)) (Heap.get?_push_of_some _ e)
 refine wpAny_bind (wpAny_letGo ?_)
 refine extend_rev (A := A.in1) (items := items) hh hn s.heap.objs.size .none _ hS₂ (hit.at fun o e => old _ o e) (hl.at fun o e => old _ o e) hil (Ne.symm (Nat.ne_of_lt ltI)) (Ne.symm (Nat.ne_of_lt ltl)) fun h' tk acc' c' hk hS' hacc => ?_
 exact ⟨rfl, hQ h' tk acc' c' (fun b o hb e => hk b o (Nat.ne_of_lt (Heap.lt_size e)) hb (old b o e)) hS' hacc⟩
end
section
variable {X : Cx}
noncomputable def tListRev (K : PySem.W.Frag) (te : TE) : TE := fun σ H Q => te σ H fun x H1 => ∃ p ys, x = .ref p ∧ SqX K H1 p ys ∧ ∀ l, H1 l = none → Q (.ref l) (upd H1 l (.lst ys.reverse))
theorem pe_listRev {K : PySem.W.Frag} {e : Expr} {te : TE} {p p2 pos pos2 : Pos} (hc : X.calm = true) (hg : Gl X "list") (hm : X.mg "list" = none) (hg2 : Gl X "reversed") (hm2 : X.mg "reversed" = none) (ha : PE X e te) (hK : X.K = K := by rfl)
  (he2 : starEach [e] X.env = [(false, eval e X.env)] := by rfl) (he : starEach [.Call (.Name "reversed" p2) [e] [] pos2] X.env = [(false, eval (.Call (.Name "reversed" p2) [e] [] pos2) X.env)] := by rfl) :
  PE X (.Call (.Name "list" p) [.Call (.Name "reversed" p2) [e] [] pos2] [] pos) (tListRev K te) := by
 subst hK
 intro pins s σ H Q I h
 refine wpAny_Call_Name_kw (ld_blt I hg hm boot_list ?_ (by decide) (by decide))
 refine PyProof.Rows.callWith_type1 ?_ he rfl
 rw [he]
 show wpAny _ _ (spliced ((false, eval (.Call (.Name "reversed" p2) [e] [] pos2) X.env) :: backTo pos [])) _ _ s
 refine Calls.spliced_cons ?_
 refine wpAny_Call_Name_kw (ld_blt I hg2 hm2 Boot.«reversed» ?_ (by decide) (by decide))
 refine PyProof.Rows.callWith_type1 ?_ he2 rfl
 refine thn (pa_cons ha pa_nil he2 pos2 pins s σ H (fun vs H1 => ∃ p ys, vs = [.ref p] ∧ SqX X.K H1 p ys ∧ ∀ l, H1 l = none → Q (.ref l) (upd H1 l (.lst ys.reverse))) I ?_) fun us s1 ⟨vs, H1, I1, r1, q1⟩ => ?_
 ·have h : te σ H fun x H1 => ∃ p ys, x = .ref p ∧ SqX X.K H1 p ys ∧ ∀ l, H1 l = none → Q (.ref l) (upd H1 l (.lst ys.reverse)) := h
  show te σ H fun x H1 => ∃ p ys, [x] = [V.ref p] ∧ SqX X.K H1 p ys ∧ ∀ l, H1 l = none → Q (.ref l) (upd H1 l (.lst ys.reverse))
  have e : (fun (x : V) (H1 : Hp) => ∃ p ys, [x] = [V.ref p] ∧ SqX X.K H1 p ys ∧ ∀ l, H1 l = none → Q (.ref l) (upd H1 l (.lst ys.reverse))) = fun x H1 => ∃ p ys, x = .ref p ∧ SqX X.K H1 p ys ∧ ∀ l, H1 l = none → Q (.ref l) (upd H1 l (.lst ys.reverse)) := by
   funext x H1
   simp
  rw [e]
  exact h
 obtain ⟨p, ys, rfl, hq, q⟩ := q1
 obtain ⟨u, rfl, ru⟩ := vals1 r1
 cases ru
 obtain ⟨z, its, n, r, hl, e1⟩ := I1.lstR hq
 have hL : s1.heap.IsList p its.toArray := ⟨_, e1, rfl, n, rfl⟩
 have ltp : p < s1.heap.objs.size := Heap.lt_size e1
 refine call_reversed_list hL ?_
 refine Calls.spliced_nil ?_
 refine call_list_rev (items := its.toArray) (I1.ok.hd hc) (by rw [List.size_toArray]; omega) ⟨_, Heap.get?_push_size _ rfl, rfl, rfl⟩ (hL.push _) (Nat.ne_of_lt ltp) fun h' tk acc' c' hk hS' hacc => ?_
 have kept : ∀ b o, s1.heap.get? b = some o → h'.get? b = some o := fun b o e => hk b o (Nat.ne_of_lt (Heap.lt_size e)) (Heap.get?_push_of_some _ e)
 have hsz : s1.heap.objs.size ≤ (s1.heap.push (revObj p ((its.toArray.size : Int) - 1))).objs.size := by rw [Heap.size_push]; exact Nat.le_succ _
 have ha : acc'.toList = its.reverse := by
  obtain ⟨a1, a2⟩ := hacc
  refine List.ext_getElem? fun i => ?_
  by_cases hi : i < its.length
  ·have hi' : i < acc'.size := by rw [a1, List.size_toArray]; exact hi
   have e3 : acc'.toList[i]? = some acc'[i] := by simp [hi']
   have e4 := a2 i acc'[i] (by simp [hi'])
   rw [e3, List.getElem?_reverse hi, ← e4]
   simp
  ·rw [List.getElem?_eq_none (by simp [a1]; omega), List.getElem?_eq_none (by simp; omega)]
 have hv : Vals ys.reverse its.reverse := r.reverse
 refine ⟨.ref _, _, I1.laid (o := .lst ys.reverse) (t' := tk) kept hsz ⟨by rw [List.length_reverse]; exact z, its.reverse, c', hv, ?_⟩, rfl, q _ (I1.hok.fresh hsz)⟩
 rw [hS', ← ha]
end
end L2
namespace HT
open PySem PyProof.Rows
section
variable {prog : Program} {w : World} {A : Around} {E : Value → Shared → Prop} {s : Shared}
end
end HT
namespace L2
open PySem PySem.Spec PyProof.Rows
section
variable {X : Cx}
section
variable {X : Cx} {tg : Expr}
end
end
end L2
namespace L2
open PySem PySem.Spec PyProof.Rows
section
variable {env : Env} {r : List Expr}
theorem se_Tuple {a b c} : starEach (.Tuple a b c :: r) env = (false, eval (.Tuple a b c) env) :: starEach r env := by rw [starEach]; simp
theorem se_List {a b} : starEach (.List a b :: r) env = (false, eval (.List a b) env) :: starEach r env := by rw [starEach]; simp
theorem se_Constant {a b c} : starEach (.Constant a b c :: r) env = (false, eval (.Constant a b c) env) :: starEach r env := by rw [starEach]; simp
theorem se_Name {a b} : starEach (.Name a b :: r) env = (false, eval (.Name a b) env) :: starEach r env := by rw [starEach]; simp
theorem se_Subscript {a b c} : starEach (.Subscript a b c :: r) env = (false, eval (.Subscript a b c) env) :: starEach r env := by rw [starEach]; simp
theorem se_BinOp {a b c d} : starEach (.BinOp a b c d :: r) env = (false, eval (.BinOp a b c d) env) :: starEach r env := by rw [starEach]; simp
theorem se_Call {a b c d} : starEach (.Call a b c d :: r) env = (false, eval (.Call a b c d) env) :: starEach r env := by rw [starEach]; simp
end
end L2
namespace L2
open PySem PySem.Spec PyProof.Rows PySem.Builtin
section
variable {X : Cx}
end
end L2
namespace L2
open PySem PySem.Spec PyProof.Rows PySem.Calls
noncomputable def sortI (ns : List Int) : List Int := ns.mergeSort fun a b => decide (a ≤ b)
theorem sortI_perm (ns : List Int) : (sortI ns).Perm ns := List.mergeSort_perm _ _
theorem sortI_sorted (ns : List Int) : (sortI ns).Pairwise (· ≤ ·) := by
 have h := List.pairwise_mergeSort (le := fun a b : Int => decide (a ≤ b)) (by intro a b c h1 h2; simp at *; omega) (by intro a b; simp; omega) ns
 exact h.imp fun h => by simpa using h
theorem sortI_eq {ns ms : List Int} (p : ms.Perm ns) (o : ms.Pairwise (· ≤ ·)) : ms = sortI ns := PySem.W.ksm_same (p.trans (sortI_perm ns).symm) o (sortI_sorted ns)
theorem sortI_len (ns : List Int) : (sortI ns).length = ns.length := (sortI_perm ns).length_eq
section
variable {X : Cx}
noncomputable def rSortI (K : PySem.W.Frag) : List V → Hp → VK → Prop := fun xs H Q => ∃ (p : Addr) (ns : List Int), xs = [.ref p] ∧ SqL K H p (ns.map V.int) ∧ ns.length < 64 ∧ ∀ l, H l = none → Q (.ref l) (upd H l (.lst ((sortI ns).map V.int)))
theorem call_sortI {K : PySem.W.Frag} (hK : X.K = K := by rfl) : CallR X (.builtin "sorted") (rSortI K) := by
 subst hK
 intro pins s σ H xs us Q I r h
 obtain ⟨p, ns, rfl, hq, h64, q⟩ := h
 obtain ⟨u, rfl, ru⟩ := vals1 r
 cases ru
 obtain ⟨its, rv, pl, hz⟩ := I.list hq
 have hl := rv.length
 rw [List.length_map] at hl
 refine sorted_ints pl.isList (intsAre_of rv) (by omega) fun out ns' a1 a2 a3 => ?_
 obtain rfl := sortI_eq a2 a3
 obtain ⟨e, he⟩ := sortedAll_at s.heap its out
 have hs : ns.length ≤ sizeLine := by simpa using hz
 refine ⟨.ref (s.heap.objs.size + 1), _, I.laid (t' := s.toks) (fun _ _ => sortedAll_old) (Nat.le_succ _) (show ObjOk X.prog X.w _ _ _ (.lst ((sortI ns).map V.int)) from ⟨by rw [List.length_map, sortI_len]; exact hs, out.toList, e, vals_ints a1, by rw [he]⟩), rfl, q _ (I.hok.fresh (Nat.le_succ _))⟩
end
section
variable {prog : Program} {w : World} {A : Around} {E : Value → Shared → Prop} {s : Shared} {T : String} {r d : Addr} {n : Nat} {P : Nat → Value → Prop} {OK : Heap → Prop} {Q : Value → Shared → Prop}
theorem collect_src {R : List Value → Shared → Prop} (K : PySem.W.KdlSrc prog w T r d n P OK) (hh : A.handled = none) (hok : OK s.heap) (hn : n ≤ sizeLine)
  (fin : ∀ (g : Heap) (k : Nat) (xs : Array Value), (∀ b o, s.heap.get? b = some o → g.get? b = some o) → s.heap.objs.size < g.objs.size → ItemsOf P xs n → R xs.toList { s with heap := g, toks := k }) :
  wpAny (model prog w) A (collect (.ref r)) R E s := by
 obtain ⟨lr, ld⟩ := K.there _ hok
 unfold collect
 refine wpAny_bind (wpAny_runValue ?_)
 refine codeAny_builtin entry_proto_collect' ?_
 rw [Around.under_plainId PySem.F.plain_proto_collect _]
 refine wpAny_bind (m := newList []) ?_
 refine wpAny_newObj_type ?_
 refine wpAny_pure ⟨plainId_quiet PySem.F.plain_list_iadd _, ?_⟩
 refine codeAny_builtin entry_list_iadd' ?_
 rw [Around.under_plainId PySem.F.plain_list_iadd _]
 have at0 : (s.heap.push { cls := .type "list", data := .seq ([] : List Value).toArray }).get? s.heap.objs.size = some { cls := .type "list", data := .seq #[] } := Heap.get?_push_size _ rfl
 have step := PySem.W.kdl_extend (A := A) (s := { s with heap := s.heap.push { cls := .type "list", data := .seq ([] : List Value).toArray } })
  (R := fun (q : Result) (s' : Shared) => ∃ (g : Heap) (k : Nat) (xs : Array Value) (c : Nat), q = .ok (.ret (.ref s.heap.objs.size)) ∧ s' = { s with heap := g, toks := k } ∧ (∀ b o, s.heap.get? b = some o → g.get? b = some o) ∧
   g.get? s.heap.objs.size = some { cls := .type "list", dict := none, data := .seq xs c, slots := #[] } ∧ ItemsOf P xs n)
  K hh (K.keep _ _ hok fun _ _ _ e => Heap.get?_push_of_some _ e) s.heap.objs.size (Nat.ne_of_gt lr) (Nat.ne_of_gt ld) (.ref s.heap.objs.size) 0 at0
  (fun g k xs c kp ha it => ⟨g, k, xs, c, rfl, rfl, fun b o e => kp b o (Nat.ne_of_lt (Heap.lt_size e)) (Heap.get?_push_of_some _ e), ha, it⟩) hn
 refine wpAny_mono step (fun f s' x => ?_) fun e s' x => ?_
 ·cases f with
  | done f0 =>
   obtain ⟨g, k, xs, c, e, rfl, kp, ha, it⟩ := x
   cases e
   exact wpAny_bind (wpAny_load ha (wpAny_pure (fin g k xs kp (Heap.lt_size ha) it)))
  | again c0 =>
   refine ⟨x.1, codeAny_mono x.2 fun q s2 y => ?_⟩
   obtain ⟨g, k, xs, c, rfl, rfl, kp, ha, it⟩ := y
   exact wpAny_bind (wpAny_load ha (wpAny_pure (fin g k xs kp (Heap.lt_size ha) it)))
 ·obtain ⟨_, _, _, _, z, _⟩ := x
  cases z
theorem sorted_src (K : PySem.W.KdlSrc prog w T r d n P OK) (hh : A.handled = none) (hok : OK s.heap) (hn : n ≤ sizeLine) (h64 : n < 64) {ns : List Int} (hns : ∀ vs : List Value, vs.length = n → (∀ (j : Nat) (v : Value), vs[j]? = some v → P j v) → IntsAre vs ns)
  (h : ∀ (D : Addr) (h' : Heap) (tk e : Nat) (out : Array Value), (∀ b o, s.heap.get? b = some o → h'.get? b = some o) → s.heap.objs.size ≤ D → h'.get? D = some (seqObj "list" out e) → IntsAre out.toList (sortI ns) → Q (.ref D) { s with heap := h', toks := tk }) :
  wpAny (model prog w) A (call (.builtin "sorted") [.ref r]) Q E s := by
 refine call_function_entry kind_sorted plain_sorted entry_sorted (args_sorted1 _) ?_
 unfold Builtin.«sorted»
 refine wpAny_bind (m := checkCount "sorted" 1 1 _) (wpAny_pure ?_)
 refine wpAny_bind (collect_src (A := A.in1) K hh hok hn fun h' tk acc hk hlt hacc => ?_)
 have hl : acc.toList.length = n := by rw [Array.length_toList]; exact hacc.1
 have hI := hns acc.toList hl (fun j v e => hacc.2 j v (by rw [← Array.getElem?_toList]; exact e))
 refine wpAny_bind (wpAny_newList ?_ (by rw [hl]; exact hn))
 have hoL : (h'.push { cls := .type "list", data := .seq acc.toList.toArray }).get? h'.objs.size = some (seqObj "list" acc.toList.toArray 0) := Heap.get?_push_size _ rfl
 have hsz : s.heap.objs.size ≤ h'.objs.size := Nat.le_of_lt hlt
 refine wpAny_bind (wpAny_holding (wpAny_call_entry slot_list_sort ⟨_, hoL, rfl⟩ entry_list_sort (list_sort_tree hoL hI (by omega) fun out ns' a1 a2 a3 => ⟨_, rfl, ?_⟩) (args_list_sort _)))
 obtain rfl := sortI_eq a2 a3
 obtain ⟨e, he⟩ := sortedHeap_at (out := out) hoL
 refine wpAny_pure ⟨_, rfl, h _ _ tk e out (fun b o eb => ?_) hsz he a1⟩
 have hb := hk b o eb
 have lt := Heap.lt_size hb
 rw [sortedHeap_old (Nat.ne_of_lt lt) (by rw [Heap.size_push]; exact Nat.lt_succ_of_lt lt)]
 exact Heap.get?_push_of_some _ hb
end
section
variable {X : Cx}
theorem keys_ints {P : Program} {w : World} {kvs : List (Key × V)} {vs : List (Key × Value)} {ns : List Int} (rel : KV kvs vs) (hk : kvs.map (·.1) = ns.map Sum.inl) (us : List Value) (hl : us.length = vs.length)
  (hp : ∀ (i : Nat) (u : Value), us[i]? = some u → ∃ k x, vs[i]? = some (k, x) ∧ (mixKind P w).is k u = true) : IntsAre us ns := by
 have e1 : vs.map (·.1) = ns.map Sum.inl := rel.keys.symm.trans hk
 clear rel hk
 induction us generalizing vs ns with
 | nil =>
  have : vs = [] := List.length_eq_zero_iff.1 (by simpa using hl.symm)
  subst this
  cases ns with
  | nil => exact .nil
  | cons n r => simp at e1
 | cons u us ih =>
  obtain ⟨k, x, e2, e3⟩ := hp 0 u rfl
  cases vs with
  | nil => simp at e2
  | cons p vs =>
   simp at e2
   subst e2
   cases ns with
   | nil => simp at e1
   | cons n r =>
    simp only [List.map_cons, List.cons.injEq] at e1
    obtain ⟨e4, e1⟩ := e1
    have e4 : k = Sum.inl n := e4
    subst e4
    have e3 : keyIs (Sum.inl n) u = true := e3
    rcases keyIs_shape e3 with ⟨i, t, e5, rfl⟩ | ⟨i, t, e5, _⟩
    ·cases e5
     exact .cons _ _ (ih (by simpa using hl) (fun i u h => by simpa using hp (i + 1) u (by simpa using h)) e1)
    ·cases e5
theorem lay_list {pins : List (Addr × Obj)} {σ : St} {H : Hp} {s : Shared} {Q : VK} {D : Addr} {g : Heap} {tk e : Nat} {out : Array Value} {ms : List Int} (I : Inv X pins σ H s) (kp : ∀ b o, s.heap.get? b = some o → g.get? b = some o) (hD : s.heap.objs.size ≤ D) (ha : g.get? D = some (seqObj "list" out e)) (hi : IntsAre out.toList ms) (hz : ms.length ≤ sizeLine)
  (q : ∀ l, H l = none → Q (.ref l) (upd H l (.lst (ms.map V.int)))) : EP X pins σ Q (.ref D) { s with heap := g, toks := tk } :=
 ⟨.ref D, _, I.laid (t' := tk) kp hD (show ObjOk X.prog X.w _ _ _ (.lst (ms.map V.int)) from ⟨by rw [List.length_map]; exact hz, out.toList, e, vals_ints hi, by rw [ha]⟩), rfl, q _ (I.hok.fresh hD)⟩
theorem line64 {n : Nat} (h : n < 64) : n ≤ sizeLine := Nat.le_trans (Nat.le_of_lt h) (by decide)
noncomputable def kview (p a : Addr) : HO := .ext fun h => PySem.W.KdlKeysView h p a
noncomputable def vview (p a : Addr) : HO := .ext fun h => h.IsValuesView p a
noncomputable def rKeys : V → List V → Hp → VK → Prop := fun x vs H Q => ∃ (a : Addr) (kvs : List (Key × V)), x = .ref a ∧ vs = [] ∧ H a = some (.dK kvs) ∧ ∀ p, H p = none → Q (.ref p) (upd H p (kview p a))
noncomputable def rVals : V → List V → Hp → VK → Prop := fun x vs H Q => ∃ (a : Addr) (kvs : List (Key × V)), x = .ref a ∧ vs = [] ∧ H a = some (.dK kvs) ∧ ∀ p, H p = none → Q (.ref p) (upd H p (vview p a))
theorem mt_keys : MtR X "dict.keys" rKeys := by
 intro pins s σ H x xs v us Q I rx r h
 obtain ⟨a, kvs, rfl, rfl, ha, q⟩ := h
 cases rx
 cases r
 obtain ⟨hz, lo, vs, rel, dd⟩ := dk_of I.hok ha
 have hn : (s.heap.push { cls := .type "dict_keys", data := .fields #[.ref a] }).get? s.heap.objs.size = some { cls := .type "dict_keys", data := .fields #[.ref a] } := Heap.get?_push_size _ rfl
 refine call_meetsIn PySem.F.slot_dict_keys dd.typeIs PySem.F.entry_dict_keys (PySem.F.args_dict_keys_1 _) (PySem.W.kdl_meets_keys (mixKind X.prog X.w) a lo) ⟨⟨vs, dd⟩, ?_⟩
 refine ⟨.ref s.heap.objs.size, _, I.laid (t' := s.toks) (o := kview s.heap.objs.size a) (fun _ _ e => Heap.get?_push_of_some _ e) (Nat.le_refl _) ⟨⟨_, hn, rfl, rfl⟩, ⟨_, hn⟩, fun h1 h2 ⟨o, e1, e2⟩ e3 => ⟨o, e3 _ e1, e2⟩⟩, rfl, q _ I.fresh⟩
theorem mt_vals : MtR X "dict.values" rVals := by
 intro pins s σ H x xs v us Q I rx r h
 obtain ⟨a, kvs, rfl, rfl, ha, q⟩ := h
 cases rx
 cases r
 obtain ⟨hz, lo, vs, rel, dd⟩ := dk_of I.hok ha
 have hn : (s.heap.push { cls := .type "dict_values", data := .fields #[.ref a] }).get? s.heap.objs.size = some { cls := .type "dict_values", data := .fields #[.ref a] } := Heap.get?_push_size _ rfl
 refine call_meetsIn PySem.F.slot_dict_values dd.typeIs PySem.F.entry_dict_values (PySem.F.args_dict_values_1 _) (meets_dict_values (mixKind X.prog X.w) a lo) ⟨⟨vs, dd⟩, ?_⟩
 refine ⟨.ref s.heap.objs.size, _, I.laid (t' := s.toks) (o := vview s.heap.objs.size a) (fun _ _ e => Heap.get?_push_of_some _ e) (Nat.le_refl _) ⟨⟨_, hn, rfl, rfl⟩, ⟨_, hn⟩, fun h1 h2 ⟨o, e1, e2⟩ e3 => ⟨o, e3 _ e1, e2⟩⟩, rfl, q _ I.fresh⟩
noncomputable def rSortK : List V → Hp → VK → Prop := fun xs H Q => ∃ (p a : Addr) (kvs : List (Key × V)) (ns : List Int), xs = [.ref p] ∧ H p = some (kview p a) ∧ H a = some (.dK kvs) ∧ kvs.map (·.1) = ns.map Sum.inl ∧ ns.length < 64 ∧ ∀ l, H l = none → Q (.ref l) (upd H l (.lst ((sortI ns).map V.int)))
theorem call_sortK (hc : X.calm = true) : CallR X (.builtin "sorted") rSortK := by
 intro pins s σ H xs us Q I r h
 obtain ⟨p, a, kvs, ns, rfl, hp, ha, hk, h64, q⟩ := h
 obtain ⟨u, rfl, ru⟩ := vals1 r
 cases ru
 obtain ⟨hz, lo, vs, rel, dd⟩ := dk_of I.hok ha
 obtain ⟨ep, hat⟩ := dd.dictAt
 have hv : PySem.W.KdlKeysView s.heap p a := (show ObjOk X.prog X.w H s.heap p (kview p a) from I.hok p _ hp).1
 have hl : vs.length = ns.length := by rw [← rel.length, ← List.length_map (f := (·.1)), hk, List.length_map]
 refine sorted_src (PySem.W.kdl_keys (knd := mixKind X.prog X.w) (kvs := vs) (ep := ep)) (I.ok.hd hc) ⟨hv, hat⟩ (by rw [hl]; exact line64 h64) (by rw [hl]; exact h64) (ns := ns) (fun us hu hp => keys_ints rel hk us hu hp) fun D g tk e out kp hD ha hi => ?_
 exact lay_list I kp hD ha hi (by rw [sortI_len]; exact line64 h64) q
noncomputable def rSumV : List V → Hp → VK → Prop := fun xs H Q => ∃ (p a : Addr) (kvs : List (Key × V)) (ns : List Int), xs = [.ref p] ∧ H p = some (vview p a) ∧ H a = some (.dK kvs) ∧ kvs.map (·.2) = ns.map V.int ∧ Q (.int ns.sum) H
end
section
variable {prog : Program} {w : World} {A : Around} {E : Value → Shared → Prop} {s : Shared} {T : String} {r d : Addr} {n : Nat} {P : Nat → Value → Prop} {OK : Heap → Prop} {Q : Value → Shared → Prop}
theorem sum_src (K : PySem.W.KdlSrc prog w T r d n P OK) (hh : A.handled = none) (hok : OK s.heap) (f : Nat → Int) (hf : ∀ (i : Nat) (v : Value), P i v → ∃ t : Tok, v = Value.int (f i) t)
  (fin : ∀ (g : Heap) (k : Nat) (t : Tok), (∀ b o, s.heap.get? b = some o → g.get? b = some o) → Q (.int (preSum f n) t) { s with heap := g, toks := k }) :
  wpAny (model prog w) A (call (.builtin "sum") [.ref r]) Q E s := by
 obtain ⟨ob, Sg, go, Wk, s0⟩ := K.iter A.in1 s hh hok
 refine call_sum_walkAnyS (go _ _ ⟨s.heap.objs.size, _, _, _, n, P, _, f, rfl, Wk.toS, s0, fun b hb => ?_, hf, fun s' t hm => ?_⟩)
 ·show b < (s.heap.push ob).objs.size
  rw [Heap.size_push]
  rcases (by simpa using hb : b = s.heap.objs.size ∨ b = d) with rfl | rfl
  ·exact Nat.lt_succ_self _
  ·exact Nat.lt_succ_of_lt (K.there _ hok).2
 ·rw [Moved.eq_with hm]
  refine fin s'.heap s'.toks t fun b o e => hm.heap b o (fun z => ?_) (Heap.get?_push_of_some _ e)
  have lt := Heap.lt_size e
  rw [List.mem_singleton.mp z] at lt
  exact absurd lt (Nat.lt_irrefl _)
end
section
variable {X : Cx}
theorem KV.valsR {kvs : List (Key × V)} {vs : List (Key × Value)} {i : Nat} {k : Key} {u : Value} (rel : KV kvs vs) (h : vs[i]? = some (k, u)) : ∃ v, (kvs.map (·.2))[i]? = some v ∧ RelV v u := by
 unfold KV at rel
 induction rel generalizing i with
 | nil => simp at h
 | cons a t ih =>
  cases i with
  | zero =>
   simp at h
   subst h
   exact ⟨_, rfl, a.2⟩
  | succ i => simpa using ih (i := i) (by simpa using h)
theorem call_sumV (hc : X.calm = true) : CallR X (.builtin "sum") rSumV := by
 intro pins s σ H xs us Q I r h
 obtain ⟨p, a, kvs, ns, rfl, hp, ha, hk, q⟩ := h
 obtain ⟨u, rfl, ru⟩ := vals1 r
 cases ru
 obtain ⟨hz, lo, vs, rel, dd⟩ := dk_of I.hok ha
 obtain ⟨ep, hat⟩ := dd.dictAt
 have hv : s.heap.IsValuesView p a := (show ObjOk X.prog X.w H s.heap p (vview p a) from I.hok p _ hp).1
 have hl : vs.length = ns.length := by rw [← rel.length, ← List.length_map (f := (·.2)), hk, List.length_map]
 refine sum_src (PySem.W.kdl_values (knd := mixKind X.prog X.w) (kvs := vs) (ep := ep)) (I.ok.hd hc) ⟨hv, hat⟩ (fun i => ns.getD i 0) (fun i v hp => ?_) fun g k t kp => ?_
 ·obtain ⟨key, e1⟩ := hp
  obtain ⟨y, e2, e3⟩ := rel.valsR e1
  rw [hk, List.getElem?_map] at e2
  cases e4 : ns[i]? with
  | none => rw [e4] at e2; cases e2
  | some m =>
   rw [e4] at e2
   cases e2
   obtain ⟨t, rfl⟩ := e3
   exact ⟨t, by rw [List.getD_eq_getElem?_getD, e4]; rfl⟩
 ·have e : preSum (fun i => ns.getD i 0) vs.length = ns.sum := by
   rw [preSum_eq ns, hl, List.take_length]
  rw [e]
  exact ⟨.int ns.sum, H, I.kept kp, ⟨t, rfl⟩, q⟩
noncomputable def rListD : List V → Hp → VK → Prop := fun xs H Q => ∃ (a : Addr) (kvs : List (Key × V)) (ns : List Int), xs = [.ref a] ∧ H a = some (.dK kvs) ∧ kvs.map (·.1) = ns.map Sum.inl ∧ ∀ l, H l = none → Q (.ref l) (upd H l (.lst (ns.map V.int)))
theorem call_listD (hc : X.calm = true) : CallR X (.type "list") rListD := by
 intro pins s σ H xs us Q I r h
 obtain ⟨a, kvs, ns, rfl, ha, hk, q⟩ := h
 obtain ⟨u, rfl, ru⟩ := vals1 r
 cases ru
 obtain ⟨hz, lo, vs, rel, dd⟩ := dk_of I.hok ha
 obtain ⟨ep, hat⟩ := dd.dictAt
 have hl : vs.length = ns.length := by rw [← rel.length, ← List.length_map (f := (·.1)), hk, List.length_map]
 have hn : ns.length ≤ sizeLine := by rw [← hl, ← rel.length]; exact hz
 refine PySem.W.kdl_call (PySem.W.kdl_dict (knd := mixKind X.prog X.w) (kvs := vs) (ep := ep) lo) (I.ok.hd hc) hat (by rw [hl]; exact hn) fun g tk acc c kp hD it => ?_
 have hi : IntsAre acc.toList ns := keys_ints rel hk acc.toList (by rw [Array.length_toList]; exact it.1) (fun i u e => it.2 i u (by rw [← Array.getElem?_toList]; exact e))
 exact lay_list I kp (Nat.le_refl _) (e := c) (out := acc) hD hi hn q
noncomputable def rEqNil (K : PySem.W.Frag) (neg : Bool) : R2 := fun x y H Q => ∃ a b xs, x = .ref a ∧ y = .ref b ∧ SqL K H a xs ∧ SqL K H b [] ∧ Q (.bl (neg != xs.isEmpty)) H
theorem op_eqNil {k : Nat} {K : PySem.W.Frag} (hr : Room k X.A) (hK : X.K = K := by rfl) : OpR X (compareOp .Eq) (rEqNil K false) := by
 subst hK
 intro pins s σ H x y v u Q I rx ry h
 obtain ⟨a, b, xs, rfl, rfl, h1, h2, q⟩ := h
 cases rx; cases ry
 have hu : X.A.units + 41 < cLine := Nat.lt_of_le_of_lt (by omega) hr.units
 obtain ⟨its, r1, p1, _⟩ := I.list h1
 obtain ⟨its2, r2, p2, _⟩ := I.list h2
 cases r2
 cases r1 with
 | nil =>
  refine SeqAt.eq_listAt (e := fun _ => true) p1.isList p2.isList rfl (by omega) (fun i y1 _ => absurd y1 (Nat.not_lt_zero i)) ?_
  exact ⟨.bl true, H, I, rfl, q⟩
 | cons c t =>
  refine SeqAt.eq_list_lengthsAt p1.isList p2.isList (by simp) (by omega) ?_
  exact ⟨.bl false, H, I, rfl, q⟩
end
end L2
namespace L2
open PySem
inductive Xv where
 | non | bl (b : Bool) | int (i : Int) | str (x : Str) | tup (xs : List Xv) | ct (xs : List Xv) | ref (n : Nat)
inductive Ce where
 | lst (xs : List Xv)
 | frz (xs : List Xv)
 | dk (kvs : List (Key × Xv))
 | dt (kvs : List (List Key × Xv))
 | ins (nm : Str) (fs : List (Str × Xv))
 | fdk (kvs : List (Key × Xv))
noncomputable abbrev Sto := List Ce
noncomputable abbrev Rho := List (Option Xv)
noncomputable def Ce.fz : Ce → Bool
 | .frz _ => true
 | .fdk _ => true
 | _ => false
noncomputable def HO.mu : HO → Bool
 | .lst _ => true
 | .dK _ => true
 | .dT _ => true
 | .ins _ _ _ => true
 | .set _ _ => true
 | _ => false
noncomputable def KeepI (H H' : Hp) : Prop := ∀ b u, H b = some u → u.mu = false → H' b = some u
theorem KeepI.refl (H : Hp) : KeepI H H := fun _ _ e _ => e
theorem KeepI.trans {H H1 H2 : Hp} (a : KeepI H H1) (b : KeepI H1 H2) : KeepI H H2 := fun x u e m => b x u (a x u e m) m
theorem KeepI.same {H H' : Hp} (S : Same H H') : KeepI H H' := fun b u e _ => S b u e
structure Ext (j : List Addr) (H : Hp) (j' : List Addr) (H' : Hp) : Prop where
 pre : ∀ (n : Nat) a, j[n]? = some a → j'[n]? = some a
 imm : KeepI H H'
theorem Ext.refl {j : List Addr} {H : Hp} : Ext j H j H := ⟨fun _ _ e => e, KeepI.refl _⟩
theorem Ext.trans {j j1 j2 : List Addr} {H H1 H2 : Hp} (a : Ext j H j1 H1) (b : Ext j1 H1 j2 H2) : Ext j H j2 H2 := ⟨fun n x e => b.pre n x (a.pre n x e), a.imm.trans b.imm⟩
theorem Ext.same {j : List Addr} {H H' : Hp} (S : Same H H') : Ext j H j H' := ⟨fun _ _ e => e, KeepI.same S⟩
mutual
inductive Xis (K : PySem.W.Frag) (j : List Addr) (H : Hp) : Xv → V → Prop where
 | non : Xis K j H .non .non
 | bl (b : Bool) : Xis K j H (.bl b) (.bl b)
 | int (i : Int) : Xis K j H (.int i) (.int i)
 | str (x : Str) : Xis K j H (.str x) (.str x)
 | tup {a : Addr} {vs : List V} {xs : List Xv} : H a = some (.tup vs) → XisL K j H xs vs → Xis K j H (.tup xs) (.ref a)
 | ct {a : Addr} {vs : List V} {xs : List Xv} : (∀ H, SqT K H a vs) → XisL K j H xs vs → Xis K j H (.ct xs) (.ref a)
 | ref {n : Nat} {a : Addr} : j[n]? = some a → Xis K j H (.ref n) (.ref a)
inductive XisL (K : PySem.W.Frag) (j : List Addr) (H : Hp) : List Xv → List V → Prop where
 | nil : XisL K j H [] []
 | cons {x : Xv} {v : V} {xs : List Xv} {vs : List V} : Xis K j H x v → XisL K j H xs vs → XisL K j H (x :: xs) (v :: vs)
end
mutual
theorem Xis.mono {K : PySem.W.Frag} {j j' : List Addr} {H H' : Hp} (S : Ext j H j' H') : ∀ {x : Xv} {v : V}, Xis K j H x v → Xis K j' H' x v
 | _, _, .non => .non
 | _, _, .bl b => .bl b
 | _, _, .int i => .int i
 | _, _, .str x => .str x
 | _, _, .tup h l => .tup (S.imm _ _ h rfl) (XisL.mono S l)
 | _, _, .ct h l => .ct h (XisL.mono S l)
 | _, _, .ref h => .ref (S.pre _ _ h)
theorem XisL.mono {K : PySem.W.Frag} {j j' : List Addr} {H H' : Hp} (S : Ext j H j' H') : ∀ {xs : List Xv} {vs : List V}, XisL K j H xs vs → XisL K j' H' xs vs
 | _, _, .nil => .nil
 | _, _, .cons h l => .cons (Xis.mono S h) (XisL.mono S l)
end
section
variable {K : PySem.W.Frag} {j : List Addr} {H : Hp}
theorem XisL.len : ∀ {xs : List Xv} {vs : List V}, XisL K j H xs vs → vs.length = xs.length
 | _, _, .nil => rfl
 | _, _, .cons _ l => by rw [List.length_cons, List.length_cons, l.len]
theorem XisL.get : ∀ {xs : List Xv} {vs : List V} {i : Nat} {x : Xv}, XisL K j H xs vs → xs[i]? = some x → ∃ v, vs[i]? = some v ∧ Xis K j H x v
 | _, _, _, _, .nil, e => by simp at e
 | _, _, 0, _, .cons h _, e => by simp at e; subst e; exact ⟨_, rfl, h⟩
 | _, _, i + 1, x, .cons _ l, e => by
  obtain ⟨v, e1, e2⟩ := l.get (i := i) (x := x) (by simpa using e)
  exact ⟨v, by simpa using e1, e2⟩
theorem XisL.append : ∀ {xs ys : List Xv} {vs ws : List V}, XisL K j H xs vs → XisL K j H ys ws → XisL K j H (xs ++ ys) (vs ++ ws)
 | _, _, _, _, .nil, h => h
 | _, _, _, _, .cons h l, k => .cons h (l.append k)
theorem XisL.one {v : V} {x : Xv} (h : Xis K j H x v) : XisL K j H [x] [v] := .cons h .nil
theorem XisL.take : ∀ {xs : List Xv} {vs : List V} (n : Nat), XisL K j H xs vs → XisL K j H (xs.take n) (vs.take n)
 | _, _, 0, _ => .nil
 | _, _, _ + 1, .nil => .nil
 | _, _, n + 1, .cons h l => .cons h (l.take n)
theorem XisL.drop : ∀ {xs : List Xv} {vs : List V} (n : Nat), XisL K j H xs vs → XisL K j H (xs.drop n) (vs.drop n)
 | _, _, 0, h => h
 | _, _, _ + 1, .nil => .nil
 | _, _, n + 1, .cons h l => l.drop n
theorem XisL.ints : ∀ ns : List Int, XisL K j H (ns.map Xv.int) (ns.map V.int)
 | [] => .nil
 | n :: r => .cons (.int n) (XisL.ints r)
theorem XisL.reverse : ∀ {xs : List Xv} {vs : List V}, XisL K j H xs vs → XisL K j H xs.reverse vs.reverse
 | _, _, .nil => .nil
 | _, _, .cons h l => by
  rw [List.reverse_cons, List.reverse_cons]
  exact l.reverse.append (.one h)
theorem XisL.set {v : V} {x : Xv} (hv : Xis K j H x v) : ∀ {xs : List Xv} {vs : List V} (n : Nat), XisL K j H xs vs → XisL K j H (xs.set n x) (vs.set n v)
 | _, _, _, .nil => .nil
 | _, _, 0, .cons _ l => .cons hv l
 | _, _, n + 1, .cons h l => .cons h (l.set hv n)
theorem XisL.at_ {xs : List Xv} {vs : List V} {i : Int} {x : Xv} (h : XisL K j H xs vs) (e : atI xs i = some x) : ∃ v, atI vs i = some v ∧ Xis K j H x v := by
 unfold atI at e ⊢
 rw [h.len]
 cases e1 : ixN xs.length i with
 | none => rw [e1] at e; cases e
 | some m =>
  rw [e1] at e
  obtain ⟨v, e3, e4⟩ := h.get (i := m) e
  exact ⟨v, e3, e4⟩
theorem Xis.int_inv {v : V} {i : Int} (h : Xis K j H (.int i) v) : v = .int i := by cases h; rfl
theorem Xis.bl_inv {v : V} {b : Bool} (h : Xis K j H (.bl b) v) : v = .bl b := by cases h; rfl
theorem Xis.ref_inv {v : V} {n : Nat} (h : Xis K j H (.ref n) v) : ∃ a, v = .ref a ∧ j[n]? = some a := by cases h with | ref e => exact ⟨_, rfl, e⟩
theorem XisL.cons_inv {vs : List V} {x : Xv} {xs : List Xv} (h : XisL K j H (x :: xs) vs) : ∃ v r, vs = v :: r ∧ Xis K j H x v ∧ XisL K j H xs r := by cases h with | cons a b => exact ⟨_, _, rfl, a, b⟩
theorem XisL.nil_inv {vs : List V} (h : XisL K j H [] vs) : vs = [] := by cases h; rfl
theorem XisL.d1 {vs : List V} {a : Xv} (h : XisL K j H [a] vs) : ∃ x, vs = [x] ∧ Xis K j H a x := by
 obtain ⟨x, r, rfl, hx, h⟩ := h.cons_inv
 obtain rfl := h.nil_inv
 exact ⟨x, rfl, hx⟩
theorem XisL.d2 {vs : List V} {a b : Xv} (h : XisL K j H [a, b] vs) : ∃ x y, vs = [x, y] ∧ Xis K j H a x ∧ Xis K j H b y := by
 obtain ⟨x, r, rfl, hx, h⟩ := h.cons_inv
 obtain ⟨y, rfl, hy⟩ := h.d1
 exact ⟨x, y, rfl, hx, hy⟩
noncomputable def Xv.tupOf : Xv → Option (List Xv)
 | .tup xs => some xs
 | .ct xs => some xs
 | _ => none
theorem Xis.tupO {v : V} {x : Xv} {xs : List Xv} (h : Xis K j H x v) (e : x.tupOf = some xs) : ∃ a vs, v = .ref a ∧ SqT K H a vs ∧ XisL K j H xs vs := by
 cases h with
 | tup h l => simp [Xv.tupOf] at e; subst e; exact ⟨_, _, rfl, SqT.of h, l⟩
 | ct h l => simp [Xv.tupOf] at e; subst e; exact ⟨_, _, rfl, h H, l⟩
 | _ => simp [Xv.tupOf] at e
end
inductive KX {κ : Type} (K : PySem.W.Frag) (j : List Addr) (H : Hp) : List (κ × Xv) → List (κ × V) → Prop where
 | nil : KX K j H [] []
 | cons {k : κ} {x : Xv} {v : V} {r : List (κ × Xv)} {rs : List (κ × V)} : Xis K j H x v → KX K j H r rs → KX K j H ((k, x) :: r) ((k, v) :: rs)
theorem KX.mono {κ : Type} {K : PySem.W.Frag} {j j' : List Addr} {H H' : Hp} (S : Ext j H j' H') : ∀ {xs : List (κ × Xv)} {vs : List (κ × V)}, KX K j H xs vs → KX K j' H' xs vs
 | _, _, .nil => .nil
 | _, _, .cons h l => .cons (h.mono S) (l.mono S)
noncomputable def CeIs (K : PySem.W.Frag) (j : List Addr) (H : Hp) (a : Addr) : Ce → Prop
 | .lst xs => ∃ vs, H a = some (.lst vs) ∧ XisL K j H xs vs
 | .frz xs => ∃ vs, ((∃ o, H a = some (.frz o (.lst vs))) ∨ ∀ H, SqX K H a vs) ∧ XisL K j H xs vs
 | .dk kvs => ∃ ks : List (Key × V), H a = some (.dK ks) ∧ KX K j H kvs ks
 | .dt kvs => ∃ ks : List (List Key × V), H a = some (.dT ks) ∧ KX K j H kvs ks
 | .ins nm fs => ∃ (C dx : Addr) (vs : List (Str × V)), PySem.W.nsIn K mainGlobals nm = some (some (.ref C)) ∧ H a = some (.ins C dx vs) ∧ KX K j H fs vs
 | .fdk kvs => ∃ (o : Obj) (ks : List (Key × V)), H a = some (.frz o (.dK ks)) ∧ KX K j H kvs ks
theorem CeIs.mu {K : PySem.W.Frag} {j : List Addr} {H : Hp} {a : Addr} : ∀ {c : Ce}, CeIs K j H a c → c.fz = false → ∃ o, H a = some o ∧ o.mu = true
 | .lst _, ⟨_, e, _⟩, _ => ⟨_, e, rfl⟩
 | .frz _, _, z => by cases z
 | .dk _, ⟨_, e, _⟩, _ => ⟨_, e, rfl⟩
 | .dt _, ⟨_, e, _⟩, _ => ⟨_, e, rfl⟩
 | .ins _ _, ⟨_, _, _, _, e, _⟩, _ => ⟨_, e, rfl⟩
 | .fdk _, _, z => by cases z
theorem CeIs.mono {K : PySem.W.Frag} {j j' : List Addr} {H H' : Hp} {a : Addr} (S : Ext j H j' H') : ∀ {c : Ce}, (c.fz = false → H' a = H a) → CeIs K j H a c → CeIs K j' H' a c
 | .lst _, h, ⟨_, e, l⟩ => ⟨_, (h rfl).trans e, l.mono S⟩
 | .frz _, _, ⟨_, .inl ⟨o, e⟩, l⟩ => ⟨_, .inl ⟨o, S.imm _ _ e rfl⟩, l.mono S⟩
 | .frz _, _, ⟨_, .inr e, l⟩ => ⟨_, .inr e, l.mono S⟩
 | .dk _, h, ⟨_, e, l⟩ => ⟨_, (h rfl).trans e, l.mono S⟩
 | .dt _, h, ⟨_, e, l⟩ => ⟨_, (h rfl).trans e, l.mono S⟩
 | .ins _ _, h, ⟨_, _, _, n, e, l⟩ => ⟨_, _, _, n, (h rfl).trans e, l.mono S⟩
 | .fdk _, _, ⟨_, _, e, l⟩ => ⟨_, _, S.imm _ _ e rfl, l.mono S⟩
structure Fm where
 H0 : Hp
 j0 : List Addr
 S0 : Sto
structure En (K : PySem.W.Frag) (F : Fm) (j : List Addr) (H : Hp) (σ : St) (ρ : Rho) (S : Sto) : Prop where
 len : σ.length = ρ.length
 slot : ∀ (i : Nat) x, ρ[i]? = some (some x) → ∃ v, σ[i]? = some (some v) ∧ Xis K j H x v
 jl : j.length = S.length
 inj : ∀ (n m : Nat) a c d, j[n]? = some a → j[m]? = some a → S[n]? = some c → S[m]? = some d → c.fz = false → d.fz = false → n = m
 cel : ∀ (n : Nat) c a, S[n]? = some c → j[n]? = some a → CeIs K j H a c
 ext : Ext F.j0 F.H0 j H
 old : ∀ (n : Nat) c, F.S0[n]? = some c → ∃ c', S[n]? = some c' ∧ (c'.fz = false → c.fz = false) ∧ (c.fz = true → c' = c)
 l0 : F.j0.length = F.S0.length
 keep : ∀ b u, F.H0 b = some u → H b = some u ∨ ∃ (n : Nat) (c : Ce), F.j0[n]? = some b ∧ F.S0[n]? = some c ∧ c.fz = false
 fresh : ∀ (n : Nat) a, F.j0.length ≤ n → j[n]? = some a → F.H0 a = none
 dom : ∀ b, H b = none → F.H0 b = none
section
variable {K : PySem.W.Frag} {F : Fm} {j j' : List Addr} {H H' : Hp} {σ σ' : St} {ρ ρ' : Rho} {S S' : Sto} {v : V} {x : Xv} {a p : Addr} {o : HO} {i n : Nat} {c c' : Ce}
theorem En.heap (E : En K F j H σ ρ S) (Sm : Same H H') : En K F j H' σ ρ S := by
 have X : Ext j H j H' := Ext.same Sm
 refine ⟨E.len, fun i x e => ?_, E.jl, E.inj, fun n c a e1 e2 => ?_, E.ext.trans X, E.old, E.l0, fun b u e => ?_, E.fresh, fun b e => E.dom b ?_⟩
 ·obtain ⟨v, e1, e2⟩ := E.slot i x e
  exact ⟨v, e1, e2.mono X⟩
 ·have h := E.cel n c a e1 e2
  refine h.mono X fun z => ?_
  obtain ⟨o, e, _⟩ := h.mu z
  exact (Sm _ _ e).trans e.symm
 ·rcases E.keep b u e with h | h
  ·exact .inl (Sm _ _ h)
  ·exact .inr h
 ·cases e' : H b with
  | none => rfl
  | some u => rw [Sm b u e'] at e; cases e
theorem En.new (E : En K F j H σ ρ S) (h : H p = none) : En K F j (upd H p o) σ ρ S ∧ Ext j H j (upd H p o) := ⟨E.heap (same_upd h), Ext.same (same_upd h)⟩
theorem En.cell (E : En K F j H σ ρ S) (h : H p = none) (hc : CeIs K (j ++ [p]) (upd H p o) p c) : En K F (j ++ [p]) (upd H p o) σ ρ (S ++ [c]) ∧ Ext j H (j ++ [p]) (upd H p o) := by
 have X : Ext j H (j ++ [p]) (upd H p o) := ⟨fun n a e => by rw [List.getElem?_append_left (List.getElem?_eq_some_iff.1 e).1]; exact e, KeepI.same (same_upd h)⟩
 have jat : ∀ {n : Nat} {a : Addr}, (j ++ [p])[n]? = some a → j[n]? = some a ∨ (n = j.length ∧ a = p) := fun {n a} e => by
  by_cases hn : n < j.length
  ·rw [List.getElem?_append_left hn] at e; exact .inl e
  ·rw [List.getElem?_append_right (by omega)] at e
   cases hm : n - j.length with
   | zero => rw [hm] at e; simp at e; exact .inr ⟨by omega, e.symm⟩
   | succ m => rw [hm] at e; simp at e
 have sat : ∀ {n : Nat} {d : Ce}, (S ++ [c])[n]? = some d → S[n]? = some d ∨ (n = S.length ∧ d = c) := fun {n d} e => by
  by_cases hn : n < S.length
  ·rw [List.getElem?_append_left hn] at e; exact .inl e
  ·rw [List.getElem?_append_right (by omega)] at e
   cases hm : n - S.length with
   | zero => rw [hm] at e; simp at e; exact .inr ⟨by omega, e.symm⟩
   | succ m => rw [hm] at e; simp at e
 have lt : ∀ {n : Nat} {d : Ce}, S[n]? = some d → n < S.length := fun e => (List.getElem?_eq_some_iff.1 e).1
 have mine : ∀ {n : Nat} {a : Addr} {d : Ce}, j[n]? = some a → S[n]? = some d → d.fz = false → a ≠ p := fun {n a d} e1 e2 z q => by
  subst q
  obtain ⟨o', e, _⟩ := (E.cel n d a e2 e1).mu z
  rw [h] at e; cases e
 refine ⟨⟨E.len, fun i x e => ?_, by simp [E.jl], fun n m a c1 c2 e1 e2 e3 e4 z1 z2 => ?_, fun n d a e1 e2 => ?_, E.ext.trans X, fun n d e => ?_, E.l0, fun b u e => ?_, fun n a hn e => ?_, fun b e => ?_⟩, X⟩
 ·obtain ⟨v, e1, e2⟩ := E.slot i x e
  exact ⟨v, e1, e2.mono X⟩
 ·rcases sat e3 with e3 | ⟨e3, _⟩
  ·have h1 : j[n]? = some a := by
    rcases jat e1 with h1 | ⟨h1, _⟩
    ·exact h1
    ·have := lt e3; rw [E.jl] at h1; omega
   rcases sat e4 with e4 | ⟨e4, _⟩
   ·have h2 : j[m]? = some a := by
     rcases jat e2 with h2 | ⟨h2, _⟩
     ·exact h2
     ·have := lt e4; rw [E.jl] at h2; omega
    exact E.inj n m a c1 c2 h1 h2 e3 e4 z1 z2
   ·have : a = p := by
     rcases jat e2 with h2 | ⟨_, h2⟩
     ·have := (List.getElem?_eq_some_iff.1 h2).1; rw [E.jl] at this; omega
     ·exact h2
    exact absurd this (mine h1 e3 z1)
  ·have : a = p := by
    rcases jat e1 with h2 | ⟨_, h2⟩
    ·have := (List.getElem?_eq_some_iff.1 h2).1; rw [E.jl] at this; omega
    ·exact h2
   rcases sat e4 with e4 | ⟨e4, _⟩
   ·have h2 : j[m]? = some a := by
     rcases jat e2 with h2 | ⟨h2, _⟩
     ·exact h2
     ·have := lt e4; rw [E.jl] at h2; omega
    exact absurd this (mine h2 e4 z2)
   ·rw [e3, e4]
 ·rcases sat e1 with e1 | ⟨e1, rfl⟩
  ·have h2 : j[n]? = some a := by
    rcases jat e2 with h2 | ⟨h2, _⟩
    ·exact h2
    ·have := lt e1; rw [E.jl] at h2; omega
   have hh := E.cel n d a e1 h2
   exact hh.mono X fun z => upd_ne (mine h2 e1 z)
  ·have : a = p := by
    rcases jat e2 with h2 | ⟨_, h2⟩
    ·have := (List.getElem?_eq_some_iff.1 h2).1; rw [E.jl] at this; omega
    ·exact h2
   subst this
   exact hc
 ·obtain ⟨d', e1, e2⟩ := E.old n d e
  exact ⟨d', by rw [List.getElem?_append_left (lt e1)]; exact e1, e2⟩
 ·rcases E.keep b u e with h' | h'
  ·exact .inl (same_upd h _ _ h')
  ·exact .inr h'
 ·rcases jat e with e | ⟨_, rfl⟩
  ·exact E.fresh n a hn e
  ·exact E.dom _ h
 ·refine E.dom b ?_
  cases e' : H b with
  | none => rfl
  | some u => rw [same_upd h b u e'] at e; cases e
theorem En.writeF (E : En K F j H σ ρ S) (hs : S[n]? = some c) (z : c.fz = false) (hj : j[n]? = some a) (hc : ∀ X : Ext j H j (upd H a o), CeIs K j (upd H a o) a c') : En K F j (upd H a o) σ ρ (S.set n c') ∧ Ext j H j (upd H a o) := by
 obtain ⟨o0, h0, m0⟩ := (E.cel n c a hs hj).mu z
 have X : Ext j H j (upd H a o) := ⟨fun _ _ e => e, fun b u e m => by
  have : b ≠ a := fun q => by subst q; rw [h0] at e; cases e; rw [m] at m0; cases m0
  rw [upd_ne this]; exact e⟩
 have sat : ∀ {m : Nat} {d : Ce}, (S.set n c')[m]? = some d → (m = n ∧ d = c') ∨ (m ≠ n ∧ S[m]? = some d) := fun {m d} e => by
  rw [List.getElem?_set] at e
  split at e
  ·rename_i q
   split at e
   ·cases e; exact .inl ⟨q.symm, rfl⟩
   ·cases e
  ·rename_i q
   exact .inr ⟨fun r => q r.symm, e⟩
 have fzq : ∀ {m : Nat} {d : Ce}, (S.set n c')[m]? = some d → ∃ d', S[m]? = some d' ∧ (d.fz = false → d'.fz = false) := fun {m d} e => by
  rcases sat e with ⟨rfl, rfl⟩ | ⟨_, e⟩
  ·exact ⟨c, hs, fun _ => z⟩
  ·exact ⟨d, e, fun y => y⟩
 refine ⟨⟨E.len, fun i x e => ?_, by simp [E.jl], fun k m b c1 c2 e1 e2 e3 e4 z1 z2 => ?_, fun m d b e1 e2 => ?_, E.ext.trans X, fun m d e => ?_, E.l0, fun b u e => ?_, E.fresh, fun b e => ?_⟩, X⟩
 ·obtain ⟨v, e1, e2⟩ := E.slot i x e
  exact ⟨v, e1, e2.mono X⟩
 ·obtain ⟨d1, f1, g1⟩ := fzq e3
  obtain ⟨d2, f2, g2⟩ := fzq e4
  exact E.inj k m b d1 d2 e1 e2 f1 f2 (g1 z1) (g2 z2)
 ·rcases sat e1 with ⟨rfl, rfl⟩ | ⟨q, e1⟩
  ·rw [hj] at e2
   cases e2
   exact hc X
  ·refine (E.cel m d b e1 e2).mono X fun zd => upd_ne fun r => ?_
   subst r
   exact q (E.inj m n b d c e2 hj e1 hs zd z)
 ·obtain ⟨d', e1, e2, e3⟩ := E.old m d e
  by_cases q : m = n
  ·subst q
   rw [hs] at e1
   cases e1
   refine ⟨c', by rw [List.getElem?_set, if_pos rfl, if_pos (List.getElem?_eq_some_iff.1 hs).1], fun _ => e2 z, fun y => ?_⟩
   rw [e2 z] at y
   cases y
  ·exact ⟨d', by rw [List.getElem?_set, if_neg (fun r => q r.symm)]; exact e1, e2, e3⟩
 ·by_cases q : b = a
  ·subst q
   by_cases hn : n < F.j0.length
   ·have hj0 : F.j0[n]? = some b := by
     have e1 : F.j0[n]? = some F.j0[n] := List.getElem?_eq_getElem hn
     have e2 := E.ext.pre n _ e1
     rw [hj] at e2
     cases e2
     exact e1
    have hn2 : n < F.S0.length := by rw [← E.l0]; exact hn
    obtain ⟨d', f1, f2, _⟩ := E.old n _ (List.getElem?_eq_getElem hn2)
    rw [hs] at f1
    cases f1
    exact .inr ⟨n, _, hj0, List.getElem?_eq_getElem hn2, f2 z⟩
   ·rw [E.fresh n b (by omega) hj] at e
    cases e
  ·rcases E.keep b u e with h | h
   ·exact .inl (by rw [upd_ne q]; exact h)
   ·exact .inr h
 ·by_cases q : b = a
  ·subst q; rw [upd_same] at e; cases e
  ·rw [upd_ne q] at e; exact E.dom b e
theorem En.write (E : En K F j H σ ρ S) (hs : S[n]? = some c) (z : c.fz = false) (hj : j[n]? = some a) (_ : c'.fz = false) (hc : ∀ X : Ext j H j (upd H a o), CeIs K j (upd H a o) a c') : En K F j (upd H a o) σ ρ (S.set n c') ∧ Ext j H j (upd H a o) := E.writeF hs z hj hc
theorem En.slots (E : En K F j H σ ρ S) (hl : σ'.length = ρ'.length) (h : ∀ (i : Nat) x, ρ'[i]? = some (some x) → ∃ v, σ'[i]? = some (some v) ∧ Xis K j H x v) : En K F j H σ' ρ' S :=
 ⟨hl, h, E.jl, E.inj, E.cel, E.ext, E.old, E.l0, E.keep, E.fresh, E.dom⟩
theorem En.set (E : En K F j H σ ρ S) (h : Xis K j H x v) : En K F j H (σ.set i (some v)) (ρ.set i (some x)) S := E.slots (by simp [E.len]) fun k y e => by
 rw [List.getElem?_set] at e ⊢
 split at e
 ·rename_i q
  subst q
  split at e
  ·rename_i hl
   cases e
   rw [if_pos rfl, if_pos (by rw [E.len]; exact hl)]
   exact ⟨v, rfl, h⟩
  ·cases e
 ·rename_i q
  rw [if_neg q]
  exact E.slot k y e
theorem En.enter (E : En K F j H σ ρ S) (hl : σ'.length = ρ'.length) (h : ∀ (i : Nat) x, ρ'[i]? = some (some x) → ∃ v, σ'[i]? = some (some v) ∧ Xis K j H x v) : En K ⟨H, j, S⟩ j H σ' ρ' S :=
 ⟨hl, h, E.jl, E.inj, E.cel, Ext.refl, fun n c e => ⟨c, e, fun z => z, fun _ => rfl⟩, E.jl, fun b u e => .inl e, fun n a hn e => by have := (List.getElem?_eq_some_iff.1 e).1; dsimp only at hn; omega, fun b e => e⟩
theorem En.leave (E : En K F j H σ ρ S) (X : En K ⟨H, j, S⟩ j' H' σ' ρ' S') : En K F j' H' σ ρ S' ∧ Ext j H j' H' := by
 have e : Ext j H j' H' := X.ext
 refine ⟨⟨E.len, fun i x h => ?_, X.jl, X.inj, X.cel, E.ext.trans e, fun n c h => ?_, E.l0, fun b u h => ?_, fun n a hn h => ?_, fun b h => E.dom b (X.dom b h)⟩, e⟩
 ·obtain ⟨v, e1, e2⟩ := E.slot i x h
  exact ⟨v, e1, e2.mono e⟩
 ·obtain ⟨c1, e1, e2, e3⟩ := E.old n c h
  obtain ⟨c2, f1, f2, f3⟩ := X.old n c1 e1
  refine ⟨c2, f1, fun z => e2 (f2 z), fun z => ?_⟩
  obtain rfl := e3 z
  exact f3 z
 ·rcases E.keep b u h with h1 | h1
  ·rcases X.keep b u h1 with h2 | ⟨n, c, h2, h3, h4⟩
   ·exact .inl h2
   ·by_cases hn : n < F.j0.length
    ·have e1 : F.j0[n]? = some F.j0[n] := List.getElem?_eq_getElem hn
     have e2 := E.ext.pre n _ e1
     have h2' : j[n]? = some b := h2
     rw [h2'] at e2
     cases e2
     have hn2 : n < F.S0.length := by rw [← E.l0]; exact hn
     obtain ⟨c1, f1, f2, _⟩ := E.old n _ (List.getElem?_eq_getElem hn2)
     have h3' : S[n]? = some c := h3
     rw [h3'] at f1
     cases f1
     exact .inr ⟨n, _, e1, List.getElem?_eq_getElem hn2, f2 h4⟩
    ·have := E.fresh n b (by omega) h2
     rw [this] at h; cases h
  ·exact .inr h1
 ·by_cases hm : n < j.length
  ·have e1 : j[n]? = some j[n] := List.getElem?_eq_getElem hm
   have e2 := e.pre n _ e1
   rw [h] at e2
   cases e2
   exact E.fresh n _ hn e1
  ·exact E.dom a (X.fresh n a (by dsimp only; omega) h)
theorem En.grow {k : Nat} (E : En K F j H σ ρ S) : En K F j H (σ ++ List.replicate k none) (ρ ++ List.replicate k none) S := E.slots (by simp [E.len]) fun i x e => by
 by_cases hi : i < ρ.length
 ·rw [List.getElem?_append_left hi] at e
  rw [List.getElem?_append_left (by rw [E.len]; exact hi)]
  exact E.slot i x e
 ·rw [List.getElem?_append_right (by omega), List.getElem?_replicate] at e
  split at e
  ·cases e
  ·cases e
end
end L2
namespace L2
open PySem
inductive Rs (α : Type) where
 | ok (a : α) (S : Sto)
 | ex (c : Str) (S : Sto)
noncomputable abbrev TwE := Rho → Sto → Option (Rs Xv)
noncomputable abbrev TwT := Rho → Sto → Option (Rs Bool)
noncomputable abbrev TwL := Rho → Sto → Option (Rs (List Xv))
noncomputable abbrev TwO := Rho → Sto → Option (Rs (Option Int))
noncomputable abbrev TwG := Xv → Rho → Sto → Option (Rs Rho)
noncomputable abbrev TwGs := List Xv → Rho → Sto → Option (Rs Rho)
noncomputable abbrev TwI := Rho → Sto → Option (Rs (Sto → Option (List Xv)))
inductive Fl where
 | nx (ρ : Rho) (S : Sto)
 | bk (ρ : Rho) (S : Sto)
 | ct (ρ : Rho) (S : Sto)
 | rt (x : Xv) (S : Sto)
 | ex (c : Str) (S : Sto)
noncomputable abbrev TwS := Rho → Sto → Option Fl
noncomputable def rb {α β : Type} (m : Option (Rs α)) (f : α → Sto → Option (Rs β)) : Option (Rs β) := match m with
 | some (.ok a S) => f a S
 | some (.ex c S) => some (.ex c S)
 | none => none
noncomputable def sb {α : Type} (m : Option (Rs α)) (f : α → Sto → Option Fl) : Option Fl := match m with
 | some (.ok a S) => f a S
 | some (.ex c S) => some (.ex c S)
 | none => none
theorem rb_some {α β : Type} {m : Option (Rs α)} {f : α → Sto → Option (Rs β)} {r : Rs β} (h : rb m f = some r) : (∃ a S, m = some (.ok a S) ∧ f a S = some r) ∨ ∃ c S, m = some (.ex c S) ∧ r = .ex c S := by
 unfold rb at h
 split at h
 ·exact .inl ⟨_, _, rfl, h⟩
 ·cases h; exact .inr ⟨_, _, rfl, rfl⟩
 ·cases h
theorem sb_some {α : Type} {m : Option (Rs α)} {f : α → Sto → Option Fl} {r : Fl} (h : sb m f = some r) : (∃ a S, m = some (.ok a S) ∧ f a S = some r) ∨ ∃ c S, m = some (.ex c S) ∧ r = .ex c S := by
 unfold sb at h
 split at h
 ·exact .inl ⟨_, _, rfl, h⟩
 ·cases h; exact .inr ⟨_, _, rfl, rfl⟩
 ·cases h
noncomputable def PX (K : PySem.W.Frag) (F : Fm) (j : List Addr) (H : Hp) (E : XK) (c : Str) (S' : Sto) : Prop :=
 ∀ j' H' σ' ρ' C, Ext j H j' H' → En K F j' H' σ' ρ' S' → PySem.W.nsIn K mainGlobals c = some (some (.ref C)) → E (.ref C) none H'
theorem PX.mono {K : PySem.W.Frag} {F : Fm} {j j1 : List Addr} {H H1 : Hp} {E : XK} {c : Str} {S' : Sto} (h : PX K F j H E c S') (e : Ext j H j1 H1) : PX K F j1 H1 E c S' := fun j' H' σ' ρ' C x y z => h j' H' σ' ρ' C (e.trans x) y z
noncomputable def Po {α : Type} (K : PySem.W.Frag) (F : Fm) (j : List Addr) (H : Hp) (σ : St) (ρ : Rho) (E : XK) (P : α → List Addr → Hp → Prop) : Rs α → Prop
 | .ok a S' => ∀ j' H', Ext j H j' H' → En K F j' H' σ ρ S' → P a j' H'
 | .ex c S' => PX K F j H E c S'
theorem Po.step {α : Type} {K : PySem.W.Frag} {F : Fm} {j j1 : List Addr} {H H1 : Hp} {σ : St} {ρ : Rho} {E : XK} {P : α → List Addr → Hp → Prop} : ∀ {r : Rs α}, Po K F j H σ ρ E P r → Ext j H j1 H1 → Po K F j1 H1 σ ρ E P r
 | .ok a S', h, e => fun j' H' x y => h j' H' (e.trans x) y
 | .ex c S', h, e => PX.mono h e
noncomputable abbrev PoV (K : PySem.W.Frag) (Q : VK) : Xv → List Addr → Hp → Prop := fun x j' H' => ∀ v, Xis K j' H' x v → Q v H'
noncomputable def RE (K : PySem.W.Frag) (E : XK) (t : TE) (m : TwE) : Prop := ∀ {F : Fm} {j : List Addr} {σ : St} {H : Hp} {ρ : Rho} {S : Sto} {r : Rs Xv} {Q : VK}, En K F j H σ ρ S → m ρ S = some r → Po K F j H σ ρ E (PoV K Q) r → t σ H Q
noncomputable def RT (K : PySem.W.Frag) (E : XK) (t : TT) (m : TwT) : Prop := ∀ {F : Fm} {j : List Addr} {σ : St} {H : Hp} {ρ : Rho} {S : Sto} {r : Rs Bool} {Q : Bool → Hp → Prop}, En K F j H σ ρ S → m ρ S = some r → Po K F j H σ ρ E (fun b _ H' => Q b H') r → t σ H Q
noncomputable def RL (K : PySem.W.Frag) (E : XK) (t : TA) (m : TwL) : Prop := ∀ {F : Fm} {j : List Addr} {σ : St} {H : Hp} {ρ : Rho} {S : Sto} {r : Rs (List Xv)} {Q : List V → Hp → Prop}, En K F j H σ ρ S → m ρ S = some r → Po K F j H σ ρ E (fun xs j' H' => ∀ vs, XisL K j' H' xs vs → Q vs H') r → t σ H Q
noncomputable def RO (K : PySem.W.Frag) (E : XK) (t : TO) (m : TwO) : Prop := ∀ {F : Fm} {j : List Addr} {σ : St} {H : Hp} {ρ : Rho} {S : Sto} {r : Rs (Option Int)} {Q : Option Int → Hp → Prop}, En K F j H σ ρ S → m ρ S = some r → Po K F j H σ ρ E (fun o _ H' => Q o H') r → t σ H Q
noncomputable def PoG (K : PySem.W.Frag) (F : Fm) (j : List Addr) (H : Hp) (E : XK) (R : St → Hp → Prop) : Rs Rho → Prop
 | .ok ρ' S' => ∀ σ' j' H', Ext j H j' H' → En K F j' H' σ' ρ' S' → R σ' H'
 | .ex c S' => PX K F j H E c S'
theorem PoG.step {K : PySem.W.Frag} {F : Fm} {j j1 : List Addr} {H H1 : Hp} {E : XK} {R : St → Hp → Prop} : ∀ {r : Rs Rho}, PoG K F j H E R r → Ext j H j1 H1 → PoG K F j1 H1 E R r
 | .ok a S', h, e => fun σ' j' H' x y => h σ' j' H' (e.trans x) y
 | .ex c S', h, e => PX.mono h e
noncomputable def RG (K : PySem.W.Frag) (E : XK) (t : TG) (g : TwG) : Prop := ∀ {F : Fm} {j : List Addr} {σ : St} {H : Hp} {ρ : Rho} {S : Sto} {r : Rs Rho} {x : Xv} {v : V} {R : St → Hp → Prop}, En K F j H σ ρ S → Xis K j H x v → g x ρ S = some r → PoG K F j H E R r → t v σ H R
noncomputable def RGs (K : PySem.W.Frag) (E : XK) (t : TGs) (g : TwGs) : Prop := ∀ {F : Fm} {j : List Addr} {σ : St} {H : Hp} {ρ : Rho} {S : Sto} {r : Rs Rho} {xs : List Xv} {vs : List V} {R : St → Hp → Prop}, En K F j H σ ρ S → XisL K j H xs vs → g xs ρ S = some r → PoG K F j H E R r → t vs σ H R
noncomputable def Post (K : PySem.W.Frag) (F : Fm) (j : List Addr) (H : Hp) (E : XK) (D' : Ends) : Fl → Prop
 | .nx ρ S => ∀ σ j' H', Ext j H j' H' → En K F j' H' σ ρ S → D'.nx σ H'
 | .bk ρ S => ∀ σ j' H', Ext j H j' H' → En K F j' H' σ ρ S → D'.bk σ H'
 | .ct ρ S => ∀ σ j' H', Ext j H j' H' → En K F j' H' σ ρ S → D'.ct σ H'
 | .rt x S => ∀ v σ ρ j' H', Ext j H j' H' → En K F j' H' σ ρ S → Xis K j' H' x v → D'.rt v H'
 | .ex c S => PX K F j H E c S
theorem Post.step {K : PySem.W.Frag} {F : Fm} {j j1 : List Addr} {H H1 : Hp} {E : XK} {D' : Ends} : ∀ {fl : Fl}, Post K F j H E D' fl → Ext j H j1 H1 → Post K F j1 H1 E D' fl
 | .nx _ _, h, e => fun σ j' H' x y => h σ j' H' (e.trans x) y
 | .bk _ _, h, e => fun σ j' H' x y => h σ j' H' (e.trans x) y
 | .ct _ _, h, e => fun σ j' H' x y => h σ j' H' (e.trans x) y
 | .rt _ _, h, e => fun v σ ρ j' H' x y z => h v σ ρ j' H' (e.trans x) y z
 | .ex _ _, h, e => PX.mono h e
noncomputable def RS (K : PySem.W.Frag) (E : XK) (t : TS) (m : TwS) : Prop := ∀ {F : Fm} {j : List Addr} {D' : Ends} {σ : St} {H : Hp} {ρ : Rho} {S : Sto} {fl : Fl}, En K F j H σ ρ S → m ρ S = some fl → Post K F j H E D' fl → t D' σ H
noncomputable def ItOk (K : PySem.W.Frag) (j : List Addr) (H : Hp) (J : It) (get : Sto → Option (List Xv)) : Prop := ∀ {F : Fm} {j' : List Addr} {H' : Hp} {σ : St} {ρ : Rho} {S : Sto} {xs : List Xv} (i : Nat), Ext j H j' H' → En K F j' H' σ ρ S → get S = some xs →
 (∀ x, xs[i]? = some x → J.go i H' ∧ ∀ v H'', J.yld i H' v H'' → Same H' H'' ∧ Xis K j' H'' x v) ∧ (i = xs.length → J.stop i H')
noncomputable def RI (K : PySem.W.Frag) (E : XK) (t : TI) (m : TwI) : Prop := ∀ {F : Fm} {j : List Addr} {σ : St} {H : Hp} {ρ : Rho} {S : Sto} {r : Rs (Sto → Option (List Xv))} {R : It → Hp → Prop}, En K F j H σ ρ S → m ρ S = some r → Po K F j H σ ρ E (fun get j' H' => ∀ J, ItOk K j' H' J get → R J H') r → t σ H R
noncomputable abbrev Op2 := Xv → Xv → Sto → Option (Xv × Sto)
noncomputable abbrev Opn := List Xv → Sto → Option (Xv × Sto)
noncomputable def R2Ok (K : PySem.W.Frag) (r : R2) (f : Op2) : Prop := ∀ {F : Fm} {j : List Addr} {σ : St} {H : Hp} {ρ : Rho} {S S' : Sto} {x y z : Xv} {u v : V} {Q : VK}, En K F j H σ ρ S → Xis K j H x u → Xis K j H y v → f x y S = some (z, S') → (∀ w j' H', Ext j H j' H' → En K F j' H' σ ρ S' → Xis K j' H' z w → Q w H') → r u v H Q
noncomputable def R1Ok (K : PySem.W.Frag) (r : V → Hp → VK → Prop) (f : Xv → Sto → Option (Xv × Sto)) : Prop := ∀ {F : Fm} {j : List Addr} {σ : St} {H : Hp} {ρ : Rho} {S S' : Sto} {x z : Xv} {u : V} {Q : VK}, En K F j H σ ρ S → Xis K j H x u → f x S = some (z, S') → (∀ w j' H', Ext j H j' H' → En K F j' H' σ ρ S' → Xis K j' H' z w → Q w H') → r u H Q
noncomputable def RcOk (K : PySem.W.Frag) (r : List V → Hp → VK → Prop) (f : Opn) : Prop := ∀ {F : Fm} {j : List Addr} {σ : St} {H : Hp} {ρ : Rho} {S S' : Sto} {xs : List Xv} {z : Xv} {vs : List V} {Q : VK}, En K F j H σ ρ S → XisL K j H xs vs → f xs S = some (z, S') → (∀ w j' H', Ext j H j' H' → En K F j' H' σ ρ S' → Xis K j' H' z w → Q w H') → r vs H Q
noncomputable def eVar (i : Nat) : TwE := fun ρ S => match ρ[i]? with
 | some (some x) => some (.ok x S)
 | _ => none
noncomputable def eC (x : Xv) : TwE := fun _ S => some (.ok x S)
noncomputable def okP (o : Option (Xv × Sto)) : Option (Rs Xv) := o.map fun p => .ok p.1 p.2
theorem okP_some {o : Option (Xv × Sto)} {r : Rs Xv} (h : okP o = some r) : ∃ z S, o = some (z, S) ∧ r = .ok z S := by
 cases o with
 | none => cases h
 | some p => cases h; exact ⟨_, _, rfl, rfl⟩
noncomputable def eOp (f : Op2) (a b : TwE) : TwE := fun ρ S => rb (a ρ S) fun x S1 => rb (b ρ S1) fun y S2 => okP (f x y S2)
noncomputable def eUn (f : Xv → Sto → Option (Xv × Sto)) (a : TwE) : TwE := fun ρ S => rb (a ρ S) fun x S1 => okP (f x S1)
noncomputable def bE (m : TwE) : TwT := fun ρ S => rb (m ρ S) fun x S1 => match x with
 | .bl b => some (.ok b S1)
 | _ => none
noncomputable def bAnd (a b : TwT) : TwT := fun ρ S => rb (a ρ S) fun x S1 => if x then b ρ S1 else some (.ok false S1)
noncomputable def bOr (a b : TwT) : TwT := fun ρ S => rb (a ρ S) fun x S1 => if x then some (.ok true S1) else b ρ S1
noncomputable def bNot (a : TwT) : TwT := fun ρ S => rb (a ρ S) fun x S1 => some (.ok (!x) S1)
noncomputable def eAnd (a b : TwE) : TwE := fun ρ S => rb (bE a ρ S) fun x S1 => if x then b ρ S1 else some (.ok (.bl false) S1)
noncomputable def eOr (a b : TwE) : TwE := fun ρ S => rb (bE a ρ S) fun x S1 => if x then some (.ok (.bl true) S1) else b ρ S1
noncomputable def eIf (c : TwT) (a b : TwE) : TwE := fun ρ S => rb (c ρ S) fun x S1 => if x then a ρ S1 else b ρ S1
noncomputable def evL : List TwE → TwL
 | [] => fun _ S => some (.ok [] S)
 | m :: r => fun ρ S => rb (m ρ S) fun x S1 => rb (evL r ρ S1) fun xs S2 => some (.ok (x :: xs) S2)
noncomputable def eTup (ms : List TwE) : TwE := fun ρ S => rb (evL ms ρ S) fun xs S1 => some (.ok (.tup xs) S1)
noncomputable def eLst (ms : List TwE) : TwE := fun ρ S => rb (evL ms ρ S) fun xs S1 => some (.ok (.ref S1.length) (S1 ++ [.lst xs]))
noncomputable def eFn (f : Opn) (ms : List TwE) : TwE := fun ρ S => rb (evL ms ρ S) fun xs S1 => okP (f xs S1)
noncomputable def pur1 (f : Xv → Option Xv) : Xv → Sto → Option (Xv × Sto) := fun x S => (f x).map fun z => (z, S)
section
variable {K : PySem.W.Frag} {E : XK} {F : Fm} {j : List Addr} {H : Hp} {σ : St} {ρ : Rho} {S : Sto}
theorem Po.val {Q : VK} {x : Xv} {v : V} (k : Po K F j H σ ρ E (PoV K Q) (.ok x S)) (En0 : En K F j H σ ρ S) (h : Xis K j H x v) : Q v H := k j H Ext.refl En0 v h
theorem re_var (i : Nat) : RE K E (tVar i) (eVar i) := by
 intro F j σ H ρ S r Q En0 e k
 unfold eVar at e
 split at e
 ·rename_i x ex
  cases e
  obtain ⟨v, e1, e2⟩ := En0.slot i _ ex
  exact ⟨v, e1, k.val En0 e2⟩
 ·cases e
theorem re_c {v : V} {x : Xv} (h : ∀ j H, Xis K j H x v) : RE K E (tC v) (eC x) := fun En0 e k => by
 cases e
 exact k.val En0 (h _ _)
theorem re_int (i : Int) : RE K E (tC (.int i)) (eC (.int i)) := re_c fun _ _ => .int i
theorem re_bl (b : Bool) : RE K E (tC (.bl b)) (eC (.bl b)) := re_c fun _ _ => .bl b
theorem re_non : RE K E (tC .non) (eC .non) := re_c fun _ _ => .non
theorem re_op {r : R2} {f : Op2} {ta tb : TE} {a b : TwE} (ho : R2Ok K r f) (ha : RE K E ta a) (hb : RE K E tb b) : RE K E (tOp r ta tb) (eOp f a b) := by
 intro F j σ H ρ S r Q En0 e k
 rcases rb_some e with ⟨x, S1, e1, e⟩ | ⟨c, S1, e1, rfl⟩
 ·refine ha En0 e1 fun j1 H1 X1 E1 u hu => ?_
  rcases rb_some e with ⟨y, S2, e2, e⟩ | ⟨c, S2, e2, rfl⟩
  ·obtain ⟨z, S3, e3, rfl⟩ := okP_some e
   exact hb E1 e2 fun j2 H2 X2 E2 v hv => ho E2 (hu.mono X2) hv e3 fun w j3 H3 X3 E3 hw => k _ _ (X1.trans (X2.trans X3)) E3 _ hw
  ·exact hb E1 e2 (PX.mono k X1)
 ·exact ha En0 e1 k
theorem re_un {r : V → Hp → VK → Prop} {f : Xv → Sto → Option (Xv × Sto)} {ta : TE} {a : TwE} (ho : R1Ok K r f) (ha : RE K E ta a) : RE K E (tUn r ta) (eUn f a) := by
 intro F j σ H ρ S r Q En0 e k
 rcases rb_some e with ⟨x, S1, e1, e⟩ | ⟨c, S1, e1, rfl⟩
 ·obtain ⟨z, S3, e3, rfl⟩ := okP_some e
  exact ha En0 e1 fun j1 H1 X1 E1 u hu => ho E1 hu e3 fun w j3 H3 X3 E3 hw => k _ _ (X1.trans X3) E3 _ hw
 ·exact ha En0 e1 k
theorem rt_e {t : TE} {m : TwE} (h : RE K E t m) : RT K E (tB t) (bE m) := by
 intro F j σ H ρ S r Q En0 e k
 rcases rb_some e with ⟨x, S1, e1, e⟩ | ⟨c, S1, e1, rfl⟩
 ·split at e
  ·cases e
   exact h En0 e1 fun j1 H1 X1 E1 u hu => ⟨_, hu.bl_inv, k _ _ X1 E1⟩
  ·cases e
 ·exact h En0 e1 k
theorem rt_test {t : TE} {m : TwE} (h : RE K E t m) : RT K E (tTest t) (bE m) := rt_e h
theorem rt_and {t u : TT} {a b : TwT} (ha : RT K E t a) (hb : RT K E u b) : RT K E (tAnd t u) (bAnd a b) := by
 intro F j σ H ρ S r Q En0 e k
 rcases rb_some e with ⟨x, S1, e1, e⟩ | ⟨c, S1, e1, rfl⟩
 ·refine ha En0 e1 fun j1 H1 X1 E1 => ?_
  cases x with
  | true => exact hb E1 e (k.step X1)
  | false => cases e; exact k _ _ X1 E1
 ·exact ha En0 e1 k
theorem rt_or {t u : TT} {a b : TwT} (ha : RT K E t a) (hb : RT K E u b) : RT K E (tOr t u) (bOr a b) := by
 intro F j σ H ρ S r Q En0 e k
 rcases rb_some e with ⟨x, S1, e1, e⟩ | ⟨c, S1, e1, rfl⟩
 ·refine ha En0 e1 fun j1 H1 X1 E1 => ?_
  cases x with
  | true => cases e; exact k _ _ X1 E1
  | false => exact hb E1 e (k.step X1)
 ·exact ha En0 e1 k
theorem rt_not {t : TT} {a : TwT} (ha : RT K E t a) : RT K E (tNot t) (bNot a) := by
 intro F j σ H ρ S r Q En0 e k
 rcases rb_some e with ⟨x, S1, e1, e⟩ | ⟨c, S1, e1, rfl⟩
 ·cases e
  exact ha En0 e1 fun j1 H1 X1 E1 => k _ _ X1 E1
 ·exact ha En0 e1 k
theorem re_and {ta tb : TE} {a b : TwE} (ha : RE K E ta a) (hb : RE K E tb b) : RE K E (tAndV ta tb) (eAnd a b) := by
 intro F j σ H ρ S r Q En0 e k
 rcases rb_some e with ⟨x, S1, e1, e⟩ | ⟨c, S1, e1, rfl⟩
 ·rcases rb_some e1 with ⟨y, S2, e2, e1⟩ | ⟨c, S2, e2, z⟩
  ·split at e1
   ·cases e1
    refine ha En0 e2 fun j1 H1 X1 E1 u hu => ⟨_, hu.bl_inv, ?_⟩
    cases x with
    | true => exact hb E1 e (k.step X1)
    | false => cases e; exact k _ _ X1 E1 _ (.bl false)
   ·cases e1
  ·cases z
 ·rcases rb_some e1 with ⟨y, S2, e2, e1⟩ | ⟨c, S2, e2, z⟩
  ·split at e1 <;> cases e1
  ·cases z; exact ha En0 e2 k
theorem re_or {ta tb : TE} {a b : TwE} (ha : RE K E ta a) (hb : RE K E tb b) : RE K E (tOrV ta tb) (eOr a b) := by
 intro F j σ H ρ S r Q En0 e k
 rcases rb_some e with ⟨x, S1, e1, e⟩ | ⟨c, S1, e1, rfl⟩
 ·rcases rb_some e1 with ⟨y, S2, e2, e1⟩ | ⟨c, S2, e2, z⟩
  ·split at e1
   ·cases e1
    refine ha En0 e2 fun j1 H1 X1 E1 u hu => ⟨_, hu.bl_inv, ?_⟩
    cases x with
    | true => cases e; exact k _ _ X1 E1 _ (.bl true)
    | false => exact hb E1 e (k.step X1)
   ·cases e1
  ·cases z
 ·rcases rb_some e1 with ⟨y, S2, e2, e1⟩ | ⟨c, S2, e2, z⟩
  ·split at e1 <;> cases e1
  ·cases z; exact ha En0 e2 k
theorem re_if {t : TT} {c : TwT} {ta tb : TE} {a b : TwE} (hc : RT K E t c) (ha : RE K E ta a) (hb : RE K E tb b) : RE K E (tIf t ta tb) (eIf c a b) := by
 intro F j σ H ρ S r Q En0 e k
 rcases rb_some e with ⟨x, S1, e1, e⟩ | ⟨c, S1, e1, rfl⟩
 ·refine hc En0 e1 fun j1 H1 X1 E1 => ?_
  cases x with
  | true => exact ha E1 e (k.step X1)
  | false => exact hb E1 e (k.step X1)
 ·exact hc En0 e1 k
noncomputable def Xv.isNon : Xv → Bool
 | .non => true
 | _ => false
noncomputable def dNotN : Xv → Sto → Option (Xv × Sto) := pur1 fun x => some (.bl (!x.isNon))
theorem xis_non {x : Xv} {v : V} (h : Xis K j H x v) : decide (v = .non) = x.isNon := by cases h <;> simp [Xv.isNon]
theorem re_notN {ta : TE} {a : TwE} (ha : RE K E ta a) : RE K E (tNotN ta) (eUn dNotN a) := by
 intro F j σ H ρ S r Q En0 e k
 rcases rb_some e with ⟨x, S1, e1, e⟩ | ⟨c, S1, e1, rfl⟩
 ·cases e
  exact ha En0 e1 fun j1 H1 X1 E1 u hu => k _ _ X1 E1 _ (by rw [xis_non hu]; exact .bl _)
 ·exact ha En0 e1 k
theorem rl_nil : RL K E tNil (evL []) := fun En0 e k => by
 cases e
 exact k _ _ Ext.refl En0 [] .nil
theorem rl_cons {ta : TE} {tr : TA} {m : TwE} {ms : List TwE} (ha : RE K E ta m) (hr : RL K E tr (evL ms)) : RL K E (tCons ta tr) (evL (m :: ms)) := by
 intro F j σ H ρ S r Q En0 e k
 rcases rb_some e with ⟨x, S1, e1, e⟩ | ⟨c, S1, e1, rfl⟩
 ·refine ha En0 e1 fun j1 H1 X1 E1 u hu => ?_
  rcases rb_some e with ⟨xs, S2, e2, e⟩ | ⟨c, S2, e2, rfl⟩
  ·cases e
   exact hr E1 e2 fun j2 H2 X2 E2 vs hv => k _ _ (X1.trans X2) E2 (u :: vs) (.cons (hu.mono X2) hv)
  ·exact hr E1 e2 (PX.mono k X1)
 ·exact ha En0 e1 k
theorem evL_len : ∀ {ms : List TwE} {ρ : Rho} {S S' : Sto} {xs : List Xv}, evL ms ρ S = some (.ok xs S') → xs.length = ms.length
 | [], _, _, _, _, h => by cases h; rfl
 | m :: ms, ρ, S, S', xs, h => by
  rcases rb_some h with ⟨x, S1, e1, h⟩ | ⟨c, S1, e1, z⟩
  ·rcases rb_some h with ⟨ys, S2, e2, h⟩ | ⟨c, S2, e2, z⟩
   ·cases h
    simp [evL_len e2]
   ·cases z
  ·cases z
theorem re_tup {t : TA} {ms : List TwE} (h : RL K E t (evL ms)) (hl : ms.length ≤ 1000 := by simp) : RE K E (tTup t) (eTup ms) := by
 intro F j σ H ρ S r Q En0 e k
 rcases rb_some e with ⟨xs, S1, e1, e⟩ | ⟨c, S1, e1, rfl⟩
 ·cases e
  refine h En0 e1 fun j1 H1 X1 E1 vs hv => ⟨?_, fun p hp => ?_⟩
  ·rw [hv.len, evL_len e1]
   exact Nat.le_trans hl (by decide)
  ·obtain ⟨E2, X2⟩ := E1.new (o := .tup vs) hp
   exact k _ _ (X1.trans X2) E2 _ (.tup upd_same (hv.mono X2))
 ·exact h En0 e1 k
theorem En.lst {xs : List Xv} {vs : List V} {p : Addr} (En0 : En K F j H σ ρ S) (hv : XisL K j H xs vs) (hp : H p = none) : En K F (j ++ [p]) (upd H p (.lst vs)) σ ρ (S ++ [.lst xs]) ∧ Ext j H (j ++ [p]) (upd H p (.lst vs)) ∧ Xis K (j ++ [p]) (upd H p (.lst vs)) (.ref S.length) (.ref p) := by
 have X : Ext j H (j ++ [p]) (upd H p (.lst vs)) := ⟨fun n a e => by rw [List.getElem?_append_left (List.getElem?_eq_some_iff.1 e).1]; exact e, KeepI.same (same_upd hp)⟩
 obtain ⟨E1, _⟩ := En0.cell (o := .lst vs) (c := .lst xs) hp ⟨vs, upd_same, hv.mono X⟩
 exact ⟨E1, X, .ref (by rw [← En0.jl]; simp)⟩
theorem re_lst {t : TA} {ms : List TwE} (h : RL K E t (evL ms)) (hl : ms.length ≤ 1000 := by simp) : RE K E (tLst t) (eLst ms) := by
 intro F j σ H ρ S r Q En0 e k
 rcases rb_some e with ⟨xs, S1, e1, e⟩ | ⟨c, S1, e1, rfl⟩
 ·cases e
  refine h En0 e1 fun j1 H1 X1 E1 vs hv => ⟨?_, fun p hp => ?_⟩
  ·rw [hv.len, evL_len e1]
   exact Nat.le_trans hl (by decide)
  ·obtain ⟨E2, X2, h2⟩ := E1.lst hv hp
   exact k _ _ (X1.trans X2) E2 _ h2
 ·exact h En0 e1 k
theorem re_fn {t : TA} {ms : List TwE} {r : List V → Hp → VK → Prop} {f : Opn} (hr : RcOk K r f) (h : RL K E t (evL ms)) : RE K E (tCB r t) (eFn f ms) := by
 intro F j σ H ρ S r Q En0 e k
 rcases rb_some e with ⟨xs, S1, e1, e⟩ | ⟨c, S1, e1, rfl⟩
 ·obtain ⟨z, S3, e3, rfl⟩ := okP_some e
  exact h En0 e1 fun j1 H1 X1 E1 vs hv => hr E1 hv e3 fun w j3 H3 X3 E3 hw => k _ _ (X1.trans X3) E3 _ hw
 ·exact h En0 e1 k
end
end L2
namespace L2
open PySem
noncomputable def lstAt (S : Sto) : Xv → Option (List Xv)
 | .ref n => match S[n]? with
  | some (.lst xs) => some xs
  | some (.frz xs) => some xs
  | _ => none
 | _ => none
noncomputable def seqAt (S : Sto) (x : Xv) : Option (List Xv) := match x.tupOf with
 | some xs => some xs
 | none => lstAt S x
noncomputable def wlAt (S : Sto) : Xv → Option (Nat × List Xv)
 | .ref n => match S[n]? with
  | some (.lst xs) => some (n, xs)
  | _ => none
 | _ => none
section
variable {K : PySem.W.Frag} {E : XK} {F : Fm} {j : List Addr} {H : Hp} {σ : St} {ρ : Rho} {S : Sto} {x : Xv} {v : V}
theorem En.lstAt {xs : List Xv} (E0 : En K F j H σ ρ S) (hx : Xis K j H x v) (h : L2.lstAt S x = some xs) : ∃ a vs, v = .ref a ∧ SqX K H a vs ∧ XisL K j H xs vs := by
 cases x <;> simp only [L2.lstAt, reduceCtorEq] at h
 obtain ⟨a, rfl, hj⟩ := hx.ref_inv
 split at h
 ·cases h
  obtain ⟨vs, e1, e2⟩ := E0.cel _ _ _ (by assumption) hj
  exact ⟨a, vs, rfl, SqX.of e1, e2⟩
 ·cases h
  obtain ⟨vs, e1, e2⟩ := E0.cel _ _ _ (by assumption) hj
  refine ⟨a, vs, rfl, ?_, e2⟩
  rcases e1 with ⟨o, e1⟩ | e1
  ·exact .inl (.inr ⟨o, e1⟩)
  ·exact e1 H
 ·cases h
theorem En.seqAt {xs : List Xv} (E0 : En K F j H σ ρ S) (hx : Xis K j H x v) (h : L2.seqAt S x = some xs) : ∃ a vs, v = .ref a ∧ (SqX K H a vs ∨ SqT K H a vs) ∧ XisL K j H xs vs := by
 unfold L2.seqAt at h
 split at h
 ·cases h
  obtain ⟨a, vs, e1, e2, e3⟩ := hx.tupO (by assumption)
  exact ⟨a, vs, e1, .inr e2, e3⟩
 ·obtain ⟨a, vs, e1, e2, e3⟩ := E0.lstAt hx h
  exact ⟨a, vs, e1, .inl e2, e3⟩
theorem wlAt_some {n : Nat} {xs : List Xv} (h : wlAt S x = some (n, xs)) : x = .ref n ∧ S[n]? = some (.lst xs) := by
 cases x <;> simp only [wlAt, reduceCtorEq] at h
 split at h
 ·cases h; exact ⟨rfl, by assumption⟩
 ·cases h
theorem En.wl {n : Nat} {xs : List Xv} (E0 : En K F j H σ ρ S) (hx : Xis K j H x v) (h : wlAt S x = some (n, xs)) : ∃ a vs, v = .ref a ∧ j[n]? = some a ∧ H a = some (.lst vs) ∧ XisL K j H xs vs := by
 obtain ⟨rfl, hs⟩ := wlAt_some h
 obtain ⟨a, rfl, hj⟩ := hx.ref_inv
 obtain ⟨vs, e1, e2⟩ := E0.cel _ _ _ hs hj
 exact ⟨a, vs, rfl, hj, e1, e2⟩
theorem En.wr {n : Nat} {xs ys : List Xv} {ws : List V} {a : Addr} (E0 : En K F j H σ ρ S) (h : wlAt S x = some (n, xs)) (hj : j[n]? = some a) (hw : XisL K j H ys ws) : En K F j (upd H a (.lst ws)) σ ρ (S.set n (.lst ys)) ∧ Ext j H j (upd H a (.lst ws)) :=
 E0.write (wlAt_some h).2 rfl hj rfl fun X => ⟨ws, upd_same, hw.mono X⟩
theorem tyL {a : Addr} {vs : List V} (h : SqL K H a vs) : tyV K "list" (.ref a) H := .inl ⟨rfl, vs, h⟩
noncomputable def dIxT : Op2 := fun x y S => match x.tupOf, y with
 | some xs, .int i => (atI xs i).map fun z => (z, S)
 | _, _ => none
noncomputable def dIxL : Op2 := fun x y S => match lstAt S x, y with
 | some xs, .int i => (atI xs i).map fun z => (z, S)
 | _, _ => none
theorem r2_ixT : R2Ok K (rIxT K) dIxT := by
 intro F j σ H ρ S S' x y z u v Q E0 hx hy h k
 unfold dIxT at h
 split at h
 ·rename_i xs i ex
  cases e : atI xs i with
  | none => rw [e] at h; cases h
  | some z' =>
   rw [e] at h
   cases h
   obtain ⟨a, vs, rfl, h1, h2⟩ := hx.tupO ex
   obtain ⟨w, e1, e2⟩ := h2.at_ e
   exact ⟨a, vs, _, w, rfl, hy.int_inv, h1, e1, k _ _ _ Ext.refl E0 e2⟩
 ·cases h
theorem r2_ixL : R2Ok K (rIxL K) dIxL := by
 intro F j σ H ρ S S' x y z u v Q E0 hx hy h k
 unfold dIxL at h
 split at h
 ·rename_i xs i ex
  cases e : atI xs i with
  | none => rw [e] at h; cases h
  | some z' =>
   rw [e] at h
   cases h
   obtain ⟨a, vs, rfl, h1, h2⟩ := E0.lstAt hx ex
   obtain ⟨w, e1, e2⟩ := h2.at_ e
   exact ⟨a, vs, _, w, rfl, hy.int_inv, h1.sql, e1, k _ _ _ Ext.refl E0 e2⟩
 ·cases h
noncomputable def oSome (m : TwE) : TwO := fun ρ S => rb (m ρ S) fun x S1 => match x with
 | .int i => some (.ok (some i) S1)
 | _ => none
theorem ro_some {t : TE} {m : TwE} (h : RE K E t m) : RO K E (tPart t) (oSome m) := by
 intro F j σ H ρ S r Q En0 e k
 rcases rb_some e with ⟨x, S1, e1, e⟩ | ⟨c, S1, e1, rfl⟩
 ·split at e
  ·cases e
   exact h En0 e1 fun j1 H1 X1 E1 u hu => ⟨_, hu.int_inv, k _ _ X1 E1⟩
  ·cases e
 ·exact h En0 e1 k
noncomputable def cutD {α : Type} (xs : List α) (lo hi : Option Int) : List α := (xs.drop (HT.sIx xs.length 0 lo)).take (HT.sIx xs.length xs.length hi - HT.sIx xs.length 0 lo)
theorem XisL.cut {xs : List Xv} {vs : List V} (h : XisL K j H xs vs) (lo hi : Option Int) : XisL K j H (cutD xs lo hi) (cutV vs lo hi) := by
 unfold cutV cutD
 rw [h.len]
 exact (h.drop _).take _
noncomputable def eSl (f : Xv → Option Int → Option Int → Sto → Option (Xv × Sto)) (m : TwE) (lo hi : TwO) : TwE := fun ρ S => rb (m ρ S) fun x S1 => rb (lo ρ S1) fun y S2 => rb (hi ρ S2) fun z S3 => okP (f x y z S3)
noncomputable def RslOk (K : PySem.W.Frag) (r : V → Option Int → Option Int → Hp → VK → Prop) (f : Xv → Option Int → Option Int → Sto → Option (Xv × Sto)) : Prop := ∀ {F : Fm} {j : List Addr} {σ : St} {H : Hp} {ρ : Rho} {S S' : Sto} {x z : Xv} {lo hi : Option Int} {u : V} {Q : VK}, En K F j H σ ρ S → Xis K j H x u → f x lo hi S = some (z, S') → (∀ w j' H', Ext j H j' H' → En K F j' H' σ ρ S' → Xis K j' H' z w → Q w H') → r u lo hi H Q
theorem re_sl {r : V → Option Int → Option Int → Hp → VK → Prop} {f : Xv → Option Int → Option Int → Sto → Option (Xv × Sto)} {te : TE} {tl th : TO} {m : TwE} {lo hi : TwO} (ho : RslOk K r f) (hm : RE K E te m) (hl : RO K E tl lo) (hh : RO K E th hi) : RE K E (tSl r te tl th) (eSl f m lo hi) := by
 intro F j σ H ρ S r Q En0 e k
 rcases rb_some e with ⟨x, S1, e1, e⟩ | ⟨c, S1, e1, rfl⟩
 ·refine hm En0 e1 fun j1 H1 X1 E1 u hu => ?_
  rcases rb_some e with ⟨y, S2, e2, e⟩ | ⟨c, S2, e2, rfl⟩
  ·refine hl E1 e2 fun j2 H2 X2 E2 => ?_
   rcases rb_some e with ⟨z, S3, e3, e⟩ | ⟨c, S3, e3, rfl⟩
   ·obtain ⟨w, S4, e4, rfl⟩ := okP_some e
    exact hh E2 e3 fun j3 H3 X3 E3 => ho E3 (hu.mono (X2.trans X3)) e4 fun w j4 H4 X4 E4 hw => k _ _ (X1.trans (X2.trans (X3.trans X4))) E4 _ hw
   ·exact hh E2 e3 (PX.mono k (X1.trans X2))
  ·exact hl E1 e2 (PX.mono k X1)
 ·exact hm En0 e1 k
noncomputable def dSlL : Xv → Option Int → Option Int → Sto → Option (Xv × Sto) := fun x lo hi S => (lstAt S x).map fun xs => (.ref S.length, S ++ [.lst (cutD xs lo hi)])
theorem rsl_L : RslOk K (rSlL K) dSlL := by
 intro F j σ H ρ S S' x z lo hi u Q E0 hx h k
 unfold dSlL at h
 cases e : lstAt S x with
 | none => rw [e] at h; cases h
 | some xs =>
  rw [e] at h
  cases h
  obtain ⟨a, vs, rfl, h1, h2⟩ := E0.lstAt hx e
  refine ⟨a, vs, rfl, h1.sql, fun p hp => ?_⟩
  obtain ⟨E1, X1, h3⟩ := E0.lst (h2.cut lo hi) hp
  exact k _ _ _ X1 E1 h3
theorem re_slL {te : TE} {tl th : TO} {m : TwE} {lo hi : TwO} (hm : RE K E te m) (hl : RO K E tl lo) (hh : RO K E th hi) : RE K E (tSl (rSlL K) te tl th) (eSl dSlL m lo hi) := @re_sl K E (rSlL K) dSlL te tl th m lo hi (@rsl_L K) hm hl hh
noncomputable abbrev OpM := Xv → List Xv → Sto → Option (Xv × Sto)
noncomputable def RmOk (K : PySem.W.Frag) (r : V → List V → Hp → VK → Prop) (f : OpM) : Prop := ∀ {F : Fm} {j : List Addr} {σ : St} {H : Hp} {ρ : Rho} {S S' : Sto} {x z : Xv} {ys : List Xv} {u : V} {vs : List V} {Q : VK}, En K F j H σ ρ S → Xis K j H x u → XisL K j H ys vs → f x ys S = some (z, S') → (∀ w j' H', Ext j H j' H' → En K F j' H' σ ρ S' → Xis K j' H' z w → Q w H') → r u vs H Q
noncomputable def eMt (f : OpM) (o : TwE) (ms : List TwE) : TwE := fun ρ S => rb (o ρ S) fun x S1 => (lstAt S1 x).bind fun _ => rb (evL ms ρ S1) fun ys S2 => okP (f x ys S2)
theorem re_mt {r : V → List V → Hp → VK → Prop} {f : OpM} {to : TE} {t : TA} {o : TwE} {ms : List TwE} (hr : RmOk K r f) (ho : RE K E to o) (ht : RL K E t (evL ms)) : RE K E (tBM K "list" r to t) (eMt f o ms) := by
 intro F j σ H ρ S r Q En0 e k
 rcases rb_some e with ⟨x, S1, e1, e⟩ | ⟨c, S1, e1, rfl⟩
 ·refine ho En0 e1 fun j1 H1 X1 E1 u hu => ?_
  cases el : L2.lstAt S1 x with
  | none => rw [el] at e; cases e
  | some l =>
   rw [el] at e
   obtain ⟨a, vs, rfl, h1, _⟩ := E1.lstAt hu el
   refine ⟨tyL h1.sql, ?_⟩
   rcases rb_some e with ⟨ys, S2, e2, e⟩ | ⟨c, S2, e2, rfl⟩
   ·obtain ⟨z, S3, e3, rfl⟩ := okP_some e
    exact ht E1 e2 fun j2 H2 X2 E2 ws hw => hr E2 (hu.mono X2) hw e3 fun w j3 H3 X3 E3 hz => k _ _ (X1.trans (X2.trans X3)) E3 _ hz
   ·exact ht E1 e2 (PX.mono k X1)
 ·exact ho En0 e1 k
noncomputable def mAppend : OpM := fun x ys S => match wlAt S x, ys with
 | some (n, xs), [y] => if xs.length < sizeLine then some (.non, S.set n (.lst (xs ++ [y]))) else none
 | _, _ => none
theorem rm_append : RmOk K rAppend mAppend := by
 intro F j σ H ρ S S' x z ys u vs Q E0 hx hy h k
 unfold mAppend at h
 split at h
 ·rename_i n xs y e
  split at h
  ·rename_i hl
   cases h
   obtain ⟨a, ws, rfl, hj, h1, h2⟩ := E0.wl hx e
   obtain ⟨w, rfl, hw⟩ := hy.d1
   obtain ⟨E1, X1⟩ := E0.wr e hj (h2.append (.one hw))
   exact ⟨a, ws, w, rfl, rfl, h1, by rw [h2.len]; exact hl, k _ _ _ X1 E1 .non⟩
  ·cases h
 ·cases h
noncomputable def sSeq (a b : TwS) : TwS := fun ρ S => match a ρ S with
 | some (.nx ρ1 S1) => b ρ1 S1
 | r => r
noncomputable def sNext : TwS := fun ρ S => some (.nx ρ S)
noncomputable def sStuck : TwS := fun _ _ => none
noncomputable def sAsg (m : TwE) (g : TwG) : TwS := fun ρ S => sb (m ρ S) fun x S1 => sb (g x ρ S1) fun ρ1 S2 => some (.nx ρ1 S2)
noncomputable def sExpr (m : TwE) : TwS := fun ρ S => sb (m ρ S) fun _ S1 => some (.nx ρ S1)
noncomputable def sRet (m : TwE) : TwS := fun ρ S => sb (m ρ S) fun x S1 => some (.rt x S1)
noncomputable def sIf (c : TwT) (a b : TwS) : TwS := fun ρ S => sb (c ρ S) fun x S1 => if x then a ρ S1 else b ρ S1
noncomputable def sPar (i k : Nat) (ms : List TwE) : TwS := fun ρ S => sb (evL ms ρ S) fun xs S1 => match xs with
 | [a, b] => some (.nx ((ρ.set i (some a)).set k (some b)) S1)
 | _ => none
noncomputable def turn (r : Option Fl) (go : Rho → Sto → Option Fl) : Option Fl := match r with
 | some (.nx ρ S) => go ρ S
 | some (.ct ρ S) => go ρ S
 | some (.bk ρ S) => some (.nx ρ S)
 | r => r
noncomputable def forTw (get : Sto → Option (List Xv)) (g : TwG) (b : TwS) : Nat → Nat → Rho → Sto → Option Fl
 | 0, _, _, _ => none
 | f + 1, i, ρ, S => (get S).bind fun xs => match xs[i]? with
  | none => if i = xs.length then some (.nx ρ S) else none
  | some x => sb (g x ρ S) fun ρ1 S1 => turn (b ρ1 S1) fun ρ2 S2 => forTw get g b f (i + 1) ρ2 S2
noncomputable def sFor (m : TwI) (g : TwG) (b : TwS) : TwS := fun ρ S => sb (m ρ S) fun get S1 => (get S1).bind fun xs => forTw get g b (xs.length + 1) 0 ρ S1
noncomputable def whTw (c : TwT) (b : TwS) : Nat → Rho → Sto → Option Fl
 | 0, _, _ => none
 | n + 1, ρ, S => sb (c ρ S) fun x S1 => if x then turn (b ρ S1) fun ρ2 S2 => whTw c b n ρ2 S2 else some (.nx ρ S1)
noncomputable def sWh (n : Nat) (c : TwT) (b : TwS) : TwS := fun ρ S => whTw c b n ρ S
noncomputable def gN (i : Nat) : TwG := fun x ρ S => some (.ok (ρ.set i (some x)) S)
noncomputable def gsNil : TwGs := fun xs ρ S => match xs with
 | [] => some (.ok ρ S)
 | _ => none
noncomputable def gsCons (g : TwG) (gs : TwGs) : TwGs := fun xs ρ S => match xs with
 | x :: r => rb (g x ρ S) fun ρ1 S1 => gs r ρ1 S1
 | _ => none
noncomputable def gT (n : Nat) (gs : TwGs) : TwG := fun x ρ S => x.tupOf.bind fun l => if l.length = n then gs l ρ S else none
noncomputable def gStore (o mi : TwE) : TwG := fun d ρ S => rb (o ρ S) fun x S1 => rb (mi ρ S1) fun y S2 => match wlAt S2 x, y with
 | some (n, xs), .int i => (ixN xs.length i).map fun k => .ok ρ (S2.set n (.lst (xs.set k d)))
 | _, _ => none
theorem rg_name {i : Nat} : RG K E (gName i) (gN i) := fun E0 hx e k => by
 cases e
 exact k _ _ _ Ext.refl (E0.set hx)
theorem rgs_nil : RGs K E gNil gsNil := by
 intro F j σ H ρ S r xs vs R E0 hv e k
 unfold gsNil at e
 split at e
 ·cases e
  obtain rfl := hv.nil_inv
  exact ⟨rfl, k _ _ _ Ext.refl E0⟩
 ·cases e
theorem rgs_cons {t : TG} {u : TGs} {g : TwG} {gs : TwGs} (h1 : RG K E t g) (h2 : RGs K E u gs) : RGs K E (gCons t u) (gsCons g gs) := by
 intro F j σ H ρ S r xs vs R E0 hv e k
 unfold gsCons at e
 split at e
 ·obtain ⟨w, ws, rfl, hw, hws⟩ := hv.cons_inv
  rcases rb_some e with ⟨ρ1, S1, e1, e⟩ | ⟨c, S1, e1, rfl⟩
  ·exact ⟨w, ws, rfl, h1 E0 hw e1 fun σ1 j1 H1 X1 E1 => h2 E1 (hws.mono X1) e (k.step X1)⟩
  ·exact ⟨w, ws, rfl, h1 E0 hw e1 k⟩
 ·cases e
theorem rg_tup {n : Nat} {t : TGs} {gs : TwGs} (h : RGs K E t gs) : RG K E (gTup K n t) (gT n gs) := by
 intro F j σ H ρ S r x v R E0 hx e k
 unfold gT at e
 cases ex : x.tupOf with
 | none => rw [ex] at e; cases e
 | some l =>
  rw [ex] at e
  dsimp only [Option.bind] at e
  split at e
  ·rename_i hn
   obtain ⟨a, vs, rfl, h1, h2⟩ := hx.tupO ex
   exact ⟨a, vs, rfl, h1, by rw [h2.len]; exact hn, h E0 h2 e k⟩
  ·cases e
theorem rg_store {to ti : TE} {o mi : TwE} (ho : RE K E to o) (hi : RE K E ti mi) : RG K E (gSub to ti rSetL) (gStore o mi) := by
 intro F j σ H ρ S r d vd R E0 hd e k
 rcases rb_some e with ⟨x, S1, e1, e⟩ | ⟨c, S1, e1, rfl⟩
 ·refine ho E0 e1 fun j1 H1 X1 E1 u hu => ?_
  rcases rb_some e with ⟨y, S2, e2, e⟩ | ⟨c, S2, e2, rfl⟩
  ·refine hi E1 e2 fun j2 H2 X2 E2 w hw => ?_
   split at e
   ·rename_i n xs i ex
    cases e3 : ixN xs.length i with
    | none => rw [e3] at e; cases e
    | some m =>
     rw [e3] at e
     cases e
     obtain ⟨a, vs, rfl, hj, h1, h2⟩ := E2.wl (hu.mono X2) ex
     obtain ⟨E3, X3⟩ := E2.wr ex hj (h2.set (hd.mono (X1.trans X2)) m)
     exact ⟨a, vs, i, m, rfl, hw.int_inv, h1, by rw [h2.len]; exact e3, k _ _ _ (X1.trans (X2.trans X3)) E3⟩
   ·cases e
  ·exact hi E1 e2 (PX.mono k X1)
 ·exact ho E0 e1 k
theorem rs_next : RS K E tNext sNext := fun E0 e k => by
 cases e
 exact k _ _ _ Ext.refl E0
theorem rs_stuck {t : TS} : RS K E t sStuck := fun _ e _ => by cases e
theorem rs_seq {t u : TS} {a b : TwS} (ha : RS K E t a) (hb : RS K E u b) : RS K E (tSeq t u) (sSeq a b) := by
 intro F j D' σ H ρ S fl E0 e k
 unfold sSeq at e
 split at e
 ·rename_i ρ1 S1 e1
  exact ha (D' := { D' with nx := u D' }) E0 e1 fun σ1 j1 H1 X1 E1 => hb E1 e (k.step X1)
 ·rename_i hn
  refine ha (D' := { D' with nx := u D' }) E0 e ?_
  cases fl with
  | nx ρ1 S1 => exact absurd e (hn ρ1 S1)
  | bk ρ1 S1 => exact k
  | ct ρ1 S1 => exact k
  | rt x S1 => exact k
  | ex c S1 => exact k
theorem rs_asg {te : TE} {g : TG} {m : TwE} {g' : TwG} (h : RE K E te m) (hg : RG K E g g') : RS K E (tAsg te g) (sAsg m g') := by
 intro F j D' σ H ρ S fl E0 e k
 rcases sb_some e with ⟨x, S1, e1, e⟩ | ⟨c, S1, e1, rfl⟩
 ·refine h E0 e1 fun j1 H1 X1 E1 u hu => ?_
  rcases sb_some e with ⟨ρ1, S2, e2, e⟩ | ⟨c, S2, e2, rfl⟩
  ·cases e
   exact hg E1 hu e2 fun σ2 j2 H2 X2 E2 => k _ _ _ (X1.trans X2) E2
  ·exact hg E1 hu e2 (PX.mono k X1)
 ·exact h E0 e1 k
theorem rs_expr {te : TE} {m : TwE} (h : RE K E te m) : RS K E (tDrop te) (sExpr m) := by
 intro F j D' σ H ρ S fl E0 e k
 rcases sb_some e with ⟨x, S1, e1, e⟩ | ⟨c, S1, e1, rfl⟩
 ·cases e
  exact h E0 e1 fun j1 H1 X1 E1 u hu => k _ _ _ X1 E1
 ·exact h E0 e1 k
theorem rs_ret {te : TE} {m : TwE} (h : RE K E te m) : RS K E (tRet te) (sRet m) := by
 intro F j D' σ H ρ S fl E0 e k
 rcases sb_some e with ⟨x, S1, e1, e⟩ | ⟨c, S1, e1, rfl⟩
 ·cases e
  exact h E0 e1 fun j1 H1 X1 E1 u hu => k _ _ _ _ _ X1 E1 hu
 ·exact h E0 e1 k
theorem rs_if {c : TT} {t u : TS} {m : TwT} {a b : TwS} (hc : RT K E c m) (ha : RS K E t a) (hb : RS K E u b) : RS K E (tIfS c t u) (sIf m a b) := by
 intro F j D' σ H ρ S fl E0 e k
 rcases sb_some e with ⟨x, S1, e1, e⟩ | ⟨c, S1, e1, rfl⟩
 ·refine hc E0 e1 fun j1 H1 X1 E1 => ?_
  cases x with
  | true => exact ha E1 e (k.step X1)
  | false => exact hb E1 e (k.step X1)
 ·exact hc E0 e1 k
theorem rs_par {i m : Nat} {t : TA} {ms : List TwE} (h : RL K E t (evL ms)) : RS K E (tPar i m t) (sPar i m ms) := by
 intro F j D' σ H ρ S fl E0 e k
 rcases sb_some e with ⟨xs, S1, e1, e⟩ | ⟨c, S1, e1, rfl⟩
 ·split at e
  ·cases e
   refine h E0 e1 fun j1 H1 X1 E1 vs hv => ?_
   obtain ⟨x, y, rfl, hx, hy⟩ := hv.d2
   exact ⟨x, y, rfl, k _ _ _ X1 ((E1.set hx).set hy)⟩
  ·cases e
 ·exact h E0 e1 k
theorem turn_some {r : Option Fl} {go : Rho → Sto → Option Fl} {fl : Fl} (h : turn r go = some fl) : ∃ f, r = some f ∧ ((∃ ρ S, (f = .nx ρ S ∨ f = .ct ρ S) ∧ go ρ S = some fl) ∨ (∃ ρ S, f = .bk ρ S ∧ fl = .nx ρ S) ∨ (f = fl ∧ ((∃ x S, fl = .rt x S) ∨ ∃ c S, fl = .ex c S))) := by
 unfold turn at h
 split at h
 ·exact ⟨_, rfl, .inl ⟨_, _, .inl rfl, h⟩⟩
 ·exact ⟨_, rfl, .inl ⟨_, _, .inr rfl, h⟩⟩
 ·cases h; exact ⟨_, rfl, .inr (.inl ⟨_, _, rfl, rfl⟩)⟩
 ·rename_i n1 n2 n3
  refine ⟨fl, h, .inr (.inr ⟨rfl, ?_⟩)⟩
  cases fl with
  | nx ρ S => exact absurd h (n1 ρ S)
  | ct ρ S => exact absurd h (n2 ρ S)
  | bk ρ S => exact absurd h (n3 ρ S)
  | rt x S => exact .inl ⟨x, S, rfl⟩
  | ex c S => exact .inr ⟨c, S, rfl⟩
theorem rs_for {wi : TI} {g : TG} {tb : TS} {m : TwI} {g' : TwG} {b : TwS} (hi : RI K E wi m) (hg : RG K E g g') (hb : RS K E tb b) : RS K E (tFor wi g tb) (sFor m g' b) := by
 intro F j D' σ H ρ S fl E0 e k
 rcases sb_some e with ⟨get, S1, e1, e⟩ | ⟨c, S1, e1, rfl⟩
 ·refine hi E0 e1 fun j1 H1 X1 E1 J ok => ?_
  cases eg : get S1 with
  | none => rw [eg] at e; cases e
  | some xs =>
   rw [eg] at e
   refine ⟨fun i n σ H => ∃ j2 ρ2 S2, Ext j1 H1 j2 H ∧ En K F j2 H σ ρ2 S2 ∧ forTw get g' b n i ρ2 S2 = some fl, ⟨xs.length + 1, j1, ρ, S1, Ext.refl, E1, e⟩, ?_⟩
   rintro i n σ2 H2 ⟨j2, ρ2, S2, X2, E2, e2⟩
   cases n with
   | zero => cases e2
   | succ n =>
    unfold forTw at e2
    cases eg2 : get S2 with
    | none => rw [eg2] at e2; cases e2
    | some ys =>
     rw [eg2] at e2
     dsimp only [Option.bind] at e2
     obtain ⟨go, stop⟩ := ok i X2 E2 eg2
     split at e2
     ·split at e2
      ·rename_i hl
       cases e2
       exact .inl ⟨stop hl, k _ _ _ (X1.trans X2) E2⟩
      ·cases e2
     ·rename_i x ex
      obtain ⟨g1, g2⟩ := go x ex
      refine .inr ⟨g1, fun σ' H' => ∃ j3 ρ3 S3, Ext j1 H1 j3 H' ∧ En K F j3 H' σ' ρ3 S3 ∧ forTw get g' b n (i + 1) ρ3 S3 = some fl, fun _ _ z => ⟨n, Nat.lt_succ_self _, z⟩, fun v H3 hy => ?_⟩
      obtain ⟨Sm, hv⟩ := g2 v H3 hy
      have E3 := E2.heap Sm
      have X3 : Ext j2 H2 j2 H3 := Ext.same Sm
      rcases sb_some e2 with ⟨ρ4, S4, e4, e2⟩ | ⟨c, S4, e4, rfl⟩
      ·refine hg E3 hv e4 fun σ4 j4 H4 X4 E4 => ?_
       obtain ⟨f5, e5, h5⟩ := turn_some e2
       refine hb E4 e5 ?_
       have X14 := X2.trans (X3.trans X4)
       rcases h5 with ⟨ρ6, S6, h6, e6⟩ | ⟨ρ6, S6, rfl, rfl⟩ | ⟨rfl, h6⟩
       ·rcases h6 with rfl | rfl
        ·exact fun σ5 j5 H5 X5 E5 => ⟨j5, ρ6, S6, X14.trans X5, E5, e6⟩
        ·exact fun σ5 j5 H5 X5 E5 => ⟨j5, ρ6, S6, X14.trans X5, E5, e6⟩
       ·exact fun σ5 j5 H5 X5 E5 => k _ _ _ (X1.trans (X14.trans X5)) E5
       ·rcases h6 with ⟨x6, S6, rfl⟩ | ⟨c6, S6, rfl⟩
        ·exact fun v σ5 ρ5 j5 H5 X5 E5 hv => k v σ5 ρ5 _ _ (X1.trans (X14.trans X5)) E5 hv
        ·exact PX.mono k (X1.trans X14)
      ·exact hg E3 hv e4 (PX.mono k (X1.trans (X2.trans X3)))
 ·exact hi E0 e1 k
theorem rs_while {c : TT} {tb : TS} {m : TwT} {b : TwS} {n : Nat} (hc : RT K E c m) (hb : RS K E tb b) : RS K E (tWhile c tb) (sWh n m b) := by
 intro F j D' σ H ρ S fl E0 e k
 refine ⟨fun n σ2 H2 => ∃ j2 ρ2 S2, Ext j H j2 H2 ∧ En K F j2 H2 σ2 ρ2 S2 ∧ whTw m b n ρ2 S2 = some fl, ⟨n, j, ρ, S, Ext.refl, E0, e⟩, ?_⟩
 rintro n σ2 H2 ⟨j2, ρ2, S2, X2, E2, e2⟩
 cases n with
 | zero => cases e2
 | succ n =>
  unfold whTw at e2
  rcases sb_some e2 with ⟨x, S3, e3, e2⟩ | ⟨c, S3, e3, rfl⟩
  ·refine hc E2 e3 fun j3 H3 X3 E3 => ?_
   have X13 := X2.trans X3
   cases x with
   | false => cases e2; exact k _ _ _ X13 E3
   | true =>
    obtain ⟨f5, e5, h5⟩ := turn_some e2
    refine ⟨fun σ' H' => ∃ j3 ρ3 S3, Ext j H j3 H' ∧ En K F j3 H' σ' ρ3 S3 ∧ whTw m b n ρ3 S3 = some fl, fun σ' H' z => ⟨n, Nat.lt_succ_self _, z⟩, hb E3 e5 ?_⟩
    rcases h5 with ⟨ρ6, S6, h6, e6⟩ | ⟨ρ6, S6, rfl, rfl⟩ | ⟨rfl, h6⟩
    ·rcases h6 with rfl | rfl
     ·exact fun σ5 j5 H5 X5 E5 => ⟨j5, ρ6, S6, X13.trans X5, E5, e6⟩
     ·exact fun σ5 j5 H5 X5 E5 => ⟨j5, ρ6, S6, X13.trans X5, E5, e6⟩
    ·exact fun σ5 j5 H5 X5 E5 => k _ _ _ (X13.trans X5) E5
    ·rcases h6 with ⟨x6, S6, rfl⟩ | ⟨c6, S6, rfl⟩
     ·exact fun v σ5 ρ5 j5 H5 X5 E5 hv => k v σ5 ρ5 _ _ (X13.trans X5) E5 hv
     ·exact PX.mono k X13
  ·exact hc E2 e3 (PX.mono k X2)
noncomputable def iL (m : TwE) : TwI := fun ρ S => rb (m ρ S) fun x S1 => (lstAt S1 x).map fun _ => .ok (fun S => lstAt S x) S1
theorem ri_list {t : TE} {m : TwE} (h : RE K E t m) : RI K E (iList K t) (iL m) := by
 intro F j σ H ρ S r R En0 e k
 rcases rb_some e with ⟨x, S1, e1, e⟩ | ⟨c, S1, e1, rfl⟩
 ·cases el : lstAt S1 x with
  | none => rw [el] at e; cases e
  | some l =>
   rw [el] at e
   cases e
   refine h En0 e1 fun j1 H1 X1 E1 u hu => ?_
   obtain ⟨a, vs, rfl, h1, _⟩ := E1.lstAt hu el
   refine ⟨a, rfl, ⟨vs, h1.sql⟩, k _ _ X1 E1 _ ?_⟩
   intro F2 j2 H2 σ2 ρ2 S2 xs i X2 E2 e2
   obtain ⟨a', ws, ea, g1, g2⟩ := E2.lstAt (hu.mono X2) e2
   cases ea
   refine ⟨fun y ey => ?_, fun hle => ⟨ws, g1.sql, by rw [g2.len]; omega⟩⟩
   obtain ⟨w, f1, f2⟩ := g2.get ey
   refine ⟨⟨ws, w, g1.sql, f1⟩, ?_⟩
   rintro v' H' ⟨rfl, hx⟩
   have := hx ws g1.sql
   rw [f1] at this
   cases this
   exact ⟨Same.refl _, f2⟩
 ·exact h En0 e1 k
noncomputable def rangeX (lo : Int) (n : Nat) : List Xv := (List.range n).map fun (k : Nat) => Xv.int (lo + (k : Int))
noncomputable def iR1 (m : TwE) : TwI := fun ρ S => rb (m ρ S) fun x S1 => match x with
 | .int j => if -(2 ^ 62) ≤ j ∧ j < 2 ^ 62 then some (.ok (fun _ => some (rangeX 0 j.toNat)) S1) else none
 | _ => none
theorem it_range {lo : Int} {n : Nat} : ItOk K j H (Itr lo n) (fun _ => some (rangeX lo n)) := by
 intro F2 j2 H2 σ2 ρ2 S2 xs i X2 E2 e2
 cases e2
 refine ⟨fun d hd => ?_, fun hle => ?_⟩
 ·unfold rangeX at hd
  rw [List.getElem?_map] at hd
  have hi : i < n := by
   apply Classical.byContradiction
   intro hn
   rw [List.getElem?_eq_none (by simp; omega)] at hd
   cases hd
  rw [List.getElem?_range hi] at hd
  cases hd
  refine ⟨hi, ?_⟩
  rintro x H' ⟨rfl, rfl⟩
  exact ⟨Same.refl _, .int _⟩
 ·unfold rangeX at hle
  simp at hle
  show n ≤ i
  omega
theorem ri_range1 {t : TE} {m : TwE} (h : RE K E t m) : RI K E (iRng1 (tCons t tNil)) (iR1 m) := by
 intro F j σ H ρ S r R En0 e k
 rcases rb_some e with ⟨x, S1, e1, e⟩ | ⟨c, S1, e1, rfl⟩
 ·split at e
  ·split at e
   ·rename_i hb
    cases e
    exact h En0 e1 fun j1 H1 X1 E1 u hu => ⟨_, by rw [hu.int_inv], hb.1, hb.2, k _ _ X1 E1 _ it_range⟩
   ·cases e
  ·cases e
 ·exact h En0 e1 k
end
end L2
namespace L2
open PySem
noncomputable def rn {α β : Type} (m : Option (Rs α)) (f : α → Sto → Option β) : Option β := match m with
 | some (.ok a S) => f a S
 | _ => none
theorem rn_some {α β : Type} {m : Option (Rs α)} {f : α → Sto → Option β} {r : β} (h : rn m f = some r) : ∃ a S, m = some (.ok a S) ∧ f a S = some r := by
 unfold rn at h
 split at h
 ·exact ⟨_, _, rfl, h⟩
 ·cases h
noncomputable def capR (cap : List (Option Nat)) (ρ : Rho) : Rho := cap.map fun o => o.bind fun i => (ρ[i]?).join
noncomputable def compTw (get : Sto → Option (List Xv)) (g : TwG) (c : TwT) (e : TwE) (ρc : Rho) : Nat → Nat → List Xv → Sto → Option (Rs Xv)
 | 0, _, _, _ => none
 | f + 1, i, es, S => (get S).bind fun xs => match xs[i]? with
  | none => if i = xs.length then some (.ok (.ref S.length) (S ++ [.lst es])) else none
  | some x => rn (g x ρc S) fun ρ1 S1 => rn (c ρ1 S1) fun b S2 => if b then rn (e ρ1 S2) fun y S3 => if es.length < sizeLine then compTw get g c e ρc f (i + 1) (es ++ [y]) S3 else none
    else compTw get g c e ρc f (i + 1) es S2
noncomputable def eComp (cap : List (Option Nat)) (m : TwI) (g : TwG) (c : TwT) (e : TwE) : TwE := fun ρ S => rb (m ρ S) fun get S1 => (get S1).bind fun xs => compTw get g c e (capR cap ρ) (xs.length + 1) 0 [] S1
noncomputable def bTrue : TwT := fun _ S => some (.ok true S)
section
variable {K : PySem.W.Frag} {E : XK} {F : Fm} {j j' : List Addr} {H H' : Hp} {σ σ' : St} {ρ ρ' : Rho} {S S' : Sto} {x : Xv} {v : V} {a : Addr} {o : HO}
theorem rt_true : RT K E (fun _ H Q => Q true H) bTrue := fun E1 e k => by
 cases e
 exact k _ _ Ext.refl E1
noncomputable def NotIn (j : List Addr) (S : Sto) (a : Addr) : Prop := ∀ (n : Nat) c, j[n]? = some a → S[n]? = some c → c.fz = true
theorem En.notIn (E1 : En K F j H σ ρ S) (h : H a = none) : NotIn j S a := fun n c e1 e2 => by
 cases z : c.fz with
 | true => rfl
 | false =>
  obtain ⟨o, e, _⟩ := (E1.cel n c a e2 e1).mu z
  rw [h] at e; cases e
theorem En.outside (E1 : En K F j H σ ρ S) (h : NotIn j S a) {o0 : HO} (h0 : H a = some o0) (m0 : o0.mu = true) (hf : F.H0 a = none) : En K F j (upd H a o) σ ρ S ∧ Ext j H j (upd H a o) := by
 have X : Ext j H j (upd H a o) := ⟨fun _ _ e => e, fun b u e m => by
  have : b ≠ a := fun q => by subst q; rw [h0] at e; cases e; rw [m] at m0; cases m0
  rw [upd_ne this]; exact e⟩
 refine ⟨⟨E1.len, fun i x e => ?_, E1.jl, E1.inj, fun n c b e1 e2 => ?_, E1.ext.trans X, E1.old, E1.l0, fun b u e => ?_, E1.fresh, fun b e => ?_⟩, X⟩
 ·obtain ⟨v, e1, e2⟩ := E1.slot i x e
  exact ⟨v, e1, e2.mono X⟩
 ·refine (E1.cel n c b e1 e2).mono X fun z => upd_ne fun q => ?_
  subst q
  rw [h n c e2 e1] at z; cases z
 ·have hb : b ≠ a := fun q => by subst q; rw [hf] at e; cases e
  rcases E1.keep b u e with h | h
  ·exact .inl (by rw [upd_ne hb]; exact h)
  ·exact .inr h
 ·have hb : b ≠ a := fun q => by subst q; rw [upd_same] at e; cases e
  rw [upd_ne hb] at e
  exact E1.dom b e
theorem En.adopt {c : Ce} (E1 : En K F j H σ ρ S) (h : NotIn j S a) (hf : F.H0 a = none) (hc : CeIs K (j ++ [a]) H a c) : En K F (j ++ [a]) H σ ρ (S ++ [c]) ∧ Ext j H (j ++ [a]) H := by
 have X : Ext j H (j ++ [a]) H := ⟨fun n b e => by rw [List.getElem?_append_left (List.getElem?_eq_some_iff.1 e).1]; exact e, KeepI.refl _⟩
 have lt : ∀ {n : Nat} {d : Ce}, S[n]? = some d → n < S.length := fun e => (List.getElem?_eq_some_iff.1 e).1
 have at_ : ∀ {n : Nat} {b : Addr} {d : Ce}, (j ++ [a])[n]? = some b → (S ++ [c])[n]? = some d → (j[n]? = some b ∧ S[n]? = some d) ∨ (n = S.length ∧ b = a ∧ d = c) := fun {n b d} e1 e2 => by
  by_cases hn : n < S.length
  ·rw [List.getElem?_append_left hn] at e2
   rw [List.getElem?_append_left (by rw [E1.jl]; exact hn)] at e1
   exact .inl ⟨e1, e2⟩
  ·rw [List.getElem?_append_right (by omega)] at e2
   rw [List.getElem?_append_right (by rw [E1.jl]; omega), E1.jl] at e1
   cases hm : n - S.length with
   | zero => rw [hm] at e1 e2; simp at e1 e2; exact .inr ⟨by omega, e1.symm, e2.symm⟩
   | succ m => rw [hm] at e1; simp at e1
 refine ⟨⟨E1.len, fun i x e => ?_, by simp [E1.jl], fun n m b c1 c2 e1 e2 e3 e4 z1 z2 => ?_, fun n d b e1 e2 => ?_, E1.ext.trans X, fun n d e => ?_, E1.l0, E1.keep, fun n b hn e => ?_, E1.dom⟩, X⟩
 ·obtain ⟨v, e1, e2⟩ := E1.slot i x e
  exact ⟨v, e1, e2.mono X⟩
 ·rcases at_ e1 e3 with ⟨f1, f2⟩ | ⟨f1, f2, f3⟩
  ·rcases at_ e2 e4 with ⟨g1, g2⟩ | ⟨g1, g2, g3⟩
   ·exact E1.inj n m b c1 c2 f1 g1 f2 g2 z1 z2
   ·subst g2
    rw [h n c1 f1 f2] at z1; cases z1
  ·rcases at_ e2 e4 with ⟨g1, g2⟩ | ⟨g1, g2, g3⟩
   ·subst f2
    rw [h m c2 g1 g2] at z2; cases z2
   ·rw [f1, g1]
 ·rcases at_ e2 e1 with ⟨f1, f2⟩ | ⟨f1, rfl, rfl⟩
  ·exact (E1.cel n d b f2 f1).mono X fun _ => rfl
  ·exact hc
 ·obtain ⟨d', e1, e2⟩ := E1.old n d e
  exact ⟨d', by rw [List.getElem?_append_left (lt e1)]; exact e1, e2⟩
 ·by_cases hm : n < j.length
  ·rw [List.getElem?_append_left hm] at e
   exact E1.fresh n b hn e
  ·rw [List.getElem?_append_right (by omega)] at e
   cases hk : n - j.length with
   | zero => rw [hk] at e; simp at e; subst e; exact hf
   | succ m => rw [hk] at e; simp at e
theorem cap_slots {cap : List (Option Nat)} (E1 : En K F j H σ ρ S) : (capSt cap σ).length = (capR cap ρ).length ∧ ∀ (i : Nat) x, (capR cap ρ)[i]? = some (some x) → ∃ v, (capSt cap σ)[i]? = some (some v) ∧ Xis K j H x v := by
 refine ⟨by simp [capSt, capR], fun i x h => ?_⟩
 unfold capR at h
 unfold capSt
 rw [List.getElem?_map] at h ⊢
 cases e : cap[i]? with
 | none => rw [e] at h; cases h
 | some o =>
  rw [e] at h
  cases o with
  | none => simp at h
  | some k =>
   simp only [Option.map_some, Option.bind_some, Option.some.injEq] at h ⊢
   cases q : ρ[k]? with
   | none => rw [q] at h; simp at h
   | some z =>
    rw [q] at h
    simp at h
    subst h
    obtain ⟨v, e1, e2⟩ := E1.slot k x q
    exact ⟨v, by rw [e1]; rfl, e2⟩
theorem re_comp {cap : List (Option Nat)} {wi : TI} {g : TG} {tt : TT} {te : TE} {m : TwI} {g' : TwG} {c : TwT} {e : TwE} (hi : RI K E wi m) (hg : RG K E0 g g') (hc : RT K E0 tt c) (he : RE K E0 te e) : RE K E (tComp cap wi g tt te) (eComp cap m g' c e) := by
 intro F j σ H ρ S r Q En0 h k
 rcases rb_some h with ⟨get, S1, e1, h⟩ | ⟨c1, S1, e1, rfl⟩
 ·refine hi En0 e1 fun j1 H1 X1 E1 J ok acc hacc => ?_
  cases eg : get S1 with
  | none => rw [eg] at h; cases h
  | some xs =>
   rw [eg] at h
   have hf : F.H0 acc = none := E1.dom acc hacc
   obtain ⟨Ea, Xa⟩ := E1.new (o := .lst []) hacc
   refine ⟨fun i n ys H2 => ∃ j2 S2 es, Ext j1 H1 j2 H2 ∧ En K F j2 H2 σ ρ S2 ∧ H2 acc = some (.lst ys) ∧ XisL K j2 H2 es ys ∧ NotIn j2 S2 acc ∧ compTw get g' c e (capR cap ρ) n i es S2 = some r,
    ⟨xs.length + 1, j1, S1, [], Xa, Ea, upd_same, .nil, E1.notIn hacc, h⟩, ?_⟩
   rintro i n ys H2 ⟨j2, S2, es, X2, E2, h2, hes, nin, e2⟩
   cases n with
   | zero => cases e2
   | succ n =>
    unfold compTw at e2
    cases eg2 : get S2 with
    | none => rw [eg2] at e2; cases e2
    | some zs =>
     rw [eg2] at e2
     dsimp only [Option.bind] at e2
     obtain ⟨go, stop⟩ := ok i X2 E2 eg2
     split at e2
     ·split at e2
      ·rename_i hl
       cases e2
       obtain ⟨E3, X3⟩ := E2.adopt (c := .lst es) nin hf ⟨ys, h2, hes.mono ⟨fun n b e => by rw [List.getElem?_append_left (List.getElem?_eq_some_iff.1 e).1]; exact e, KeepI.refl _⟩⟩
       exact .inl ⟨stop hl, k _ _ (X1.trans (X2.trans X3)) E3 _ (.ref (by rw [← E2.jl]; simp))⟩
      ·cases e2
     ·rename_i x ex
      obtain ⟨g1, g2⟩ := go x ex
      refine .inr ⟨g1, fun v H3 hy => ?_⟩
      obtain ⟨Sm, hv⟩ := g2 v H3 hy
      have E3 := E2.heap Sm
      have X3 : Ext j2 H2 j2 H3 := Ext.same Sm
      have h3 : H3 acc = some (.lst ys) := Sm _ _ h2
      obtain ⟨cl, cs⟩ := cap_slots (cap := cap) E3
      have I0 := E3.enter cl cs
      obtain ⟨ρ4, S4, e4, e2⟩ := rn_some e2
      obtain ⟨b, S5, e5, e2⟩ := rn_some e2
      have behind : ∀ {j6 : List Addr} {H6 : Hp} {σ6 : St} {ρ6 : Rho} {S6 : Sto}, En K ⟨H3, j2, S2⟩ j6 H6 σ6 ρ6 S6 → En K F j6 H6 σ ρ S6 ∧ Ext j2 H2 j6 H6 ∧ H6 acc = some (.lst ys) ∧ NotIn j6 S6 acc := fun {j6 H6 σ6 ρ6 S6} X => by
       obtain ⟨E6, X6⟩ := E3.leave X
       refine ⟨E6, X3.trans X6, ?_, fun n d q1 q2 => ?_⟩
       ·rcases X.keep acc _ h3 with q | ⟨n, d, q1, q2, q3⟩
        ·exact q
        ·rw [nin n d q1 q2] at q3; cases q3
       ·by_cases hn : n < j2.length
        ·have p1 : j2[n]? = some j2[n] := List.getElem?_eq_getElem hn
         have p2 := X6.pre n _ p1
         rw [q1] at p2
         cases p2
         have hn2 : n < S2.length := by rw [← E2.jl]; exact hn
         obtain ⟨d', f1, _, f3⟩ := X.old n _ (List.getElem?_eq_getElem hn2)
         rw [q2] at f1
         cases f1
         have hz := nin n _ p1 (List.getElem?_eq_getElem hn2)
         rw [f3 hz]
         exact hz
        ·have q := X.fresh n acc (by dsimp only; omega) q1
         have q : H3 acc = none := q
         rw [h3] at q; cases q
      refine hg I0 hv e4 fun σ4 j4 H4 X4 I4 => hc I4 e5 fun j5 H5 X5 I5 => ?_
      cases b with
      | true =>
       rw [if_pos rfl]
       rw [if_pos rfl] at e2
       obtain ⟨y, S6, e6, e2⟩ := rn_some e2
       split at e2
       ·rename_i hsz
        refine he I5 e6 fun j6 H6 X6 I6 w hw => ?_
        obtain ⟨E6, X26, h6, nin6⟩ := behind I6
        obtain ⟨E7, X7⟩ := E6.outside (o := .lst (ys ++ [w])) nin6 h6 rfl hf
        refine ⟨h6, by rw [hes.len]; exact hsz, n, Nat.lt_succ_self _, j6, S6, es ++ [y], X2.trans (X26.trans X7), E7, upd_same, ((hes.mono X26).append (.one hw)).mono X7, nin6, e2⟩
       ·cases e2
      | false =>
       rw [if_neg (by simp)]
       rw [if_neg (by simp)] at e2
       obtain ⟨E6, X26, h6, nin6⟩ := behind I5
       exact ⟨n, Nat.lt_succ_self _, j5, S5, es, X2.trans X26, E6, h6, hes.mono X26, nin6, e2⟩
 ·exact hi En0 e1 k
theorem rs_setComp {i : Nat} {cap : List (Option Nat)} {wi : TI} {g : TG} {tt : TT} {te : TE} {m : TwE} (h : RE K E (tComp cap wi g tt te) m) : RS K E (tSetComp i cap wi g tt te) (sAsg m (gN i)) := by
 intro F j D' σ H ρ S fl E1 e k
 rcases sb_some e with ⟨x, S1, e1, e⟩ | ⟨c, S1, e1, rfl⟩
 ·cases e
  exact h (Q := fun v H2 => D'.nx (σ.set i (some v)) H2) E1 e1 fun j1 H1 X1 E1 u hu => k _ _ _ X1 (E1.set hu)
 ·exact h (Q := fun v H2 => D'.nx (σ.set i (some v)) H2) E1 e1 k
noncomputable abbrev TwF := List Xv → Sto → Option (Rs Xv)
noncomputable def runTw (n k : Nat) (b : TwS) : TwF := fun xs S => if xs.length = n then match b (xs.map some ++ List.replicate k none) S with
  | some (.rt x S') => some (.ok x S')
  | some (.nx _ S') => some (.ok .non S')
  | some (.ex c S') => some (.ex c S')
  | _ => none
 else none
noncomputable def RetOk (K : PySem.W.Frag) (F : Fm) (Q : VK) (E : XK) : Rs Xv → Prop
 | .ok x S' => ∀ v j' H' σ ρ, En K F j' H' σ ρ S' → Xis K j' H' x v → Q v H'
 | .ex c S' => ∀ j' H' σ ρ C, En K F j' H' σ ρ S' → PySem.W.nsIn K mainGlobals c = some (some (.ref C)) → E (.ref C) none H'
noncomputable def sTw (K : PySem.W.Frag) (n : Nat) (tw : TwF) : Sp := fun vs H Q E => vs.length = n ∧ ∃ (j : List Addr) (S : Sto) (xs : List Xv) (r : Rs Xv), En K ⟨H, j, S⟩ j H (vs.map some) (xs.map some) S ∧ tw xs S = some r ∧ RetOk K ⟨H, j, S⟩ Q E r
theorem fn_tw {n k : Nat} {N : List Str} {t : TS} {b : TwS} {vs : List V} {Q : VK} (hN : N.length = n + k) (h : RS K E t b) (hs : sTw K n (runTw n k b) vs H Q E) : t { nx := fun _ H' => Q .non H', rt := Q } (start N vs) H := by
 obtain ⟨hn, j, S, xs, r, E1, e, ret⟩ := hs
 have es : start N vs = vs.map some ++ List.replicate k none := by
  unfold start
  rw [hN, hn, Nat.add_sub_cancel_left]
 rw [es]
 unfold runTw at e
 split at e
 ·split at e
  ·rename_i x S' e1
   cases e
   exact h E1.grow e1 fun v σ ρ j' H' X E' hv => ret _ _ _ _ _ E' hv
  ·rename_i ρ' S' e1
   cases e
   exact h E1.grow e1 fun σ j' H' X E' => ret _ _ _ _ _ E' .non
  ·rename_i c S' e1
   cases e
   exact h E1.grow e1 fun j' H' σ' ρ' C X E' hC => ret _ _ _ _ _ E' hC
  ·cases e
 ·cases e
noncomputable def eCall (tw : TwF) (ms : List TwE) : TwE := fun ρ S => rb (evL ms ρ S) fun xs S1 => tw xs S1
theorem args_slots {xs : List Xv} {vs : List V} (hv : XisL K j H xs vs) : (vs.map some).length = (xs.map some).length ∧ ∀ (i : Nat) x, (xs.map some)[i]? = some (some x) → ∃ v, (vs.map some)[i]? = some (some v) ∧ Xis K j H x v := by
 refine ⟨by simp [hv.len], fun i x h => ?_⟩
 rw [List.getElem?_map] at h ⊢
 cases e : xs[i]? with
 | none => rw [e] at h; cases h
 | some y =>
  rw [e] at h
  simp at h
  subst h
  obtain ⟨v, e1, e2⟩ := hv.get e
  exact ⟨v, by rw [e1]; rfl, e2⟩
theorem call_core {n : Nat} {tw : TwF} {xs : List Xv} {vs : List V} {r : Rs Xv} {Q : VK} {E' : XK} (E1 : En K F j H σ ρ S) (hv : XisL K j H xs vs) (hn : vs.length = n) (et : tw xs S = some r) (k : Po K F j H σ ρ E' (PoV K Q) r) : sTw K n tw vs H Q E' := by
 obtain ⟨l, s⟩ := args_slots hv
 refine ⟨hn, j, S, xs, r, E1.enter l s, et, ?_⟩
 cases r with
 | ok x S' =>
  intro v j' H' σ' ρ' X hx
  obtain ⟨E2, X2⟩ := E1.leave X
  exact k j' H' X2 E2 v hx
 | ex c S' =>
  intro j' H' σ' ρ' C X hC
  obtain ⟨E2, X2⟩ := E1.leave X
  exact k j' H' σ ρ C X2 E2 hC
theorem re_call {n : Nat} {tw : TwF} {ms : List TwE} {t : TA} (h : RL K E t (evL ms)) (hn : ms.length = n := by rfl) : RE K E (tCall (sTw K n tw) [] E t) (eCall tw ms) := by
 intro F j σ H ρ S r Q En0 e k
 rcases rb_some e with ⟨xs, S1, e1, e⟩ | ⟨c, S1, e1, rfl⟩
 ·refine h En0 e1 fun j1 H1 X1 E1 vs hv => ?_
  rw [List.append_nil]
  exact call_core E1 hv (by rw [hv.len, evL_len e1, hn]) e (k.step X1)
 ·exact h En0 e1 k
end
noncomputable def spLawX (K : PySem.W.Frag) : Sp := fun vs H Q _ => ∃ (a : Addr) (ns : List Int), vs = [V.ref a] ∧ Only H ∧ SqX K H a (ns.map V.int) ∧ ns.length ≤ 63 ∧ ∀ H', Q (.bl true) H'
theorem law_tw {P : Program} {w : World} {K : PySem.W.Frag} {mg : Str → Option Value} {base : Heap} {CX : CXT} {k : Nat} {f : Addr} {fd : FuncData} {ps : List Str} {tw : TwF} (Fn : FnOk P w K mg base CX k f fd ps (sTw K 1 tw))
  (h : ∀ ns : List Int, ns.length ≤ 63 → ∃ S, tw [.ref 0] [.frz (ns.map Xv.int)] = some (.ok (.bl true) S)) : FnOk P w K mg base CX k f fd ps (spLawX K) := by
 refine Fn.imp ?_
 rintro vs H Q E ⟨a, ns, rfl, hO, hS, hl, q⟩
 obtain ⟨S', e⟩ := h ns hl
 refine ⟨rfl, [a], [.frz (ns.map Xv.int)], [.ref 0], _, ?_, e, fun v j' H' σ ρ E' hv => ?_⟩
 ·refine ⟨rfl, fun i x e => ?_, rfl, fun n m b c d _ _ e3 _ z _ => ?_, fun n c b e1 e2 => ?_, Ext.refl, fun n c e => ⟨c, e, fun z => z, fun _ => rfl⟩, rfl, fun b u e => .inl e, fun n b hn e => ?_, fun b e => e⟩
  ·cases i with
   | zero => simp at e; subst e; exact ⟨_, rfl, .ref rfl⟩
   | succ i => simp at e
  ·cases n with
   | zero => simp at e3; subst e3; cases z
   | succ n => simp at e3
  ·cases n with
   | zero =>
    simp at e1 e2
    subst e1 e2
    refine ⟨ns.map V.int, ?_, XisL.ints ns⟩
    rcases hS with (hS | ⟨o, hS⟩) | hS
    ·rcases hO a with z | ⟨o, xs, z⟩
     ·rw [z] at hS; cases hS
     ·rw [z] at hS; cases hS
    ·exact .inl ⟨o, hS⟩
    ·exact .inr fun H => .inr hS
   | succ n => simp at e1
  ·dsimp only at hn
   have := (List.getElem?_eq_some_iff.1 e).1
   omega
 ·rw [hv.bl_inv]
  exact q H'
end L2
namespace L2
open PySem PySem.Spec PyProof.Rows
open PySem.Builtin.Int (intBits)
noncomputable def xI (g : Int → Int → Xv) : Op2 := fun x y S => match x, y with
 | .int a, .int b => some (g a b, S)
 | _, _ => none
noncomputable def xIC (c : Int → Int → Bool) (g : Int → Int → Xv) : Op2 := fun x y S => match x, y with
 | .int a, .int b => if c a b then some (g a b, S) else none
 | _, _ => none
noncomputable def dAdd : Op2 := xI fun i j => .int (i + j)
noncomputable def dSub : Op2 := xI fun i j => .int (i - j)
noncomputable def dMul : Op2 := xIC (fun i j => decide ((-(2 ^ 64) < i ∧ i < 2 ^ 64) ∨ (-(2 ^ 64) < j ∧ j < 2 ^ 64))) fun i j => .int (i * j)
noncomputable def dMulB : Op2 := xIC (fun i j => decide (intBits i + intBits j ≤ 134217728)) fun i j => .int (i * j)
noncomputable def dMod : Op2 := xIC (fun _ j => decide (0 < j)) fun i j => .int (i % j)
noncomputable def dFdivB : Op2 := xIC (fun _ j => decide (j ≠ 0 ∧ intBits j ≤ 9000)) fun i j => .int (i.fdiv j)
noncomputable def dPow : Op2 := xIC (fun i j => decide (0 ≤ j ∧ j ≤ 1000000 ∧ i.natAbs < 2 ^ 64)) fun i j => .int (i ^ j.toNat)
noncomputable def dLt : Op2 := xI fun i j => .bl (decide (i < j))
noncomputable def dGt : Op2 := xI fun i j => .bl (decide (j < i))
noncomputable def dEqI : Op2 := xI fun i j => .bl (decide (i = j))
noncomputable def dNeI : Op2 := xI fun i j => .bl (!decide (i = j))
noncomputable def dNeg : Xv → Sto → Option (Xv × Sto) := fun x S => match x with
 | .int i => some (.int (-i), S)
 | _ => none
section
variable {K : PySem.W.Frag} {E : XK} {F : Fm} {j j' : List Addr} {H H' : Hp} {σ σ' : St} {ρ ρ' : Rho} {S S' : Sto} {x : Xv} {v : V} {ta tb : TE} {a b : TwE}
theorem r2_I0 {g : Int → Int → V} {g' : Int → Int → Xv} (hg : ∀ i k j H, Xis K j H (g' i k) (g i k)) : R2Ok K (rI0 g) (xI g') := by
 intro F j σ H ρ S S' x y z u v Q E1 hx hy h k
 unfold xI at h
 split at h
 ·cases h
  exact ⟨_, _, hx.int_inv, hy.int_inv, k _ _ _ Ext.refl E1 (hg _ _ _ _)⟩
 ·cases h
theorem r2_I {C : Int → Int → Prop} {c : Int → Int → Bool} {g : Int → Int → V} {g' : Int → Int → Xv} (hc : ∀ i j, c i j = true → C i j) (hg : ∀ i k j H, Xis K j H (g' i k) (g i k)) : R2Ok K (rI C g) (xIC c g') := by
 intro F j σ H ρ S S' x y z u v Q E1 hx hy h k
 unfold xIC at h
 split at h
 ·split at h
  ·cases h
   exact ⟨_, _, hx.int_inv, hy.int_inv, hc _ _ (by assumption), k _ _ _ Ext.refl E1 (hg _ _ _ _)⟩
  ·cases h
 ·cases h
theorem re_cmp {p : Int → Int → Bool} (ha : RE K E ta a) (hb : RE K E tb b) : RE K E (tCmp p ta tb) (eOp (xI fun i j => .bl (p i j)) a b) :=
 re_op (r := rI0 fun i j => .bl (p i j)) (r2_I0 fun i k _ _ => .bl _) ha hb
theorem r2_add : R2Ok K (rI0 fun i j => .int (i + j)) dAdd := r2_I0 fun _ _ _ _ => .int _
theorem r2_sub : R2Ok K (rI0 fun i j => .int (i - j)) dSub := r2_I0 fun _ _ _ _ => .int _
theorem r2_mul : R2Ok K (rI CMul fun i j => .int (i * j)) dMul := r2_I (fun i j h => by simpa [CMul] using h) fun _ _ _ _ => .int _
theorem r2_mulB : R2Ok K (rI CMulB fun i j => .int (i * j)) dMulB := r2_I (fun i j h => ⟨intBits i, intBits j, Nat.le_refl _, Nat.le_refl _, by simpa using h⟩) fun _ _ _ _ => .int _
theorem r2_mod : R2Ok K (rI (fun _ j => 0 < j) fun i j => .int (i % j)) dMod := r2_I (fun i j h => by simpa using h) fun _ _ _ _ => .int _
theorem r2_fdivB : R2Ok K (rI CDivB fun i j => .int (i.fdiv j)) dFdivB := r2_I (fun i j h => by simpa [CDivB] using h) fun _ _ _ _ => .int _
theorem r2_pow : R2Ok K (rI CPow fun i j => .int (i ^ j.toNat)) dPow := r2_I (fun i j h => by simpa [CPow] using h) fun _ _ _ _ => .int _
theorem re_lt (ha : RE K E ta a) (hb : RE K E tb b) : RE K E (tLt ta tb) (eOp dLt a b) := re_cmp ha hb
theorem re_gt (ha : RE K E ta a) (hb : RE K E tb b) : RE K E (tGt ta tb) (eOp dGt a b) := re_cmp ha hb
theorem re_eqI (ha : RE K E ta a) (hb : RE K E tb b) : RE K E (tEqI ta tb) (eOp dEqI a b) := re_cmp ha hb
theorem re_neI (ha : RE K E ta a) (hb : RE K E tb b) : RE K E (tNeI ta tb) (eOp dNeI a b) := re_cmp ha hb
theorem r1_neg : R1Ok K (rU fun i => .int (-i)) dNeg := by
 intro F j σ H ρ S S' x z u Q E1 hx h k
 unfold dNeg at h
 split at h
 ·cases h
  exact ⟨_, hx.int_inv, k _ _ _ Ext.refl E1 (.int _)⟩
 ·cases h
noncomputable def xInt2 (g : Int → Int → Xv) : Opn := fun xs S => match xs with
 | [.int i, .int j] => some (g i j, S)
 | _ => none
theorem rc_int2 {g : Int → Int → V} {g' : Int → Int → Xv} (hg : ∀ i k j H, Xis K j H (g' i k) (g i k)) : RcOk K (fun xs H Q => ∃ i j, xs = [V.int i, V.int j] ∧ Q (g i j) H) (xInt2 g') := by
 intro F j σ H ρ S S' xs z vs Q E1 hv h k
 unfold xInt2 at h
 split at h
 ·cases h
  obtain ⟨x, y, rfl, hx, hy⟩ := hv.d2
  exact ⟨_, _, by rw [hx.int_inv, hy.int_inv], k _ _ _ Ext.refl E1 (hg _ _ _ _)⟩
 ·cases h
noncomputable def dMin : Opn := xInt2 fun i j => .int (if j < i then j else i)
theorem rc_min : RcOk K (fun xs H Q => ∃ i j, xs = [V.int i, V.int j] ∧ Q (.int (if j < i then j else i)) H) dMin := rc_int2 fun _ _ _ _ => .int _
noncomputable def dLen : Opn := fun xs S => match xs with
 | [x] => (seqAt S x).map fun l => (.int l.length, S)
 | _ => none
theorem rc_len : RcOk K (fun xs H Q => ∃ p ys, xs = [V.ref p] ∧ (SqL K H p ys ∨ SqT K H p ys) ∧ Q (.int ys.length) H) dLen := by
 intro F j σ H ρ S S' xs z vs Q E1 hv h k
 unfold dLen at h
 split at h
 ·rename_i x
  cases e : seqAt S x with
  | none => rw [e] at h; cases h
  | some l =>
   rw [e] at h
   cases h
   obtain ⟨w, rfl, hx⟩ := hv.d1
   obtain ⟨a, ws, rfl, h1, h2⟩ := E1.seqAt hx e
   refine ⟨a, ws, rfl, ?_, k _ _ _ Ext.refl E1 (by rw [h2.len]; exact .int _)⟩
   rcases h1 with h1 | h1
   ·exact .inl h1.sql
   ·exact .inr h1
 ·cases h
noncomputable def dList : Opn := fun xs S => match xs with
 | [x] => (seqAt S x).map fun l => (.ref S.length, S ++ [.lst l])
 | _ => none
theorem rc_list : RcOk K (fun xs H Q => ∃ p ys, xs = [V.ref p] ∧ (SqL K H p ys ∨ SqT K H p ys) ∧ ∀ l, H l = none → Q (.ref l) (upd H l (.lst ys))) dList := by
 intro F j σ H ρ S S' xs z vs Q E1 hv h k
 unfold dList at h
 split at h
 ·rename_i x
  cases e : seqAt S x with
  | none => rw [e] at h; cases h
  | some l =>
   rw [e] at h
   cases h
   obtain ⟨w, rfl, hx⟩ := hv.d1
   obtain ⟨a, ws, rfl, h1, h2⟩ := E1.seqAt hx e
   refine ⟨a, ws, rfl, ?_, fun p hp => ?_⟩
   ·rcases h1 with h1 | h1
    ·exact .inl h1.sql
    ·exact .inr h1
   ·obtain ⟨E2, X2, h3⟩ := E1.lst h2 hp
    exact k _ _ _ X2 E2 h3
 ·cases h
noncomputable def intsX : List Xv → Option (List Int)
 | [] => some []
 | .int i :: r => (intsX r).map (i :: ·)
 | _ :: _ => none
theorem intsX_is : ∀ {xs : List Xv} {ns : List Int} {vs : List V}, intsX xs = some ns → XisL K j H xs vs → vs = ns.map V.int
 | [], ns, vs, e, h => by cases e; exact h.nil_inv
 | x :: r, ns, vs, e, h => by
  obtain ⟨v, ws, rfl, h1, h2⟩ := h.cons_inv
  cases x <;> simp only [intsX, reduceCtorEq] at e
  cases e2 : intsX r with
  | none => rw [e2] at e; cases e
  | some ms =>
   rw [e2] at e
   cases e
   rw [h1.int_inv, intsX_is e2 h2]
   rfl
noncomputable def bolsX : List Xv → Option (List Bool)
 | [] => some []
 | .bl i :: r => (bolsX r).map (i :: ·)
 | _ :: _ => none
theorem bolsX_is : ∀ {xs : List Xv} {ns : List Bool} {vs : List V}, bolsX xs = some ns → XisL K j H xs vs → vs = ns.map V.bl
 | [], ns, vs, e, h => by cases e; exact h.nil_inv
 | x :: r, ns, vs, e, h => by
  obtain ⟨v, ws, rfl, h1, h2⟩ := h.cons_inv
  cases x <;> simp only [bolsX, reduceCtorEq] at e
  cases e2 : bolsX r with
  | none => rw [e2] at e; cases e
  | some ms =>
   rw [e2] at e
   cases e
   rw [h1.bl_inv, bolsX_is e2 h2]
   rfl
noncomputable def dAny : Opn := fun xs S => match xs with
 | [x] => ((lstAt S x).bind bolsX).map fun ns => (.bl (ns.any id), S)
 | _ => none
theorem rc_any : RcOk K (rAny K) dAny := by
 intro F j σ H ρ S S' xs z vs Q E1 hv h k
 unfold dAny at h
 split at h
 ·rename_i x
  cases e : lstAt S x with
  | none => rw [e] at h; cases h
  | some l =>
   rw [e] at h
   cases e2 : bolsX l with
   | none => simp [e2] at h
   | some ns =>
    simp only [Option.bind_some, e2, Option.map_some, Option.some.injEq, Prod.mk.injEq] at h
    obtain ⟨rfl, rfl⟩ := h
    obtain ⟨w, rfl, hx⟩ := hv.d1
    obtain ⟨p, ws, rfl, h1, h2⟩ := E1.lstAt hx e
    refine ⟨p, ns, rfl, ?_, k _ _ _ Ext.refl E1 (.bl _)⟩
    rw [← bolsX_is e2 h2]
    exact h1.sql
 ·cases h
noncomputable def flatX : Xv → Bool
 | .non => true
 | .bl _ => true
 | .int _ => true
 | .str _ => true
 | _ => false
noncomputable def eqbX : Xv → Xv → Bool
 | .non, .non => true
 | .bl a, .bl b => a == b
 | .bl a, .int b => (if a then 1 else 0) == b
 | .int a, .bl b => a == (if b then 1 else 0)
 | .int a, .int b => a == b
 | .str a, .str b => a == b
 | _, _ => false
noncomputable def dIn (neg : Bool) : Op2 := fun x y S => (seqAt S y).bind fun l => if flatX x && l.all flatX then some (.bl (neg != l.any fun z => eqbX z x), S) else none
theorem flat_xis {v : V} {x : Xv} (h : Xis K j H x v) : flatV v = flatX x := by cases h <;> rfl
theorem eq_xis {v w : V} {x y : Xv} (h : Xis K j H x v) (g : Xis K j H y w) (fx : flatX x = true) (fy : flatX y = true) : eqV v w = eqbX x y := by cases h <;> cases g <;> first | rfl | cases fx | cases fy
theorem all_xis : ∀ {xs : List Xv} {vs : List V}, XisL K j H xs vs → vs.all flatV = xs.all flatX
 | _, _, .nil => rfl
 | _, _, .cons h l => by rw [List.all_cons, List.all_cons, flat_xis h, all_xis l]
theorem any_xis {v : V} {x : Xv} (hx : Xis K j H x v) (fx : flatX x = true) : ∀ {xs : List Xv} {vs : List V}, XisL K j H xs vs → xs.all flatX = true → inV v vs = xs.any fun z => eqbX z x
 | _, _, .nil, _ => rfl
 | _, _, .cons h l, f => by
  rw [List.all_cons, Bool.and_eq_true] at f
  have := any_xis hx fx l f.2
  unfold inV at this ⊢
  rw [List.any_cons, List.any_cons, eq_xis h hx f.1 fx, this]
theorem r2_in {neg : Bool} : R2Ok K (rIn K neg) (dIn neg) := by
 intro F j σ H ρ S S' x y z u v Q E1 hx hy h k
 unfold dIn at h
 cases e : seqAt S y with
 | none => rw [e] at h; cases h
 | some l =>
  rw [e] at h
  dsimp only [Option.bind] at h
  split at h
  ·rename_i hf
   have hf := Bool.and_eq_true_iff.1 hf
   cases h
   obtain ⟨p, ws, rfl, h1, h2⟩ := E1.seqAt hy e
   refine ⟨p, ws, rfl, ?_, by rw [flat_xis hx]; exact hf.1, by rw [all_xis h2]; exact hf.2, k _ _ _ Ext.refl E1 ?_⟩
   ·rcases h1 with h1 | h1
    ·exact .inl h1.sql
    ·exact .inr h1
   ·rw [any_xis hx hf.1 h2 hf.2]
    cases neg <;> simp <;> exact .bl _
  ·cases h
noncomputable def tellL (f : Xv → Option D) : List Xv → Option (List D)
 | [] => some []
 | x :: r => (f x).bind fun d => (tellL f r).map (d :: ·)
noncomputable def tell (S : Sto) : Nat → Xv → Option D
 | 0, x => match x with
  | .non => some .non
  | .bl b => some (.bl b)
  | .int i => some (.int i)
  | .str s => some (.str s)
  | _ => none
 | n + 1, x => match x with
  | .non => some .non
  | .bl b => some (.bl b)
  | .int i => some (.int i)
  | .str s => some (.str s)
  | .tup l => (tellL (tell S n) l).map .tup
  | .ct l => (tellL (tell S n) l).map .tup
  | .ref m => (lstAt S (.ref m)).bind fun l => (tellL (tell S n) l).map .lst
theorem tellL_is {f : Xv → Option D} {n : Nat} (hf : ∀ x v d, Xis K j H x v → f x = some d → Is K H v d ∧ D.depth d ≤ n) : ∀ {xs : List Xv} {vs : List V} {ds : List D}, XisL K j H xs vs → tellL f xs = some ds → IsL K H vs ds ∧ D.depths ds ≤ n
 | _, _, _, .nil, e => by cases e; exact ⟨.nil, by simp [D.depths]⟩
 | x :: r, _, ds, .cons h l, e => by
  unfold tellL at e
  cases e1 : f x with
  | none => rw [e1] at e; cases e
  | some d =>
   rw [e1] at e
   cases e2 : tellL f r with
   | none => simp [e2] at e
   | some es =>
    simp [e2] at e
    subst e
    obtain ⟨a1, a2⟩ := hf _ _ _ h e1
    obtain ⟨b1, b2⟩ := tellL_is hf l e2
    exact ⟨.cons a1 b1, by unfold D.depths; omega⟩
theorem tell_is (E1 : En K F j H σ ρ S) : ∀ (n : Nat) (x : Xv) (v : V) (d : D), Xis K j H x v → tell S n x = some d → Is K H v d ∧ D.depth d ≤ n
 | 0, x, v, d, h, e => by
  cases h <;> simp only [tell, Option.some.injEq, reduceCtorEq] at e <;> subst e <;> refine ⟨by constructor, by simp [D.depth]⟩
 | n + 1, x, v, d, h, e => by
  have ih := tell_is E1 n
  cases h with
  | non => simp only [tell, Option.some.injEq] at e; subst e; exact ⟨.non, by simp [D.depth]⟩
  | bl b => simp only [tell, Option.some.injEq] at e; subst e; exact ⟨.bl b, by simp [D.depth]⟩
  | int b => simp only [tell, Option.some.injEq] at e; subst e; exact ⟨.int b, by simp [D.depth]⟩
  | str b => simp only [tell, Option.some.injEq] at e; subst e; exact ⟨.str b, by simp [D.depth]⟩
  | @tup a vs l h1 h2 =>
   simp only [tell] at e
   cases e2 : tellL (tell S n) l with
   | none => rw [e2] at e; cases e
   | some ds =>
    rw [e2] at e
    cases e
    obtain ⟨a1, a2⟩ := tellL_is ih h2 e2
    exact ⟨.tup (SqT.of h1) a1, by unfold D.depth; omega⟩
  | @ct a vs l h1 h2 =>
   simp only [tell] at e
   cases e2 : tellL (tell S n) l with
   | none => rw [e2] at e; cases e
   | some ds =>
    rw [e2] at e
    cases e
    obtain ⟨a1, a2⟩ := tellL_is ih h2 e2
    exact ⟨.tup (h1 H) a1, by unfold D.depth; omega⟩
  | @ref m a h1 =>
   simp only [tell] at e
   cases e1 : lstAt S (.ref m) with
   | none => rw [e1] at e; cases e
   | some l =>
    rw [e1] at e
    cases e2 : tellL (tell S n) l with
    | none => simp [e2] at e
    | some ds =>
     simp [e2] at e
     subst e
     obtain ⟨a', vs, ea, g1, g2⟩ := E1.lstAt (.ref h1) e1
     cases ea
     obtain ⟨a1, a2⟩ := tellL_is ih g2 e2
     exact ⟨.lst g1.sql a1, by unfold D.depth; omega⟩
noncomputable def D.many : D → Bool
 | .tup _ => true
 | .lst _ => true
 | _ => false
noncomputable def dSame (neg : Bool) : Op2 := fun x y S => match tell S 40 x, tell S 40 y with
 | some d, some e => open Classical in if d = e ∧ d.many = true then some (.bl (!neg), S) else none
 | _, _ => none
noncomputable def isiX (c : String) (S : Sto) : Xv → Option Bool
 | .non => some false
 | .int _ => some (c == "int")
 | .bl _ => some (c == "bool" || c == "int")
 | .str _ => some (c == "str")
 | .tup _ => some (c == "tuple")
 | .ct _ => some (c == "tuple")
 | .ref n => (lstAt S (.ref n)).map fun _ => c == "list"
structure IsiOk (c : String) : Prop where
 non : ∀ K, PySem.W.kitOne K (.type "NoneType") (.type c) = some false
 bl : ∀ K, PySem.W.kitOne K (.type "bool") (.type c) = some (c == "bool" || c == "int")
 int : ∀ K, PySem.W.kitOne K (.type "int") (.type c) = some (c == "int")
 str : ∀ K, PySem.W.kitOne K (.type "str") (.type c) = some (c == "str")
 tup : ∀ K, PySem.W.kitOne K (.type "tuple") (.type c) = some (c == "tuple")
 lst : ∀ K, PySem.W.kitOne K (.type "list") (.type c) = some (c == "list")
theorem kitN (a b : String) (K : PySem.W.Frag) (h1 : (Value.type a == Value.type b) = false) (h : (fastBuiltinMro a).map (·.contains (.type b)) = some false) (hm : PySem.W.kitMeta b = true) : PySem.W.kitOne K (.type a) (.type b) = some false := kit_no h1 h hm rfl
theorem isi_int : IsiOk "int" := ⟨fun K => kitN _ _ K (by decide) (by decide +kernel) (by decide +kernel), fun K => kit_bool_int, fun K => kit_same, fun K => kitN _ _ K (by decide) (by decide +kernel) (by decide +kernel), fun K => kitN _ _ K (by decide) (by decide +kernel) (by decide +kernel), fun K => kitN _ _ K (by decide) (by decide +kernel) (by decide +kernel)⟩
theorem isi_bool : IsiOk "bool" := ⟨fun K => kitN _ _ K (by decide) (by decide +kernel) (by decide +kernel), fun K => kit_same, fun K => kit_int_bool, fun K => kitN _ _ K (by decide) (by decide +kernel) (by decide +kernel), fun K => kitN _ _ K (by decide) (by decide +kernel) (by decide +kernel), fun K => kitN _ _ K (by decide) (by decide +kernel) (by decide +kernel)⟩
theorem isi_tuple : IsiOk "tuple" := ⟨fun K => kitN _ _ K (by decide) (by decide +kernel) (by decide +kernel), fun K => kitN _ _ K (by decide) (by decide +kernel) (by decide +kernel), fun K => kitN _ _ K (by decide) (by decide +kernel) (by decide +kernel), fun K => kitN _ _ K (by decide) (by decide +kernel) (by decide +kernel), fun K => kit_same, fun K => kitN _ _ K (by decide) (by decide +kernel) (by decide +kernel)⟩
theorem isi_list : IsiOk "list" := ⟨fun K => kitN _ _ K (by decide) (by decide +kernel) (by decide +kernel), fun K => kitN _ _ K (by decide) (by decide +kernel) (by decide +kernel), fun K => kitN _ _ K (by decide) (by decide +kernel) (by decide +kernel), fun K => kitN _ _ K (by decide) (by decide +kernel) (by decide +kernel), fun K => kitN _ _ K (by decide) (by decide +kernel) (by decide +kernel), fun K => kit_same⟩
noncomputable def dIsi (c : String) : Xv → Sto → Option (Xv × Sto) := fun x S => (isiX c S x).map fun b => (.bl b, S)
theorem isi_xis {c : String} (ok : IsiOk c) (E1 : En K F j H σ ρ S) {b : Bool} {Q : VK} (h : Xis K j H x v) (e : isiX c S x = some b) (k : Q (.bl b) H) : rIsi K [v, .ty c] H Q := by
 cases h with
 | non => cases e; exact ⟨_, _, _, _, _, rfl, rfl, .of .non, ok.non K, k⟩
 | bl b => cases e; exact ⟨_, _, _, _, _, rfl, rfl, .of (.bl b), ok.bl K, k⟩
 | int i => cases e; exact ⟨_, _, _, _, _, rfl, rfl, .of (.int i), ok.int K, k⟩
 | str z => cases e; exact ⟨_, _, _, _, _, rfl, rfl, .of (.str z), ok.str K, k⟩
 | tup h l => cases e; exact ⟨_, _, _, _, _, rfl, rfl, .sqt (SqT.of h), ok.tup K, k⟩
 | ct h l => cases e; exact ⟨_, _, _, _, _, rfl, rfl, .sqt (h H), ok.tup K, k⟩
 | @ref n a h =>
  simp only [isiX] at e
  cases e1 : lstAt S (.ref n) with
  | none => rw [e1] at e; cases e
  | some l =>
   rw [e1] at e
   cases e
   obtain ⟨a', vs, ea, g1, g2⟩ := E1.lstAt (.ref h) e1
   cases ea
   exact ⟨_, _, _, _, _, rfl, rfl, .sql g1.sql, ok.lst K, k⟩
theorem re_isi {c : String} {t : TE} {m : TwE} (ok : IsiOk c) (h : RE K E t m) : RE K E (tCB (rIsi K) (tCons t (tCons (tC (.ty c)) tNil))) (eUn (dIsi c) m) := by
 intro F j σ H ρ S r Q En0 e k
 rcases rb_some e with ⟨x, S1, e1, e⟩ | ⟨c, S1, e1, rfl⟩
 ·obtain ⟨z, S3, e3, rfl⟩ := okP_some e
  unfold dIsi at e3
  cases e4 : isiX c S1 x with
  | none => rw [e4] at e3; cases e3
  | some b =>
   rw [e4] at e3
   cases e3
   exact h En0 e1 fun j1 H1 X1 E1 u hu => isi_xis ok E1 hu e4 (k _ _ X1 E1 _ (.bl _))
 ·exact h En0 e1 k
noncomputable def dListRev : Xv → Sto → Option (Xv × Sto) := fun x S => (lstAt S x).map fun l => (.ref S.length, S ++ [.lst l.reverse])
theorem re_listRev {t : TE} {m : TwE} (h : RE K E t m) : RE K E (tListRev K t) (eUn dListRev m) := by
 intro F j σ H ρ S r Q En0 e k
 rcases rb_some e with ⟨x, S1, e1, e⟩ | ⟨c, S1, e1, rfl⟩
 ·obtain ⟨z, S3, e3, rfl⟩ := okP_some e
  unfold dListRev at e3
  cases e4 : lstAt S1 x with
  | none => rw [e4] at e3; cases e3
  | some l =>
   rw [e4] at e3
   cases e3
   refine h En0 e1 fun j1 H1 X1 E1 u hu => ?_
   obtain ⟨p, ys, rfl, h1, h2⟩ := E1.lstAt hu e4
   refine ⟨p, ys, rfl, h1, fun l hl => ?_⟩
   obtain ⟨E2, X2, h3⟩ := E1.lst h2.reverse hl
   exact k _ _ (X1.trans X2) E2 _ h3
 ·exact h En0 e1 k
noncomputable def enumX (xs : List Xv) : List Xv := xs.zipIdx.map fun p => .tup [.int (p.2 : Int), p.1]
theorem enumX_at {xs : List Xv} {i : Nat} {y : Xv} (h : (enumX xs)[i]? = some y) : ∃ x, xs[i]? = some x ∧ y = .tup [.int (i : Int), x] := by
 unfold enumX at h
 rw [List.getElem?_map, List.getElem?_zipIdx] at h
 cases e : xs[i]? with
 | none => rw [e] at h; cases h
 | some x =>
  rw [e] at h
  simp at h
  exact ⟨x, rfl, h.symm⟩
theorem enumX_len (xs : List Xv) : (enumX xs).length = xs.length := by simp [enumX]
noncomputable def iEn (m : TwE) : TwI := fun ρ S => rb (m ρ S) fun x S1 => (lstAt S1 x).map fun _ => .ok (fun S => (lstAt S x).map enumX) S1
theorem tup2 {p : Addr} {H' : Hp} {i : Int} {y : Xv} {w : V} (Sm : Same H H') (hp : H' p = some (.tup [.int i, w])) (h : Xis K j H y w) : Xis K j H' (.tup [.int i, y]) (.ref p) :=
 .tup hp (.cons (.int i) (.one (h.mono (Ext.same Sm))))
theorem ri_enum {t : TE} {m : TwE} (h : RE K E t m) : RI K E (iEnum K (tCons t tNil)) (iEn m) := by
 intro F j σ H ρ S r R En0 e k
 rcases rb_some e with ⟨x, S1, e1, e⟩ | ⟨c, S1, e1, rfl⟩
 ·cases el : lstAt S1 x with
  | none => rw [el] at e; cases e
  | some l =>
   rw [el] at e
   cases e
   refine h En0 e1 fun j1 H1 X1 E1 u hu => ?_
   obtain ⟨a, vs, rfl, h1, _⟩ := E1.lstAt hu el
   refine ⟨a, rfl, ⟨vs, h1.sql⟩, k _ _ X1 E1 _ ?_⟩
   intro F2 j2 H2 σ2 ρ2 S2 xs i X2 E2 e2
   dsimp only at e2
   cases el2 : lstAt S2 x with
   | none => rw [el2] at e2; cases e2
   | some l2 =>
    rw [el2] at e2
    cases e2
    obtain ⟨a', ws, ea, g1, g2⟩ := E2.lstAt (hu.mono X2) el2
    cases ea
    refine ⟨fun y ey => ?_, fun hle => ⟨ws, g1.sql, by rw [g2.len]; rw [enumX_len] at hle; omega⟩⟩
    obtain ⟨y', ey', rfl⟩ := enumX_at ey
    obtain ⟨w, f1, f2⟩ := g2.get ey'
    refine ⟨⟨ws, w, g1.sql, f1⟩, ?_⟩
    rintro v' H' ⟨p, w', rfl, hp, rfl, hx⟩
    have := hx ws g1.sql
    rw [f1] at this
    cases this
    exact ⟨same_upd hp, tup2 (same_upd hp) upd_same f2⟩
 ·exact h En0 e1 k
end
end L2
namespace L2
open PySem PySem.Spec PyProof.Rows
noncomputable def keyX : Xv → Option Key
 | .int i => some (.inl i)
 | .str z => some (.inr z)
 | _ => none
noncomputable def dkAt (S : Sto) : Xv → Option (Nat × List (Key × Xv))
 | .ref n => match S[n]? with
  | some (.dk kvs) => some (n, kvs)
  | _ => none
 | _ => none
noncomputable def valX {κ : Type} [DecidableEq κ] (kvs : List (κ × Xv)) (k : κ) : Option Xv := (kvs.find? fun kv => decide (kv.1 = k)).map (·.2)
noncomputable def putX {κ : Type} [DecidableEq κ] (kvs : List (κ × Xv)) (k : κ) (x : Xv) : List (κ × Xv) :=
 if (kvs.any fun kv => decide (kv.1 = k)) = true then kvs.map (fun kv => if kv.1 = k then (kv.1, x) else kv) else kvs ++ [(k, x)]
section
variable {K : PySem.W.Frag} {E : XK} {F : Fm} {j : List Addr} {H : Hp} {σ : St} {ρ : Rho} {S : Sto} {x : Xv} {v : V} {κ : Type}
theorem keyX_is {k : Key} (h : Xis K j H x v) (e : keyX x = some k) : v = kV k := by
 cases h <;> simp only [keyX, Option.some.injEq, reduceCtorEq] at e <;> subst e <;> rfl
theorem dkAt_some {n : Nat} {kvs : List (Key × Xv)} (h : dkAt S x = some (n, kvs)) : x = .ref n ∧ S[n]? = some (.dk kvs) := by
 cases x <;> simp only [dkAt, reduceCtorEq] at h
 split at h
 ·cases h; exact ⟨rfl, by assumption⟩
 ·cases h
theorem En.dk {n : Nat} {kvs : List (Key × Xv)} (E1 : En K F j H σ ρ S) (hx : Xis K j H x v) (h : dkAt S x = some (n, kvs)) : ∃ a ks, v = .ref a ∧ j[n]? = some a ∧ H a = some (.dK ks) ∧ KX K j H kvs ks := by
 obtain ⟨rfl, hs⟩ := dkAt_some h
 obtain ⟨a, rfl, hj⟩ := hx.ref_inv
 obtain ⟨ks, e1, e2⟩ := E1.cel _ _ _ hs hj
 exact ⟨a, ks, rfl, hj, e1, e2⟩
theorem KX.len : ∀ {kvs : List (κ × Xv)} {ks : List (κ × V)}, KX K j H kvs ks → ks.length = kvs.length
 | _, _, .nil => rfl
 | _, _, .cons _ l => by rw [List.length_cons, List.length_cons, l.len]
theorem KX.keys : ∀ {kvs : List (κ × Xv)} {ks : List (κ × V)}, KX K j H kvs ks → ks.map (·.1) = kvs.map (·.1)
 | _, _, .nil => rfl
 | _, _, .cons _ l => by rw [List.map_cons, List.map_cons, l.keys]
theorem KX.vals : ∀ {kvs : List (κ × Xv)} {ks : List (κ × V)}, KX K j H kvs ks → XisL K j H (kvs.map (·.2)) (ks.map (·.2))
 | _, _, .nil => .nil
 | _, _, .cons h l => .cons h l.vals
theorem KX.val [DecidableEq κ] {k : κ} : ∀ {kvs : List (κ × Xv)} {ks : List (κ × V)}, KX K j H kvs ks → (∀ y, valX kvs k = some y → ∃ w, valV ks k = some w ∧ Xis K j H y w) ∧ (valX kvs k = none → valV ks k = none)
 | _, _, .nil => ⟨fun _ e => by simp [valX] at e, fun _ => rfl⟩
 | (k1, y1) :: r, (_, w1) :: rs, .cons h l => by
  obtain ⟨i1, i2⟩ := KX.val (k := k) l
  by_cases e : k1 = k
  ·subst e
   refine ⟨fun y ey => ?_, fun ey => ?_⟩
   ·simp [valX] at ey
    subst ey
    exact ⟨w1, by simp [valV], h⟩
   ·simp [valX] at ey
  ·have e1 : valX ((k1, y1) :: r) k = valX r k := by simp [valX, List.find?_cons, e]
   have e2 : valV ((k1, w1) :: rs) k = valV rs k := by simp [valV, List.find?_cons, e]
   rw [e1, e2]
   exact ⟨i1, i2⟩
theorem KX.append : ∀ {kvs r : List (κ × Xv)} {ks rs : List (κ × V)}, KX K j H kvs ks → KX K j H r rs → KX K j H (kvs ++ r) (ks ++ rs)
 | _, _, _, _, .nil, h => h
 | _, _, _, _, .cons h l, g => .cons h (l.append g)
theorem KX.any {f : κ → Bool} : ∀ {kvs : List (κ × Xv)} {ks : List (κ × V)}, KX K j H kvs ks → (ks.any fun p => f p.1) = kvs.any fun p => f p.1
 | _, _, .nil => rfl
 | _, _, .cons _ l => by rw [List.any_cons, List.any_cons, l.any]
theorem KX.put [DecidableEq κ] {k : κ} (hx : Xis K j H x v) {kvs : List (κ × Xv)} {ks : List (κ × V)} (h : KX K j H kvs ks) : KX K j H (putX kvs k x) (putK ks k v) := by
 unfold putX putK
 rw [h.any (f := fun a => decide (a = k))]
 split
 ·rename_i hc
  clear hc
  induction h with
  | nil => exact .nil
  | @cons k1 y w r rs h l ih =>
   rw [List.map_cons, List.map_cons]
   by_cases e : k1 = k
   ·rw [if_pos e, if_pos e]; exact .cons hx ih
   ·rw [if_neg e, if_neg e]; exact .cons h ih
 ·exact h.append (.cons hx .nil)
theorem En.wdk {n : Nat} {kvs kvs' : List (Key × Xv)} {ws : List (Key × V)} {a : Addr} (E1 : En K F j H σ ρ S) (h : dkAt S x = some (n, kvs)) (hj : j[n]? = some a) (hw : KX K j H kvs' ws) : En K F j (upd H a (.dK ws)) σ ρ (S.set n (.dk kvs')) ∧ Ext j H j (upd H a (.dK ws)) :=
 E1.write (dkAt_some h).2 rfl hj rfl fun X => ⟨ws, upd_same, hw.mono X⟩
noncomputable def eDict0 : TwE := fun _ S => some (.ok (.ref S.length) (S ++ [.dk []]))
theorem re_dnew : RE K E tDNewK eDict0 := by
 intro F j σ H ρ S r Q En0 e k p hp
 cases e
 have X : Ext j H (j ++ [p]) (upd H p (.dK [])) := ⟨fun n a e => by rw [List.getElem?_append_left (List.getElem?_eq_some_iff.1 e).1]; exact e, KeepI.same (same_upd hp)⟩
 obtain ⟨E1, _⟩ := En0.cell (o := .dK []) (c := .dk []) hp ⟨[], upd_same, .nil⟩
 exact k _ _ X E1 _ (.ref (by rw [← En0.jl]; simp))
noncomputable def eDict1 (mk mv : TwE) : TwE := fun ρ S => rb (mk ρ (S ++ [.dk []])) fun x S1 => rb (mv ρ S1) fun y S2 => match S2[S.length]?, keyX x with
 | some (.dk []), some k => some (.ok (.ref S.length) (S2.set S.length (.dk [(k, y)])))
 | _, _ => none
theorem re_dict1 {tk tv : TE} {mk mv : TwE} (hk : RE K E tk mk) (hv : RE K E tv mv) : RE K E (tDisp [(tk, tv)]) (eDict1 mk mv) := by
 intro F j σ H ρ S r Q En0 e k p hp
 have X : Ext j H (j ++ [p]) (upd H p (.dK [])) := ⟨fun n a e => by rw [List.getElem?_append_left (List.getElem?_eq_some_iff.1 e).1]; exact e, KeepI.same (same_upd hp)⟩
 obtain ⟨E1, _⟩ := En0.cell (o := .dK []) (c := .dk []) hp ⟨[], upd_same, .nil⟩
 have hj : (j ++ [p])[S.length]? = some p := by rw [← En0.jl]; simp
 rcases rb_some e with ⟨x, S1, e1, e⟩ | ⟨c, S1, e1, rfl⟩
 ·refine hk E1 e1 fun j1 H1 X1 E1 u hu => ?_
  rcases rb_some e with ⟨y, S2, e2, e⟩ | ⟨c, S2, e2, rfl⟩
  ·refine hv E1 e2 fun j2 H2 X2 E2 w hw => ?_
   split at e
   ·rename_i key es ek
    cases e
    have hj2 := X2.pre _ _ (X1.pre _ _ hj)
    obtain ⟨ks, f1, f2⟩ := E2.cel _ _ _ es hj2
    cases f2
    obtain ⟨E3, X3⟩ := E2.write (o := .dK [(key, w)]) (c' := .dk [(key, y)]) es rfl hj2 rfl fun X => ⟨_, upd_same, .cons (hw.mono X) .nil⟩
    refine ⟨f1, [(key, w)], by rw [keyX_is (hu.mono X2) ek]; rfl, by simp, ?_⟩
    exact k _ _ (X.trans (X1.trans (X2.trans X3))) E3 _ (.ref (X3.pre _ _ hj2))
   ·cases e
  ·exact hv E1 e2 (PX.mono k (X.trans X1))
 ·exact hk E1 e1 (PX.mono k X)
noncomputable def eDGet (d k : TwE) : TwE := fun ρ S => rb (d ρ S) fun x S1 => rb (k ρ S1) fun y S2 => match dkAt S2 x, keyX y with
 | some (_, kvs), some key => (valX kvs key).map fun z => .ok z S2
 | _, _ => none
theorem re_dget {td ty : TE} {d k : TwE} (hd : RE K E td d) (hk : RE K E ty k) : RE K E (tDGet td ty) (eDGet d k) := by
 intro F j σ H ρ S r Q En0 e kk
 rcases rb_some e with ⟨x, S1, e1, e⟩ | ⟨c, S1, e1, rfl⟩
 ·refine hd En0 e1 fun j1 H1 X1 E1 u hu => ?_
  rcases rb_some e with ⟨y, S2, e2, e⟩ | ⟨c, S2, e2, rfl⟩
  ·refine hk E1 e2 fun j2 H2 X2 E2 w hw => ?_
   split at e
   ·rename_i n kvs key ed ek
    cases ev : valX kvs key with
    | none => rw [ev] at e; cases e
    | some z =>
     rw [ev] at e
     cases e
     obtain ⟨a, ks, rfl, hj, f1, f2⟩ := E2.dk (hu.mono X2) ed
     obtain ⟨z', g1, g2⟩ := f2.val.1 _ ev
     refine ⟨a, z', rfl, ?_, kk _ _ (X1.trans X2) E2 _ g2⟩
     rw [keyX_is hw ek, ← g1]
     exact DGet.k f1
   ·cases e
  ·exact hk E1 e2 (PX.mono kk X1)
 ·exact hd En0 e1 kk
noncomputable def eDIn (neg : Bool) (k d : TwE) : TwE := fun ρ S => rb (k ρ S) fun y S1 => rb (d ρ S1) fun x S2 => match dkAt S2 x, keyX y with
 | some (_, kvs), some key => some (.ok (.bl (neg != (valX kvs key).isSome)) S2)
 | _, _ => none
theorem dget_of {a : Addr} {ks : List (Key × V)} {kvs : List (Key × Xv)} {key : Key} (f1 : H a = some (.dK ks)) (f2 : KX K j H kvs ks) : ∃ o, DGet H a (kV key) o ∧ o.isSome = (valX kvs key).isSome ∧ ∀ z zd, Xis K j H z zd → Xis K j H ((valX kvs key).getD z) (o.getD zd) := by
 refine ⟨_, DGet.k f1, ?_, fun z zd hz => ?_⟩
 ·cases ev : valX kvs key with
  | none => rw [f2.val.2 ev]; rfl
  | some y => obtain ⟨w, g1, _⟩ := f2.val.1 _ ev; rw [g1]; rfl
 ·cases ev : valX kvs key with
  | none => rw [f2.val.2 ev]; exact hz
  | some y => obtain ⟨w, g1, g2⟩ := f2.val.1 _ ev; rw [g1]; exact g2
theorem re_dnotin {td ty : TE} {d k : TwE} (hk : RE K E ty k) (hd : RE K E td d) : RE K E (tDNotIn ty td) (eDIn true k d) := by
 intro F j σ H ρ S r Q En0 e kk
 rcases rb_some e with ⟨y, S1, e1, e⟩ | ⟨c, S1, e1, rfl⟩
 ·refine hk En0 e1 fun j1 H1 X1 E1 u hu => ?_
  rcases rb_some e with ⟨x, S2, e2, e⟩ | ⟨c, S2, e2, rfl⟩
  ·refine hd E1 e2 fun j2 H2 X2 E2 w hw => ?_
   split at e
   ·rename_i n kvs key ed ek
    cases e
    obtain ⟨a, ks, rfl, hj, f1, f2⟩ := E2.dk hw ed
    obtain ⟨o, g1, g2, _⟩ := dget_of (key := key) f1 f2
    refine ⟨a, o, rfl, by rw [keyX_is (hu.mono X2) ek]; exact g1, kk _ _ (X1.trans X2) E2 _ ?_⟩
    rw [g2, Bool.true_bne]
    exact .bl _
   ·cases e
  ·exact hd E1 e2 (PX.mono kk X1)
 ·exact hk En0 e1 kk
noncomputable def eDGet2 (d k z : TwE) : TwE := fun ρ S => rb (d ρ S) fun x S1 => (dkAt S1 x).bind fun _ => rb (k ρ S1) fun y S2 => rb (z ρ S2) fun w S3 => match dkAt S3 x, keyX y with
 | some (_, kvs), some key => some (.ok ((valX kvs key).getD w) S3)
 | _, _ => none
theorem re_dget2 {td ty tx : TE} {d k z : TwE} (hd : RE K E td d) (hk : RE K E ty k) (hz : RE K E tx z) : RE K E (tDGet2 td ty tx) (eDGet2 d k z) := by
 intro F j σ H ρ S r Q En0 e kk
 rcases rb_some e with ⟨x, S1, e1, e⟩ | ⟨c, S1, e1, rfl⟩
 ·refine hd En0 e1 fun j1 H1 X1 E1 u hu => ?_
  cases ed0 : dkAt S1 x with
  | none => rw [ed0] at e; cases e
  | some p0 =>
   rw [ed0] at e
   obtain ⟨n0, kvs0⟩ := p0
   obtain ⟨a, ks0, rfl, hj0, f0, _⟩ := E1.dk hu ed0
   refine ⟨a, rfl, .inl ⟨ks0, .inl f0⟩, ?_⟩
   rcases rb_some e with ⟨y, S2, e2, e⟩ | ⟨c, S2, e2, rfl⟩
   ·refine hk E1 e2 fun j2 H2 X2 E2 w hw => ?_
    rcases rb_some e with ⟨q, S3, e3, e⟩ | ⟨c, S3, e3, rfl⟩
    ·refine hz E2 e3 fun j3 H3 X3 E3 wq hq => ?_
     split at e
     ·rename_i n kvs key ed ek
      cases e
      obtain ⟨a', ks, ea, hj, f1, f2⟩ := E3.dk (hu.mono (X2.trans X3)) ed
      cases ea
      obtain ⟨o, g1, _, g3⟩ := dget_of (key := key) f1 f2
      exact ⟨o, by rw [keyX_is hw ek]; exact g1, kk _ _ (X1.trans (X2.trans X3)) E3 _ (g3 _ _ hq)⟩
     ·cases e
    ·exact hz E2 e3 (PX.mono kk (X1.trans X2))
   ·exact hk E1 e2 (PX.mono kk X1)
 ·exact hd En0 e1 kk
noncomputable def sDPutX (d k v : TwE) : TwS := fun ρ S => sb (v ρ S) fun z S1 => sb (d ρ S1) fun x S2 => sb (k ρ S2) fun y S3 => match dkAt S3 x, keyX y with
 | some (n, kvs), some key => if kvs.length < sizeLine then some (.nx ρ (S3.set n (.dk (putX kvs key z)))) else none
 | _, _ => none
theorem rs_dput {td ty tv : TE} {d k v : TwE} (hd : RE K E td d) (hk : RE K E ty k) (hv : RE K E tv v) : RS K E (sDPut td ty tv) (sDPutX d k v) := by
 intro F j D' σ H ρ S fl E0 e kk
 rcases sb_some e with ⟨z, S1, e1, e⟩ | ⟨c, S1, e1, rfl⟩
 ·refine hv E0 e1 fun j1 H1 X1 E1 wz hwz => ?_
  rcases sb_some e with ⟨x, S2, e2, e⟩ | ⟨c, S2, e2, rfl⟩
  ·refine hd E1 e2 fun j2 H2 X2 E2 u hu => ?_
   rcases sb_some e with ⟨y, S3, e3, e⟩ | ⟨c, S3, e3, rfl⟩
   ·refine hk E2 e3 fun j3 H3 X3 E3 w hw => ?_
    split at e
    ·rename_i n kvs key ed ek
     split at e
     ·rename_i hl
      cases e
      obtain ⟨a, ks, rfl, hj, f1, f2⟩ := E3.dk (hu.mono X3) ed
      obtain ⟨E4, X4⟩ := E3.wdk ed hj (f2.put (k := key) (hwz.mono (X2.trans X3)))
      refine ⟨a, _, rfl, ?_, kk _ _ _ (X1.trans (X2.trans (X3.trans X4))) E4⟩
      rw [keyX_is hw ek]
      exact DPut.k f1 (by rw [f2.len]; exact hl)
     ·cases e
    ·cases e
   ·exact hk E2 e3 (PX.mono kk (X1.trans X2))
  ·exact hd E1 e2 (PX.mono kk X1)
 ·exact hv E0 e1 kk
noncomputable def ikeys {β : Type} : List (Key × β) → Option (List Int)
 | [] => some []
 | (.inl i, _) :: r => (ikeys r).map (i :: ·)
 | _ => none
theorem ikeys_map {β : Type} : ∀ {kvs : List (Key × β)} {ns : List Int}, ikeys kvs = some ns → kvs.map (·.1) = ns.map Sum.inl
 | [], ns, e => by cases e; rfl
 | (.inl i, b) :: r, ns, e => by
  unfold ikeys at e
  cases e1 : ikeys r with
  | none => rw [e1] at e; cases e
  | some ms => rw [e1] at e; cases e; rw [List.map_cons, List.map_cons, ikeys_map e1]
 | (.inr i, b) :: r, ns, e => by cases e
noncomputable def dSortI : Opn := fun xs S => match xs with
 | [x] => ((lstAt S x).bind intsX).bind fun ns => if ns.length < 64 then some (.ref S.length, S ++ [.lst ((sortI ns).map Xv.int)]) else none
 | _ => none
theorem rc_sortI : RcOk K (rSortI K) dSortI := by
 intro F j σ H ρ S S' xs z vs Q E1 hv h k
 unfold dSortI at h
 split at h
 ·rename_i x
  cases e : lstAt S x with
  | none => rw [e] at h; cases h
  | some l =>
   rw [e] at h
   cases e2 : intsX l with
   | none => simp [e2] at h
   | some ns =>
    simp only [Option.bind_some, e2] at h
    split at h
    ·rename_i h64
     cases h
     obtain ⟨w, rfl, hx⟩ := hv.d1
     obtain ⟨p, ws, rfl, h1, h2⟩ := E1.lstAt hx e
     refine ⟨p, ns, rfl, by rw [← intsX_is e2 h2]; exact h1.sql, h64, fun q hq => ?_⟩
     obtain ⟨E2, X2, h3⟩ := E1.lst (XisL.ints (sortI ns)) hq
     exact k _ _ _ X2 E2 h3
    ·cases h
 ·cases h
noncomputable def dSortD : Opn := fun xs S => match xs with
 | [x] => ((dkAt S x).bind fun p => ikeys p.2).bind fun ns => if ns.length < 64 then some (.ref S.length, S ++ [.lst ((sortI ns).map Xv.int)]) else none
 | _ => none
noncomputable def dListD : Opn := fun xs S => match xs with
 | [x] => ((dkAt S x).bind fun p => ikeys p.2).map fun ns => (.ref S.length, S ++ [.lst (ns.map Xv.int)])
 | _ => none
theorem rc_listD : RcOk K rListD dListD := by
 intro F j σ H ρ S S' xs z vs Q E1 hv h k
 unfold dListD at h
 split at h
 ·rename_i x
  cases e : dkAt S x with
  | none => rw [e] at h; cases h
  | some p =>
   obtain ⟨n, kvs⟩ := p
   rw [e] at h
   cases e2 : ikeys kvs with
   | none => simp [e2] at h
   | some ns =>
    simp only [Option.bind_some, e2, Option.map_some, Option.some.injEq, Prod.mk.injEq] at h
    obtain ⟨rfl, rfl⟩ := h
    obtain ⟨w, rfl, hx⟩ := hv.d1
    obtain ⟨a, ks, rfl, hj, h1, h2⟩ := E1.dk hx e
    refine ⟨a, ks, ns, rfl, h1, h2.keys.trans (ikeys_map e2), fun q hq => ?_⟩
    obtain ⟨E2, X2, h3⟩ := E1.lst (XisL.ints ns) hq
    exact k _ _ _ X2 E2 h3
 ·cases h
theorem tyD {a : Addr} {ks : List (Key × V)} (h : H a = some (.dK ks)) : tyV K "dict" (.ref a) H := .inr (.inr (.inl ⟨rfl, .inl ⟨ks, h⟩⟩))
noncomputable def dSortK : Xv → Sto → Option (Xv × Sto) := fun x S => dSortD [x] S
theorem re_sortK {to : TE} {o : TwE} (h : RE K E to o) : RE K E (tCB rSortK (tCons (tBM0 K "dict" rKeys to) tNil)) (eUn dSortK o) := by
 intro F j σ H ρ S r Q En0 e k
 rcases rb_some e with ⟨x, S1, e1, e⟩ | ⟨c, S1, e1, rfl⟩
 ·obtain ⟨z, S3, e3, rfl⟩ := okP_some e
  refine h En0 e1 fun j1 H1 X1 E1 u hu => ?_
  unfold dSortK dSortD at e3
  dsimp only at e3
  cases e4 : dkAt S1 x with
  | none => rw [e4] at e3; cases e3
  | some p =>
   obtain ⟨n, kvs⟩ := p
   rw [e4] at e3
   cases e2 : ikeys kvs with
   | none => simp [e2] at e3
   | some ns =>
    simp only [Option.bind_some, e2] at e3
    split at e3
    ·rename_i h64
     cases e3
     obtain ⟨a, ks, rfl, hj, h1, h2⟩ := E1.dk hu e4
     refine ⟨tyD h1, a, ks, rfl, rfl, h1, fun p hp => ?_⟩
     obtain ⟨E2, X2⟩ := E1.new (o := kview p a) hp
     have ne : a ≠ p := ne_of_none h1 hp
     refine ⟨p, a, ks, ns, rfl, upd_same, by rw [upd_ne ne]; exact h1, h2.keys.trans (ikeys_map e2), h64, fun q hq => ?_⟩
     obtain ⟨E3, X3, h3⟩ := E2.lst (XisL.ints (sortI ns)) hq
     exact k _ _ (X1.trans (X2.trans X3)) E3 _ h3
    ·cases e3
 ·exact h En0 e1 k
noncomputable def dSumV : Xv → Sto → Option (Xv × Sto) := fun x S => ((dkAt S x).bind fun p => intsX (p.2.map (·.2))).map fun ns => (.int ns.sum, S)
theorem re_sumV {to : TE} {o : TwE} (h : RE K E to o) : RE K E (tCB rSumV (tCons (tBM0 K "dict" rVals to) tNil)) (eUn dSumV o) := by
 intro F j σ H ρ S r Q En0 e k
 rcases rb_some e with ⟨x, S1, e1, e⟩ | ⟨c, S1, e1, rfl⟩
 ·obtain ⟨z, S3, e3, rfl⟩ := okP_some e
  refine h En0 e1 fun j1 H1 X1 E1 u hu => ?_
  unfold dSumV at e3
  cases e4 : dkAt S1 x with
  | none => rw [e4] at e3; cases e3
  | some p =>
   obtain ⟨n, kvs⟩ := p
   rw [e4] at e3
   cases e2 : intsX (kvs.map (·.2)) with
   | none => simp [e2] at e3
   | some ns =>
    simp only [Option.bind_some, e2, Option.map_some, Option.some.injEq, Prod.mk.injEq] at e3
    obtain ⟨rfl, rfl⟩ := e3
    obtain ⟨a, ks, rfl, hj, h1, h2⟩ := E1.dk hu e4
    refine ⟨tyD h1, a, ks, rfl, rfl, h1, fun p hp => ?_⟩
    obtain ⟨E2, X2⟩ := E1.new (o := vview p a) hp
    have ne : a ≠ p := ne_of_none h1 hp
    exact ⟨p, a, ks, ns, rfl, upd_same, by rw [upd_ne ne]; exact h1, intsX_is e2 h2.vals, k _ _ (X1.trans X2) E2 _ (.int _)⟩
 ·exact h En0 e1 k
noncomputable def dEqNil (neg : Bool) : Op2 := fun x y S => match lstAt S x, lstAt S y with
 | some xs, some [] => some (.bl (neg != xs.isEmpty), S)
 | _, _ => none
theorem r2_eqNil {neg : Bool} : R2Ok K (rEqNil K neg) (dEqNil neg) := by
 intro F j σ H ρ S S' x y z u v Q E1 hx hy h k
 unfold dEqNil at h
 split at h
 ·rename_i xs e1 e2
  cases h
  obtain ⟨a, vs, rfl, h1, h2⟩ := E1.lstAt hx e1
  obtain ⟨b, ws, rfl, g1, g2⟩ := E1.lstAt hy e2
  cases g2
  refine ⟨a, b, vs, rfl, rfl, h1.sql, g1.sql, k _ _ _ Ext.refl E1 ?_⟩
  have : vs.isEmpty = xs.isEmpty := by cases h2 <;> rfl
  rw [this]
  exact .bl _
 ·cases h
end
end L2
namespace L2
open PySem PySem.Spec PyProof.Rows
open PySem.Builtin.Int (intBits)
noncomputable def W {α : Type} (r : Option (Rs α)) (P : α → Sto → Prop) : Prop := ∃ a S, r = some (.ok a S) ∧ P a S
noncomputable def WO (r : Option (Xv × Sto)) (P : Xv → Sto → Prop) : Prop := ∃ a S, r = some (a, S) ∧ P a S
noncomputable def WS (r : Option Fl) (N : Rho → Sto → Prop) (R : Xv → Sto → Prop) : Prop := (∃ ρ S, r = some (.nx ρ S) ∧ N ρ S) ∨ ∃ x S, r = some (.rt x S) ∧ R x S
section
variable {ρ : Rho} {S S' : Sto} {d x y : Xv} {a b m o : TwE} {c : TwT} {s t : TwS} {i k : Nat} {P : Xv → Sto → Prop} {PB : Bool → Sto → Prop} {PL : List Xv → Sto → Prop} {PO : Option Int → Sto → Prop} {N : Rho → Sto → Prop} {R : Xv → Sto → Prop}
theorem W.of {α : Type} {r : Option (Rs α)} {a : α} {P : α → Sto → Prop} (e : r = some (.ok a S)) (h : P a S) : W r P := ⟨a, S, e, h⟩
theorem WO.of {r : Option (Xv × Sto)} (e : r = some (x, S)) (h : P x S) : WO r P := ⟨x, S, e, h⟩
theorem W.imp {α : Type} {r : Option (Rs α)} {P Q : α → Sto → Prop} (h : W r P) (k : ∀ a S, P a S → Q a S) : W r Q := by
 obtain ⟨a, S, e, h⟩ := h
 exact ⟨a, S, e, k _ _ h⟩
theorem WS.nx {r : Option Fl} (e : r = some (.nx ρ S)) (h : N ρ S) : WS r N R := .inl ⟨ρ, S, e, h⟩
theorem WS.rt {r : Option Fl} (e : r = some (.rt x S)) (h : R x S) : WS r N R := .inr ⟨x, S, e, h⟩
theorem W.bind {α β : Type} {r : Option (Rs α)} {f : α → Sto → Option (Rs β)} {P : β → Sto → Prop} (h : W r fun a S => W (f a S) P) : W (rb r f) P := by
 obtain ⟨a, S, rfl, h⟩ := h
 exact h
theorem WS.bind {α : Type} {r : Option (Rs α)} {f : α → Sto → Option Fl} (h : W r fun a S => WS (f a S) N R) : WS (sb r f) N R := by
 obtain ⟨a, S, rfl, h⟩ := h
 exact h
theorem W.okP {r : Option (Xv × Sto)} (h : WO r P) : W (okP r) P := by
 obtain ⟨a, S, rfl, h⟩ := h
 exact ⟨a, S, rfl, h⟩
theorem wx_var (h : ρ[i]? = some (some d)) (k : P d S) : W (eVar i ρ S) P := .of (by unfold eVar; rw [h]) k
theorem wx_c (k : P d S) : W (eC d ρ S) P := .of rfl k
theorem wx_op {f : Op2} (h : W (a ρ S) fun x S1 => W (b ρ S1) fun y S2 => WO (f x y S2) P) : W (eOp f a b ρ S) P := W.bind (h.imp fun _ _ h => W.bind (h.imp fun _ _ h => W.okP h))
theorem wx_un {f : Xv → Sto → Option (Xv × Sto)} (h : W (a ρ S) fun x S1 => WO (f x S1) P) : W (eUn f a ρ S) P := W.bind (h.imp fun _ _ h => W.okP h)
theorem wx_bE (h : W (a ρ S) fun x S1 => ∃ v, x = .bl v ∧ PB v S1) : W (bE a ρ S) PB := W.bind (h.imp fun x S1 h => by obtain ⟨v, rfl, k⟩ := h; exact .of rfl k)
theorem wx_not (h : W (c ρ S) fun v S1 => PB (!v) S1) : W (bNot c ρ S) PB := W.bind (h.imp fun _ _ k => .of rfl k)
theorem wx_and {c2 : TwT} (h : W (c ρ S) fun v S1 => (v = true → W (c2 ρ S1) PB) ∧ (v = false → PB false S1)) : W (bAnd c c2 ρ S) PB := W.bind (h.imp fun v S1 k => by
 cases v with
 | true => rw [if_pos rfl]; exact k.1 rfl
 | false => exact .of rfl (k.2 rfl))
theorem wx_or {c2 : TwT} (h : W (c ρ S) fun v S1 => (v = true → PB true S1) ∧ (v = false → W (c2 ρ S1) PB)) : W (bOr c c2 ρ S) PB := W.bind (h.imp fun v S1 k => by
 cases v with
 | true => exact .of rfl (k.1 rfl)
 | false => rw [if_neg (by simp)]; exact k.2 rfl)
theorem wx_eAnd (h : W (a ρ S) fun x S1 => ∃ v, x = .bl v ∧ (v = true → W (b ρ S1) P) ∧ (v = false → P (.bl false) S1)) : W (eAnd a b ρ S) P := W.bind ((wx_bE h).imp fun v S1 k => by
 cases v with
 | true => rw [if_pos rfl]; exact k.1 rfl
 | false => exact .of rfl (k.2 rfl))
theorem wx_eOr (h : W (a ρ S) fun x S1 => ∃ v, x = .bl v ∧ (v = true → P (.bl true) S1) ∧ (v = false → W (b ρ S1) P)) : W (eOr a b ρ S) P := W.bind ((wx_bE h).imp fun v S1 k => by
 cases v with
 | true => exact .of rfl (k.1 rfl)
 | false => rw [if_neg (by simp)]; exact k.2 rfl)
theorem wx_eIf (h : W (c ρ S) fun v S1 => (v = true → W (a ρ S1) P) ∧ (v = false → W (b ρ S1) P)) : W (eIf c a b ρ S) P := W.bind (h.imp fun v S1 k => by
 cases v with
 | true => rw [if_pos rfl]; exact k.1 rfl
 | false => rw [if_neg (by simp)]; exact k.2 rfl)
theorem wx_nil (k : PL [] S) : W (evL [] ρ S) PL := .of rfl k
theorem wx_cons {ms : List TwE} (h : W (m ρ S) fun d S1 => W (evL ms ρ S1) fun ds S2 => PL (d :: ds) S2) : W (evL (m :: ms) ρ S) PL := W.bind (h.imp fun _ _ h => W.bind (h.imp fun _ _ k => .of rfl k))
theorem wx_tup {ms : List TwE} (h : W (evL ms ρ S) fun ds S1 => P (.tup ds) S1) : W (eTup ms ρ S) P := W.bind (h.imp fun _ _ k => .of rfl k)
theorem wx_lst {ms : List TwE} (h : W (evL ms ρ S) fun ds S1 => P (.ref S1.length) (S1 ++ [.lst ds])) : W (eLst ms ρ S) P := W.bind (h.imp fun _ _ k => .of rfl k)
theorem wx_fn {f : Opn} {ms : List TwE} (h : W (evL ms ρ S) fun ds S1 => WO (f ds S1) P) : W (eFn f ms ρ S) P := W.bind (h.imp fun _ _ h => W.okP h)
theorem wx_call {tw : TwF} {ms : List TwE} (h : W (evL ms ρ S) fun ds S1 => W (tw ds S1) P) : W (eCall tw ms ρ S) P := W.bind h
theorem wx_oSome (h : W (m ρ S) fun x S1 => ∃ k, x = .int k ∧ PO (some k) S1) : W (oSome m ρ S) PO := W.bind (h.imp fun x S1 h => by obtain ⟨v, rfl, k⟩ := h; exact .of rfl k)
theorem wx_sl {f : Xv → Option Int → Option Int → Sto → Option (Xv × Sto)} {lo hi : TwO} (h : W (m ρ S) fun x S1 => W (lo ρ S1) fun u S2 => W (hi ρ S2) fun v S3 => WO (f x u v S3) P) : W (eSl f m lo hi ρ S) P :=
 W.bind (h.imp fun _ _ h => W.bind (h.imp fun _ _ h => W.bind (h.imp fun _ _ h => W.okP h)))
theorem wx_mt {f : OpM} {ms : List TwE} (h : W (o ρ S) fun x S1 => (∃ l, lstAt S1 x = some l) ∧ W (evL ms ρ S1) fun ys S2 => WO (f x ys S2) P) : W (eMt f o ms ρ S) P := W.bind (h.imp fun x S1 h => by
 obtain ⟨⟨l, e⟩, h⟩ := h
 rw [e, Option.bind_some]
 exact W.bind (h.imp fun _ _ h => W.okP h))
theorem wx_dict0 (k : P (.ref S.length) (S ++ [.dk []])) : W (eDict0 ρ S) P := .of rfl k
theorem wx_dict1 {mk mv : TwE} (h : W (mk ρ (S ++ [.dk []])) fun x S1 => W (mv ρ S1) fun y S2 => ∃ k, S2[S.length]? = some (.dk []) ∧ keyX x = some k ∧ P (.ref S.length) (S2.set S.length (.dk [(k, y)]))) : W (eDict1 mk mv ρ S) P :=
 W.bind (h.imp fun _ _ h => W.bind (h.imp fun _ _ h => by obtain ⟨k, e1, e2, q⟩ := h; rw [e1, e2]; exact .of rfl q))
theorem wx_dget (h : W (a ρ S) fun x S1 => W (b ρ S1) fun y S2 => ∃ n kvs k z, dkAt S2 x = some (n, kvs) ∧ keyX y = some k ∧ valX kvs k = some z ∧ P z S2) : W (eDGet a b ρ S) P :=
 W.bind (h.imp fun _ _ h => W.bind (h.imp fun _ _ h => by obtain ⟨n, kvs, k, z, e1, e2, e3, q⟩ := h; rw [e1, e2]; dsimp only; rw [e3]; exact .of rfl q))
theorem wx_din {neg : Bool} (h : W (a ρ S) fun y S1 => W (b ρ S1) fun x S2 => ∃ n kvs k, dkAt S2 x = some (n, kvs) ∧ keyX y = some k ∧ P (.bl (neg != (valX kvs k).isSome)) S2) : W (eDIn neg a b ρ S) P :=
 W.bind (h.imp fun _ _ h => W.bind (h.imp fun _ _ h => by obtain ⟨n, kvs, k, e1, e2, q⟩ := h; rw [e1, e2]; exact .of rfl q))
theorem wx_dget2 {z : TwE} (h : W (a ρ S) fun x S1 => (∃ p, dkAt S1 x = some p) ∧ W (b ρ S1) fun y S2 => W (z ρ S2) fun w S3 => ∃ n kvs k, dkAt S3 x = some (n, kvs) ∧ keyX y = some k ∧ P ((valX kvs k).getD w) S3) : W (eDGet2 a b z ρ S) P :=
 W.bind (h.imp fun x S1 h => by
  obtain ⟨⟨p, e0⟩, h⟩ := h
  rw [e0, Option.bind_some]
  exact W.bind (h.imp fun _ _ h => W.bind (h.imp fun _ _ h => by obtain ⟨n, kvs, k, e1, e2, q⟩ := h; rw [e1, e2]; exact .of rfl q)))
theorem wx_dput (h : W (m ρ S) fun z S1 => W (a ρ S1) fun x S2 => W (b ρ S2) fun y S3 => ∃ n kvs k, dkAt S3 x = some (n, kvs) ∧ keyX y = some k ∧ kvs.length < sizeLine ∧ N ρ (S3.set n (.dk (putX kvs k z)))) : WS (sDPutX a b m ρ S) N R :=
 WS.bind (h.imp fun _ _ h => WS.bind (h.imp fun _ _ h => WS.bind (h.imp fun _ _ h => by obtain ⟨n, kvs, k, e1, e2, e3, q⟩ := h; rw [e1, e2]; dsimp only; rw [if_pos e3]; exact .nx rfl q)))
theorem wx_seq (h : WS (s ρ S) (fun ρ1 S1 => WS (t ρ1 S1) N R) R) : WS (sSeq s t ρ S) N R := by
 unfold sSeq
 rcases h with ⟨ρ1, S1, e, h⟩ | ⟨x, S1, e, h⟩
 ·rw [e]; exact h
 ·rw [e]; exact .rt rfl h
theorem wx_next (h : N ρ S) : WS (sNext ρ S) N R := .nx rfl h
theorem wx_set (h : W (m ρ S) fun d S1 => N (ρ.set i (some d)) S1) : WS (sAsg m (gN i) ρ S) N R := WS.bind (h.imp fun _ _ k => .nx rfl k)
theorem wx_store (h : W (m ρ S) fun d S1 => W (a ρ S1) fun x S2 => W (b ρ S2) fun y S3 => ∃ n l q j, wlAt S3 x = some (n, l) ∧ y = .int q ∧ ixN l.length q = some j ∧ N ρ (S3.set n (.lst (l.set j d)))) : WS (sAsg m (gStore a b) ρ S) N R :=
 WS.bind (h.imp fun d S1 h => WS.bind (W.bind (h.imp fun x S2 h => W.bind (h.imp fun y S3 h => by
  obtain ⟨n, l, q, j, e1, rfl, e2, k⟩ := h
  rw [e1]
  dsimp only
  rw [e2]
  exact .of rfl (.nx rfl k)))))
theorem wx_expr (h : W (m ρ S) fun _ S1 => N ρ S1) : WS (sExpr m ρ S) N R := WS.bind (h.imp fun _ _ k => .nx rfl k)
theorem wx_ret (h : W (m ρ S) fun d S1 => R d S1) : WS (sRet m ρ S) N R := WS.bind (h.imp fun _ _ k => .rt rfl k)
theorem wx_if (h : W (c ρ S) fun v S1 => (v = true → WS (s ρ S1) N R) ∧ (v = false → WS (t ρ S1) N R)) : WS (sIf c s t ρ S) N R := WS.bind (h.imp fun v S1 k => by
 cases v with
 | true => rw [if_pos rfl]; exact k.1 rfl
 | false => rw [if_neg (by simp)]; exact k.2 rfl)
theorem wx_par {ms : List TwE} (h : W (evL ms ρ S) fun l S1 => ∃ x y, l = [x, y] ∧ N ((ρ.set i (some x)).set k (some y)) S1) : WS (sPar i k ms ρ S) N R := WS.bind (h.imp fun l S1 h => by
 obtain ⟨x, y, rfl, q⟩ := h
 exact .nx rfl q)
theorem wx_cut {r : Option Fl} (I : Rho → Sto → Prop) (h : WS r I R) (k : ∀ ρ S, I ρ S → N ρ S) : WS r N R := by
 rcases h with ⟨ρ, S, e, h⟩ | h
 ·exact .inl ⟨ρ, S, e, k ρ S h⟩
 ·exact .inr h
theorem wx_wh {n : Nat} (h : WS (whTw c s n ρ S) N R) : WS (sWh n c s ρ S) N R := h
theorem wx_turn {n : Nat} (h : W (c ρ S) fun v S1 => (v = true → WS (s ρ S1) (fun ρ2 S2 => WS (whTw c s n ρ2 S2) N R) R) ∧ (v = false → N ρ S1)) : WS (whTw c s (n + 1) ρ S) N R := by
 unfold whTw
 refine WS.bind (h.imp fun v S1 k => ?_)
 cases v with
 | true =>
  rw [if_pos rfl]
  rcases k.1 rfl with ⟨ρ2, S2, e2, h⟩ | ⟨x, S2, e2, h⟩
  ·rw [e2]; exact h
  ·rw [e2]; exact .rt rfl h
 | false => exact .nx rfl (k.2 rfl)
theorem wx_for {n : TwI} {g : TwG} (h : W (n ρ S) fun get S1 => ∃ xs, get S1 = some xs ∧ WS (forTw get g s (xs.length + 1) 0 ρ S1) N R) : WS (sFor n g s ρ S) N R := WS.bind (h.imp fun get S1 h => by
 obtain ⟨xs, e, h⟩ := h
 rw [e, Option.bind_some]
 exact h)
theorem wx_forI {get : Sto → Option (List Xv)} {g : TwG} {xs : List Xv} (J : Nat → Rho → Sto → Prop) (hg : ∀ i ρ S, i ≤ xs.length → J i ρ S → get S = some xs)
  (h : ∀ (i : Nat) (x : Xv) ρ S, xs[i]? = some x → J i ρ S → W (g x ρ S) fun ρ1 S1 => WS (s ρ1 S1) (fun ρ2 S2 => J (i + 1) ρ2 S2) R) (h0 : J 0 ρ S) (k : ∀ ρ S, J xs.length ρ S → N ρ S) : WS (forTw get g s (xs.length + 1) 0 ρ S) N R := by
 have aux : ∀ (n i : Nat) (ρ : Rho) (S : Sto), i + n = xs.length → J i ρ S → WS (forTw get g s (n + 1) i ρ S) N R := by
  intro n
  induction n with
  | zero =>
   intro i ρ S e hj
   unfold forTw
   rw [hg i ρ S (by omega) hj, Option.bind_some, List.getElem?_eq_none (by omega)]
   dsimp only
   rw [if_pos (by omega)]
   exact .nx rfl (k ρ S (by rw [show xs.length = i by omega]; exact hj))
  | succ n ih =>
   intro i ρ S e hj
   unfold forTw
   have hi : i < xs.length := by omega
   rw [hg i ρ S (by omega) hj, Option.bind_some, List.getElem?_eq_getElem hi]
   refine WS.bind ((h i _ ρ S (List.getElem?_eq_getElem hi) hj).imp fun ρ1 S1 h1 => ?_)
   rcases h1 with ⟨ρ2, S2, e2, h2⟩ | ⟨x, S2, e2, h2⟩
   ·rw [e2]; exact ih (i + 1) ρ2 S2 (by omega) h2
   ·rw [e2]; exact .rt rfl h2
 exact aux xs.length 0 ρ S (by omega) h0
theorem wx_iL (h : W (m ρ S) fun x S1 => ∃ l, lstAt S1 x = some l ∧ Q' (fun S => lstAt S x) S1) : W (iL m ρ S) Q' := W.bind (h.imp fun x S1 h => by
 obtain ⟨l, e, k⟩ := h
 rw [e]
 exact .of rfl k)
theorem wx_iEn {Q' : (Sto → Option (List Xv)) → Sto → Prop} (h : W (m ρ S) fun x S1 => ∃ l, lstAt S1 x = some l ∧ Q' (fun S => (lstAt S x).map enumX) S1) : W (iEn m ρ S) Q' := W.bind (h.imp fun x S1 h => by
 obtain ⟨l, e, k⟩ := h
 rw [e]
 exact .of rfl k)
theorem wx_iR1 {Q' : (Sto → Option (List Xv)) → Sto → Prop} (h : W (m ρ S) fun x S1 => ∃ k : Int, x = .int k ∧ (-(2 ^ 62) ≤ k ∧ k < 2 ^ 62) ∧ Q' (fun _ => some (rangeX 0 k.toNat)) S1) : W (iR1 m ρ S) Q' := W.bind (h.imp fun x S1 h => by
 obtain ⟨k, rfl, hk, q⟩ := h
 dsimp only
 rw [if_pos hk]
 exact .of rfl q)
theorem rangeX_at {lo : Int} {n i : Nat} {x : Xv} (h : (rangeX lo n)[i]? = some x) : i < n ∧ x = .int (lo + i) := by
 unfold rangeX at h
 rw [List.getElem?_map] at h
 have hi : i < n := by
  apply Classical.byContradiction
  intro hn
  rw [List.getElem?_eq_none (by simp; omega)] at h
  cases h
 rw [List.getElem?_range hi] at h
 cases h
 exact ⟨hi, rfl⟩
theorem rangeX_len {lo : Int} {n : Nat} : (rangeX lo n).length = n := by simp [rangeX]
theorem wx_comp {cap : List (Option Nat)} {n : TwI} {g : TwG} (h : W (n ρ S) fun get S1 => ∃ xs, get S1 = some xs ∧ W (compTw get g c m (capR cap ρ) (xs.length + 1) 0 [] S1) P) : W (eComp cap n g c m ρ S) P := W.bind (h.imp fun get S1 h => by
 obtain ⟨xs, e, h⟩ := h
 rw [e, Option.bind_some]
 exact h)
theorem wx_compI {get : Sto → Option (List Xv)} {g : TwG} {ρc : Rho} {xs : List Xv} (hl : xs.length ≤ sizeLine) (J : Nat → List Xv → Sto → Prop) (hg : ∀ i es S, i ≤ xs.length → J i es S → get S = some xs)
  (h : ∀ (i : Nat) (x : Xv) es S, xs[i]? = some x → es.length = i → J i es S → W (g x ρc S) fun ρ1 S1 => W (c ρ1 S1) fun b S2 => b = true ∧ W (m ρ1 S2) fun y S3 => J (i + 1) (es ++ [y]) S3) (h0 : J 0 [] S)
  (k : ∀ es S, es.length = xs.length → J xs.length es S → P (.ref S.length) (S ++ [.lst es])) : W (compTw get g c m ρc (xs.length + 1) 0 [] S) P := by
 have aux : ∀ (n i : Nat) (es : List Xv) (S : Sto), i + n = xs.length → es.length = i → J i es S → W (compTw get g c m ρc (n + 1) i es S) P := by
  intro n
  induction n with
  | zero =>
   intro i es S e el hj
   unfold compTw
   rw [hg i es S (by omega) hj, Option.bind_some, List.getElem?_eq_none (by omega)]
   dsimp only
   rw [if_pos (by omega)]
   exact .of rfl (k es S (by omega) (by rw [show xs.length = i by omega]; exact hj))
  | succ n ih =>
   intro i es S e el hj
   unfold compTw
   have hi : i < xs.length := by omega
   rw [hg i es S (by omega) hj, Option.bind_some, List.getElem?_eq_getElem hi]
   obtain ⟨ρ1, S1, e1, b, S2, e2, rfl, y, S3, e3, q⟩ := h i _ es S (List.getElem?_eq_getElem hi) el hj
   dsimp only [rn]
   rw [e1]
   dsimp only [rn]
   rw [e2]
   dsimp only [rn]
   rw [if_pos rfl, e3]
   dsimp only [rn]
   rw [if_pos (by omega)]
   exact ih (i + 1) (es ++ [y]) S3 (by omega) (by simp [el]) q
 exact aux xs.length 0 [] S (by omega) rfl h0
theorem wx_true (k : PB true S) : W (bTrue ρ S) PB := .of rfl k
theorem wx_run {n k : Nat} {xs : List Xv} {ρ0 : Rho} (hn : xs.length = n) (h0 : xs.map some ++ List.replicate k none = ρ0) (h : WS (s ρ0 S) (fun _ S1 => P .non S1) P) : W (runTw n k s xs S) P := by
 unfold runTw
 rw [if_pos hn, h0]
 rcases h with ⟨ρ, S1, e, h⟩ | ⟨x, S1, e, h⟩
 ·rw [e]; exact .of rfl h
 ·rw [e]; exact .of rfl h
variable {p q : Int}
theorem ox_add (k : P (.int (p + q)) S) : WO (dAdd (.int p) (.int q) S) P := .of rfl k
theorem ox_sub (k : P (.int (p - q)) S) : WO (dSub (.int p) (.int q) S) P := .of rfl k
theorem ox_neg (k : P (.int (-p)) S) : WO (dNeg (.int p) S) P := .of rfl k
theorem ox_lt (k : P (.bl (decide (p < q))) S) : WO (dLt (.int p) (.int q) S) P := .of rfl k
theorem ox_gt (k : P (.bl (decide (q < p))) S) : WO (dGt (.int p) (.int q) S) P := .of rfl k
theorem ox_eqI (k : P (.bl (decide (p = q))) S) : WO (dEqI (.int p) (.int q) S) P := .of rfl k
theorem ox_neI (k : P (.bl (!decide (p = q))) S) : WO (dNeI (.int p) (.int q) S) P := .of rfl k
theorem ox_mod (h : 0 < q) (k : P (.int (p % q)) S) : WO (dMod (.int p) (.int q) S) P := .of (by unfold dMod xIC; exact if_pos (by simpa using h)) k
theorem ox_mulB (h : intBits p + intBits q ≤ 134217728) (k : P (.int (p * q)) S) : WO (dMulB (.int p) (.int q) S) P := .of (by unfold dMulB xIC; exact if_pos (by simpa using h)) k
theorem ox_mul (h : (-(2 ^ 64) < p ∧ p < 2 ^ 64) ∨ (-(2 ^ 64) < q ∧ q < 2 ^ 64)) (k : P (.int (p * q)) S) : WO (dMul (.int p) (.int q) S) P := .of (by unfold dMul xIC; exact if_pos (decide_eq_true h)) k
theorem ox_pow (h : 0 ≤ q ∧ q ≤ 1000000 ∧ p.natAbs < 2 ^ 64) (k : P (.int (p ^ q.toNat)) S) : WO (dPow (.int p) (.int q) S) P := .of (by unfold dPow xIC; exact if_pos (decide_eq_true h)) k
theorem ox_fdivB (h : q ≠ 0 ∧ intBits q ≤ 9000) (k : P (.int (p.fdiv q)) S) : WO (dFdivB (.int p) (.int q) S) P := .of (by unfold dFdivB xIC; exact if_pos (decide_eq_true h)) k
theorem ox_min (k : P (.int (if q < p then q else p)) S) : WO (dMin [.int p, .int q] S) P := .of rfl k
theorem ox_len {l : List Xv} (h : lstAt S x = some l) (k : P (.int l.length) S) : WO (dLen [x] S) P := .of (by
 unfold dLen seqAt
 dsimp only
 have : x.tupOf = none := by cases x <;> first | rfl | cases h
 rw [this]
 dsimp only
 rw [h]
 rfl) k
theorem ox_ixL {l : List Xv} {z : Xv} (h : lstAt S x = some l) (e : atI l p = some z) (k : P z S) : WO (dIxL x (.int p) S) P := .of (by unfold dIxL; rw [h]; dsimp only; rw [e]; rfl) k
theorem ox_ixT {l : List Xv} {z : Xv} (h : x.tupOf = some l) (e : atI l p = some z) (k : P z S) : WO (dIxT x (.int p) S) P := .of (by unfold dIxT; rw [h]; dsimp only; rw [e]; rfl) k
theorem atI_0 {β : Type} {x : β} {l : List β} : atI (x :: l) 0 = some x := by
 unfold atI ixN
 rw [if_pos (show (0 : Int) ≤ 0 by decide), if_pos (by simp only [List.length_cons]; omega)]
 rfl
theorem atI_1 {β : Type} {x y : β} {l : List β} : atI (x :: y :: l) 1 = some y := by
 unfold atI ixN
 rw [if_pos (show (0 : Int) ≤ 1 by decide), if_pos (by simp only [List.length_cons]; omega)]
 rfl
theorem ox_ix0 {l : List Xv} (k : P x S) : WO (dIxT (.tup (x :: l)) (.int 0) S) P := ox_ixT rfl atI_0 k
theorem ox_ix1 {l : List Xv} (k : P y S) : WO (dIxT (.tup (x :: y :: l)) (.int 1) S) P := ox_ixT rfl atI_1 k
theorem atI_nn {β : Type} {l : List β} {k : Int} {z : β} (h0 : 0 ≤ k) (h : l[k.toNat]? = some z) : atI l k = some z := by
 have hk := (List.getElem?_eq_some_iff.1 h).1
 unfold atI ixN
 rw [if_pos h0, if_pos (by omega)]
 exact h
theorem ox_append {n : Nat} {l : List Xv} (h : wlAt S x = some (n, l)) (hz : l.length < sizeLine) (k : P .non (S.set n (.lst (l ++ [y])))) : WO (mAppend x [y] S) P := .of (by unfold mAppend; rw [h]; dsimp only; rw [if_pos hz]) k
theorem ox_slL {l : List Xv} {lo hi : Option Int} (h : lstAt S x = some l) (k : P (.ref S.length) (S ++ [.lst (cutD l lo hi)])) : WO (dSlL x lo hi S) P := .of (by unfold dSlL; rw [h]; rfl) k
theorem ox_list {l : List Xv} (h : lstAt S x = some l) (k : P (.ref S.length) (S ++ [.lst l])) : WO (dList [x] S) P := .of (by
 unfold dList seqAt
 dsimp only
 have : x.tupOf = none := by cases x <;> first | rfl | cases h
 rw [this]
 dsimp only
 rw [h]
 rfl) k
theorem ox_sortI {l : List Xv} {ns : List Int} (h : lstAt S x = some l) (e : intsX l = some ns) (h64 : ns.length < 64) (k : P (.ref S.length) (S ++ [.lst ((sortI ns).map Xv.int)])) : WO (dSortI [x] S) P := .of (by unfold dSortI; dsimp only; rw [h, Option.bind_some, e, Option.bind_some, if_pos h64]) k
theorem ox_sortD {n : Nat} {kvs : List (Key × Xv)} {ns : List Int} (h : dkAt S x = some (n, kvs)) (e : ikeys kvs = some ns) (h64 : ns.length < 64) (k : P (.ref S.length) (S ++ [.lst ((sortI ns).map Xv.int)])) : WO (dSortD [x] S) P := .of (by unfold dSortD; dsimp only; rw [h, Option.bind_some, e, Option.bind_some, if_pos h64]) k
theorem ox_sortK {n : Nat} {kvs : List (Key × Xv)} {ns : List Int} (h : dkAt S x = some (n, kvs)) (e : ikeys kvs = some ns) (h64 : ns.length < 64) (k : P (.ref S.length) (S ++ [.lst ((sortI ns).map Xv.int)])) : WO (dSortK x S) P := ox_sortD h e h64 k
theorem ox_listD {n : Nat} {kvs : List (Key × Xv)} {ns : List Int} (h : dkAt S x = some (n, kvs)) (e : ikeys kvs = some ns) (k : P (.ref S.length) (S ++ [.lst (ns.map Xv.int)])) : WO (dListD [x] S) P := .of (by unfold dListD; dsimp only; rw [h, Option.bind_some, e]; rfl) k
theorem ox_sumV {n : Nat} {kvs : List (Key × Xv)} {ns : List Int} (h : dkAt S x = some (n, kvs)) (e : intsX (kvs.map (·.2)) = some ns) (k : P (.int ns.sum) S) : WO (dSumV x S) P := .of (by unfold dSumV; rw [h, Option.bind_some, e]; rfl) k
theorem ox_eqNil {neg : Bool} {l : List Xv} (h : lstAt S x = some l) (h2 : lstAt S y = some []) (k : P (.bl (neg != l.isEmpty)) S) : WO (dEqNil neg x y S) P := .of (by unfold dEqNil; rw [h, h2]) k
theorem ox_in {neg : Bool} {l : List Xv} (h : seqAt S y = some l) (hf : (flatX x && l.all flatX) = true) (k : P (.bl (neg != l.any fun z => eqbX z x)) S) : WO (dIn neg x y S) P := .of (by unfold dIn; rw [h, Option.bind_some, if_pos hf]) k
theorem ox_isi {c : String} {v : Bool} (h : isiX c S x = some v) (k : P (.bl v) S) : WO (dIsi c x S) P := .of (by unfold dIsi; rw [h]; rfl) k
end
theorem lstAt_app {S T : Sto} {x : Xv} {l : List Xv} (h : lstAt S x = some l) : lstAt (S ++ T) x = some l := by
 cases x <;> simp only [lstAt, reduceCtorEq] at h ⊢
 rename_i n
 cases e : S[n]? with
 | none => rw [e] at h; cases h
 | some c =>
  rw [List.getElem?_append_left (List.getElem?_eq_some_iff.1 e).1, e]
  rw [e] at h
  exact h
theorem dkAt_app {S T : Sto} {x : Xv} {p : Nat × List (Key × Xv)} (h : dkAt S x = some p) : dkAt (S ++ T) x = some p := by
 cases x <;> simp only [dkAt, reduceCtorEq] at h ⊢
 rename_i n
 cases e : S[n]? with
 | none => rw [e] at h; cases h
 | some c =>
  rw [List.getElem?_append_left (List.getElem?_eq_some_iff.1 e).1, e]
  rw [e] at h
  exact h
theorem lstAt_new {S : Sto} {l : List Xv} : lstAt (S ++ [.lst l]) (.ref S.length) = some l := by simp [lstAt]
theorem dkAt_new {S : Sto} {l : List (Key × Xv)} : dkAt (S ++ [.dk l]) (.ref S.length) = some (S.length, l) := by simp [dkAt]
theorem wlAt_of {S : Sto} {n : Nat} {l : List Xv} (h : S[n]? = some (.lst l)) : wlAt S (.ref n) = some (n, l) := by simp [wlAt, h]
theorem lstAt_of {S : Sto} {n : Nat} {l : List Xv} (h : S[n]? = some (.lst l)) : lstAt S (.ref n) = some l := by simp [lstAt, h]
theorem dkAt_of {S : Sto} {n : Nat} {l : List (Key × Xv)} (h : S[n]? = some (.dk l)) : dkAt S (.ref n) = some (n, l) := by simp [dkAt, h]
end L2
namespace L2
open PySem PySem.Spec PyProof.Rows PySem.Calls
section
variable {X : Cx}
end
section
variable {K : PySem.W.Frag} {E : XK}
noncomputable def eChain (p q : Int → Int → Bool) (a b c : TwE) : TwE := fun ρ S => rb (a ρ S) fun x S1 => rb (b ρ S1) fun y S2 => match x, y with
 | .int i, .int j => if p i j then rb (c ρ S2) fun z S3 => match z with
   | .int k => some (.ok (.bl (q j k)) S3)
   | _ => none
  else some (.ok (.bl false) S2)
 | _, _ => none
theorem re_chain {p q : Int → Int → Bool} {ta tb tc : TE} {a b c : TwE} (ha : RE K E ta a) (hb : RE K E tb b) (hc : RE K E tc c) : RE K E (tChain (rI0 fun i j => .bl (p i j)) (rI0 fun i j => .bl (q i j)) ta tb tc) (eChain p q a b c) := by
 intro F j σ H ρ S r Q En0 e k
 rcases rb_some e with ⟨x, S1, e1, e⟩ | ⟨c, S1, e1, rfl⟩
 ·refine ha En0 e1 fun j1 H1 X1 E1 u hu => ?_
  rcases rb_some e with ⟨y, S2, e2, e⟩ | ⟨c, S2, e2, rfl⟩
  ·have hij : ∃ i l, x = .int i ∧ y = .int l := by
    cases x <;> cases y <;> first | exact ⟨_, _, rfl, rfl⟩ | (cases e; done)
   obtain ⟨i, l, rfl, rfl⟩ := hij
   dsimp only at e
   refine hb E1 e2 fun j2 H2 X2 E2 v hv => ⟨i, l, hu.int_inv, hv.int_inv, p i l, rfl, ?_⟩
   by_cases hp : p i l = true
   ·rw [if_pos hp] at e ⊢
    rcases rb_some e with ⟨z, S3, e3, e⟩ | ⟨c, S3, e3, rfl⟩
    ·have hk : ∃ m, z = .int m := by
      cases z <;> first | exact ⟨_, rfl⟩ | (cases e; done)
     obtain ⟨m, rfl⟩ := hk
     cases e
     exact hc E2 e3 fun j3 H3 X3 E3 w hw => ⟨l, m, hv.int_inv, hw.int_inv, k _ _ (X1.trans (X2.trans X3)) E3 _ (.bl _)⟩
    ·exact hc E2 e3 (PX.mono k (X1.trans X2))
   ·rw [if_neg hp] at e ⊢
    cases e
    exact k _ _ (X1.trans X2) E2 _ (.bl _)
  ·exact hb E1 e2 (PX.mono k X1)
 ·exact ha En0 e1 k
theorem wx_chain {ρ : Rho} {S : Sto} {P : Xv → Sto → Prop} {p q : Int → Int → Bool} {a b c : TwE} (h : W (a ρ S) fun x S1 => ∃ i, x = .int i ∧ W (b ρ S1) fun y S2 => ∃ j, y = .int j ∧ (p i j = true → W (c ρ S2) fun z S3 => ∃ k, z = .int k ∧ P (.bl (q j k)) S3) ∧ (p i j = false → P (.bl false) S2)) : W (eChain p q a b c ρ S) P := W.bind (h.imp fun x S1 h => by
 obtain ⟨i, rfl, h⟩ := h
 refine W.bind (h.imp fun y S2 h => ?_)
 obtain ⟨j, rfl, h1, h2⟩ := h
 dsimp only
 cases hp : p i j with
 | true =>
  rw [if_pos rfl]
  exact W.bind ((h1 hp).imp fun z S3 h => by obtain ⟨k, rfl, q⟩ := h; exact .of rfl q)
 | false =>
  rw [if_neg (by simp)]
  exact .of rfl (h2 hp))
end
end L2
namespace L2
open PySem PySem.Spec PyProof.Rows PySem.Calls
section
variable {K : PySem.W.Frag} {E : XK}
end
end L2
namespace L2
open PySem PySem.Spec PyProof.Rows PySem.Calls
noncomputable def allZ (f : D → D → Option Bool) : List D → List D → Option Bool
 | a :: l, b :: m => (f a b).bind fun x => (allZ f l m).map (x && ·)
 | _, _ => some true
theorem allZ_at {f : D → D → Option Bool} : ∀ {l m : List D} {b : Bool}, allZ f l m = some b → ∃ e : Nat → Bool, (∀ (j : Nat) a c, l[j]? = some a → m[j]? = some c → f a c = some (e j)) ∧ b = (List.range (min l.length m.length)).all e
 | [], m, b, h => by
  unfold allZ at h
  cases h
  exact ⟨fun _ => true, fun j a c ha => by simp at ha, by simp⟩
 | a :: l, [], b, h => by
  unfold allZ at h
  cases h
  exact ⟨fun _ => true, fun j a c ha hc => by simp at hc, by simp⟩
 | a :: l, c :: m, b, h => by
  unfold allZ at h
  cases e1 : f a c with
  | none => rw [e1] at h; cases h
  | some x =>
   rw [e1, Option.bind_some] at h
   cases e2 : allZ f l m with
   | none => rw [e2] at h; cases h
   | some y =>
    rw [e2] at h
    cases h
    obtain ⟨e, k, rfl⟩ := allZ_at e2
    refine ⟨fun j => match j with
     | 0 => x
     | j + 1 => e j, fun j p q hp hq => ?_, ?_⟩
    ·cases j with
     | zero => simp at hp hq; subst hp hq; exact e1
     | succ j => exact k j p q (by simpa using hp) (by simpa using hq)
    ·rw [List.length_cons, List.length_cons, Nat.succ_min_succ, List.range_succ_eq_map, List.all_cons, List.all_map]
     rfl
noncomputable def eqG : Nat → D → D → Option Bool
 | 0, d, e => match d, e with
  | .non, .non => some true
  | .bl a, .bl b => some (a == b)
  | .int a, .int b => some (a == b)
  | .str a, .str b => some (a == b)
  | _, _ => none
 | n + 1, d, e => match d, e with
  | .non, .non => some true
  | .bl a, .bl b => some (a == b)
  | .int a, .int b => some (a == b)
  | .str a, .str b => some (a == b)
  | .tup l, .tup m => (allZ (eqG n) l m).map (· && (l.length == m.length))
  | .lst l, .lst m => if l.length = m.length then allZ (eqG n) l m else some false
  | _, _ => none
section
variable {X : Cx} {pins : List (Addr × Obj)} {σ : St} {H : Hp} {s : Shared}
theorem all_range {n : Nat} {e : Nat → Bool} (h : ∀ j, j < n → e j = true) : (List.range n).all e = true := List.all_eq_true.2 fun j hj => h j (List.mem_range.1 hj)
theorem eqG_self (I : Inv X pins σ H s) : ∀ (n : Nat) {d e : D} {x : V} {b : Bool}, eqG n d e = some b → Is X.K H x d → Is X.K H x e → b = true := by
 intro n
 induction n with
 | zero =>
  intro d e x b h hx hy
  unfold eqG at h
  split at h
  ·cases h; rfl
  ·rw [hx.bl_inv] at hy; cases hy; cases h; simp
  ·rw [hx.int_inv] at hy; cases hy; cases h; simp
  ·rw [hx.str_inv] at hy; cases hy; cases h; simp
  ·cases h
 | succ n ih =>
  intro d e x b h hx hy
  unfold eqG at h
  have items : ∀ {xs : List V} {l m : List D} {b : Bool}, allZ (eqG n) l m = some b → IsL X.K H xs l → IsL X.K H xs m → b = true := fun {xs l m b} ha hl hm => by
   obtain ⟨e, k, rfl⟩ := allZ_at ha
   refine all_range fun j hj => ?_
   have h1 : j < l.length := by omega
   have h2 : j < m.length := by omega
   obtain ⟨x, hx1, hx2⟩ := hl.get (List.getElem?_eq_getElem h1)
   obtain ⟨y, hy1, hy2⟩ := hm.get (List.getElem?_eq_getElem h2)
   rw [hx1] at hy1
   cases hy1
   exact ih (k j _ _ (List.getElem?_eq_getElem h1) (List.getElem?_eq_getElem h2)) hx2 hy2
  split at h
  ·cases h; rfl
  ·rw [hx.bl_inv] at hy; cases hy; cases h; simp
  ·rw [hx.int_inv] at hy; cases hy; cases h; simp
  ·rw [hx.str_inv] at hy; cases hy; cases h; simp
  ·rename_i l m
   cases ha : allZ (eqG n) l m with
   | none => rw [ha] at h; cases h
   | some b' =>
    rw [ha] at h
    cases h
    obtain ⟨a, xs, rfl, h1, h2⟩ := hx.tup_inv
    obtain ⟨a', ys, e, g1, g2⟩ := hy.tup_inv
    cases e
    obtain rfl := I.tuple_inj h1 g1
    rw [items ha h2 g2]
    have e3 := h2.len; have e4 := g2.len
    simp; omega
  ·rename_i l m
   obtain ⟨a, xs, rfl, h1, h2⟩ := hx.lst_inv
   obtain ⟨a', ys, e, g1, g2⟩ := hy.lst_inv
   cases e
   obtain rfl := I.list_inj h1 g1
   have e3 := h2.len; have e4 := g2.len
   rw [if_pos (by omega)] at h
   exact items h h2 g2
  ·cases h
theorem eq_itemsG {A : Around} {xs ys : List V} {its its2 : List Value} {l m : List D} {e : Nat → Bool} (rx : Vals xs its) (ry : Vals ys its2) (hx : IsL X.K H xs l) (hy : IsL X.K H ys m)
  (k : ∀ {x y : V} {u v : Value} {d d' : D} {j : Nat}, l[j]? = some d → m[j]? = some d' → Is X.K H x d → Is X.K H y d' → RelV x u → RelV y v → SeqAt.EqAt A.in1 s u v (e j)) :
  ∀ j (h1 : j < its.toArray.size) (h2 : j < its2.toArray.size), SeqAt.EqAt A.in1 s its.toArray[j] its2.toArray[j] (e j) := by
 intro j h1 h2
 have e1 : j < xs.length := by rw [rx.length]; simpa using h1
 have e2 : j < ys.length := by rw [ry.length]; simpa using h2
 have el : j < l.length := by rw [← hx.len]; exact e1
 have em : j < m.length := by rw [← hy.len]; exact e2
 obtain ⟨x, hx1, hx2⟩ := hx.get (i := j) (d := l[j]) (List.getElem?_eq_getElem el)
 obtain ⟨y, hy1, hy2⟩ := hy.get (i := j) (d := m[j]) (List.getElem?_eq_getElem em)
 obtain ⟨u, hu, ru⟩ := rx.get hx1
 obtain ⟨v, hv, rv⟩ := ry.get hy1
 have g1 : its.toArray[j] = u := by
  have : its[j]? = some its[j] := List.getElem?_eq_getElem (by simpa using h1)
  rw [hu] at this
  simpa using (Option.some.inj this).symm
 have g2 : its2.toArray[j] = v := by
  have : its2[j]? = some its2[j] := List.getElem?_eq_getElem (by simpa using h2)
  rw [hv] at this
  simpa using (Option.some.inj this).symm
 rw [g1, g2]
 exact k (List.getElem?_eq_getElem el) (List.getElem?_eq_getElem em) hx2 hy2 ru rv
theorem eqAt_gen (I : Inv X pins σ H s) : ∀ (n : Nat) {A : Around} {d d' : D} {x y : V} {u v : Value} {b : Bool}, eqG n d d' = some b → A.units + n < cLine → Is X.K H x d → Is X.K H y d' → RelV x u → RelV y v → SeqAt.EqAt A s u v b := by
 intro n
 induction n with
 | zero =>
  intro A d d' x y u v b h hu hx hy ru rv
  unfold eqG at h
  split at h
  ·cases h; rw [hx.non_inv] at ru; rw [hy.non_inv] at rv; cases ru; cases rv; exact SeqAt.EqAt.same _
  ·cases h; rw [hx.bl_inv] at ru; rw [hy.bl_inv] at rv; cases ru; cases rv; exact SeqAt.EqAt.bool_bool _ _
  ·cases h; rw [hx.int_inv] at ru; rw [hy.int_inv] at rv; obtain ⟨t, rfl⟩ := ru; obtain ⟨t', rfl⟩ := rv; exact SeqAt.EqAt.int_int _ _ _ _
  ·cases h; rw [hx.str_inv] at ru; rw [hy.str_inv] at rv; obtain ⟨t, rfl⟩ := ru; obtain ⟨t', rfl⟩ := rv; exact SeqAt.EqAt.str_str _ _ _ _
  ·cases h
 | succ n ih =>
  intro A d d' x y u v b h hu hx hy ru rv
  have hself := fun (e : x = y) => eqG_self I (n + 1) h hx (e ▸ hy)
  unfold eqG at h
  split at h
  ·cases h; rw [hx.non_inv] at ru; rw [hy.non_inv] at rv; cases ru; cases rv; exact SeqAt.EqAt.same _
  ·cases h; rw [hx.bl_inv] at ru; rw [hy.bl_inv] at rv; cases ru; cases rv; exact SeqAt.EqAt.bool_bool _ _
  ·cases h; rw [hx.int_inv] at ru; rw [hy.int_inv] at rv; obtain ⟨t, rfl⟩ := ru; obtain ⟨t', rfl⟩ := rv; exact SeqAt.EqAt.int_int _ _ _ _
  ·cases h; rw [hx.str_inv] at ru; rw [hy.str_inv] at rv; obtain ⟨t, rfl⟩ := ru; obtain ⟨t', rfl⟩ := rv; exact SeqAt.EqAt.str_str _ _ _ _
  ·rename_i l m
   cases ha : allZ (eqG n) l m with
   | none => rw [ha] at h; cases h
   | some b' =>
    rw [ha] at h
    cases h
    obtain ⟨e, k, rfl⟩ := allZ_at ha
    obtain ⟨a, xs, rfl, h1, h2⟩ := hx.tup_inv
    obtain ⟨a', ys, rfl, g1, g2⟩ := hy.tup_inv
    cases ru; cases rv
    by_cases hab : a = a'
    ·subst hab; rw [hself rfl]; exact SeqAt.EqAt.same _
    ·obtain ⟨its, r1, p1, _⟩ := I.tuple h1
     obtain ⟨its2, r2, p2, _⟩ := I.tuple g1
     refine SeqAt.EqAt.of_refs hab ?_
     have := SeqAt.RcAt.tuples (A := A) (e := e) p1 p2 (by omega) (eq_itemsG r1 r2 h2 g2 fun hi hj hx hy ru rv => ih (A := A.in1) (k _ _ _ hi hj) (by show A.units + 1 + n < cLine; omega) hx hy ru rv)
     have s1 : its.toArray.size = l.length := by have e1 := r1.length; have e3 := h2.len; simp; omega
     have s2 : its2.toArray.size = m.length := by have e1 := r2.length; have e3 := g2.len; simp; omega
     rwa [s1, s2] at this
  ·rename_i l m
   obtain ⟨a, xs, rfl, h1, h2⟩ := hx.lst_inv
   obtain ⟨a', ys, rfl, g1, g2⟩ := hy.lst_inv
   cases ru; cases rv
   by_cases hab : a = a'
   ·subst hab; rw [hself rfl]; exact SeqAt.EqAt.same _
   ·obtain ⟨its, r1, p1, _⟩ := I.list h1
    obtain ⟨its2, r2, p2, _⟩ := I.list g1
    have s1 : its.toArray.size = l.length := by have e1 := r1.length; have e3 := h2.len; simp; omega
    have s2 : its2.toArray.size = m.length := by have e1 := r2.length; have e3 := g2.len; simp; omega
    refine SeqAt.EqAt.of_refs hab ?_
    split at h
    ·rename_i hlm
     obtain ⟨e, k, rfl⟩ := allZ_at h
     have := SeqAt.RcAt.lists (A := A) (e := e) p1.isList p2.isList (by omega) (by omega) (eq_itemsG r1 r2 h2 g2 fun hi hj hx hy ru rv => ih (A := A.in1) (k _ _ _ hi hj) (by show A.units + 1 + n < cLine; omega) hx hy ru rv)
     rw [s1] at this
     rwa [show min l.length m.length = l.length by omega]
    ·rename_i hlm
     cases h
     exact SeqAt.RcAt.lists_lengths p1.isList p2.isList (by rw [s1, s2]; simpa using hlm) (by omega)
  ·cases h
noncomputable def rEqG (K : PySem.W.Frag) (neg : Bool) : R2 := fun x y H Q => ∃ (d e : D) (b : Bool), (∃ l m, (d = .tup l ∧ e = .tup m) ∨ (d = .lst l ∧ e = .lst m)) ∧ Is K H x d ∧ Is K H y e ∧ eqG 40 d e = some b ∧ Q (.bl (neg != b)) H
theorem op_eqG {k : Nat} {K : PySem.W.Frag} (hr : Room k X.A) (hK : X.K = K := by rfl) : OpR X (compareOp .Eq) (rEqG K false) := by
 subst hK
 intro pins s σ H x y v u Q I rx ry h
 obtain ⟨d, e, b, ⟨l, m, hd⟩, hx, hy, hb, q⟩ := h
 have hu : X.A.units + 41 < cLine := Nat.lt_of_le_of_lt (by omega) hr.units
 rw [show (false != b) = b by cases b <;> rfl] at q
 unfold eqG at hb
 rcases hd with ⟨rfl, rfl⟩ | ⟨rfl, rfl⟩
 ·dsimp only at hb
  cases ha : allZ (eqG 39) l m with
  | none => rw [ha] at hb; cases hb
  | some b' =>
   rw [ha] at hb
   cases hb
   obtain ⟨e, k, rfl⟩ := allZ_at ha
   obtain ⟨a, xs, rfl, h1, h2⟩ := hx.tup_inv
   obtain ⟨a', ys, rfl, g1, g2⟩ := hy.tup_inv
   cases rx; cases ry
   obtain ⟨its, r1, p1, _⟩ := I.tuple h1
   obtain ⟨its2, r2, p2, _⟩ := I.tuple g1
   have s1 : its.toArray.size = l.length := by have e1 := r1.length; have e3 := h2.len; simp; omega
   have s2 : its2.toArray.size = m.length := by have e1 := r2.length; have e3 := g2.len; simp; omega
   refine SeqAt.eq_tupleAt (e := e) p1 p2 (by omega) (eq_itemsG r1 r2 h2 g2 fun hi hj hx hy ru rv => eqAt_gen I 39 (A := X.A.in1) (k _ _ _ hi hj) (by show X.A.units + 1 + 39 < cLine; omega) hx hy ru rv) ?_
   rw [s1, s2]
   exact ⟨.bl _, H, I, rfl, q⟩
 ·dsimp only at hb
  obtain ⟨a, xs, rfl, h1, h2⟩ := hx.lst_inv
  obtain ⟨a', ys, rfl, g1, g2⟩ := hy.lst_inv
  cases rx; cases ry
  obtain ⟨its, r1, p1, _⟩ := I.list h1
  obtain ⟨its2, r2, p2, _⟩ := I.list g1
  have s1 : its.toArray.size = l.length := by have e1 := r1.length; have e3 := h2.len; simp; omega
  have s2 : its2.toArray.size = m.length := by have e1 := r2.length; have e3 := g2.len; simp; omega
  split at hb
  ·rename_i hlm
   obtain ⟨e, k, rfl⟩ := allZ_at hb
   refine SeqAt.eq_listAt (e := e) p1.isList p2.isList (by omega) (by omega) (eq_itemsG r1 r2 h2 g2 fun hi hj hx hy ru rv => eqAt_gen I 39 (A := X.A.in1) (k _ _ _ hi hj) (by show X.A.units + 1 + 39 < cLine; omega) hx hy ru rv) ?_
   rw [show min l.length m.length = l.length by omega] at q
   rw [s1]
   exact ⟨.bl _, H, I, rfl, q⟩
  ·rename_i hlm
   cases hb
   refine SeqAt.eq_list_lengthsAt p1.isList p2.isList (by rw [s1, s2]; simpa using hlm) (by omega) ?_
   exact ⟨.bl false, H, I, rfl, q⟩
theorem op_neG {k : Nat} {K : PySem.W.Frag} (hr : Room k X.A) (hK : X.K = K := by rfl) : OpR X (compareOp .NotEq) (rEqG K true) := by
 subst hK
 intro pins s σ H x y v u Q I rx ry h
 obtain ⟨d, e, b, ⟨l, m, hd⟩, hx, hy, hb, q⟩ := h
 have hu : X.A.units + 41 < cLine := Nat.lt_of_le_of_lt (by omega) hr.units
 rw [show (true != b) = !b by cases b <;> rfl] at q
 unfold eqG at hb
 rcases hd with ⟨rfl, rfl⟩ | ⟨rfl, rfl⟩
 ·dsimp only at hb
  cases ha : allZ (eqG 39) l m with
  | none => rw [ha] at hb; cases hb
  | some b' =>
   rw [ha] at hb
   cases hb
   obtain ⟨e, k, rfl⟩ := allZ_at ha
   obtain ⟨a, xs, rfl, h1, h2⟩ := hx.tup_inv
   obtain ⟨a', ys, rfl, g1, g2⟩ := hy.tup_inv
   cases rx; cases ry
   obtain ⟨its, r1, p1, _⟩ := I.tuple h1
   obtain ⟨its2, r2, p2, _⟩ := I.tuple g1
   have s1 : its.toArray.size = l.length := by have e1 := r1.length; have e3 := h2.len; simp; omega
   have s2 : its2.toArray.size = m.length := by have e1 := r2.length; have e3 := g2.len; simp; omega
   refine SeqAt.RcNeAt.tuples (e := e) p1 p2 (by omega) (eq_itemsG r1 r2 h2 g2 fun hi hj hx hy ru rv => eqAt_gen I 39 (A := X.A.in1) (k _ _ _ hi hj) (by show X.A.units + 1 + 39 < cLine; omega) hx hy ru rv) _ _ _ _ ?_
   rw [s1, s2]
   exact ⟨.bl _, H, I, rfl, q⟩
 ·dsimp only at hb
  obtain ⟨a, xs, rfl, h1, h2⟩ := hx.lst_inv
  obtain ⟨a', ys, rfl, g1, g2⟩ := hy.lst_inv
  cases rx; cases ry
  obtain ⟨its, r1, p1, _⟩ := I.list h1
  obtain ⟨its2, r2, p2, _⟩ := I.list g1
  have s1 : its.toArray.size = l.length := by have e1 := r1.length; have e3 := h2.len; simp; omega
  have s2 : its2.toArray.size = m.length := by have e1 := r2.length; have e3 := g2.len; simp; omega
  split at hb
  ·rename_i hlm
   obtain ⟨e, k, rfl⟩ := allZ_at hb
   refine SeqAt.RcNeAt.lists (e := e) p1.isList p2.isList (by omega) (by omega) (eq_itemsG r1 r2 h2 g2 fun hi hj hx hy ru rv => eqAt_gen I 39 (A := X.A.in1) (k _ _ _ hi hj) (by show X.A.units + 1 + 39 < cLine; omega) hx hy ru rv) _ _ _ _ ?_
   rw [show min l.length m.length = l.length by omega] at q
   rw [s1]
   exact ⟨.bl _, H, I, rfl, q⟩
  ·rename_i hlm
   cases hb
   refine SeqAt.RcNeAt.lists_lengths p1.isList p2.isList (by rw [s1, s2]; simpa using hlm) (by omega) _ _ _ _ ?_
   exact ⟨.bl true, H, I, rfl, q⟩
end
end L2
namespace L2
open PySem PySem.Spec PyProof.Rows PySem.Calls PySem.W
section
variable {cmp : Nat → Nat → (Bool → Shared → Prop) → Shared → Prop} {r : Nat → Int} {n : Nat} {s : Shared}
noncomputable def Kr (r : Nat → Int) (p : Array Nat) (i : Nat) : Int := r (p.getD i 0)
theorem kr_congr {p q : Array Nat} {i j : Nat} (h : p[i]? = q[j]?) : Kr r p i = Kr r q j := by
 unfold Kr
 rw [Array.getD_eq_getD_getElem?, Array.getD_eq_getD_getElem?, h]
noncomputable def PmN (n : Nat) (p : Array Nat) : Prop := p.Perm (List.toArray (List.range n))
theorem PmN.size {p : Array Nat} (h : PmN n p) : p.size = n := by
 have := Array.Perm.size_eq h
 simpa using this
theorem PmN.lt {p : Array Nat} (h : PmN n p) {i : Nat} (hi : i < n) : p.getD i 0 < n := by
 have hs := h.size
 have hi' : i < p.size := by omega
 have e : p.getD i 0 = p[i] := by simp [Array.getD, hi']
 rw [e]
 have := (Array.Perm.mem_iff h).1 (Array.getElem_mem hi')
 simpa using this
theorem PmN.ne {p : Array Nat} (h : PmN n p) {i j : Nat} (hi : i < n) (hj : j < n) (hij : i ≠ j) : p.getD i 0 ≠ p.getD j 0 := by
 have hs := h.size
 have hi' : i < p.size := by omega
 have hj' : j < p.size := by omega
 have nd : p.toList.Nodup := by
  have := Array.Perm.toList h
  exact (this.nodup_iff).2 (by simpa using List.nodup_range)
 rw [show p.getD i 0 = p.toList[i]'(by simpa using hi') by simp [Array.getD, hi'], show p.getD j 0 = p.toList[j]'(by simpa using hj') by simp [Array.getD, hj']]
 intro z
 have nd := List.pairwise_iff_getElem.1 nd
 rcases Nat.lt_or_gt_of_ne hij with h1 | h1
 ·exact nd i j (by simpa using hi') (by simpa using hj') h1 z
 ·exact nd j i (by simpa using hj') (by simpa using hi') h1 z.symm
theorem PmN.rev {p : Array Nat} (h : PmN n p) (i j : Nat) : PmN n (kas_rev p i j) := (mirror_perm _ _ _ _).trans h
theorem PmN.bub {p : Array Nat} (h : PmN n p) (k d : Nat) : PmN n (bubble p k d) := (bubble_perm _ _ _).trans h
theorem kr_rev {p : Array Nat} {i j : Nat} (hj : j ≤ p.size) (k : Nat) : Kr r (kas_rev p i j) k = if i ≤ k ∧ k < j then Kr r p (i + j - 1 - k) else Kr r p k := by
 have e := getElem?_mirror_all (xs := p) (i := i) hj k
 unfold kas_rev
 by_cases h1 : i ≤ k ∧ k < j
 ·rw [if_pos h1] at e ⊢; exact kr_congr e
 ·rw [if_neg h1] at e ⊢; exact kr_congr e
theorem kr_bub {p : Array Nat} {src d : Nat} (hs : src < p.size) (hd : d ≤ src) (k : Nat) : Kr r (bubble p src d) k = if k = src - d then Kr r p src else if src - d < k ∧ k ≤ src then Kr r p (k - 1) else Kr r p k := by
 have e := getElem?_bubble hs d hd k
 by_cases h1 : k = src - d
 ·rw [if_pos h1] at e ⊢; exact kr_congr e
 ·rw [if_neg h1] at e ⊢
  by_cases h2 : src - d < k ∧ k ≤ src
  ·rw [if_pos h2] at e ⊢; exact kr_congr e
  ·rw [if_neg h2] at e ⊢; exact kr_congr e
theorem kr_rev_eq {p : Array Nat} {i j : Nat} (hj : j ≤ p.size) (he : ∀ k, i ≤ k → k < j → Kr r p k = Kr r p (j - 1)) (k : Nat) : Kr r (kas_rev p i j) k = Kr r p k := by
 rw [kr_rev hj]
 split
 ·rename_i h
  rw [he _ (by omega) (by omega), he k h.1 h.2]
 ·rfl
theorem asc_wp (hc : ∀ i j C, i < n → j < n → i ≠ j → C (decide (r i < r j)) s → cmp i j C s) {p : Array Nat} (hp : PmN n p) {Q : Nat → Shared → Prop} : ∀ (f k : Nat), 1 ≤ k → k + f = n →
  (∀ m, k ≤ m → m ≤ n → (∀ i, k ≤ i → i < m → Kr r p (i - 1) ≤ Kr r p i) → (m < n → Kr r p m < Kr r p (m - 1)) → Q m s) → (kas_asc p f k).kasWp cmp Q s
 | 0, k, h1, hk, q => q k (Nat.le_refl _) (by omega) (fun i a b => by omega) (fun z => by omega)
 | f + 1, k, h1, hk, q => by
  unfold kas_asc
  refine hc _ _ _ (hp.lt (by omega)) (hp.lt (by omega)) (hp.ne (by omega) (by omega) (by omega)) ?_
  by_cases h : Kr r p k < Kr r p (k - 1)
  ·rw [show decide (r (p.getD k 0) < r (p.getD (k - 1) 0)) = true from decide_eq_true h]; dsimp only; rw [if_pos rfl]
   exact q k (Nat.le_refl _) (by omega) (fun i a b => by omega) (fun _ => h)
  ·rw [show decide (r (p.getD k 0) < r (p.getD (k - 1) 0)) = false from decide_eq_false h]; dsimp only; rw [if_neg (by simp)]
   refine asc_wp hc hp f (k + 1) (by omega) (by omega) fun m a b c d => q m (by omega) b (fun i e g => ?_) d
   by_cases hi : i = k
   ·subst hi; omega
   ·exact c i (by omega) g
theorem desc_wp (hc : ∀ i j C, i < n → j < n → i ≠ j → C (decide (r i < r j)) s → cmp i j C s) {Q : Array Nat × Nat × Nat → Shared → Prop} : ∀ (f : Nat) (p : Array Nat) (k q : Nat), PmN n p → 1 ≤ k → k + f = n → (∀ i, 1 ≤ i → i < k → Kr r p i ≤ Kr r p (i - 1)) → (∀ i, k - (q + 1) ≤ i → i < k → Kr r p i = Kr r p (k - 1)) → q + 1 ≤ k →
  (∀ p' k' q', PmN n p' → 1 ≤ k' → k' ≤ n → (∀ i, 1 ≤ i → i < k' → Kr r p' i ≤ Kr r p' (i - 1)) → (∀ i, k' - (q' + 1) ≤ i → i < k' → Kr r p' i = Kr r p' (k' - 1)) → q' + 1 ≤ k' → Q (p', k', q') s) → (kas_desc f p k q).kasWp cmp Q s
 | 0, p, k, q, hp, h1, hk, hd, he, hq, h => h p k q hp h1 (by omega) hd he hq
 | f + 1, p, k, q, hp, h1, hk, hd, he, hq, h => by
  unfold kas_desc
  refine hc _ _ _ (hp.lt (by omega)) (hp.lt (by omega)) (hp.ne (by omega) (by omega) (by omega)) ?_
  by_cases h2 : Kr r p k < Kr r p (k - 1)
  ·rw [show decide (r (p.getD k 0) < r (p.getD (k - 1) 0)) = true from decide_eq_true h2]; dsimp only; rw [if_pos rfl]
   split
   ·have hs := hp.size
    have ek := kr_rev_eq (r := r) (p := p) (i := k - (q + 1)) (j := k) (by omega) he
    refine desc_wp hc f _ (k + 1) 0 (hp.rev _ _) (by omega) (by omega) (fun i a b => ?_) (fun i a b => ?_) (by omega) h
    ·rw [ek, ek]
     by_cases hi : i = k
     ·subst hi; omega
     ·exact hd i a (by omega)
    ·have : i = k := by omega
     subst this
     simp
   ·refine desc_wp hc f _ (k + 1) 0 hp (by omega) (by omega) (fun i a b => ?_) (fun i a b => ?_) (by omega) h
    ·by_cases hi : i = k
     ·subst hi; omega
     ·exact hd i a (by omega)
    ·have : i = k := by omega
     subst this
     simp
  ·rw [show decide (r (p.getD k 0) < r (p.getD (k - 1) 0)) = false from decide_eq_false h2]; dsimp only; rw [if_neg (by simp)]
   refine hc _ _ _ (hp.lt (by omega)) (hp.lt (by omega)) (hp.ne (by omega) (by omega) (by omega)) ?_
   by_cases h3 : Kr r p (k - 1) < Kr r p k
   ·rw [show decide (r (p.getD (k - 1) 0) < r (p.getD k 0)) = true from decide_eq_true h3]; dsimp only; rw [if_pos rfl]
    exact h p k q hp h1 (by omega) hd he hq
   ·rw [show decide (r (p.getD (k - 1) 0) < r (p.getD k 0)) = false from decide_eq_false h3]; dsimp only; rw [if_neg (by simp)]
    refine desc_wp hc f _ (k + 1) (q + 1) hp (by omega) (by omega) (fun i a b => ?_) (fun i a b => ?_) (by omega) h
    ·by_cases hi : i = k
     ·subst hi; omega
     ·exact hd i a (by omega)
    ·rw [show k + 1 - 1 = k by omega]
     by_cases hi : i = k
     ·rw [hi]
     ·have := he i (by omega) (by omega)
      omega
noncomputable def AscTo (r : Nat → Int) (p : Array Nat) (m : Nat) : Prop := ∀ i, 1 ≤ i → i < m → Kr r p (i - 1) ≤ Kr r p i
theorem tail3_wp (hc : ∀ i j C, i < n → j < n → i ≠ j → C (decide (r i < r j)) s → cmp i j C s) {Q : Nat × Array Nat → Shared → Prop} {p : Array Nat} {k : Nat} (hp : PmN n p) (h1 : 1 ≤ k) (hk : k ≤ n) (hd : ∀ i, 1 ≤ i → i < k → Kr r p i ≤ Kr r p (i - 1))
  (h : ∀ m p', PmN n p' → 1 ≤ m → m ≤ n → AscTo r p' m → Q (m, p') s) : (kas_tail3 k n p).kasWp cmp Q s := by
 unfold kas_tail3
 rw [KasT.kasWp_bind]
 have hs := hp.size
 refine asc_wp hc (hp.rev 0 k) _ k h1 (by omega) fun m a b c _ => ?_
 refine h m _ (hp.rev 0 k) (by omega) b fun i e g => ?_
 by_cases hi : i < k
 ·rw [kr_rev (by omega), kr_rev (by omega), if_pos (by omega), if_pos (by omega)]
  have := hd (0 + k - 1 - (i - 1)) (by omega) (by omega)
  rw [show 0 + k - 1 - (i - 1) - 1 = 0 + k - 1 - i by omega] at this
  exact this
 ·exact c i (by omega) g
theorem descPart_wp (hc : ∀ i j C, i < n → j < n → i ≠ j → C (decide (r i < r j)) s → cmp i j C s) {Q : Nat × Array Nat → Shared → Prop} {p : Array Nat} {k : Nat} (hp : PmN n p) (h1 : 1 ≤ k) (hk : k < n) (hd : ∀ i, 1 ≤ i → i < k + 1 → Kr r p i ≤ Kr r p (i - 1))
  (h : ∀ m p', PmN n p' → 1 ≤ m → m ≤ n → AscTo r p' m → Q (m, p') s) : (kas_descPart k n p).kasWp cmp Q s := by
 unfold kas_descPart
 rw [KasT.kasWp_bind]
 have h0 : ∀ i, k + 1 - (0 + 1) ≤ i → i < k + 1 → Kr r p i = Kr r p (k + 1 - 1) := fun i a b => by
  have : i = k := by omega
  subst this
  simp
 refine desc_wp hc (n - (k + 1)) p (k + 1) 0 hp (by omega) (by omega) hd h0 (by omega) fun p' k' q' a b c d e g => ?_
 dsimp only
 have hs := a.size
 split
 ·have ek := kr_rev_eq (r := r) (p := p') (i := k' - (q' + 1)) (j := k') (by omega) e
  exact tail3_wp hc (a.rev _ _) b c (fun i x y => by rw [ek, ek]; exact d i x y) h
 ·exact tail3_wp hc a b c d h
theorem asc_all {p : Array Nat} {m : Nat} (h : AscTo r p m) : ∀ (d i : Nat), i + d < m → Kr r p i ≤ Kr r p (i + d)
 | 0, i, _ => Int.le_refl _
 | d + 1, i, hd => by
  have h1 := asc_all h d i (by omega)
  have h2 := h (i + d + 1) (by omega) (by omega)
  rw [show i + d + 1 - 1 = i + d by omega] at h2
  exact Int.le_trans h1 h2
theorem asc_le {p : Array Nat} {m i j : Nat} (h : AscTo r p m) (hij : i ≤ j) (hj : j < m) : Kr r p i ≤ Kr r p j := by
 have := asc_all h (j - i) i (by omega)
 rwa [show i + (j - i) = j by omega] at this
theorem count_wp (hc : ∀ i j C, i < n → j < n → i ≠ j → C (decide (r i < r j)) s → cmp i j C s) {Q : Nat × Array Nat → Shared → Prop} {p : Array Nat} (hp : PmN n p) (h1 : 1 ≤ n)
  (h : ∀ m p', PmN n p' → 1 ≤ m → m ≤ n → AscTo r p' m → Q (m, p') s) : (kas_count n p).kasWp cmp Q s := by
 unfold kas_count
 rw [KasT.kasWp_bind]
 refine asc_wp hc hp _ 1 (by omega) (by omega) fun m a b c d => ?_
 have hs := hp.size
 by_cases hm : m = n
 ·subst hm
  rw [if_pos (by simp)]
  exact h m p hp a b c
 ·rw [if_neg (by simpa using hm)]
  have hd := d (by omega)
  by_cases h2 : m > 1
  ·rw [if_pos h2]
   refine hc _ _ _ (hp.lt (by omega)) (hp.lt (by omega)) (hp.ne (by omega) (by omega) (by omega)) ?_
   by_cases h3 : Kr r p 0 < Kr r p (m - 1)
   ·rw [show decide (r (p.getD 0 0) < r (p.getD (m - 1) 0)) = true from decide_eq_true h3]; dsimp only; rw [if_pos rfl]
    exact h m p hp a b c
   ·rw [show decide (r (p.getD 0 0) < r (p.getD (m - 1) 0)) = false from decide_eq_false h3]; dsimp only; rw [if_neg (by simp)]
    have he : ∀ i, 0 ≤ i → i < m → Kr r p i = Kr r p (m - 1) := fun i _ hi => by
     have e1 := asc_le (r := r) c (show 0 ≤ i by omega) hi
     have e2 := asc_le (r := r) c (show i ≤ m - 1 by omega) (by omega)
     omega
    have ek := kr_rev_eq (r := r) (p := p) (i := 0) (j := m) (by omega) he
    refine descPart_wp hc (hp.rev _ _) (by omega) (by omega) (fun i x y => ?_) h
    rw [ek, ek]
    by_cases hi : i = m
    ·subst hi; omega
    ·rw [he i (by omega) (by omega), he (i - 1) (by omega) (by omega)]
     exact Int.le_refl _
  ·rw [if_neg h2]
   refine descPart_wp hc hp (by omega) (by omega) (fun i x y => ?_) h
   have : i = m := by omega
   subst this
   omega
theorem place_wp (hc : ∀ i j C, i < n → j < n → i ≠ j → C (decide (r i < r j)) s → cmp i j C s) {Q : Nat → Shared → Prop} {p : Array Nat} {k : Nat} (hp : PmN n p) (hk : k < n) (ha : AscTo r p k) : ∀ (f lo hi : Nat), lo ≤ hi → hi ≤ k → hi - lo ≤ f → (∀ i, i < lo → Kr r p i ≤ Kr r p k) → (∀ i, hi ≤ i → i < k → Kr r p k < Kr r p i) →
  (∀ l, l ≤ k → (∀ i, i < l → Kr r p i ≤ Kr r p k) → (∀ i, l ≤ i → i < k → Kr r p k < Kr r p i) → Q l s) → (kas_place p k f lo hi).kasWp cmp Q s
 | 0, lo, hi, h1, h2, h3, hl, hh, q => by
  have : lo = hi := by omega
  subst this
  exact q lo h2 hl hh
 | f + 1, lo, hi, h1, h2, h3, hl, hh, q => by
  unfold kas_place
  split
  ·have : lo = hi := by omega
   subst this
   exact q lo h2 hl hh
  ·rename_i hlt
   have m1 : lo ≤ (lo + hi) / 2 := by omega
   have m2 : (lo + hi) / 2 < hi := by omega
   refine hc _ _ _ (hp.lt (by omega)) (hp.lt (by omega)) (hp.ne (by omega) (by omega) (by omega)) ?_
   by_cases h4 : Kr r p k < Kr r p ((lo + hi) / 2)
   ·rw [show decide (r (p.getD k 0) < r (p.getD ((lo + hi) / 2) 0)) = true from decide_eq_true h4]; dsimp only; rw [if_pos rfl]
    refine place_wp hc hp hk ha f lo _ m1 (by omega) (by omega) hl (fun i a b => ?_) q
    have := asc_le ha a b
    omega
   ·rw [show decide (r (p.getD k 0) < r (p.getD ((lo + hi) / 2) 0)) = false from decide_eq_false h4]; dsimp only; rw [if_neg (by simp)]
    refine place_wp hc hp hk ha f _ hi (by omega) h2 (by omega) (fun i a => ?_) hh q
    have := asc_le ha (show i ≤ (lo + hi) / 2 by omega) (by omega)
    omega
theorem bin_wp (hc : ∀ i j C, i < n → j < n → i ≠ j → C (decide (r i < r j)) s → cmp i j C s) {Q : Array Nat → Shared → Prop} : ∀ (f : Nat) (p : Array Nat) (k : Nat), PmN n p → k + f = n → AscTo r p k → (∀ p', PmN n p' → AscTo r p' n → Q p' s) → (kas_bin f p k).kasWp cmp Q s
 | 0, p, k, hp, hk, ha, h => by
  have : k = n := by omega
  subst this
  exact h p hp ha
 | f + 1, p, k, hp, hk, ha, h => by
  unfold kas_bin
  rw [KasT.kasWp_bind]
  have hs := hp.size
  refine place_wp hc hp (by omega) ha k 0 k (by omega) (Nat.le_refl _) (by omega) (fun i a => by omega) (fun i a b => by omega) fun l a b c => ?_
  refine bin_wp hc f _ (k + 1) (hp.bub _ _) (by omega) (fun i x y => ?_) h
  have e := fun j => kr_bub (r := r) (p := p) (src := k) (d := k - l) (by omega) (by omega) j
  rw [e, e, show k - (k - l) = l by omega]
  by_cases h1 : i - 1 = l
  ·rw [if_pos h1, if_neg (by omega), if_pos (by omega)]
   have := c (i - 1) (by omega) (by omega)
   omega
  ·rw [if_neg h1]
   by_cases h2 : i = l
   ·rw [if_neg (by omega), if_pos h2]
    exact b (i - 1) (by omega)
   ·rw [if_neg h2]
    by_cases h3 : l < i
    ·rw [if_pos (show l < i - 1 ∧ i - 1 ≤ k by omega), if_pos (show l < i ∧ i ≤ k by omega)]
     exact ha (i - 1) (by omega) (by omega)
    ·rw [if_neg (by omega), if_neg (by omega)]
     exact ha i x (by omega)
theorem sort_wp (hc : ∀ i j C, i < n → j < n → i ≠ j → C (decide (r i < r j)) s → cmp i j C s) {Q : Array Nat → Shared → Prop} (h1 : 1 ≤ n) (h : ∀ p, PmN n p → AscTo r p n → Q p s) : (kas_sort n).kasWp cmp Q s := by
 unfold kas_sort
 rw [KasT.kasWp_bind]
 refine count_wp hc (Array.Perm.refl _) h1 fun m p a b c d => ?_
 dsimp only
 split
 ·rw [show max m 1 = m by omega]
  exact bin_wp hc _ p m a (by omega) d h
 ·have : m = n := by omega
  subst this
  exact h p a d
end
end L2
namespace L2
open PySem PySem.Spec PyProof.Rows PySem.Calls PySem.W
section
variable {prog : Program} {w : World} {A : Around} {E : Value → Shared → Prop} {s : Shared}
noncomputable def Asks (prog : Program) (w : World) (A : Around) (r : Nat → Int) (vs : List Value) (s : Shared) : Prop :=
 ∃ κ, (∀ Q : SortKind → Shared → Prop, Q κ s → wpAny (model prog w) A (keyKind' vs.toArray) Q (fun _ _ => False) s) ∧ ∀ i j C, i < vs.length → j < vs.length → i ≠ j → C (decide (r i < r j)) s → kas_ask prog w A κ vs i j C s
theorem out_short : ∀ (vs : List Value), vs.length < 2 → List.toArray ((List.toArray (List.range vs.length)).toList.map fun i => vs.getD i Value.none) = (vs.toArray.zip vs.toArray).map (·.2)
 | [], _ => by simp
 | [v], _ => by
  apply Array.toList_inj.1
  simp [List.range_succ]
 | _ :: _ :: _, h => by simp at h; omega
theorem lsort_any {a : Addr} {vs : List Value} {n : Nat} {P : PySem.Fin → Shared → Prop} (r : Nat → Int) (at0 : s.heap.get? a = some (seqObj "list" vs.toArray n)) (few : vs.length < 64)
  (hk : 2 ≤ vs.length → ∀ g : Heap, (∀ b o, b ≠ a → s.heap.get? b = some o → g.get? b = some o) → Asks prog w A r vs { s with heap := g })
  (fin : ∀ p, PmN vs.length p → AscTo r p vs.length → P (.done (.ret .none)) { s with heap := sortedHeap s.heap a vs (List.toArray (p.toList.map fun i => vs.getD i Value.none)) }) :
  wpAny (model prog w) A (Builtin.«list.sort» ⟨[.ref a], []⟩) P E s := by
 have lt := Heap.lt_size at0
 have hz : vs.toArray.size = vs.length := by simp
 obtain ⟨e1, at1⟩ : ∃ c, (s.heap.update a (Obj.mapSeq fun _ => (#[] : Array Value))).get? a = some (seqObj "list" #[] c) := ⟨_, get?_update_seq at0 fun _ => #[]⟩
 have old : ∀ b o, b ≠ a → s.heap.get? b = some o → (((s.heap.update a (Obj.mapSeq fun _ => (#[] : Array Value))).push (seqObj "tuple" vs.toArray 0)).push (seqObj "list" #[] 0)).get? b = some o := fun b o hb e =>
  Heap.get?_push_of_some _ (Heap.get?_push_of_some _ (by rw [Heap.get?_update_ne _ _ _ _ hb]; exact e))
 have at6 : (((s.heap.update a (Obj.mapSeq fun _ => (#[] : Array Value))).push (seqObj "tuple" vs.toArray 0)).push (seqObj "list" #[] 0)).get? a = some (seqObj "list" #[] e1) := Heap.get?_push_of_some _ (Heap.get?_push_of_some _ at1)
 rw [list_sort_plain]
 refine wpAny_bind (listItems_at at0 rfl (wpAny_bind (listUpdate_at at0 rfl (wpAny_bind (seqEpoch_at at1 rfl (wpAny_bind (wpAny_newTuple (wpAny_bind (wpAny_newList (wpAny_holding ?_) (Nat.zero_le _))) (by show vs.length ≤ _; rw [sizeLine_eq]; omega))))) (by rw [hz, sizeLine_eq]; omega) (Nat.zero_le _))))
 show wpAny (model prog w) A _ P E { s with heap := (((s.heap.update a (Obj.mapSeq fun _ => (#[] : Array Value))).push (seqObj "tuple" vs.toArray 0)).push (seqObj "list" #[] 0)) }
 dsimp only
 by_cases two : vs.toArray.size < 2
 ·rw [if_pos two, if_pos two]
  refine wpAny_bind (wpAny_pure ?_)
  rw [StateT.run_pure]
  refine wpAny_bind (wpAny_pure ?_)
  dsimp only
  refine wpAny_bind (seqEpoch_at at6 rfl (wpAny_bind (listUpdate_at at6 rfl ?_ (hsz2 := by rw [Array.size_map]; show (pairsOf vs).size ≤ _; rw [pairsOf_size, sizeLine_eq]; omega))))
  simp only [bne_self_eq_false, Bool.false_eq_true, if_false]
  have := fin (List.toArray (List.range vs.length)) (Array.Perm.refl _) (fun i x y => by omega)
  have eo := out_short vs (by omega)
  rw [eo] at this
  exact wpAny_pure this
 ·rw [if_neg two, if_neg two]
  have h2 : 2 ≤ vs.length := by omega
  obtain ⟨κ, kd, ask⟩ := hk h2 _ old
  refine wpAny_bind (wpAny_mono (kd (fun k s' => k = κ ∧ s' = { s with heap := (((s.heap.update a (Obj.mapSeq fun _ => (#[] : Array Value))).push (seqObj "tuple" vs.toArray 0)).push (seqObj "list" #[] 0)) }) ⟨rfl, rfl⟩) ?_ fun _ _ z => z.elim)
  rintro _ _ ⟨rfl, rfl⟩
  have tree := sort_wp (cmp := kas_ask prog w A _ vs) (r := r) (n := vs.length) (s := { s with heap := (((s.heap.update a (Obj.mapSeq fun _ => (#[] : Array Value))).push (seqObj "tuple" vs.toArray 0)).push (seqObj "list" #[] 0)) })
   (Q := fun p s' => (PmN vs.length p ∧ AscTo r p vs.length) ∧ s' = { s with heap := (((s.heap.update a (Obj.mapSeq fun _ => (#[] : Array Value))).push (seqObj "tuple" vs.toArray 0)).push (seqObj "list" #[] 0)) }) ask (by omega) fun p x y => ⟨⟨x, y⟩, rfl⟩
  refine wpAny_bind (wpAny_mono (kat_run (Q := fun st' s' => ∃ p : Array Nat, arrOf st' = p.map (kas_item (vs.toArray.zip vs.toArray)) ∧ failedOf st' = none ∧ (PmN vs.length p ∧ AscTo r p vs.length) ∧ s' = { s with heap := (((s.heap.update a (Obj.mapSeq fun _ => (#[] : Array Value))).push (seqObj "tuple" vs.toArray 0)).push (seqObj "list" #[] 0)) })
   rfl h2 few (fun p' st' s' _ x y z => ⟨p', x, y, z⟩) tree) ?_ fun _ _ z => z)
  rintro ⟨⟨⟩, st'⟩ _ ⟨p, har, hf, ⟨pm, asc⟩, rfl⟩
  dsimp only
  have out := kat_snds (ks := vs) (vs := vs) rfl har
  have osz : (List.toArray (p.toList.map fun i => vs.getD i Value.none)).size = vs.length := by rw [List.size_toArray, List.length_map, Array.length_toList, pm.size]
  rw [out]
  refine wpAny_bind (seqEpoch_at at6 rfl (wpAny_bind (listUpdate_at at6 rfl ?_ (Nat.zero_le _) (by rw [osz, sizeLine_eq]; omega))))
  rw [hf]
  simp only [bne_self_eq_false, Bool.false_eq_true, if_false]
  exact wpAny_pure (fin p pm asc)
theorem sorted_any {l : Addr} {vs : List Value} {Q : Value → Shared → Prop} (r : Nat → Int) (hl : s.heap.IsList l vs.toArray) (few : vs.length < 64)
  (hk : 2 ≤ vs.length → ∀ g : Heap, (∀ b o, s.heap.get? b = some o → g.get? b = some o) → Asks prog w A.in1.in1 r vs { s with heap := g })
  (fin : ∀ p, PmN vs.length p → AscTo r p vs.length → Q (.ref (s.heap.objs.size + 1)) { s with heap := sortedAll s.heap vs (List.toArray (p.toList.map fun i => vs.getD i Value.none)) }) :
  wpAny (model prog w) A (call (.builtin "sorted") [.ref l]) Q E s := by
 refine call_function_entry kind_sorted plain_sorted entry_sorted (args_sorted1 _) ?_
 unfold Builtin.«sorted»
 refine wpAny_bind (m := checkCount "sorted" 1 1 _) (wpAny_pure (wpAny_bind (collect_list hl (wpAny_bind (wpAny_newList ?_ (by rw [sizeLine_eq]; omega))) (by rw [sizeLine_eq]; omega))))
 have z1 : ((s.heap.push (seqObj "list" #[] 0)).update s.heap.objs.size (Obj.mapSeq (· ++ vs.toArray))).objs.size = s.heap.objs.size + 1 := by rw [Heap.size_update, size_push']
 have at0 : (((s.heap.push (seqObj "list" #[] 0)).update s.heap.objs.size (Obj.mapSeq (· ++ vs.toArray))).push (seqObj "list" vs.toArray 0)).get? (s.heap.objs.size + 1) = some (seqObj "list" vs.toArray 0) := by rw [← z1]; exact Heap.get?_push_size _ rfl
 have old : ∀ b o, s.heap.get? b = some o → (((s.heap.push (seqObj "list" #[] 0)).update s.heap.objs.size (Obj.mapSeq (· ++ vs.toArray))).push (seqObj "list" vs.toArray 0)).get? b = some o := fun b o e => by
  have lt := Heap.lt_size e
  refine Heap.get?_push_of_some _ ?_
  rw [Heap.get?_update_ne _ _ _ _ (Nat.ne_of_lt lt)]
  exact Heap.get?_push_of_some _ e
 show wpAny _ _ _ _ _ { s with heap := (((s.heap.push (seqObj "list" #[] 0)).update s.heap.objs.size (Obj.mapSeq (· ++ vs.toArray))).push (seqObj "list" vs.toArray 0)) }
 rw [z1]
 refine wpAny_bind (wpAny_holding (wpAny_call_entry slot_list_sort ⟨_, at0, rfl⟩ entry_list_sort (lsort_any r at0 few (fun h2 g hg => hk h2 g fun b o e => hg b o (Nat.ne_of_lt (Nat.lt_succ_of_lt (Heap.lt_size e))) (old b o e)) fun p x y => ⟨_, rfl, ?_⟩) (args_list_sort _)))
 exact wpAny_pure ⟨_, rfl, fin p x y⟩
end
end L2
namespace L2
open PySem PySem.Spec PyProof.Rows PySem.Calls PySem.W
open PySem.AutoSeq1 (wpAny_loadPart')
open PySem.MeetsSeq PySem.MeetsSeq2 PySem.MeetsSeq3
theorem lt_firsts (l b : Addr) (items items2 : Array Value) (n n2 : Nat) (dd dd2 : Option Addr) (sl sl2 : Array (Option Value)) {i j : Int} {t u : Tok} (h1 : items[0]? = some (.int i t)) (h2 : items2[0]? = some (.int j u)) (hij : i ≠ j) :
  Meets (Builtin.«list.__lt__» ⟨[.ref l, .ref b], []⟩)
   (fun A R s => s.heap.get? l = some ⟨.type "list", dd, .seq items n, sl⟩ ∧ s.heap.get? b = some ⟨.type "list", dd2, .seq items2 n2, sl2⟩ ∧ R (.ok (.ret (.bool (decide (i < j))))) s) := by
 intro prog w A R s h
 obtain ⟨hp, g, d, tk, os⟩ := s
 obtain ⟨hl, hb, h⟩ := h
 have f3 := AutoSeq1.sub_list_list
 have k1 : items[((0 : Nat) : Int).toNat]? = some (.int i t) := h1
 have k2 : items2[((0 : Nat) : Int).toNat]? = some (.int j u) := h2
 have hne : (i == j) = false := by simpa using hij
 wp_walk using wpAny_loadPart' hl, wpAny_loadPart' hb
 refine ⟨plainId_quiet plain_eq_loop _, codeAny_builtin entry_eq_loop ?_⟩
 rw [Around.under_plainId plain_eq_loop _]
 wp_walk using wpAny_loadPart' hl, wpAny_loadPart' hb
 rw [show items[Int.toNat 0]? = some (.int i t) from h1, show items2[Int.toNat 0]? = some (.int j u) from h2]
 refine wpAny_bind (SeqAt.EqAt.int_int i t j u prog w _ _ ?_)
 rw [hne]
 wp_walk using wpAny_loadPart' hl, wpAny_loadPart' hb
 rw [show items[Int.toNat 0]? = some (.int i t) from h1, show items2[Int.toNat 0]? = some (.int j u) from h2]
 refine wpAny_bind (lt_int ?_)
 wp_walk
 exact h
section
variable {prog : Program} {w : World} {A : Around} {E : Value → Shared → Prop} {s : Shared}
theorem asc_id {r : Nat → Int} {n : Nat} {p : Array Nat} (hp : PmN n p) (ha : AscTo r p n) (hr : ∀ i j, i < j → j < n → r i < r j) : p.toList = List.range n := by
 have hs := hp.size
 have hperm : p.toList.Perm (List.range n) := by
  have := Array.Perm.toList hp
  simpa using this
 have e : p.toList.map r = (List.range n).map r := by
  refine PySem.W.ksm_same (hperm.map r) ?_ ?_
  ·rw [List.pairwise_iff_getElem]
   intro i j hi hj hij
   have hi' : i < p.size := by simpa using hi
   have hj' : j < p.size := by simpa using hj
   have := asc_le ha (Nat.le_of_lt hij) (by omega)
   unfold Kr at this
   simp only [List.getElem_map, Array.getElem_toList]
   rw [show p.getD i 0 = p[i] by simp [Array.getD, hi'], show p.getD j 0 = p[j] by simp [Array.getD, hj']] at this
   exact this
  ·rw [List.pairwise_iff_getElem]
   intro i j hi hj hij
   have hj' : j < n := by simpa using hj
   simp only [List.getElem_map, List.getElem_range]
   exact Int.le_of_lt (hr i j hij hj')
 refine List.ext_getElem (by simpa using hs) fun i hi hi2 => ?_
 have hin : i < n := by simpa using hi2
 have e1 : r p.toList[i] = r (List.range n)[i] := by
  have := congrArg (fun l => l[i]?) e
  simp only [List.getElem?_map, List.getElem?_eq_getElem hi, List.getElem?_eq_getElem hi2, Option.map_some] at this
  exact Option.some.inj this
 simp only [List.getElem_range] at e1 ⊢
 have hlt : p.toList[i] < n := by
  have := hperm.mem_iff.1 (List.getElem_mem hi)
  simpa using this
 rcases Nat.lt_trichotomy p.toList[i] i with h | h | h
 ·have := hr _ _ h hin; omega
 ·exact h
 ·have := hr _ _ h hlt; omega
theorem asks_lists {vs : List Value} {fs : List Int} (hl : fs.length = vs.length) (hi : ∀ i j, i < j → j < fs.length → fs.getD i 0 < fs.getD j 0)
  (h : ∀ i, i < vs.length → ∃ (a : Addr) (o : Obj) (its : Array Value) (n : Nat) (t : Tok), vs.getD i Value.none = .ref a ∧ s.heap.get? a = some o ∧ o.cls = .type "list" ∧ o.data = .seq its n ∧ its[0]? = some (.int (fs.getD i 0) t)) (h2 : 2 ≤ vs.length) (hu : A.units < cLine) : Asks prog w A (fun i => fs.getD i 0) vs s := by
 refine ⟨oneType', fun Q q => kas_kind h2 (T := .type "list") (fun v hv => ?_) (by decide) (by decide) q, fun i j C hi1 hj1 hij hc => ?_⟩
 ·obtain ⟨i, hi1, e⟩ := List.mem_iff_getElem.1 hv
  obtain ⟨a, o, its, n, t, e1, e2, e3, _⟩ := h i hi1
  have : v = .ref a := by rw [← e1, ← e]; simp [hi1]
  subst this
  rw [← e3]
  exact (Looks.ld e2).andThen .now
 ·obtain ⟨a, o, its, n, t, e1, e2, e3, e4, e5⟩ := h i hi1
  obtain ⟨a', o', its', n', t', g1, g2, g3, g4, g5⟩ := h j hj1
  unfold kas_ask
  rw [keyLt'_oneType, oneLt'_eq, e1, g1]
  simp only [if_true]
  refine wpAny_bind (wpAny_cRoomFor hu (wpAny_bind ?_))
  obtain ⟨c1, dd1, da1, s1⟩ := o
  obtain ⟨c2, dd2, da2, s2⟩ := o'
  simp only at e3 e4 g3 g4
  subst e3 e4 g3 g4
  have hne : fs.getD i 0 ≠ fs.getD j 0 := by
   rcases Nat.lt_or_gt_of_ne hij with z | z
   ·have := hi i j z (by omega); omega
   ·have := hi j i z (by omega); omega
  refine wpAny_callSpecialIfBound?_slot (T := "list") ⟨_, e2, rfl⟩ F.slot_list_lt (call_meets F.slot_list_lt ⟨_, e2, rfl⟩ F.entry_list_lt (F.args_list_lt_2 _ _) (lt_firsts a a' its its' n n' dd1 dd2 s1 s2 e5 g5 hne) ⟨e2, g2, ?_⟩)
  exact wpAny_truthy_bool hc
end
section
variable {X : Cx}
noncomputable def rSortLL (K : PySem.W.Frag) : List V → Hp → VK → Prop := fun xs H Q => ∃ (p : Addr) (as : List Addr) (nss : List (List Int)), xs = [.ref p] ∧ SqL K H p (as.map V.ref) ∧ nss.length = as.length ∧ (∀ (i : Nat) a ns, as[i]? = some a → nss[i]? = some ns → SqL K H a (ns.map V.int) ∧ ns ≠ []) ∧
 (∀ i j, i < j → j < nss.length → (nss.getD i []).headD 0 < (nss.getD j []).headD 0) ∧ as.length < 64 ∧ ∀ l, H l = none → Q (.ref l) (upd H l (.lst (as.map V.ref)))
theorem vals_refs : ∀ {as : List Addr} {its : List Value}, Vals (as.map V.ref) its → its = as.map Value.ref
 | [], _, .nil => rfl
 | a :: as, _, .cons h l => by cases h; rw [vals_refs l]; rfl
theorem call_sortLL {k : Nat} {K : PySem.W.Frag} (hr : Room k X.A) (hK : X.K = K := by rfl) : CallR X (.builtin "sorted") (rSortLL K) := by
 subst hK
 intro pins s σ H xs us Q I r h
 obtain ⟨p, as, nss, rfl, hq, hl, hp, ha, h64, q⟩ := h
 obtain ⟨u, rfl, ru⟩ := vals1 r
 cases ru
 obtain ⟨its, rv, pl, hz⟩ := I.list hq
 have hu : X.A.units + 41 < cLine := Nat.lt_of_le_of_lt (by omega) hr.units
 obtain rfl := vals_refs rv
 have hfs : ∀ i, (nss.map fun ns => ns.headD 0).getD i 0 = (nss.getD i []).headD 0 := fun i => by
  simp only [List.getD_eq_getElem?_getD, List.getElem?_map]
  cases nss[i]? <;> rfl
 refine sorted_any (fun i => (nss.map fun ns => ns.headD 0).getD i 0) pl.isList (by simpa using h64) (fun h2 g hg => asks_lists (by simp [hl]) (fun i j hij hj => by rw [hfs, hfs]; exact ha i j hij (by simpa using hj)) (fun i hi => ?_) h2 (by show X.A.units + 1 + 1 < cLine; omega)) fun p pm asc => ?_
 ·have hi1 : i < as.length := by simpa using hi
  have hi2 : i < nss.length := by omega
  obtain ⟨h1, h0⟩ := hp i _ _ (List.getElem?_eq_getElem hi1) (List.getElem?_eq_getElem hi2)
  obtain ⟨its2, rv2, ⟨o, n, e, c, _, d⟩, _⟩ := I.list h1
  cases hns : nss[i] with
  | nil => exact (h0 hns).elim
  | cons m ms =>
   rw [hns] at rv2
   cases rv2 with
   | cons hv hr =>
    obtain ⟨t, rfl⟩ := hv
    refine ⟨as[i], o, _, n, t, by simp [List.getD_eq_getElem?_getD, hi1], hg _ _ e, c, d, ?_⟩
    rw [hfs, show nss.getD i [] = m :: ms by simp [List.getD_eq_getElem?_getD, hi2, hns]]
    rfl
 ·have hid := asc_id pm asc (fun i j hij hj => by rw [hfs, hfs]; exact ha i j hij (by simp at hj; omega))
  have ho : List.map (fun i => (as.map Value.ref).getD i Value.none) p.toList = as.map Value.ref := by
   rw [hid]
   refine List.ext_getElem (by simp) fun i h1 h2 => ?_
   have : i < as.length := by simpa using h2
   simp [List.getD_eq_getElem?_getD, this]
  rw [ho]
  obtain ⟨e, he⟩ := sortedAll_at s.heap (as.map Value.ref) (List.toArray (as.map Value.ref))
  have hs : as.length ≤ sizeLine := by simpa using hz
  refine ⟨.ref (s.heap.objs.size + 1), _, I.laid (t' := s.toks) (fun _ _ => sortedAll_old) (Nat.le_succ _) (show ObjOk X.prog X.w _ _ _ (.lst (as.map V.ref)) from ⟨by rw [List.length_map]; exact hs, as.map Value.ref, e, rv, by rw [he]⟩), rfl, q _ (I.hok.fresh (Nat.le_succ _))⟩
end
end L2
namespace L2
open PySem PySem.Spec PyProof.Rows PySem.Calls PySem.W
noncomputable def tDSetD (td ty tx : TE) : TE := fun σ H Q => td σ H fun x H1 => ∃ a, x = .ref a ∧ IsD H1 a ∧ ty σ H1 fun y H2 => tx σ H2 fun z H3 => ∃ kvs k, H3 a = some (.dK kvs) ∧ y = kV k ∧ kvs.length < sizeLine ∧ (∀ v, valV kvs k = some v → Q v H3) ∧ (valV kvs k = none → Q z (upd H3 a (.dK (putK kvs k z))))
section
variable {X : Cx} {pins : List (Addr × Obj)} {σ : St} {H : Hp} {s : Shared} {a : Addr} {d : V} {u r : Value} {A : Around} {E : Value → Shared → Prop} {kvs : List (Key × V)} {k : Key}
theorem d_setd {Q : Value → Shared → Prop} (I : Inv X pins σ H s) (e : H a = some (.dK kvs)) (ry : RelV (kV k) u) (rd : RelV d r) (hl : kvs.length < sizeLine) (h1 : ∀ v w' s', valV kvs k = some v → Inv X pins σ H s' → RelV v w' → Q w' s') (h2 : ∀ s', valV kvs k = none → Inv X pins σ (upd H a (.dK (putK kvs k d))) s' → Q r s') :
  wpAny (model X.prog X.w) A (call (.builtin "dict.setdefault") [.ref a, u, r]) Q E s := by
 obtain ⟨z, hd, vs, rel, dd⟩ := dk_of I.hok e
 have hz : vs.length ≤ sizeLine := by rw [← rel.length]; exact z
 have hs := (rel.val k).isSome_eq
 refine call_meetsIn PySem.F.slot_dict_setdefault dd.typeIs PySem.F.entry_dict_setdefault (PySem.F.args_dict_setdefault_3 _ _ _) (kt_meets_setdefault (mixKind X.prog X.w) a (kV_is ry) hd r) ⟨vs, dd, hz, fun v hv => ?_, fun hn h' dd' hb => ?_⟩
 ·rw [hv] at hs
  cases ev : valV kvs k with
  | none => rw [ev] at hs; cases hs
  | some x =>
   have := (rel.val k).getD (d := .non) (d' := .none) rfl
   rw [ev, hv] at this
   exact h1 x v _ ev (I.tok _) this
 ·have hv : valV kvs k = none := by
   cases ev : valV kvs k with
   | none => rfl
   | some x => rw [ev, hn] at hs; cases hs
  have hl2 : (putK kvs k d).length ≤ sizeLine := by have := length_putK kvs k d; omega
  have he : ∃ q, h'.get? a = some q := let ⟨q, _, _, hq, _⟩ := dd'; ⟨q, hq⟩
  exact h2 _ hv (d_write I (by rw [e]; exact True.intro) hb he (dk_new hl2 hd (rel.put k rd) dd'))
end
section
variable {X : Cx} {o e f : Expr} {apos cpos : Pos} {td ty tx : TE}
theorem pe_dsetd (ho : PE X o td) (he : PE X e ty) (hf : PE X f tx) (m : M2 X o "setdefault" apos e f cpos) : PE X (.Call (.Attribute o "setdefault" apos) [e, f] [] cpos) (tDSetD td ty tx) := by
 intro pins s σ H Q I h
 refine wpAny_Call_method m.base m.few m.line PySem.F.plainAttrs_dict PySem.F.slot_dict_setdefault PySem.F.type_dict_setdefault (thn (ho pins s σ H _ I h) fun u s1 ⟨x, H1, I1, rx, a, ex, d, q1⟩ => ?_)
 subst ex
 obtain rfl : u = Value.ref a := rx
 obtain ⟨t1, t2, _⟩ := isD_at I1 d
 refine ⟨t1, t2, ?_⟩
 rw [m.trees]
 refine Calls.callWith_builtin rfl (Calls.evalArgs_plain (Calls.spliced_cons (thn (he pins s1 σ H1 _ I1 q1) fun iv s2 ⟨y, H2, I2, ry, q2⟩ => Calls.spliced_cons (thn (hf pins s2 σ H2 _ I2 q2) fun fv s3 ⟨z, H3, I3, rz, kvs, k, g, ey, hl, q3, q4⟩ => Calls.spliced_nil ?_))))
 subst ey
 exact d_setd I3 g ry rz hl (fun v w' s4 ev I4 rw' => ⟨v, H3, I4, rw', q3 v ev⟩) fun s4 ev I4 => ⟨z, _, I4, rz, q4 ev⟩
end
end L2
namespace L2
open PySem PySem.Spec PyProof.Rows PySem.Calls PySem.W
open PySem.AutoSeq1 (wpAny_loadPart')
section
variable {prog : Program} {w : World} {A : Around} {E : Value → Shared → Prop} {s : Shared}
theorem same_nil {id : String} {a b : Addr} {oa ob : Obj} {ea eb : Array DictEntry} {na nb : Nat} {Q : Bool → Shared → Prop} (ha : s.heap.get? a = some oa) (da : oa.data = .dict ea na) (hb : s.heap.get? b = some ob) (db : ob.data = .dict eb nb) (hz : eb.size = 0) (sa : (a == sysModules) = false) (sb : (b == sysModules) = false)
  (h : Q ea.isEmpty s) : wpAny (model prog w) A (Builtin.Dict.samePairs id a b) Q E s := by
 unfold Builtin.Dict.samePairs Builtin.Dict.showsAll
 rw [if_neg (by rw [sa]; exact Bool.false_ne_true), if_neg (by rw [sb]; exact Bool.false_ne_true)]
 refine wpAny_bind (wpAny_pure (wpAny_bind (wpAny_pure (wpAny_bind (wpAny_dictEntries ha da (wpAny_bind (wpAny_dictEntries hb db ?_)))))))
 by_cases h0 : ea.size = 0
 ·have e0 : ea = #[] := Array.eq_empty_of_size_eq_zero h0
  subst e0
  rw [if_neg (by rw [hz]; simp)]
  refine wpAny_bind (wpAny_dictEpoch ha da ?_)
  refine wpAny_bind (m := forIn [:(#[] : Array DictEntry).size] _ _) ?_
  rw [show (#[] : Array DictEntry).size = 0 from rfl]
  simp only [Std.Legacy.Range.forIn_eq_forIn_range', Std.Legacy.Range.size, Nat.sub_self, Nat.add_sub_cancel, Nat.zero_add, Nat.div_one, List.range'_zero, List.forIn_nil]
  exact wpAny_pure (wpAny_pure h)
 ·rw [if_pos (by rw [hz]; simpa using h0)]
  refine wpAny_bind (wpAny_rule (wpAny_pure ?_))
  rw [show ea.isEmpty = false by simpa [Array.isEmpty] using h0] at h
  exact h
theorem ne_nil {a b : Addr} {oa ob : Obj} {ea eb : Array DictEntry} {na nb : Nat} {Q : Value → Shared → Prop} (ha : s.heap.get? a = some oa) (ca : oa.cls = .type "dict") (da : oa.data = .dict ea na) (hb : s.heap.get? b = some ob) (cb : ob.cls = .type "dict") (db : ob.data = .dict eb nb) (hz : eb.size = 0) (sa : (a == sysModules) = false) (sb : (b == sysModules) = false) (hu : A.units < cLine)
  (h : Q (.bool (!ea.isEmpty)) s) : wpAny (model prog w) A (compareOp .NotEq (.ref a) (.ref b)) Q E s := by
 show wpAny _ _ (richCompare .NotEq (.ref a) (.ref b)) Q E s
 refine wpAny_richCompare_same_room (T := "dict") ⟨_, ha, ca⟩ ⟨_, hb, cb⟩ F.slot_dict_ne (wpAny_call_entry F.slot_dict_ne ⟨_, ha, ca⟩ F.entry_dict_ne ?_ (F.args_dict_ne_2 _ _)) hu
 show wpAny _ _ (Builtin.Dict.dictSlotArgs "__ne__" ⟨[.ref a, .ref b], []⟩ >>= _) _ _ s
 refine wpAny_bind ?_
 unfold Builtin.Dict.dictSlotArgs
 refine wpAny_bind (wpAny_notOrdered_dict ⟨_, ha, ca⟩ ?_)
 show wpAny _ _ (pure (Value.ref a, Value.ref b)) _ _ s
 refine wpAny_pure ?_
 dsimp only
 refine wpAny_bind (wpAny_isInstance ⟨_, hb, cb⟩ PySem.F.sub_dict_dict ?_)
 simp only [Bool.not_true, Bool.false_eq_true, if_false]
 refine wpAny_bind (wpAny_pure (wpAny_bind (wpAny_pure (wpAny_bind (same_nil ha da hb db hz sa sb ?_)))))
 refine wpAny_pure ⟨_, rfl, nofun, ?_⟩
 rw [show (ea.isEmpty == false) = !ea.isEmpty by cases ea.isEmpty <;> rfl]
 exact h
end
section
variable {X : Cx}
noncomputable def rNeNilD : R2 := fun x y H Q => ∃ a b kvs, x = .ref a ∧ y = .ref b ∧ Rd H a (.dK kvs) ∧ Rd H b (.dK []) ∧ Q (.bl (!kvs.isEmpty)) H
theorem op_neNilD {k : Nat} (hr : Room k X.A) : OpR X (compareOp .NotEq) rNeNilD := by
 intro pins s σ H x y v u Q I rx ry h
 obtain ⟨a, b, kvs, rfl, rfl, h1, h2, q⟩ := h
 cases rx; cases ry
 have hu : X.A.units + 41 < cLine := Nat.lt_of_le_of_lt (by omega) hr.units
 obtain ⟨_, sa, vs, rel, oa, ea, na, e1, c1, d1, k1, p1, _⟩ := dk_rd I.hok h1
 obtain ⟨_, sb, us, rel2, ob, eb, nb, e2, c2, d2, k2, p2, _⟩ := dk_rd I.hok h2
 have hz : eb.size = 0 := by
  have l1 := rel2.length
  have l2 := p2.length
  simp at l1 l2
  omega
 have he : ea.isEmpty = kvs.isEmpty := by
  have l1 := rel.length
  have l2 := p1.length
  have l3 : ea.size = kvs.length := by
   simp at l1 l2
   omega
  rw [Bool.eq_iff_iff, Array.isEmpty_iff_size_eq_zero, List.isEmpty_iff_length_eq_zero, l3]
 refine ne_nil e1 c1.1 d1 e2 c2.1 d2 hz sa sb (by omega) ?_
 rw [he]
 exact ⟨.bl _, H, I, rfl, q⟩
end
end L2
namespace L2
open PySem PySem.Spec PyProof.Rows PySem.Calls PySem.W
theorem entry_itemiter_iter : entryFor table "dict_itemiterator.__iter__" = some Builtin.«dict_keyiterator.__iter__» :=
 entryFor_alias (id' := "dict_keyiterator.__iter__") (by kernel_rfl) rfl (by decide +kernel) (by kernel_rfl)
section
variable {prog : Program} {w : World} {A : Around} {E : Value → Shared → Prop} {s : Shared}
theorem iter_itemiter {it d : Addr} {i n ep : Nat} {ok ov : Value} {Q : Value → Shared → Prop} (hit : IsItemIter s.heap it d i n ep ok ov) (h : Q (.ref it) s) : wpAny (model prog w) A (pyIter (.ref it)) Q E s := by
 have hT : s.TypeIs (.ref it) "dict_itemiterator" := ⟨_, hit, rfl⟩
 refine wpAny_pyIter_slot hT F.slot_dict_itemiterator_iter (wpAny_call_entry F.slot_dict_itemiterator_iter hT entry_itemiter_iter ?_ (F.args_dict_itemiterator_iter_1 _))
 show wpAny _ _ (ret (.ref it)) _ _ s
 exact wpAny_pure ⟨_, rfl, "dict_itemiterator", _, hT, F.slot_dict_itemiterator_next.lookup, h⟩
end
noncomputable def Itm (a : Addr) (o : Obj) (kvs : List (Key × V)) : It :=
 ⟨fun i H => H a = some (.frz o (.dK kvs)) ∧ ∃ k v, kvs[i]? = some (k, v), fun i H x H' => ∃ p k v, x = .ref p ∧ H p = none ∧ H' = upd H p (.tup [kV k, v]) ∧ kvs[i]? = some (k, v), fun i H => H a = some (.frz o (.dK kvs)) ∧ kvs.length ≤ i⟩
theorem kv_get : ∀ {kvs : List (Key × V)} {vs : List (Key × Value)} {i : Nat} {k : Key} {v : V}, KV kvs vs → kvs[i]? = some (k, v) → ∃ u, vs[i]? = some (k, u) ∧ RelV v u
 | _, _, i, k, v, .nil, h => by simp at h
 | _, _, 0, k, v, .cons h _, e => by
  simp at e
  subst e
  obtain ⟨e1, e2⟩ := h
  exact ⟨_, by simp; exact Prod.ext e1.symm rfl, e2⟩
 | _, _, i + 1, k, v, .cons _ l, e => by
  obtain ⟨u, e1, e2⟩ := kv_get (i := i) l (by simpa using e)
  exact ⟨u, by simpa using e1, e2⟩
theorem is_kV {P : Program} {w : World} {k : Key} {u : Value} (h : (mixKind P w).is k u = true) : RelV (kV k) u := by
 have h : keyIs k u = true := h
 rcases keyIs_shape h with ⟨i, t, rfl, rfl⟩ | ⟨x, t, rfl, rfl⟩
 ·exact ⟨t, rfl⟩
 ·exact ⟨t, rfl⟩
theorem dict_at {X : Cx} {pins : List (Addr × Obj)} {σ : St} {H : Hp} {s : Shared} {a : Addr} {o : Obj} {kvs : List (Key × V)} {es : Array DictEntry} {ep : Nat} (I : Inv X pins σ H s) (h : H a = some (.frz o (.dK kvs))) (hd : o.data = .dict es ep) : ∃ vs, KV kvs vs ∧ s.heap.DictAt (mixKind X.prog X.w) a vs ep := by
 obtain ⟨hg, _, _, vs, rel, o', es', ep', e1, e2, e3, e4⟩ := (show ObjOk X.prog X.w H s.heap a (.frz o (.dK kvs)) from I.hok a _ h)
 rw [hg] at e1
 cases e1
 rw [hd] at e3
 cases e3
 exact ⟨vs, rel, o, es, hg, e2, hd, e4⟩
theorem turn_items {P : Program} {w : World} {K : PySem.W.Frag} {elts : List Expr} {k : Nat} {tp : Pos} (a it : Addr) (o : Obj) (kvs : List (Key × V)) {es : Array DictEntry} {ep : Nat} (hd : o.data = .dict es ep) :
  Turn P w K (.Tuple elts k tp) (Itm a o kvs) [it] it (fun i h => ∃ ok ov, IsItemIter h it a i kvs.length ep ok ov) where
 mem := by simp
 obj := fun i h st b hb => by
  obtain ⟨ok, ov, e⟩ := st
  have : b = it := by simpa using hb
  subst this
  exact ⟨_, e, fun v z => by cases z⟩
 keep := fun i h h' st k => let ⟨ok, ov, e⟩ := st; ⟨ok, ov, k it (by simp) _ e⟩
 item := by
  intro X hP hw hK hc i pins s σ H E I hf st hg
  subst hP hw hK
  obtain ⟨ha, ke, v, hx⟩ := hg
  obtain ⟨ok, ov, hit⟩ := st
  obtain ⟨vs, rel, hm⟩ := dict_at I ha hd
  obtain ⟨u, hu, ru⟩ := kv_get rel hx
  have hl := rel.length
  rw [hl] at hit
  refine wpAny_pyNext_items_item hit hm hu fun key h1 hk hout ht hz hk1 => ⟨_, rfl, ?_⟩
  refine wpAny_letOwnedTupleGo_items (s := { s with heap := h1 }) hout fun h2 he2 hs2 => ?_
  have hs2 : Heap.SameBut it h1 h2 := hs2
  have ltE : it < s.heap.objs.size := Heap.lt_size hit
  have vv : Vals [kV ke, v] [key, u] := .cons (is_kV hk) (.cons ru .nil)
  obtain ⟨I2, fr, fb⟩ := Inv.turnedT (h' := h2) (t' := s.toks) (fp := [it]) I vv (by show 2 ≤ sizeLine; decide) (fun b o hb eb => by
   have hb : b ≠ it := by simpa using hb
   exact (hs2.2 b hb).trans (hk1 b o hb eb)) ((hs2.2 _ (Nat.ne_of_gt ltE)).trans ht) hf (fun b hb => by
   have : b = it := by simpa using hb
   subst this
   exact ⟨_, hit⟩)
  exact ⟨.ref s.heap.objs.size, _, I2, rfl, ⟨_, ke, v, rfl, fr, rfl, hx⟩, ⟨_, _, by rw [hl]; exact he2⟩, fb⟩
 done := by
  intro X hP hw hK hc i pins s σ H E I hf st hg
  subst hP hw hK
  obtain ⟨ha, hx⟩ := hg
  obtain ⟨ok, ov, hit⟩ := st
  obtain ⟨vs, rel, hm⟩ := dict_at I ha hd
  have hl := rel.length
  rw [hl] at hit
  refine wpAny_pyNext_items_end (I.ok.hd hc) hit hm (List.getElem?_eq_none (by omega)) fun h' eb => ⟨rfl, Inv.turnedL (t' := s.toks) (fp := [it]) I (fun b o hb eo => ?_) hf⟩
  exact eb b o (fun z => hb (by simp [z])) eo
 self := fun _ _ _ _ _ st h => let ⟨_, _, e⟩ := st; iter_itemiter e h
noncomputable def iview (p a : Addr) : HO := .ext fun h => h.IsItemsView p a
section
variable {X : Cx}
noncomputable def rItems : V → List V → Hp → VK → Prop := fun x vs H Q => ∃ (a : Addr) (kvs : List (Key × V)), x = .ref a ∧ vs = [] ∧ H a = some (.dK kvs) ∧ ∀ p, H p = none → Q (.ref p) (upd H p (iview p a))
theorem mt_items : MtR X "dict.items" rItems := by
 intro pins s σ H x xs v us Q I rx r h
 obtain ⟨a, kvs, rfl, rfl, ha, q⟩ := h
 cases rx
 cases r
 obtain ⟨hz, lo, vs, rel, dd⟩ := dk_of I.hok ha
 have hn : (s.heap.push { cls := .type "dict_items", data := .fields #[.ref a] }).get? s.heap.objs.size = some { cls := .type "dict_items", data := .fields #[.ref a] } := Heap.get?_push_size _ rfl
 refine call_meetsIn PySem.F.slot_dict_items dd.typeIs PySem.F.entry_dict_items (PySem.F.args_dict_items_1 _) (meets_dict_items (mixKind X.prog X.w) a lo) ⟨⟨vs, dd⟩, ?_⟩
 refine ⟨.ref s.heap.objs.size, _, I.laid (t' := s.toks) (o := iview s.heap.objs.size a) (fun _ _ e => Heap.get?_push_of_some _ e) (Nat.le_refl _) ⟨⟨_, hn, rfl, rfl⟩, ⟨_, hn⟩, fun h1 h2 ⟨o, e1, e2⟩ e3 => ⟨o, e3 _ e1, e2⟩⟩, rfl, q _ I.fresh⟩
noncomputable def iItems (t : TE) : TI := fun σ H R => t σ H fun x H1 => ∃ (p a : Addr) (kvs : List (Key × V)), x = .ref p ∧ H1 p = some (iview p a) ∧ H1 a = some (.dK kvs) ∧ ∀ o, R (Itm a o kvs) (upd H1 a (.frz o (.dK kvs)))
theorem pi_items {elts : List Expr} {k : Nat} {tp : Pos} {e : Expr} {t : TE} (he : PE X e t) : PI X (.Tuple elts k tp) e (iItems t) := by
 intro pins s σ H R I h
 refine thn (he pins s σ H _ I h) fun u s1 ⟨x, H1, I1, rx, p, a, kvs, ex, hp, ha, q⟩ => ?_
 subst ex
 cases rx
 have hv : s1.heap.IsItemsView p a := (show ObjOk X.prog X.w H1 s1.heap p (iview p a) from I1.hok p _ hp).1
 obtain ⟨hz, lo, vs, rel, ob, es, ep, e1, e2, e3, e4⟩ := dk_of I1.hok ha
 have hl := rel.length
 have I2 : Inv X pins σ (upd H1 a (.frz ob (.dK kvs))) s1 := d_write (h' := s1.heap) (t' := s1.toks) I1 (by rw [ha]; exact True.intro) ⟨rfl, fun _ _ => rfl⟩ ⟨ob, e1⟩ ⟨e1, hz, lo, vs, rel, ob, es, ep, e1, e2, e3, e4⟩
 refine wpAny_pyIter_items (knd := mixKind X.prog X.w) hv ⟨ob, es, e1, e2, e3, e4⟩ ?_
 have hi : (s1.heap.push { cls := .type "dict_itemiterator", data := .fields #[.none, .bool false, .ref a, .int 0 0, .int vs.length 0, .int ep 0, .none, .none] }).get? s1.heap.objs.size = some { cls := .type "dict_itemiterator", data := .fields #[.none, .bool false, .ref a, .int 0 0, .int vs.length 0, .int ep 0, .none, .none] } := Heap.get?_push_size _ rfl
 have I3 := I2.kept (t' := s1.toks) (h' := s1.heap.push { cls := .type "dict_itemiterator", data := .fields #[.none, .bool false, .ref a, .int 0 0, .int vs.length 0, .int ep 0, .none, .none] }) (fun b o e => Heap.get?_push_of_some _ e)
 refine ⟨s1.heap.objs.size, [s1.heap.objs.size], _, _, _, rfl, I3, turn_items a s1.heap.objs.size ob kvs e3, ⟨.none, .none, by rw [hl]; exact hi⟩, fun b hb => ?_, q ob⟩
 have hb : s1.heap.objs.size ≤ b := by
  have : b = s1.heap.objs.size := by simpa using hb
  exact Nat.le_of_eq this.symm
 exact Inv.fpOk I2 hb (I2.hok.fresh hb)
end
end L2
namespace L2
open PySem PySem.Spec PyProof.Rows PySem.Calls PySem.W
open PySem.AutoSeq1 (wpAny_loadPart')
section
variable {prog : Program} {w : World} {A : Around} {E : Value → Shared → Prop} {s : Shared}
theorem eq_nil {a b : Addr} {oa ob : Obj} {ea eb : Array DictEntry} {na nb : Nat} {Q : Value → Shared → Prop} (ha : s.heap.get? a = some oa) (ca : oa.cls = .type "dict") (da : oa.data = .dict ea na) (hb : s.heap.get? b = some ob) (cb : ob.cls = .type "dict") (db : ob.data = .dict eb nb) (hz : eb.size = 0) (sa : (a == sysModules) = false) (sb : (b == sysModules) = false) (hu : A.units < cLine)
  (h : Q (.bool ea.isEmpty) s) : wpAny (model prog w) A (compareOp .Eq (.ref a) (.ref b)) Q E s := by
 show wpAny _ _ (richCompare .Eq (.ref a) (.ref b)) Q E s
 refine wpAny_richCompare_same_room (T := "dict") ⟨_, ha, ca⟩ ⟨_, hb, cb⟩ F.slot_dict_eq (wpAny_call_entry F.slot_dict_eq ⟨_, ha, ca⟩ F.entry_dict_eq ?_ (F.args_dict_eq_2 _ _)) hu
 show wpAny _ _ (Builtin.Dict.dictSlotArgs "__eq__" ⟨[.ref a, .ref b], []⟩ >>= _) _ _ s
 refine wpAny_bind ?_
 unfold Builtin.Dict.dictSlotArgs
 refine wpAny_bind (wpAny_notOrdered_dict ⟨_, ha, ca⟩ ?_)
 show wpAny _ _ (pure (Value.ref a, Value.ref b)) _ _ s
 refine wpAny_pure ?_
 dsimp only
 refine wpAny_bind (wpAny_isInstance ⟨_, hb, cb⟩ PySem.F.sub_dict_dict ?_)
 simp only [Bool.not_true, Bool.false_eq_true, if_false]
 refine wpAny_bind (wpAny_pure (wpAny_bind (wpAny_pure (wpAny_bind (same_nil ha da hb db hz sa sb ?_)))))
 refine wpAny_pure ⟨_, rfl, nofun, ?_⟩
 rw [show (ea.isEmpty == true) = ea.isEmpty by cases ea.isEmpty <;> rfl]
 exact h
end
section
variable {X : Cx}
noncomputable def rEqNilD : R2 := fun x y H Q => ∃ a b kvs, x = .ref a ∧ y = .ref b ∧ Rd H a (.dK kvs) ∧ Rd H b (.dK []) ∧ Q (.bl kvs.isEmpty) H
theorem op_eqNilD {k : Nat} (hr : Room k X.A) : OpR X (compareOp .Eq) rEqNilD := by
 intro pins s σ H x y v u Q I rx ry h
 obtain ⟨a, b, kvs, rfl, rfl, h1, h2, q⟩ := h
 cases rx; cases ry
 have hu : X.A.units + 41 < cLine := Nat.lt_of_le_of_lt (by omega) hr.units
 obtain ⟨_, sa, vs, rel, oa, ea, na, e1, c1, d1, k1, p1, _⟩ := dk_rd I.hok h1
 obtain ⟨_, sb, us, rel2, ob, eb, nb, e2, c2, d2, k2, p2, _⟩ := dk_rd I.hok h2
 have hz : eb.size = 0 := by
  have l1 := rel2.length
  have l2 := p2.length
  simp at l1 l2
  omega
 have he : ea.isEmpty = kvs.isEmpty := by
  have l1 := rel.length
  have l2 := p1.length
  have l3 : ea.size = kvs.length := by
   simp at l1 l2
   omega
  rw [Bool.eq_iff_iff, Array.isEmpty_iff_size_eq_zero, List.isEmpty_iff_length_eq_zero, l3]
 refine eq_nil e1 c1.1 d1 e2 c2.1 d2 hz sa sb (by omega) ?_
 rw [he]
 exact ⟨.bl _, H, I, rfl, q⟩
end
end L2
namespace L2
open PySem PySem.Spec PyProof.Rows PySem.Calls
section
variable {K : PySem.W.Frag} {E : XK}
noncomputable def dShl : Op2 := xIC (fun i j => decide (0 ≤ j ∧ j ≤ 1000000 ∧ i.natAbs < 2 ^ 64)) fun i j => .int (i * 2 ^ j.toNat)
noncomputable def dShr : Op2 := xIC (fun _ j => decide (0 ≤ j)) fun i j => .int (i / 2 ^ j.toNat)
noncomputable def dBand : Op2 := xI fun i j => .int (Builtin.bitAnd i j)
noncomputable def dBor : Op2 := xI fun i j => .int (Builtin.bitOr i j)
theorem r2_shl : R2Ok K (rI CPow fun i j => .int (i * 2 ^ j.toNat)) dShl := r2_I (fun i j h => by simpa [CPow] using h) fun _ _ _ _ => .int _
theorem r2_shr : R2Ok K (rI (fun _ j => 0 ≤ j) fun i j => .int (i / 2 ^ j.toNat)) dShr := r2_I (fun i j h => by simpa using h) fun _ _ _ _ => .int _
theorem r2_band : R2Ok K (rI0 fun i j => .int (Builtin.bitAnd i j)) dBand := r2_I0 fun _ _ _ _ => .int _
theorem r2_bor : R2Ok K (rI0 fun i j => .int (Builtin.bitOr i j)) dBor := r2_I0 fun _ _ _ _ => .int _
noncomputable def bothSeq : D → D → Bool
 | .tup _, .tup _ => true
 | .lst _, .lst _ => true
 | _, _ => false
noncomputable def dEqG (neg : Bool) : Op2 := fun x y S => match tell S 40 x, tell S 40 y with
 | some d, some e => if bothSeq d e then (eqG 40 d e).map fun b => (.bl (neg != b), S) else none
 | _, _ => none
theorem bothSeq_of {d e : D} (h : bothSeq d e = true) : ∃ l m, (d = .tup l ∧ e = .tup m) ∨ (d = .lst l ∧ e = .lst m) := by
 unfold bothSeq at h
 split at h
 ·exact ⟨_, _, .inl ⟨rfl, rfl⟩⟩
 ·exact ⟨_, _, .inr ⟨rfl, rfl⟩⟩
 ·cases h
theorem r2_eqG {neg : Bool} : R2Ok K (rEqG K neg) (dEqG neg) := by
 intro F j σ H ρ S S' x y z u v Q E1 hx hy h k
 unfold dEqG at h
 split at h
 ·rename_i d e e1 e2
  split at h
  ·rename_i hb
   cases hg : eqG 40 d e with
   | none => rw [hg] at h; cases h
   | some b =>
    rw [hg] at h
    cases h
    exact ⟨d, e, b, bothSeq_of hb, (tell_is E1 40 _ _ _ hx e1).1, (tell_is E1 40 _ _ _ hy e2).1, hg, k _ _ _ Ext.refl E1 (.bl _)⟩
  ·cases h
 ·cases h
end
section
variable {S : Sto} {x y : Xv} {P : Xv → Sto → Prop} {p q : Int}
theorem ox_shl (h : 0 ≤ q ∧ q ≤ 1000000 ∧ p.natAbs < 2 ^ 64) (k : P (.int (p * 2 ^ q.toNat)) S) : WO (dShl (.int p) (.int q) S) P := .of (by unfold dShl xIC; exact if_pos (decide_eq_true h)) k
theorem ox_shr (h : 0 ≤ q) (k : P (.int (p / 2 ^ q.toNat)) S) : WO (dShr (.int p) (.int q) S) P := .of (by unfold dShr xIC; exact if_pos (decide_eq_true h)) k
theorem ox_band (k : P (.int (Builtin.bitAnd p q)) S) : WO (dBand (.int p) (.int q) S) P := .of rfl k
theorem ox_bor (k : P (.int (Builtin.bitOr p q)) S) : WO (dBor (.int p) (.int q) S) P := .of rfl k
theorem ox_eqG {neg b : Bool} {d e : D} (h1 : tell S 40 x = some d) (h2 : tell S 40 y = some e) (hs : bothSeq d e = true) (hb : eqG 40 d e = some b) (k : P (.bl (neg != b)) S) : WO (dEqG neg x y S) P := .of (by unfold dEqG; rw [h1, h2]; dsimp only; rw [if_pos hs, hb]; rfl) k
theorem allZ_ints {n : Nat} : ∀ (l m : List Int), l.length = m.length → allZ (eqG n) (l.map D.int) (m.map D.int) = some (decide (l = m))
 | [], [], _ => by simp [allZ]
 | [], _ :: _, h => by simp at h
 | _ :: _, [], h => by simp at h
 | a :: l, b :: m, h => by
  have ih := allZ_ints (n := n) l m (by simpa using h)
  have e : eqG n (.int a) (.int b) = some (a == b) := by cases n <;> rfl
  simp only [List.map_cons, allZ, e, Option.bind_some, ih, Option.map_some]
  by_cases h1 : a = b
  ·subst h1; simp
  ·simp [h1]
theorem eqG_ints (l m : List Int) : eqG 40 (.lst (l.map D.int)) (.lst (m.map D.int)) = some (decide (l = m)) := by
 unfold eqG
 dsimp only
 rw [List.length_map, List.length_map]
 by_cases h : l.length = m.length
 ·rw [if_pos h, allZ_ints l m h]
 ·rw [if_neg h]
  have : l ≠ m := fun z => h (by rw [z])
  simp [this]
theorem wx_compF {ρc : Rho} {get : Sto → Option (List Xv)} {g : TwG} {c : TwT} {m : TwE} {xs : List Xv} (hl : xs.length ≤ sizeLine) (J : Nat → List Xv → Sto → Prop) (hg : ∀ i es S, i ≤ xs.length → J i es S → get S = some xs)
  (h : ∀ (i : Nat) (x : Xv) es S, xs[i]? = some x → es.length ≤ i → J i es S → W (g x ρc S) fun ρ1 S1 => W (c ρ1 S1) fun b S2 => (b = true → W (m ρ1 S2) fun y S3 => J (i + 1) (es ++ [y]) S3) ∧ (b = false → J (i + 1) es S2)) (h0 : J 0 [] S)
  (k : ∀ es S, es.length ≤ xs.length → J xs.length es S → P (.ref S.length) (S ++ [.lst es])) : W (compTw get g c m ρc (xs.length + 1) 0 [] S) P := by
 have aux : ∀ (n i : Nat) (es : List Xv) (S : Sto), i + n = xs.length → es.length ≤ i → J i es S → W (compTw get g c m ρc (n + 1) i es S) P := by
  intro n
  induction n with
  | zero =>
   intro i es S e el hj
   unfold compTw
   rw [hg i es S (by omega) hj, Option.bind_some, List.getElem?_eq_none (by omega)]
   dsimp only
   rw [if_pos (by omega)]
   exact .of rfl (k es S (by omega) (by rw [show xs.length = i by omega]; exact hj))
  | succ n ih =>
   intro i es S e el hj
   unfold compTw
   have hi : i < xs.length := by omega
   rw [hg i es S (by omega) hj, Option.bind_some, List.getElem?_eq_getElem hi]
   obtain ⟨ρ1, S1, e1, b, S2, e2, t, f⟩ := h i _ es S (List.getElem?_eq_getElem hi) el hj
   dsimp only [rn]
   rw [e1]
   dsimp only [rn]
   rw [e2]
   dsimp only [rn]
   cases b with
   | true =>
    obtain ⟨y, S3, e3, q⟩ := t rfl
    rw [if_pos rfl, e3]
    dsimp only [rn]
    rw [if_pos (by omega)]
    exact ih (i + 1) (es ++ [y]) S3 (by omega) (by simp; omega) q
   | false =>
    rw [if_neg (by simp)]
    exact ih (i + 1) es S2 (by omega) (by omega) (f rfl)
 exact aux xs.length 0 [] S (by omega) (by simp) h0
end
end L2
namespace L2
open PySem PySem.Spec PyProof.Rows PySem.Calls
section
variable {K : PySem.W.Frag} {E : XK}
noncomputable def rowsX (S : Sto) : List Xv → Option (List (List Int))
 | [] => some []
 | x :: r => (lstAt S x).bind fun l => (intsX l).bind fun ns => (rowsX S r).map (ns :: ·)
noncomputable def okRows (nss : List (List Int)) : Prop := (∀ ns ∈ nss, ns ≠ []) ∧ (∀ i j, i < j → j < nss.length → (nss.getD i []).headD 0 < (nss.getD j []).headD 0) ∧ nss.length < 64
open Classical in
noncomputable def dSortLL : Opn := fun xs S => match xs with
 | [x] => (lstAt S x).bind fun l => (rowsX S l).bind fun nss => if okRows nss then some (.ref S.length, S ++ [.lst l]) else none
 | _ => none
theorem rowsX_is {F : Fm} {j : List Addr} {H : Hp} {σ : St} {ρ : Rho} {S : Sto} (E1 : En K F j H σ ρ S) : ∀ {l : List Xv} {vs : List V} {nss : List (List Int)}, rowsX S l = some nss → XisL K j H l vs → ∃ as : List Addr, vs = as.map V.ref ∧ nss.length = as.length ∧ ∀ (i : Nat) a ns, as[i]? = some a → nss[i]? = some ns → SqL K H a (ns.map V.int)
 | [], _, nss, e, h => by cases e; exact ⟨[], h.nil_inv, rfl, by simp⟩
 | x :: r, vs, nss, e, h => by
  obtain ⟨v, ws, rfl, h1, h2⟩ := h.cons_inv
  unfold rowsX at e
  cases e1 : lstAt S x with
  | none => rw [e1] at e; cases e
  | some l =>
   rw [e1, Option.bind_some] at e
   cases e2 : intsX l with
   | none => rw [e2] at e; cases e
   | some ns =>
    rw [e2, Option.bind_some] at e
    cases e3 : rowsX S r with
    | none => rw [e3] at e; cases e
    | some ms =>
     rw [e3] at e
     cases e
     obtain ⟨as, rfl, hl, hk⟩ := rowsX_is E1 e3 h2
     obtain ⟨a, us, rfl, g1, g2⟩ := E1.lstAt h1 e1
     refine ⟨a :: as, rfl, by simp [hl], fun i b ms' hb hm => ?_⟩
     cases i with
     | zero =>
      simp at hb hm
      subst hb hm
      rw [← intsX_is e2 g2]
      exact g1.sql
     | succ i => exact hk i b ms' (by simpa using hb) (by simpa using hm)
theorem rc_sortLL : RcOk K (rSortLL K) dSortLL := by
 intro F j σ H ρ S S' xs z vs Q E1 hv h k
 unfold dSortLL at h
 split at h
 ·rename_i x
  cases e : lstAt S x with
  | none => rw [e] at h; cases h
  | some l =>
   rw [e, Option.bind_some] at h
   cases e2 : rowsX S l with
   | none => rw [e2] at h; cases h
   | some nss =>
    rw [e2, Option.bind_some] at h
    split at h
    ·rename_i ok
     cases h
     obtain ⟨w, rfl, hx⟩ := hv.d1
     obtain ⟨p, ws, rfl, h1, h2⟩ := E1.lstAt hx e
     obtain ⟨as, rfl, hl, hk⟩ := rowsX_is E1 e2 h2
     refine ⟨p, as, nss, rfl, h1.sql, hl, fun i a ns ha hn => ⟨hk i a ns ha hn, ok.1 ns (List.mem_of_getElem? hn)⟩, ok.2.1, by have := ok.2.2; omega, fun q hq => ?_⟩
     obtain ⟨E2, X2, h3⟩ := E1.lst h2 hq
     exact k _ _ _ X2 E2 h3
    ·cases h
 ·cases h
end
theorem ox_sortLL {S : Sto} {x : Xv} {P : Xv → Sto → Prop} {l : List Xv} {nss : List (List Int)} (h : lstAt S x = some l) (h2 : rowsX S l = some nss) (ok : okRows nss) (k : P (.ref S.length) (S ++ [.lst l])) : WO (dSortLL [x] S) P := .of (by
 unfold dSortLL
 dsimp only
 rw [h, Option.bind_some, h2, Option.bind_some, if_pos ok]) k
end L2
namespace L2
open PySem PySem.Spec PyProof.Rows PySem.Calls
section
variable {K : PySem.W.Frag} {E : XK}
noncomputable def eDSetD (d k z : TwE) : TwE := fun ρ S => rb (d ρ S) fun x S1 => (dkAt S1 x).bind fun _ => rb (k ρ S1) fun y S2 => rb (z ρ S2) fun w S3 => match dkAt S3 x, keyX y with
 | some (n, kvs), some key => if kvs.length < sizeLine then (match valX kvs key with
  | some v => some (.ok v S3)
  | none => some (.ok w (S3.set n (.dk (putX kvs key w))))) else none
 | _, _ => none
theorem re_dsetd {td ty tx : TE} {d k z : TwE} (hd : RE K E td d) (hk : RE K E ty k) (hz : RE K E tx z) : RE K E (tDSetD td ty tx) (eDSetD d k z) := by
 intro F j σ H ρ S r Q En0 e kk
 rcases rb_some e with ⟨x, S1, e1, e⟩ | ⟨c, S1, e1, rfl⟩
 ·refine hd En0 e1 fun j1 H1 X1 E1 u hu => ?_
  cases ed0 : dkAt S1 x with
  | none => rw [ed0] at e; cases e
  | some p0 =>
   rw [ed0] at e
   obtain ⟨n0, kvs0⟩ := p0
   obtain ⟨a, ks0, rfl, hj0, f0, _⟩ := E1.dk hu ed0
   refine ⟨a, rfl, .inl ⟨ks0, .inl f0⟩, ?_⟩
   rcases rb_some e with ⟨y, S2, e2, e⟩ | ⟨c, S2, e2, rfl⟩
   ·refine hk E1 e2 fun j2 H2 X2 E2 w hw => ?_
    rcases rb_some e with ⟨q, S3, e3, e⟩ | ⟨c, S3, e3, rfl⟩
    ·refine hz E2 e3 fun j3 H3 X3 E3 wq hq => ?_
     split at e
     ·rename_i n kvs key ed ek
      obtain ⟨a', ks, ea, hj, f1, f2⟩ := E3.dk (hu.mono (X2.trans X3)) ed
      cases ea
      split at e
      ·rename_i hl
       refine ⟨ks, key, f1, keyX_is (hw.mono X3) ek, by rw [f2.len]; exact hl, fun v hv => ?_, fun hv => ?_⟩
       ·cases ev : valX kvs key with
        | none => rw [f2.val.2 ev] at hv; cases hv
        | some y1 =>
         obtain ⟨w1, g1, g2⟩ := f2.val.1 _ ev
         rw [g1] at hv
         cases hv
         rw [ev] at e
         cases e
         exact kk _ _ (X1.trans (X2.trans X3)) E3 _ g2
       ·cases ev : valX kvs key with
        | some y1 =>
         obtain ⟨w1, g1, g2⟩ := f2.val.1 _ ev
         rw [g1] at hv
         cases hv
        | none =>
         rw [ev] at e
         cases e
         obtain ⟨E4, X4⟩ := E3.wdk ed hj (f2.put (k := key) hq)
         exact kk _ _ (X1.trans (X2.trans (X3.trans X4))) E4 _ (hq.mono X4)
      ·cases e
     ·cases e
    ·exact hz E2 e3 (PX.mono kk (X1.trans X2))
   ·exact hk E1 e2 (PX.mono kk X1)
 ·exact hd En0 e1 kk
end
theorem wx_dsetd {ρ : Rho} {S : Sto} {P : Xv → Sto → Prop} {a b z : TwE} (h : W (a ρ S) fun x S1 => (∃ p, dkAt S1 x = some p) ∧ W (b ρ S1) fun y S2 => W (z ρ S2) fun w S3 => ∃ n kvs k, dkAt S3 x = some (n, kvs) ∧ keyX y = some k ∧ kvs.length < sizeLine ∧ (∀ v, valX kvs k = some v → P v S3) ∧ (valX kvs k = none → P w (S3.set n (.dk (putX kvs k w))))) : W (eDSetD a b z ρ S) P :=
 W.bind (h.imp fun x S1 h => by
  obtain ⟨⟨p, e0⟩, h⟩ := h
  rw [e0, Option.bind_some]
  refine W.bind (h.imp fun _ _ h => W.bind (h.imp fun _ _ h => ?_))
  obtain ⟨n, kvs, k, e1, e2, e3, q1, q2⟩ := h
  rw [e1, e2]
  dsimp only
  rw [if_pos e3]
  cases ev : valX kvs k with
  | some v => exact .of rfl (q1 v ev)
  | none => exact .of rfl (q2 ev))
noncomputable def dNeD : Op2 := fun x y S => match dkAt S x, dkAt S y with
 | some (_, kvs), some (_, []) => some (.bl (!kvs.isEmpty), S)
 | _, _ => none
theorem r2_neD {K : PySem.W.Frag} : R2Ok K rNeNilD dNeD := by
 intro F j σ H ρ S S' x y z u v Q E1 hx hy h k
 unfold dNeD at h
 split at h
 ·rename_i n kvs m e1 e2
  cases h
  obtain ⟨a, ks, rfl, _, f1, f2⟩ := E1.dk hx e1
  obtain ⟨b, us, rfl, _, g1, g2⟩ := E1.dk hy e2
  cases g2
  refine ⟨a, b, ks, rfl, rfl, .inl f1, .inl g1, ?_⟩
  have : ks.isEmpty = kvs.isEmpty := by cases f2 <;> rfl
  rw [this]
  exact k _ _ _ Ext.refl E1 (.bl _)
 ·cases h
theorem ox_neD {S : Sto} {x y : Xv} {P : Xv → Sto → Prop} {n m : Nat} {kvs : List (Key × Xv)} (h : dkAt S x = some (n, kvs)) (h2 : dkAt S y = some (m, [])) (k : P (.bl (!kvs.isEmpty)) S) : WO (dNeD x y S) P := .of (by unfold dNeD; rw [h, h2]) k
end L2
namespace L2
open PySem PySem.Spec PyProof.Rows PySem.Calls
noncomputable def kX : Key → Xv
 | .inl i => .int i
 | .inr z => .str z
noncomputable def pairsX (kvs : List (Key × Xv)) : List Xv := kvs.map fun p => .tup [kX p.1, p.2]
noncomputable def fdkAt (n : Nat) (S : Sto) : Option (List Xv) := match S[n]? with
 | some (.fdk kvs) => some (pairsX kvs)
 | _ => none
noncomputable def iIt (m : TwE) : TwI := fun ρ S => rb (m ρ S) fun x S1 => (dkAt S1 x).map fun p => .ok (fdkAt p.1) (S1.set p.1 (.fdk p.2))
section
variable {K : PySem.W.Frag} {E : XK}
theorem kX_is {j : List Addr} {H : Hp} {k : Key} : Xis K j H (kX k) (kV k) := by
 cases k
 ·exact .int _
 ·exact .str _
theorem KX.get {j : List Addr} {H : Hp} : ∀ {kvs : List (Key × Xv)} {ks : List (Key × V)} {i : Nat} {k : Key} {x : Xv}, KX K j H kvs ks → kvs[i]? = some (k, x) → ∃ v, ks[i]? = some (k, v) ∧ Xis K j H x v
 | _, _, i, k, x, .nil, h => by simp at h
 | _, _, 0, k, x, .cons h _, e => by
  simp at e
  obtain ⟨rfl, rfl⟩ := e
  exact ⟨_, rfl, h⟩
 | _, _, i + 1, k, x, .cons _ l, e => by
  obtain ⟨v, e1, e2⟩ := KX.get (i := i) l (by simpa using e)
  exact ⟨v, by simpa using e1, e2⟩
theorem ri_items {t : TE} {m : TwE} (h : RE K E t m) : RI K E (iItems (tBM0 K "dict" rItems t)) (iIt m) := by
 intro F j σ H ρ S r R En0 e k
 rcases rb_some e with ⟨x, S1, e1, e⟩ | ⟨c, S1, e1, rfl⟩
 ·cases e4 : dkAt S1 x with
  | none => rw [e4] at e; cases e
  | some p =>
   obtain ⟨n, kvs⟩ := p
   rw [e4] at e
   cases e
   refine h En0 e1 fun j1 H1 X1 E1 u hu => ?_
   obtain ⟨a, ks, rfl, hj, h1, h2⟩ := E1.dk hu e4
   have hs := (dkAt_some e4).2
   refine ⟨tyD h1, a, ks, rfl, rfl, h1, fun p hp => ?_⟩
   obtain ⟨E2, X2⟩ := E1.new (o := iview p a) hp
   have ne : a ≠ p := ne_of_none h1 hp
   refine ⟨p, a, ks, rfl, upd_same, by rw [upd_ne ne]; exact h1, fun o => ?_⟩
   obtain ⟨E3, X3⟩ := E2.writeF (n := n) (c' := .fdk kvs) (o := .frz o (.dK ks)) hs rfl hj (fun X => ⟨o, ks, upd_same, (h2.mono X2).mono X⟩)
   refine k _ _ (X1.trans (X2.trans X3)) E3 _ ?_
   intro F2 j2 H2 σ2 ρ2 S2 xs i X4 E4 e5
   unfold fdkAt at e5
   split at e5
   ·rename_i kvs2 ec
    cases e5
    have ha : H2 a = some (.frz o (.dK ks)) := X4.imm _ _ upd_same rfl
    obtain ⟨o', ks', f1, f2⟩ := E4.cel n _ a ec (X4.pre n a hj)
    rw [ha] at f1
    cases f1
    refine ⟨fun y ey => ?_, fun hle => ⟨ha, by rw [f2.len]; unfold pairsX at hle; rw [List.length_map] at hle; omega⟩⟩
    unfold pairsX at ey
    rw [List.getElem?_map] at ey
    cases ep : kvs2[i]? with
    | none => rw [ep] at ey; cases ey
    | some q =>
     obtain ⟨kk, xx⟩ := q
     rw [ep] at ey
     cases ey
     obtain ⟨v, g1, g2⟩ := f2.get ep
     refine ⟨⟨ha, kk, v, g1⟩, ?_⟩
     rintro v' H' ⟨q, k2, v2, rfl, hq, rfl, g3⟩
     rw [g1] at g3
     cases g3
     exact ⟨same_upd hq, .tup upd_same (.cons kX_is (.one (g2.mono (Ext.same (same_upd hq)))))⟩
   ·cases e5
 ·exact h En0 e1 k
end
theorem wx_iIt {ρ : Rho} {S : Sto} {m : TwE} {Q' : (Sto → Option (List Xv)) → Sto → Prop} (h : W (m ρ S) fun x S1 => ∃ n kvs, dkAt S1 x = some (n, kvs) ∧ Q' (fdkAt n) (S1.set n (.fdk kvs))) : W (iIt m ρ S) Q' := W.bind (h.imp fun x S1 h => by
 obtain ⟨n, kvs, e, q⟩ := h
 rw [e]
 exact .of rfl q)
end L2
namespace L2
open PySem PySem.Spec PyProof.Rows PySem.Calls
noncomputable def blkOkF (osc sc : Scope) : Bool := sc.names.all (fun y => y.2 != .cell) && sc.kind == .function && sc.names.all (fun y => y.2 != .local || sc.names.lookup y.1 == some .local) &&
 sc.names.all (fun y => y.2 != .free || osc.names.lookup y.1 == some .free)
theorem blkC {X : Cx} {N' : List Str} {sc0 sc : Scope} {C : Addr} {s₀ : Shared} {H₀ : Hp} {fp : List Addr} (h : blkOkF sc0 sc = true) : BlockOk (cxComp X N' sc0 C s₀ H₀ fp) sc := by
 unfold blkOkF at h
 simp only [Bool.and_eq_true, List.all_eq_true, bne_iff_ne, ne_eq, beq_iff_eq, Bool.or_eq_true] at h
 obtain ⟨⟨⟨h1, h2⟩, h3⟩, h4⟩ := h
 refine ⟨h1, h2, fun y hy e => (h3 y hy).resolve_left fun z => z e, fun y hy e => ?_⟩
 exact lookup_relabel_free (env := X.env) ((h4 y hy).resolve_left fun z => z e)
noncomputable def dEqD : Op2 := fun x y S => match dkAt S x, dkAt S y with
 | some (_, kvs), some (_, []) => some (.bl kvs.isEmpty, S)
 | _, _ => none
theorem r2_eqD {K : PySem.W.Frag} : R2Ok K rEqNilD dEqD := by
 intro F j σ H ρ S S' x y z u v Q E1 hx hy h k
 unfold dEqD at h
 split at h
 ·rename_i n kvs m e1 e2
  cases h
  obtain ⟨a, ks, rfl, _, f1, f2⟩ := E1.dk hx e1
  obtain ⟨b, us, rfl, _, g1, g2⟩ := E1.dk hy e2
  cases g2
  refine ⟨a, b, ks, rfl, rfl, .inl f1, .inl g1, ?_⟩
  have : ks.isEmpty = kvs.isEmpty := by cases f2 <;> rfl
  rw [this]
  exact k _ _ _ Ext.refl E1 (.bl _)
 ·cases h
theorem ox_eqDn {S : Sto} {x y : Xv} {P : Xv → Sto → Prop} {n m : Nat} {kvs : List (Key × Xv)} (h : dkAt S x = some (n, kvs)) (h2 : dkAt S y = some (m, [])) (k : P (.bl kvs.isEmpty) S) : WO (dEqD x y S) P := .of (by unfold dEqD; rw [h, h2]) k
end L2
namespace Mth
open PySem.Builtin.Int (intBits)
end Mth
namespace Prf
open PySem PySem.Spec PyProof.Rows L2
open PySem.Builtin.Int (intBits)
set_option maxHeartbeats 4000000
section
variable {P : Program} {w : World} {K : PySem.W.Frag} {mg : Str → Option Value} {base : Heap} {fu : Nat}
noncomputable def top (i : Nat) : Stmt := PySem.Challenge.pw_lots_k67_a_ring_with_a_gain.main.body.getD i (.Pass ⟨0, 0, 0, 0⟩)
noncomputable abbrev s_next_nodes : Stmt := top 5
noncomputable abbrev s_nodes_ahead : Stmt := top 6
noncomputable abbrev s_way_to : Stmt := top 7
noncomputable abbrev s_rings_of : Stmt := top 8
noncomputable abbrev s_refuse_hands : Stmt := top 9
noncomputable abbrev s_mask_of : Stmt := top 10
noncomputable abbrev s_reach_masks : Stmt := top 11
noncomputable abbrev s_gains_of : Stmt := top 13
noncomputable abbrev s_gain_rings : Stmt := top 14
noncomputable abbrev s_gain_ring : Stmt := top 15
noncomputable abbrev s__law_cell_at : Stmt := top 17
noncomputable abbrev s__law_mixed : Stmt := top 18
noncomputable abbrev s__law_fraction : Stmt := top 19
noncomputable abbrev s__law_gain : Stmt := top 20
noncomputable abbrev s__law_name : Stmt := top 21
noncomputable abbrev s__law_goal : Stmt := top 22
noncomputable abbrev s__law_table : Stmt := top 23
noncomputable abbrev s__law_chain : Stmt := top 24
noncomputable abbrev s__law_copy : Stmt := top 25
noncomputable abbrev s__law_below : Stmt := top 26
noncomputable abbrev s__law_ring : Stmt := top 27
noncomputable abbrev s__law_endless : Stmt := top 28
noncomputable abbrev s__law_way : Stmt := top 29
noncomputable abbrev s_law : Stmt := top 30
theorem sc_next_nodes : FnScope ["choices", "found", "gain", "parts", "number", "share"] ["choices"] (defScope s_next_nodes) := ⟨rfl, rfl, rfl, by decide +kernel, rfl, by decide +kernel, by decide +kernel⟩
theorem sc_nodes_ahead : FnScope ["net", "node", "ahead", "layer", "farther", "here", "there"] ["net", "node"] (defScope s_nodes_ahead) := ⟨rfl, rfl, rfl, by decide +kernel, rfl, by decide +kernel, by decide +kernel⟩
theorem sc_way_to : FnScope ["net", "node", "goal", "ahead", "way", "here"] ["net", "node", "goal"] (defScope s_way_to) := ⟨rfl, rfl, rfl, by decide +kernel, rfl, by decide +kernel, by decide +kernel⟩
theorem sc_rings_of : FnScope ["net", "alike", "node", "mask"] ["net"] (defScope s_rings_of) := ⟨rfl, rfl, rfl, by decide +kernel, rfl, by decide +kernel, by decide +kernel⟩
theorem sc_refuse_hands : FnScope ["net"] ["net"] (defScope s_refuse_hands) := ⟨rfl, rfl, rfl, by decide +kernel, rfl, by decide +kernel, by decide +kernel⟩
theorem sc_mask_of : FnScope ["nodes", "mask", "node"] ["nodes"] (defScope s_mask_of) := ⟨rfl, rfl, rfl, by decide +kernel, rfl, by decide +kernel, by decide +kernel⟩
theorem sc_reach_masks : FnScope ["net", "masks", "through", "node"] ["net"] (defScope s_reach_masks) := ⟨rfl, rfl, rfl, by decide +kernel, rfl, by decide +kernel, by decide +kernel⟩
theorem sc_gains_of : FnScope ["net"] ["net"] (defScope s_gains_of) := ⟨rfl, rfl, rfl, by decide +kernel, rfl, by decide +kernel, by decide +kernel⟩
theorem sc_gain_rings : FnScope ["net", "gains"] ["net"] (defScope s_gain_rings) := ⟨rfl, rfl, rfl, by decide +kernel, rfl, by decide +kernel, by decide +kernel⟩
theorem sc_gain_ring : FnScope ["net", "node", "ring", "way"] ["net", "node"] (defScope s_gain_ring) := ⟨rfl, rfl, rfl, by decide +kernel, rfl, by decide +kernel, by decide +kernel⟩
theorem sc__law_cell_at : FnScope ["_law_script", "_law_k"] ["_law_script", "_law_k"] (defScope s__law_cell_at) := ⟨rfl, rfl, rfl, by decide +kernel, rfl, by decide +kernel, by decide +kernel⟩
theorem sc__law_mixed : FnScope ["_law_number", "_law_prime", "_law_many"] ["_law_number", "_law_prime", "_law_many"] (defScope s__law_mixed) := ⟨rfl, rfl, rfl, by decide +kernel, rfl, by decide +kernel, by decide +kernel⟩
theorem sc__law_fraction : FnScope ["_law_top", "_law_bottom", "_law_one", "_law_other"] ["_law_top", "_law_bottom"] (defScope s__law_fraction) := ⟨rfl, rfl, rfl, by decide +kernel, rfl, by decide +kernel, by decide +kernel⟩
theorem sc__law_gain : FnScope ["_law_cell"] ["_law_cell"] (defScope s__law_gain) := ⟨rfl, rfl, rfl, by decide +kernel, rfl, by decide +kernel, by decide +kernel⟩
theorem sc__law_name : FnScope ["_law_script", "_law_count", "_law_place", "_law_turned"] ["_law_script", "_law_count", "_law_place"] (defScope s__law_name) := ⟨rfl, rfl, rfl, by decide +kernel, rfl, by decide +kernel, by decide +kernel⟩
theorem sc__law_goal : FnScope ["_law_script", "_law_count", "_law_place", "_law_cell", "_law_span", "_law_low", "_law_high"] ["_law_script", "_law_count", "_law_place", "_law_cell"] (defScope s__law_goal) := ⟨rfl, rfl, rfl, by decide +kernel, rfl, by decide +kernel, by decide +kernel⟩
theorem sc__law_table : FnScope ["_law_script", "_law_count", "_law_table_here", "_law_kind", "_law_k", "_law_cell", "_law_place", "_law_thin", "_law_weights", "_law_to"] ["_law_script", "_law_count"] (defScope s__law_table) := ⟨rfl, rfl, rfl, by decide +kernel, rfl, by decide +kernel, by decide +kernel⟩
theorem sc__law_chain : FnScope ["_law_script", "_law_count", "_law_table_here", "_law_net", "_law_place", "_law_weights", "_law_whole", "_law_parts"] ["_law_script"] (defScope s__law_chain) := ⟨rfl, rfl, rfl, by decide +kernel, rfl, by decide +kernel, by decide +kernel⟩
theorem sc__law_copy : FnScope ["_law_net", "_law_copied", "_law_choices"] ["_law_net"] (defScope s__law_copy) := ⟨rfl, rfl, rfl, by decide +kernel, rfl, by decide +kernel, by decide +kernel⟩
theorem sc__law_below : FnScope ["_law_net", "_law_node", "_law_found", "_law_at", "_law_choice", "_law_part"] ["_law_net", "_law_node"] (defScope s__law_below) := ⟨rfl, rfl, rfl, by decide +kernel, rfl, by decide +kernel, by decide +kernel⟩
theorem sc__law_ring : FnScope ["_law_net", "_law_below_here", "_law_ring_here", "_law_gained", "_law_node"] ["_law_net", "_law_below_here", "_law_ring_here"] (defScope s__law_ring) := ⟨rfl, rfl, rfl, by decide +kernel, rfl, by decide +kernel, by decide +kernel⟩
theorem sc__law_endless : FnScope ["_law_net", "_law_below_here"] ["_law_net", "_law_below_here"] (defScope s__law_endless) := ⟨rfl, rfl, rfl, by decide +kernel, rfl, by decide +kernel, by decide +kernel⟩
theorem sc__law_way : FnScope ["_law_net", "_law_way_here", "_law_node", "_law_ring_here", "_law_one", "_law_k"] ["_law_net", "_law_way_here", "_law_node", "_law_ring_here"] (defScope s__law_way) := ⟨rfl, rfl, rfl, by decide +kernel, rfl, by decide +kernel, by decide +kernel⟩
theorem sc_law : FnScope ["_law_script", "_law_net", "_law_handed", "_law_below_here", "_law_endless_here", "_law_node", "_law_found"] ["_law_script"] (defScope s_law) := ⟨rfl, rfl, rfl, by decide +kernel, rfl, by decide +kernel, by decide +kernel⟩
set_option genInjectivity false in
set_option genSizeOf false in
structure Tx (K : PySem.W.Frag) (mg : Str → Option Value) where
 a_next_nodes : Addr
 fd_next_nodes : FuncData
 F_next_nodes : Fun K "next_nodes" "next_nodes" s_next_nodes a_next_nodes fd_next_nodes
 m_next_nodes : mg "next_nodes" = some (.ref a_next_nodes)
 b_next_nodes : Binds K fd_next_nodes ["choices"] []
 a_nodes_ahead : Addr
 fd_nodes_ahead : FuncData
 F_nodes_ahead : Fun K "nodes_ahead" "nodes_ahead" s_nodes_ahead a_nodes_ahead fd_nodes_ahead
 m_nodes_ahead : mg "nodes_ahead" = some (.ref a_nodes_ahead)
 b_nodes_ahead : Binds K fd_nodes_ahead ["net", "node"] []
 a_way_to : Addr
 fd_way_to : FuncData
 F_way_to : Fun K "way_to" "way_to" s_way_to a_way_to fd_way_to
 m_way_to : mg "way_to" = some (.ref a_way_to)
 b_way_to : Binds K fd_way_to ["net", "node", "goal"] []
 a_rings_of : Addr
 fd_rings_of : FuncData
 F_rings_of : Fun K "rings_of" "rings_of" s_rings_of a_rings_of fd_rings_of
 m_rings_of : mg "rings_of" = some (.ref a_rings_of)
 b_rings_of : Binds K fd_rings_of ["net"] []
 a_refuse_hands : Addr
 fd_refuse_hands : FuncData
 F_refuse_hands : Fun K "refuse_hands" "refuse_hands" s_refuse_hands a_refuse_hands fd_refuse_hands
 m_refuse_hands : mg "refuse_hands" = some (.ref a_refuse_hands)
 b_refuse_hands : Binds K fd_refuse_hands ["net"] []
 a_mask_of : Addr
 fd_mask_of : FuncData
 F_mask_of : Fun K "mask_of" "mask_of" s_mask_of a_mask_of fd_mask_of
 m_mask_of : mg "mask_of" = some (.ref a_mask_of)
 b_mask_of : Binds K fd_mask_of ["nodes"] []
 a_reach_masks : Addr
 fd_reach_masks : FuncData
 F_reach_masks : Fun K "reach_masks" "reach_masks" s_reach_masks a_reach_masks fd_reach_masks
 m_reach_masks : mg "reach_masks" = some (.ref a_reach_masks)
 b_reach_masks : Binds K fd_reach_masks ["net"] []
 a_gains_of : Addr
 fd_gains_of : FuncData
 F_gains_of : Fun K "gains_of" "gains_of" s_gains_of a_gains_of fd_gains_of
 m_gains_of : mg "gains_of" = some (.ref a_gains_of)
 b_gains_of : Binds K fd_gains_of ["net"] []
 a_gain_rings : Addr
 fd_gain_rings : FuncData
 F_gain_rings : Fun K "gain_rings" "gain_rings" s_gain_rings a_gain_rings fd_gain_rings
 m_gain_rings : mg "gain_rings" = some (.ref a_gain_rings)
 b_gain_rings : Binds K fd_gain_rings ["net"] []
 a_gain_ring : Addr
 fd_gain_ring : FuncData
 F_gain_ring : Fun K "gain_ring" "gain_ring" s_gain_ring a_gain_ring fd_gain_ring
 m_gain_ring : mg "gain_ring" = some (.ref a_gain_ring)
 b_gain_ring : Binds K fd_gain_ring ["net", "node"] []
 a__law_cell_at : Addr
 fd__law_cell_at : FuncData
 F__law_cell_at : Fun K "_law_cell_at" "_law_cell_at" s__law_cell_at a__law_cell_at fd__law_cell_at
 m__law_cell_at : mg "_law_cell_at" = some (.ref a__law_cell_at)
 b__law_cell_at : Binds K fd__law_cell_at ["_law_script", "_law_k"] []
 a__law_mixed : Addr
 fd__law_mixed : FuncData
 F__law_mixed : Fun K "_law_mixed" "_law_mixed" s__law_mixed a__law_mixed fd__law_mixed
 m__law_mixed : mg "_law_mixed" = some (.ref a__law_mixed)
 b__law_mixed : Binds K fd__law_mixed ["_law_number", "_law_prime", "_law_many"] []
 a__law_fraction : Addr
 fd__law_fraction : FuncData
 F__law_fraction : Fun K "_law_fraction" "_law_fraction" s__law_fraction a__law_fraction fd__law_fraction
 m__law_fraction : mg "_law_fraction" = some (.ref a__law_fraction)
 b__law_fraction : Binds K fd__law_fraction ["_law_top", "_law_bottom"] []
 a__law_gain : Addr
 fd__law_gain : FuncData
 F__law_gain : Fun K "_law_gain" "_law_gain" s__law_gain a__law_gain fd__law_gain
 m__law_gain : mg "_law_gain" = some (.ref a__law_gain)
 b__law_gain : Binds K fd__law_gain ["_law_cell"] []
 a__law_name : Addr
 fd__law_name : FuncData
 F__law_name : Fun K "_law_name" "_law_name" s__law_name a__law_name fd__law_name
 m__law_name : mg "_law_name" = some (.ref a__law_name)
 b__law_name : Binds K fd__law_name ["_law_script", "_law_count", "_law_place"] []
 a__law_goal : Addr
 fd__law_goal : FuncData
 F__law_goal : Fun K "_law_goal" "_law_goal" s__law_goal a__law_goal fd__law_goal
 m__law_goal : mg "_law_goal" = some (.ref a__law_goal)
 b__law_goal : Binds K fd__law_goal ["_law_script", "_law_count", "_law_place", "_law_cell"] []
 a__law_table : Addr
 fd__law_table : FuncData
 F__law_table : Fun K "_law_table" "_law_table" s__law_table a__law_table fd__law_table
 m__law_table : mg "_law_table" = some (.ref a__law_table)
 b__law_table : Binds K fd__law_table ["_law_script", "_law_count"] []
 a__law_chain : Addr
 fd__law_chain : FuncData
 F__law_chain : Fun K "_law_chain" "_law_chain" s__law_chain a__law_chain fd__law_chain
 m__law_chain : mg "_law_chain" = some (.ref a__law_chain)
 b__law_chain : Binds K fd__law_chain ["_law_script"] []
 a__law_copy : Addr
 fd__law_copy : FuncData
 F__law_copy : Fun K "_law_copy" "_law_copy" s__law_copy a__law_copy fd__law_copy
 m__law_copy : mg "_law_copy" = some (.ref a__law_copy)
 b__law_copy : Binds K fd__law_copy ["_law_net"] []
 a__law_below : Addr
 fd__law_below : FuncData
 F__law_below : Fun K "_law_below" "_law_below" s__law_below a__law_below fd__law_below
 m__law_below : mg "_law_below" = some (.ref a__law_below)
 b__law_below : Binds K fd__law_below ["_law_net", "_law_node"] []
 a__law_ring : Addr
 fd__law_ring : FuncData
 F__law_ring : Fun K "_law_ring" "_law_ring" s__law_ring a__law_ring fd__law_ring
 m__law_ring : mg "_law_ring" = some (.ref a__law_ring)
 b__law_ring : Binds K fd__law_ring ["_law_net", "_law_below_here", "_law_ring_here"] []
 a__law_endless : Addr
 fd__law_endless : FuncData
 F__law_endless : Fun K "_law_endless" "_law_endless" s__law_endless a__law_endless fd__law_endless
 m__law_endless : mg "_law_endless" = some (.ref a__law_endless)
 b__law_endless : Binds K fd__law_endless ["_law_net", "_law_below_here"] []
 a__law_way : Addr
 fd__law_way : FuncData
 F__law_way : Fun K "_law_way" "_law_way" s__law_way a__law_way fd__law_way
 m__law_way : mg "_law_way" = some (.ref a__law_way)
 b__law_way : Binds K fd__law_way ["_law_net", "_law_way_here", "_law_node", "_law_ring_here"] []
 a_law : Addr
 fd_law : FuncData
 F_law : Fun K "law" "law" s_law a_law fd_law
 m_law : mg "law" = some (.ref a_law)
 b_law : Binds K fd_law ["_law_script"] []
 n_any : mg "any" = none
 n_bool : mg "bool" = none
 n_enumerate : mg "enumerate" = none
 n_int : mg "int" = none
 n_isinstance : mg "isinstance" = none
 n_len : mg "len" = none
 n_list : mg "list" = none
 n_min : mg "min" = none
 n_range : mg "range" = none
 n_reversed : mg "reversed" = none
 n_sorted : mg "sorted" = none
 n_sum : mg "sum" = none
 n_tuple : mg "tuple" = none
 a_LotsError : Addr
 m_LotsError : mg "LotsError" = some (.ref a_LotsError)
 x_LotsError : ExcCls K mg "LotsError" a_LotsError [.type "ValueError", .type "Exception", .type "BaseException", .type "object"] "ValueError.__new__"
 i_LotsError : ExcIs K a_LotsError
 t_LotsError : PySem.W.typeIn K (.ref a_LotsError) = some (.type "type")
 e_LotsError : PySem.W.mroIn K a_LotsError (.type "BaseException") = some true
 v_LotsError : PySem.W.mroIn K a_LotsError (.type "ValueError") = some true
 a_HandLeft : Addr
 m_HandLeft : mg "HandLeft" = some (.ref a_HandLeft)
 x_HandLeft : ExcCls K mg "HandLeft" a_HandLeft [.type "ValueError", .type "Exception", .type "BaseException", .type "object"] "ValueError.__new__"
 i_HandLeft : ExcIs K a_HandLeft
 t_HandLeft : PySem.W.typeIn K (.ref a_HandLeft) = some (.type "type")
 e_HandLeft : PySem.W.mroIn K a_HandLeft (.type "BaseException") = some true
 v_HandLeft : PySem.W.mroIn K a_HandLeft (.type "ValueError") = some true
 a_NOUGHT : Addr
 m_NOUGHT : mg "NOUGHT" = some (.ref a_NOUGHT)
 c_NOUGHT : ∀ H, SqT K H a_NOUGHT [.int 0, .int 1]
noncomputable def tb_next_nodes (fu : Nat) : TwS := (sSeq (sAsg eDict0 (gN 1)) (sSeq (sFor (iL (eVar 0)) (gT 2 (gsCons (gN 2) (gsCons (gN 3) gsNil))) (sFor (iL (eVar 3)) (gT 2 (gsCons (gN 4) (gsCons (gN 5) gsNil))) (sDPutX (eVar 1) (eVar 4) (eC (.bl true))))) (sRet (eFn dListD [(eVar 1)]))))
noncomputable def tw_next_nodes (fu : Nat) : TwF := runTw 1 5 (tb_next_nodes fu)
theorem ok_next_nodes (T : Tx K mg) : FnOk P w K mg base (CXE P w) 1 T.a_next_nodes T.fd_next_nodes ["choices"] (sTw K 1 (tw_next_nodes fu)) :=
 T.F_next_nodes.okE sc_next_nodes (fun vs H Q E h => h.1) (fun cdv A outer s H vs Q E hr h => ⟨_, (@pss_cons _ _ _ _ _ (@ps_set _ _ 1 _ _ _ _ sc_next_nodes.nd rfl (Or.inl rfl) pe_dnewK (by rfl) (by first | exact .inl rfl | exact .inr rfl | assumption)) (@pss_cons _ _ _ _ _ (ps_for PassesOwn.leaving rfl (pi_listK (K := K) (pv 0)) (pg_tupK (K := K) (n := 2) rfl (pgs_cons (pg_name (i := 2) sc_next_nodes.nd rfl (Or.inl rfl)) (pgs_cons (pg_name (i := 3) sc_next_nodes.nd rfl (Or.inl rfl)) pgs_nil))) (@pss_one _ _ _ (ps_for PassesOwn.leaving rfl (pi_listK (K := K) (pv 3)) (pg_tupK (K := K) (n := 2) rfl (pgs_cons (pg_name (i := 4) sc_next_nodes.nd rfl (Or.inl rfl)) (pgs_cons (pg_name (i := 5) sc_next_nodes.nd rfl (Or.inl rfl)) pgs_nil))) (@pss_one _ _ _ (ps_dput (hu_of hr) (pv 1) (pv 4) pe_bl rfl))))) (@pss_one _ _ _ (@ps_ret _ _ _ _ (pe_callTy (call_listD rfl) rfl T.n_list boot_list (@pa_cons _ _ _ _ _ (pv 1) pa_nil se_Name)))))), fn_tw (n := 1) (k := 5) (b := tb_next_nodes fu) rfl (rs_seq (rs_asg re_dnew rg_name) (rs_seq (rs_for (ri_list (re_var 0)) (rg_tup (rgs_cons rg_name (rgs_cons rg_name rgs_nil))) (rs_for (ri_list (re_var 3)) (rg_tup (rgs_cons rg_name (rgs_cons rg_name rgs_nil))) (rs_dput (re_var 1) (re_var 4) (re_bl _)))) (rs_ret (re_fn rc_listD (rl_cons (re_var 1) rl_nil))))) h⟩)
noncomputable def tb_nodes_ahead (fu : Nat) : TwS := (sSeq (sAsg (eDict1 (eVar 1) (eC .non)) (gN 2)) (sSeq (sAsg (eLst [(eVar 1)]) (gN 3)) (sSeq (sWh fu (bE (eOp dGt (eFn dLen [(eVar 3)]) (eC (.int 0)))) (sSeq (sAsg (eLst []) (gN 4)) (sSeq (sFor (iL (eVar 3)) (gN 5) (sFor (iL (eCall (tw_next_nodes fu) [(eOp dIxL (eVar 0) (eVar 5))])) (gN 6) (sIf (bE (eDIn true (eVar 6) (eVar 2))) (sSeq (sDPutX (eVar 2) (eVar 6) (eVar 5)) (sExpr (eMt mAppend (eVar 4) [(eVar 6)]))) sNext))) (sAsg (eVar 4) (gN 3))))) (sRet (eVar 2)))))
noncomputable def tw_nodes_ahead (fu : Nat) : TwF := runTw 2 5 (tb_nodes_ahead fu)
theorem ok_nodes_ahead (T : Tx K mg) : FnOk P w K mg base (CXE P w) 2 T.a_nodes_ahead T.fd_nodes_ahead ["net", "node"] (sTw K 2 (tw_nodes_ahead fu)) :=
 T.F_nodes_ahead.okE sc_nodes_ahead (fun vs H Q E h => h.1) (fun cdv A outer s H vs Q E hr h => ⟨_, (@pss_cons _ _ _ _ _ (@ps_set _ _ 2 _ _ _ _ sc_nodes_ahead.nd rfl (Or.inl rfl) (pe_disp (pps_cons (pv 1) pe_non pps_nil) (by rfl) (by rfl) (by intro z; cases z) (by decide)) (by rfl) (by first | exact .inl rfl | exact .inr rfl | assumption)) (@pss_cons _ _ _ _ _ (@ps_set _ _ 3 _ _ _ _ sc_nodes_ahead.nd rfl (Or.inl rfl) (@pe_lst _ _ _ _ (@pa_cons _ _ _ _ _ (pv 1) pa_nil se_Name)) (by rfl) (by first | exact .inl rfl | exact .inr rfl | assumption)) (@pss_cons _ _ _ _ _ (ps_while PassesOwn.leaving (pt_cmp (pc_gt (pe_callB (call_lenK (K := K)) rfl T.n_len boot_len (@pa_cons _ _ _ _ _ (pv 3) pa_nil se_Name)) pe_int)) (@pss_cons _ _ _ _ _ (@ps_set _ _ 4 _ _ _ _ sc_nodes_ahead.nd rfl (Or.inl rfl) (@pe_lst _ _ _ _ pa_nil) (by rfl) (by first | exact .inl rfl | exact .inr rfl | assumption)) (@pss_cons _ _ _ _ _ (ps_for PassesOwn.leaving rfl (pi_listK (K := K) (pv 3)) (pg_name (i := 5) sc_nodes_ahead.nd rfl (Or.inl rfl)) (@pss_one _ _ _ (ps_for PassesOwn.leaving rfl (pi_listK (K := K) (pe_call (ok_next_nodes (fu := fu) T) (hr.mono (by decide)) rfl T.m_next_nodes T.F_next_nodes.kp T.b_next_nodes .nil passE (@pa_cons _ _ _ _ _ (@pe_ix _ _ _ _ _ _ _ (ix_listK (K := K)) (pv 0) (pv 5) (fun _ _ => rfl)) pa_nil se_Subscript))) (pg_name (i := 6) sc_nodes_ahead.nd rfl (Or.inl rfl)) (@pss_one _ _ _ (ps_if (pt_cmp (pc_dnotin (hu_of hr) (pv 6) (pv 2))) (@pss_cons _ _ _ _ _ (ps_dput (hu_of hr) (pv 2) (pv 6) (pv 5) rfl) (@pss_one _ _ _ (ps_expr (pe_bm PySem.F.plainAttrs_list PySem.F.slot_list_append PySem.F.type_list_append mt_append (pv 4) (@pa_cons _ _ _ _ _ (pv 6) pa_nil se_Name))))) pss_nil))))) (@pss_one _ _ _ (@ps_set _ _ 3 _ _ _ _ sc_nodes_ahead.nd rfl (Or.inl rfl) (pv 4) (by rfl) (by first | exact .inl rfl | exact .inr rfl | assumption)))))) (@pss_one _ _ _ (@ps_ret _ _ _ _ (pv 2)))))), fn_tw (n := 2) (k := 5) (b := tb_nodes_ahead fu) rfl (rs_seq (rs_asg (re_dict1 (re_var 1) re_non) rg_name) (rs_seq (rs_asg (re_lst (rl_cons (re_var 1) rl_nil)) rg_name) (rs_seq (rs_while (rt_e (re_gt (re_fn rc_len (rl_cons (re_var 3) rl_nil)) (re_int _))) (rs_seq (rs_asg (re_lst rl_nil) rg_name) (rs_seq (rs_for (ri_list (re_var 3)) rg_name (rs_for (ri_list (re_call (rl_cons (re_op r2_ixL (re_var 0) (re_var 5)) rl_nil))) rg_name (rs_if (rt_e (re_dnotin (re_var 6) (re_var 2))) (rs_seq (rs_dput (re_var 2) (re_var 6) (re_var 5)) (rs_expr (re_mt rm_append (re_var 4) (rl_cons (re_var 6) rl_nil)))) rs_next))) (rs_asg (re_var 4) rg_name)))) (rs_ret (re_var 2))))) h⟩)
noncomputable def tb_way_to (fu : Nat) : TwS := (sSeq (sAsg (eCall (tw_nodes_ahead fu) [(eVar 0), (eVar 1)]) (gN 3)) (sSeq (sIf (bE (eDIn true (eVar 2) (eVar 3))) (sRet (eC .non)) sNext) (sSeq (sAsg (eLst []) (gN 4)) (sSeq (sAsg (eVar 2) (gN 5)) (sSeq (sWh fu (bE (eUn dNotN (eVar 5))) (sSeq (sExpr (eMt mAppend (eVar 4) [(eVar 5)])) (sAsg (eDGet (eVar 3) (eVar 5)) (gN 5)))) (sRet (eUn dListRev (eVar 4))))))))
noncomputable def tw_way_to (fu : Nat) : TwF := runTw 3 3 (tb_way_to fu)
theorem ok_way_to (T : Tx K mg) : FnOk P w K mg base (CXE P w) 3 T.a_way_to T.fd_way_to ["net", "node", "goal"] (sTw K 3 (tw_way_to fu)) :=
 T.F_way_to.okE sc_way_to (fun vs H Q E h => h.1) (fun cdv A outer s H vs Q E hr h => ⟨_, (@pss_cons _ _ _ _ _ (@ps_set _ _ 3 _ _ _ _ sc_way_to.nd rfl (Or.inl rfl) (pe_call (ok_nodes_ahead (fu := fu) T) (hr.mono (by decide)) rfl T.m_nodes_ahead T.F_nodes_ahead.kp T.b_nodes_ahead .nil passE (@pa_cons _ _ _ _ _ (pv 0) (@pa_cons _ _ _ _ _ (pv 1) pa_nil se_Name) se_Name)) (by rfl) (by first | exact .inl rfl | exact .inr rfl | assumption)) (@pss_cons _ _ _ _ _ (ps_if (pt_cmp (pc_dnotin (hu_of hr) (pv 2) (pv 3))) (@pss_one _ _ _ (@ps_ret _ _ _ _ pe_non)) pss_nil) (@pss_cons _ _ _ _ _ (@ps_set _ _ 4 _ _ _ _ sc_way_to.nd rfl (Or.inl rfl) (@pe_lst _ _ _ _ pa_nil) (by rfl) (by first | exact .inl rfl | exact .inr rfl | assumption)) (@pss_cons _ _ _ _ _ (@ps_set _ _ 5 _ _ _ _ sc_way_to.nd rfl (Or.inl rfl) (pv 2) (by rfl) (by first | exact .inl rfl | exact .inr rfl | assumption)) (@pss_cons _ _ _ _ _ (ps_while PassesOwn.leaving (pt_cmp (pc_notN (pv 5))) (@pss_cons _ _ _ _ _ (ps_expr (pe_bm PySem.F.plainAttrs_list PySem.F.slot_list_append PySem.F.type_list_append mt_append (pv 4) (@pa_cons _ _ _ _ _ (pv 5) pa_nil se_Name))) (@pss_one _ _ _ (@ps_set _ _ 5 _ _ _ _ sc_way_to.nd rfl (Or.inl rfl) (pe_dget (hu_of hr) (pv 3) (pv 5) (fun _ _ => rfl)) (by rfl) (by first | exact .inl rfl | exact .inr rfl | assumption))))) (@pss_one _ _ _ (@ps_ret _ _ _ _ (pe_listRev (K := K) rfl rfl T.n_list rfl T.n_reversed (pv 4))))))))), fn_tw (n := 3) (k := 3) (b := tb_way_to fu) rfl (rs_seq (rs_asg (re_call (rl_cons (re_var 0) (rl_cons (re_var 1) rl_nil))) rg_name) (rs_seq (rs_if (rt_e (re_dnotin (re_var 2) (re_var 3))) (rs_ret re_non) rs_next) (rs_seq (rs_asg (re_lst rl_nil) rg_name) (rs_seq (rs_asg (re_var 2) rg_name) (rs_seq (rs_while (rt_e (re_notN (re_var 5))) (rs_seq (rs_expr (re_mt rm_append (re_var 4) (rl_cons (re_var 5) rl_nil))) (rs_asg (re_dget (re_var 3) (re_var 5)) rg_name))) (rs_ret (re_listRev (re_var 4)))))))) h⟩)
noncomputable def tb_mask_of (fu : Nat) : TwS := (sSeq (sAsg (eC (.int 0)) (gN 1)) (sSeq (sFor (iL (eVar 0)) (gN 2) (sAsg (eOp dBor (eVar 1) (eOp dShl (eC (.int 1)) (eVar 2))) (gN 1))) (sRet (eVar 1))))
noncomputable def tw_mask_of (fu : Nat) : TwF := runTw 1 2 (tb_mask_of fu)
theorem ok_mask_of (T : Tx K mg) : FnOk P w K mg base (CXE P w) 1 T.a_mask_of T.fd_mask_of ["nodes"] (sTw K 1 (tw_mask_of fu)) :=
 T.F_mask_of.okE sc_mask_of (fun vs H Q E h => h.1) (fun cdv A outer s H vs Q E hr h => ⟨_, (@pss_cons _ _ _ _ _ (@ps_set _ _ 1 _ _ _ _ sc_mask_of.nd rfl (Or.inl rfl) pe_int (by rfl) (by first | exact .inl rfl | exact .inr rfl | assumption)) (@pss_cons _ _ _ _ _ (ps_for PassesOwn.leaving rfl (pi_listK (K := K) (pv 0)) (pg_name (i := 2) sc_mask_of.nd rfl (Or.inl rfl)) (@pss_one _ _ _ (@ps_set _ _ 1 _ _ _ _ sc_mask_of.nd rfl (Or.inl rfl) (pe_op op_or (pv 1) (pe_op op_shl pe_int (pv 2))) (by rfl) (by first | exact .inl rfl | exact .inr rfl | assumption)))) (@pss_one _ _ _ (@ps_ret _ _ _ _ (pv 1))))), fn_tw (n := 1) (k := 2) (b := tb_mask_of fu) rfl (rs_seq (rs_asg (re_int _) rg_name) (rs_seq (rs_for (ri_list (re_var 0)) rg_name (rs_asg (re_op r2_bor (re_var 1) (re_op r2_shl (re_int _) (re_var 2))) rg_name)) (rs_ret (re_var 1)))) h⟩)
noncomputable def tb_reach_masks (fu : Nat) : TwS := (sSeq (sAsg (eComp [none, none] (iEn (eVar 0)) (gT 2 (gsCons (gN 0) (gsCons (gN 1) gsNil))) bTrue (eOp dBor (eCall (tw_mask_of fu) [(eLst [(eVar 0)])]) (eCall (tw_mask_of fu) [(eCall (tw_next_nodes fu) [(eVar 1)])]))) (gN 1)) (sSeq (sFor (iR1 (eFn dLen [(eVar 0)])) (gN 2) (sFor (iR1 (eFn dLen [(eVar 0)])) (gN 3) (sIf (bE (eOp dEqI (eOp dBand (eOp dShr (eOp dIxL (eVar 1) (eVar 3)) (eVar 2)) (eC (.int 1))) (eC (.int 1)))) (sAsg (eOp dBor (eOp dIxL (eVar 1) (eVar 3)) (eOp dIxL (eVar 1) (eVar 2))) (gStore (eVar 1) (eVar 3))) sNext))) (sRet (eVar 1))))
noncomputable def tw_reach_masks (fu : Nat) : TwF := runTw 1 3 (tb_reach_masks fu)
theorem ok_reach_masks (T : Tx K mg) : FnOk P w K mg base (CXE P w) 2 T.a_reach_masks T.fd_reach_masks ["net"] (sTw K 1 (tw_reach_masks fu)) :=
 T.F_reach_masks.okE sc_reach_masks (fun vs H Q E h => h.1) (fun cdv A outer s H vs Q E hr h => ⟨_, (@pss_cons _ _ _ _ _ (ps_setComp (i := 1) (N' := ["node", "choices"]) rfl (blk (osc := defScope s_reach_masks) rfl (by decide +kernel)) (cap_own (cap_own cap_nil)) (pi_enum (K := K) rfl T.n_enumerate (@pa_cons _ _ _ _ _ (pv 0) pa_nil se_Name)) (gown_tup (gsown_cons (gown_name rfl) (gsown_cons (gown_name rfl) gsown_nil gname_mono) gname_mono)) (fun C s₀ H₀ fp => pg_tupK (K := K) (n := 2) rfl (pgs_cons (pg_name (i := 0) (show (["node", "choices"] : List Str).Nodup from by decide +kernel) rfl (Or.inl rfl)) (pgs_cons (pg_name (i := 1) (show (["node", "choices"] : List Str).Nodup from by decide +kernel) rfl (Or.inl rfl)) pgs_nil))) (fun C s₀ H₀ fp => pts_nil) (fun C s₀ H₀ fp => (pe_op op_or (pe_call (ok_mask_of (fu := fu) T) (hr.mono (by decide)) rfl T.m_mask_of T.F_mask_of.kp T.b_mask_of .nil passF (@pa_cons _ _ _ _ _ (@pe_lst _ _ _ _ (@pa_cons _ _ _ _ _ (pv 0) pa_nil se_Name)) pa_nil se_List)) (pe_call (ok_mask_of (fu := fu) T) (hr.mono (by decide)) rfl T.m_mask_of T.F_mask_of.kp T.b_mask_of .nil passF (@pa_cons _ _ _ _ _ (pe_call (ok_next_nodes (fu := fu) T) (hr.mono (by decide)) rfl T.m_next_nodes T.F_next_nodes.kp T.b_next_nodes .nil passF (@pa_cons _ _ _ _ _ (pv 1) pa_nil se_Name)) pa_nil se_Call)))) sc_reach_masks.nd rfl rfl) (@pss_cons _ _ _ _ _ (ps_for PassesOwn.leaving rfl (pi_range1 rfl T.n_range (@pa_cons _ _ _ _ _ (pe_callB (call_lenK (K := K)) rfl T.n_len boot_len (@pa_cons _ _ _ _ _ (pv 0) pa_nil se_Name)) pa_nil se_Call)) (pg_name (i := 2) sc_reach_masks.nd rfl (Or.inl rfl)) (@pss_one _ _ _ (ps_for PassesOwn.leaving rfl (pi_range1 rfl T.n_range (@pa_cons _ _ _ _ _ (pe_callB (call_lenK (K := K)) rfl T.n_len boot_len (@pa_cons _ _ _ _ _ (pv 0) pa_nil se_Name)) pa_nil se_Call)) (pg_name (i := 3) sc_reach_masks.nd rfl (Or.inl rfl)) (@pss_one _ _ _ (ps_if (pt_cmp (pc_eqI (pe_op op_and (pe_op op_shr (@pe_ix _ _ _ _ _ _ _ (ix_listK (K := K)) (pv 1) (pv 3) (fun _ _ => rfl)) (pv 2)) pe_int) pe_int)) (@pss_one _ _ _ (ps_asg (pe_op op_or (@pe_ix _ _ _ _ _ _ _ (ix_listK (K := K)) (pv 1) (pv 3) (fun _ _ => rfl)) (@pe_ix _ _ _ _ _ _ _ (ix_listK (K := K)) (pv 1) (pv 2) (fun _ _ => rfl))) (pg_sub (pv 1) (pv 3) set_list))) pss_nil))))) (@pss_one _ _ _ (@ps_ret _ _ _ _ (pv 1))))), fn_tw (n := 1) (k := 3) (b := tb_reach_masks fu) rfl (rs_seq (rs_setComp (re_comp (cap := [none, none]) (ri_enum (re_var 0)) (rg_tup (rgs_cons rg_name (rgs_cons rg_name rgs_nil))) rt_true (re_op r2_bor (re_call (rl_cons (re_lst (rl_cons (re_var 0) rl_nil)) rl_nil)) (re_call (rl_cons (re_call (rl_cons (re_var 1) rl_nil)) rl_nil))))) (rs_seq (rs_for (ri_range1 (re_fn rc_len (rl_cons (re_var 0) rl_nil))) rg_name (rs_for (ri_range1 (re_fn rc_len (rl_cons (re_var 0) rl_nil))) rg_name (rs_if (rt_e (re_eqI (re_op r2_band (re_op r2_shr (re_op r2_ixL (re_var 1) (re_var 3)) (re_var 2)) (re_int _)) (re_int _))) (rs_asg (re_op r2_bor (re_op r2_ixL (re_var 1) (re_var 3)) (re_op r2_ixL (re_var 1) (re_var 2))) (rg_store (re_var 1) (re_var 3))) rs_next))) (rs_ret (re_var 1)))) h⟩)
noncomputable def tb_refuse_hands (fu : Nat) : TwS := (sIf (bE (eFn dAny [(eComp [none] (iL (eVar 0)) (gN 0) bTrue (eOp dGt (eFn dLen [(eVar 0)]) (eC (.int 1))))])) sStuck sNext)
noncomputable def tw_refuse_hands (fu : Nat) : TwF := runTw 1 0 (tb_refuse_hands fu)
theorem ok_refuse_hands (T : Tx K mg) : FnOk P w K mg base (CXE P w) 1 T.a_refuse_hands T.fd_refuse_hands ["net"] (sTw K 1 (tw_refuse_hands fu)) :=
 T.F_refuse_hands.okE sc_refuse_hands (fun vs H Q E h => h.1) (fun cdv A outer s H vs Q E hr h => ⟨_, (@pss_one _ _ _ (ps_if (pt_val (pe_callB (call_anyK (K := K) rfl) rfl T.n_any PyProof.Rows.Boot.«any» (pa_cons (pe_comp (N' := ["choices"]) rfl (blk (osc := defScope s_refuse_hands) rfl (by decide +kernel)) (cap_own cap_nil) (pi_listK (K := K) (pv 0)) (gown_name rfl) (fun C s₀ H₀ fp => pg_name (i := 0) (show (["choices"] : List Str).Nodup from by decide +kernel) rfl (Or.inl rfl)) (fun C s₀ H₀ fp => pts_nil) (fun C s₀ H₀ fp => (pe_cmp (pc_gt (pe_callB (call_lenK (K := K)) rfl T.n_len boot_len (@pa_cons _ _ _ _ _ (pv 0) pa_nil se_Name)) pe_int)))) pa_nil))) (@pss_one _ _ _ ps_never) pss_nil)), fn_tw (n := 1) (k := 0) (b := tb_refuse_hands fu) rfl (rs_if (rt_e (re_fn rc_any (rl_cons (re_comp (cap := [none]) (ri_list (re_var 0)) rg_name rt_true (re_gt (re_fn rc_len (rl_cons (re_var 0) rl_nil)) (re_int _))) rl_nil))) rs_stuck rs_next) h⟩)
noncomputable def tb_rings_of (fu : Nat) : TwS := (sSeq (sExpr (eCall (tw_refuse_hands fu) [(eVar 0)])) (sSeq (sAsg eDict0 (gN 1)) (sSeq (sFor (iEn (eCall (tw_reach_masks fu) [(eVar 0)])) (gT 2 (gsCons (gN 2) (gsCons (gN 3) gsNil))) (sIf (bE (eOp dGt (eFn dLen [(eOp dIxL (eVar 0) (eVar 2))]) (eC (.int 0)))) (sExpr (eMt mAppend (eDSetD (eVar 1) (eVar 3) (eLst [])) [(eVar 2)])) sNext)) (sRet (eFn dSortLL [(eComp [none, none] (iIt (eVar 1)) (gT 2 (gsCons (gN 0) (gsCons (gN 1) gsNil))) (bE (eOp dEqI (eVar 0) (eCall (tw_mask_of fu) [(eVar 1)]))) (eVar 1))])))))
noncomputable def tw_rings_of (fu : Nat) : TwF := runTw 1 3 (tb_rings_of fu)
theorem ok_rings_of (T : Tx K mg) : FnOk P w K mg base (CXE P w) 3 T.a_rings_of T.fd_rings_of ["net"] (sTw K 1 (tw_rings_of fu)) :=
 T.F_rings_of.okE sc_rings_of (fun vs H Q E h => h.1) (fun cdv A outer s H vs Q E hr h => ⟨_, (@pss_cons _ _ _ _ _ (ps_expr (pe_call (ok_refuse_hands (fu := fu) T) (hr.mono (by decide)) rfl T.m_refuse_hands T.F_refuse_hands.kp T.b_refuse_hands .nil passE (@pa_cons _ _ _ _ _ (pv 0) pa_nil se_Name))) (@pss_cons _ _ _ _ _ (@ps_set _ _ 1 _ _ _ _ sc_rings_of.nd rfl (Or.inl rfl) pe_dnewK (by rfl) (by first | exact .inl rfl | exact .inr rfl | assumption)) (@pss_cons _ _ _ _ _ (ps_for PassesOwn.leaving rfl (pi_enum (K := K) rfl T.n_enumerate (@pa_cons _ _ _ _ _ (pe_call (ok_reach_masks (fu := fu) T) (hr.mono (by decide)) rfl T.m_reach_masks T.F_reach_masks.kp T.b_reach_masks .nil passE (@pa_cons _ _ _ _ _ (pv 0) pa_nil se_Name)) pa_nil se_Call)) (pg_tupK (K := K) (n := 2) rfl (pgs_cons (pg_name (i := 2) sc_rings_of.nd rfl (Or.inl rfl)) (pgs_cons (pg_name (i := 3) sc_rings_of.nd rfl (Or.inl rfl)) pgs_nil))) (@pss_one _ _ _ (ps_if (pt_cmp (pc_gt (pe_callB (call_lenK (K := K)) rfl T.n_len boot_len (@pa_cons _ _ _ _ _ (@pe_ix _ _ _ _ _ _ _ (ix_listK (K := K)) (pv 0) (pv 2) (fun _ _ => rfl)) pa_nil se_Subscript)) pe_int)) (@pss_one _ _ _ (ps_expr (pe_bm PySem.F.plainAttrs_list PySem.F.slot_list_append PySem.F.type_list_append mt_append (pe_dsetd (pv 1) (pv 3) (@pe_lst _ _ _ _ pa_nil) ⟨rfl, rfl, rfl, rfl⟩) (@pa_cons _ _ _ _ _ (pv 2) pa_nil se_Name)))) pss_nil))) (@pss_one _ _ _ (@ps_ret _ _ _ _ (pe_callB (call_sortLL (K := K) hr) rfl T.n_sorted PyProof.Rows.Boot.«sorted» (pa_cons (pe_comp (N' := ["mask", "nodes"]) rfl (blk (osc := defScope s_rings_of) rfl (by decide +kernel)) (cap_own (cap_own cap_nil)) (pi_items (pe_bm0 PySem.F.plainAttrs_dict PySem.F.slot_dict_items PySem.F.type_dict_items mt_items (pv 1))) (gown_tup (gsown_cons (gown_name rfl) (gsown_cons (gown_name rfl) gsown_nil gname_mono) gname_mono)) (fun C s₀ H₀ fp => pg_tupK (K := K) (n := 2) rfl (pgs_cons (pg_name (i := 0) (show (["mask", "nodes"] : List Str).Nodup from by decide +kernel) rfl (Or.inl rfl)) (pgs_cons (pg_name (i := 1) (show (["mask", "nodes"] : List Str).Nodup from by decide +kernel) rfl (Or.inl rfl)) pgs_nil))) (fun C s₀ H₀ fp => pts_one (pt_cmp (pc_eqI (pv 0) (pe_call (ok_mask_of (fu := fu) T) (hr.mono (by decide)) rfl T.m_mask_of T.F_mask_of.kp T.b_mask_of .nil passF (@pa_cons _ _ _ _ _ (pv 1) pa_nil se_Name))))) (fun C s₀ H₀ fp => (pv 1))) pa_nil))))))), fn_tw (n := 1) (k := 3) (b := tb_rings_of fu) rfl (rs_seq (rs_expr (re_call (rl_cons (re_var 0) rl_nil))) (rs_seq (rs_asg re_dnew rg_name) (rs_seq (rs_for (ri_enum (re_call (rl_cons (re_var 0) rl_nil))) (rg_tup (rgs_cons rg_name (rgs_cons rg_name rgs_nil))) (rs_if (rt_e (re_gt (re_fn rc_len (rl_cons (re_op r2_ixL (re_var 0) (re_var 2)) rl_nil)) (re_int _))) (rs_expr (re_mt rm_append (re_dsetd (re_var 1) (re_var 3) (re_lst rl_nil)) (rl_cons (re_var 2) rl_nil))) rs_next)) (rs_ret (re_fn rc_sortLL (rl_cons (re_comp (cap := [none, none]) (ri_items (re_var 1)) (rg_tup (rgs_cons rg_name (rgs_cons rg_name rgs_nil))) (rt_e (re_eqI (re_var 0) (re_call (rl_cons (re_var 1) rl_nil)))) (re_var 1)) rl_nil)))))) h⟩)
noncomputable def tb_gains_of (fu : Nat) : TwS := (sRet (eComp [none] (iL (eVar 0)) (gN 0) bTrue (eIf (bE (eOp dGt (eFn dLen [(eVar 0)]) (eC (.int 0)))) (eOp dIxT (eOp dIxL (eVar 0) (eC (.int 0))) (eC (.int 0))) (eC (.ct [.int 0, .int 1])))))
noncomputable def tw_gains_of (fu : Nat) : TwF := runTw 1 0 (tb_gains_of fu)
theorem ok_gains_of (T : Tx K mg) : FnOk P w K mg base (CXE P w) 1 T.a_gains_of T.fd_gains_of ["net"] (sTw K 1 (tw_gains_of fu)) :=
 T.F_gains_of.okE sc_gains_of (fun vs H Q E h => h.1) (fun cdv A outer s H vs Q E hr h => ⟨_, (@pss_one _ _ _ (@ps_ret _ _ _ _ (pe_comp (N' := ["choices"]) rfl (blk (osc := defScope s_gains_of) rfl (by decide +kernel)) (cap_own cap_nil) (pi_listK (K := K) (pv 0)) (gown_name rfl) (fun C s₀ H₀ fp => pg_name (i := 0) (show (["choices"] : List Str).Nodup from by decide +kernel) rfl (Or.inl rfl)) (fun C s₀ H₀ fp => pts_nil) (fun C s₀ H₀ fp => (pe_ifExp (pt_cmp (pc_gt (pe_callB (call_lenK (K := K)) rfl T.n_len boot_len (@pa_cons _ _ _ _ _ (pv 0) pa_nil se_Name)) pe_int)) (@pe_ix _ _ _ _ _ _ _ (ix_tupK (K := K)) (@pe_ix _ _ _ _ _ _ _ (ix_listK (K := K)) (pv 0) pe_int (fun _ _ => rfl)) pe_int (fun _ _ => rfl)) (pe_glob (v := .ref T.a_NOUGHT) rfl T.m_NOUGHT rfl)))))), fn_tw (n := 1) (k := 0) (b := tb_gains_of fu) rfl (rs_ret (re_comp (cap := [none]) (ri_list (re_var 0)) rg_name rt_true (re_if (rt_e (re_gt (re_fn rc_len (rl_cons (re_var 0) rl_nil)) (re_int _))) (re_op r2_ixT (re_op r2_ixL (re_var 0) (re_int _)) (re_int _)) (re_c fun j H => .ct (fun H => T.c_NOUGHT H) (.cons (.int _) (.cons (.int _) (.nil))))))) h⟩)
noncomputable def tb_gain_rings (fu : Nat) : TwS := (sSeq (sAsg (eCall (tw_gains_of fu) [(eVar 0)]) (gN 1)) (sRet (eComp [none, some 1] (iL (eCall (tw_rings_of fu) [(eVar 0)])) (gN 0) (bE (eFn dAny [(eComp [none, some 1] (iL (eVar 0)) (gN 0) bTrue (eOp (dEqG true) (eOp dIxL (eVar 1) (eVar 0)) (eC (.ct [.int 0, .int 1]))))])) (eVar 0))))
noncomputable def tw_gain_rings (fu : Nat) : TwF := runTw 1 1 (tb_gain_rings fu)
theorem ok_gain_rings (T : Tx K mg) : FnOk P w K mg base (CXE P w) 4 T.a_gain_rings T.fd_gain_rings ["net"] (sTw K 1 (tw_gain_rings fu)) :=
 T.F_gain_rings.okE sc_gain_rings (fun vs H Q E h => h.1) (fun cdv A outer s H vs Q E hr h => ⟨_, (@pss_cons _ _ _ _ _ (@ps_set _ _ 1 _ _ _ _ sc_gain_rings.nd rfl (Or.inr rfl) (pe_call (ok_gains_of (fu := fu) T) (hr.mono (by decide)) rfl T.m_gains_of T.F_gains_of.kp T.b_gains_of .nil passE (@pa_cons _ _ _ _ _ (pv 0) pa_nil se_Name)) (by rfl) (by first | exact .inl rfl | exact .inr rfl | assumption)) (@pss_one _ _ _ (@ps_ret _ _ _ _ (pe_comp (N' := ["ring", "gains"]) rfl (blk (osc := defScope s_gain_rings) rfl (by decide +kernel)) (cap_own (cap_out (i := 1) rfl rfl cap_nil)) (pi_listK (K := K) (pe_call (ok_rings_of (fu := fu) T) (hr.mono (by decide)) rfl T.m_rings_of T.F_rings_of.kp T.b_rings_of .nil passE (@pa_cons _ _ _ _ _ (pv 0) pa_nil se_Name))) (gown_name rfl) (fun C s₀ H₀ fp => pg_name (i := 0) (show (["ring", "gains"] : List Str).Nodup from by decide +kernel) rfl (Or.inl rfl)) (fun C s₀ H₀ fp => pts_one (pt_val (pe_callB (call_anyK (K := K) rfl) rfl T.n_any PyProof.Rows.Boot.«any» (pa_cons (pe_comp (N' := ["node", "gains"]) rfl (blkC (by decide +kernel)) (cap_own (cap_out (i := 1) rfl rfl cap_nil)) (pi_listK (K := K) (pv 0)) (gown_name rfl) (fun C s₀ H₀ fp => pg_name (i := 0) (show (["node", "gains"] : List Str).Nodup from by decide +kernel) rfl (Or.inl rfl)) (fun C s₀ H₀ fp => pts_nil) (fun C s₀ H₀ fp => (pe_cmpR (op_neG (K := K) hr) (@pe_ix _ _ _ _ _ _ _ (ix_listK (K := K)) (pv 1) (pv 0) (fun _ _ => rfl)) (pe_glob (v := .ref T.a_NOUGHT) rfl T.m_NOUGHT rfl) (by rfl)))) pa_nil)))) (fun C s₀ H₀ fp => (pv 0)))))), fn_tw (n := 1) (k := 1) (b := tb_gain_rings fu) rfl (rs_seq (rs_asg (re_call (rl_cons (re_var 0) rl_nil)) rg_name) (rs_ret (re_comp (cap := [none, some 1]) (ri_list (re_call (rl_cons (re_var 0) rl_nil))) rg_name (rt_e (re_fn rc_any (rl_cons (re_comp (cap := [none, some 1]) (ri_list (re_var 0)) rg_name rt_true (re_op r2_eqG (re_op r2_ixL (re_var 1) (re_var 0)) (re_c fun j H => .ct (fun H => T.c_NOUGHT H) (.cons (.int _) (.cons (.int _) (.nil)))))) rl_nil))) (re_var 0)))) h⟩)
noncomputable def tb_gain_ring (fu : Nat) : TwS := (sSeq (sFor (iL (eCall (tw_gain_rings fu) [(eVar 0)])) (gN 2) (sSeq (sAsg (eCall (tw_way_to fu) [(eVar 0), (eVar 1), (eOp dIxL (eVar 2) (eC (.int 0)))]) (gN 3)) (sIf (bE (eUn dNotN (eVar 3))) (sRet (eTup [(eVar 3), (eVar 2)])) sNext))) (sRet (eC .non)))
noncomputable def tw_gain_ring (fu : Nat) : TwF := runTw 2 2 (tb_gain_ring fu)
theorem ok_gain_ring (T : Tx K mg) : FnOk P w K mg base (CXE P w) 5 T.a_gain_ring T.fd_gain_ring ["net", "node"] (sTw K 2 (tw_gain_ring fu)) :=
 T.F_gain_ring.okE sc_gain_ring (fun vs H Q E h => h.1) (fun cdv A outer s H vs Q E hr h => ⟨_, (@pss_cons _ _ _ _ _ (ps_for PassesOwn.leaving rfl (pi_listK (K := K) (pe_call (ok_gain_rings (fu := fu) T) (hr.mono (by decide)) rfl T.m_gain_rings T.F_gain_rings.kp T.b_gain_rings .nil passE (@pa_cons _ _ _ _ _ (pv 0) pa_nil se_Name))) (pg_name (i := 2) sc_gain_ring.nd rfl (Or.inl rfl)) (@pss_cons _ _ _ _ _ (@ps_set _ _ 3 _ _ _ _ sc_gain_ring.nd rfl (Or.inl rfl) (pe_call (ok_way_to (fu := fu) T) (hr.mono (by decide)) rfl T.m_way_to T.F_way_to.kp T.b_way_to .nil passE (@pa_cons _ _ _ _ _ (pv 0) (@pa_cons _ _ _ _ _ (pv 1) (@pa_cons _ _ _ _ _ (@pe_ix _ _ _ _ _ _ _ (ix_listK (K := K)) (pv 2) pe_int (fun _ _ => rfl)) pa_nil se_Subscript) se_Name) se_Name)) (by rfl) (by first | exact .inl rfl | exact .inr rfl | assumption)) (@pss_one _ _ _ (ps_if (pt_cmp (pc_notN (pv 3))) (@pss_one _ _ _ (@ps_ret _ _ _ _ (@pe_tup _ _ _ _ _ (@pa_cons _ _ _ _ _ (pv 3) (@pa_cons _ _ _ _ _ (pv 2) pa_nil se_Name) se_Name)))) pss_nil)))) (@pss_one _ _ _ (@ps_ret _ _ _ _ pe_non))), fn_tw (n := 2) (k := 2) (b := tb_gain_ring fu) rfl (rs_seq (rs_for (ri_list (re_call (rl_cons (re_var 0) rl_nil))) rg_name (rs_seq (rs_asg (re_call (rl_cons (re_var 0) (rl_cons (re_var 1) (rl_cons (re_op r2_ixL (re_var 2) (re_int _)) rl_nil)))) rg_name) (rs_if (rt_e (re_notN (re_var 3))) (rs_ret (re_tup (rl_cons (re_var 3) (rl_cons (re_var 2) rl_nil)))) rs_next))) (rs_ret re_non)) h⟩)
noncomputable def tb__law_cell_at (fu : Nat) : TwS := (sSeq (sIf (bE (eOp dLt (eVar 1) (eFn dLen [(eVar 0)]))) (sRet (eOp dIxL (eVar 0) (eVar 1))) sNext) (sRet (eC (.int 0))))
noncomputable def tw__law_cell_at (fu : Nat) : TwF := runTw 2 0 (tb__law_cell_at fu)
theorem ok__law_cell_at (T : Tx K mg) : FnOk P w K mg base (CXE P w) 1 T.a__law_cell_at T.fd__law_cell_at ["_law_script", "_law_k"] (sTw K 2 (tw__law_cell_at fu)) :=
 T.F__law_cell_at.okE sc__law_cell_at (fun vs H Q E h => h.1) (fun cdv A outer s H vs Q E hr h => ⟨_, (@pss_cons _ _ _ _ _ (ps_if (pt_cmp (pc_lt (pv 1) (pe_callB (call_lenK (K := K)) rfl T.n_len boot_len (@pa_cons _ _ _ _ _ (pv 0) pa_nil se_Name)))) (@pss_one _ _ _ (@ps_ret _ _ _ _ (@pe_ix _ _ _ _ _ _ _ (ix_listK (K := K)) (pv 0) (pv 1) (fun _ _ => rfl)))) pss_nil) (@pss_one _ _ _ (@ps_ret _ _ _ _ pe_int))), fn_tw (n := 2) (k := 0) (b := tb__law_cell_at fu) rfl (rs_seq (rs_if (rt_e (re_lt (re_var 1) (re_fn rc_len (rl_cons (re_var 0) rl_nil)))) (rs_ret (re_op r2_ixL (re_var 0) (re_var 1))) rs_next) (rs_ret (re_int _))) h⟩)
noncomputable def tb__law_mixed (fu : Nat) : TwS := (sRet (eOp dMod (eOp dMod (eOp dMul (eOp dMod (eVar 0) (eC (.int 1000003))) (eC (.int 48271))) (eVar 1)) (eVar 2)))
noncomputable def tw__law_mixed (fu : Nat) : TwF := runTw 3 0 (tb__law_mixed fu)
theorem ok__law_mixed (T : Tx K mg) : FnOk P w K mg base (CXE P w) 1 T.a__law_mixed T.fd__law_mixed ["_law_number", "_law_prime", "_law_many"] (sTw K 3 (tw__law_mixed fu)) :=
 T.F__law_mixed.okE sc__law_mixed (fun vs H Q E h => h.1) (fun cdv A outer s H vs Q E hr h => ⟨_, (@pss_one _ _ _ (@ps_ret _ _ _ _ (pe_op op_mod (pe_op op_mod (pe_op op_mul (pe_op op_mod (pv 0) pe_int) pe_int) (pv 1)) (pv 2)))), fn_tw (n := 3) (k := 0) (b := tb__law_mixed fu) rfl (rs_ret (re_op r2_mod (re_op r2_mod (re_op r2_mul (re_op r2_mod (re_var 0) (re_int _)) (re_int _)) (re_var 1)) (re_var 2))) h⟩)
noncomputable def tb__law_fraction (fu : Nat) : TwS := (sSeq (sAsg (eVar 0) (gN 2)) (sSeq (sAsg (eVar 1) (gN 3)) (sSeq (sWh fu (bE (eOp dGt (eVar 3) (eC (.int 0)))) (sPar 2 3 [(eVar 3), (eOp dMod (eVar 2) (eVar 3))])) (sRet (eTup [(eOp dFdivB (eVar 0) (eVar 2)), (eOp dFdivB (eVar 1) (eVar 2))])))))
noncomputable def tw__law_fraction (fu : Nat) : TwF := runTw 2 2 (tb__law_fraction fu)
theorem ok__law_fraction (T : Tx K mg) : FnOk P w K mg base (CXE P w) 1 T.a__law_fraction T.fd__law_fraction ["_law_top", "_law_bottom"] (sTw K 2 (tw__law_fraction fu)) :=
 T.F__law_fraction.okE sc__law_fraction (fun vs H Q E h => h.1) (fun cdv A outer s H vs Q E hr h => ⟨_, (@pss_cons _ _ _ _ _ (@ps_set _ _ 2 _ _ _ _ sc__law_fraction.nd rfl (Or.inl rfl) (pv 0) (by rfl) (by first | exact .inl rfl | exact .inr rfl | assumption)) (@pss_cons _ _ _ _ _ (@ps_set _ _ 3 _ _ _ _ sc__law_fraction.nd rfl (Or.inl rfl) (pv 1) (by rfl) (by first | exact .inl rfl | exact .inr rfl | assumption)) (@pss_cons _ _ _ _ _ (ps_while PassesOwn.leaving (pt_cmp (pc_gt (pv 3) pe_int)) (@pss_one _ _ _ (ps_par (i := 2) (j := 3) rfl sc__law_fraction.nd rfl rfl (by decide) rfl rfl (@pa_cons _ _ _ _ _ (pv 3) (@pa_cons _ _ _ _ _ (pe_op op_mod (pv 2) (pv 3)) pa_nil se_BinOp) se_Name) rfl))) (@pss_one _ _ _ (@ps_ret _ _ _ _ (@pe_tup _ _ _ _ _ (@pa_cons _ _ _ _ _ (pe_op op_fdivB (pv 0) (pv 2)) (@pa_cons _ _ _ _ _ (pe_op op_fdivB (pv 1) (pv 2)) pa_nil se_BinOp) se_BinOp))))))), fn_tw (n := 2) (k := 2) (b := tb__law_fraction fu) rfl (rs_seq (rs_asg (re_var 0) rg_name) (rs_seq (rs_asg (re_var 1) rg_name) (rs_seq (rs_while (rt_e (re_gt (re_var 3) (re_int _))) (rs_par (rl_cons (re_var 3) (rl_cons (re_op r2_mod (re_var 2) (re_var 3)) rl_nil)))) (rs_ret (re_tup (rl_cons (re_op r2_fdivB (re_var 0) (re_var 2)) (rl_cons (re_op r2_fdivB (re_var 1) (re_var 2)) rl_nil))))))) h⟩)
noncomputable def tb__law_gain (fu : Nat) : TwS := (sSeq (sIf (bE (eOp dGt (eCall (tw__law_mixed fu) [(eVar 0), (eC (.int 60013)), (eC (.int 3))]) (eC (.int 0)))) (sRet (eTup [(eC (.int 0)), (eC (.int 1))])) sNext) (sSeq (sIf (bE (eOp dEqI (eCall (tw__law_mixed fu) [(eVar 0), (eC (.int 90001)), (eC (.int 8))]) (eC (.int 1)))) (sRet (eCall (tw__law_fraction fu) [(eOp dMod (eVar 0) (eOp dPow (eC (.int 10)) (eC (.int 60)))), (eOp dAdd (eC (.int 1)) (eCall (tw__law_mixed fu) [(eVar 0), (eC (.int 10007)), (eC (.int 4))]))])) sNext) (sRet (eCall (tw__law_fraction fu) [(eCall (tw__law_mixed fu) [(eVar 0), (eC (.int 40009)), (eC (.int 12))]), (eOp dAdd (eC (.int 1)) (eCall (tw__law_mixed fu) [(eVar 0), (eC (.int 10007)), (eC (.int 4))]))]))))
noncomputable def tw__law_gain (fu : Nat) : TwF := runTw 1 0 (tb__law_gain fu)
theorem ok__law_gain (T : Tx K mg) : FnOk P w K mg base (CXE P w) 2 T.a__law_gain T.fd__law_gain ["_law_cell"] (sTw K 1 (tw__law_gain fu)) :=
 T.F__law_gain.okE sc__law_gain (fun vs H Q E h => h.1) (fun cdv A outer s H vs Q E hr h => ⟨_, (@pss_cons _ _ _ _ _ (ps_if (pt_cmp (pc_gt (pe_call (ok__law_mixed (fu := fu) T) (hr.mono (by decide)) rfl T.m__law_mixed T.F__law_mixed.kp T.b__law_mixed .nil passE (@pa_cons _ _ _ _ _ (pv 0) (@pa_cons _ _ _ _ _ pe_int (@pa_cons _ _ _ _ _ pe_int pa_nil se_Constant) se_Constant) se_Name)) pe_int)) (@pss_one _ _ _ (@ps_ret _ _ _ _ (@pe_tup _ _ _ _ _ (@pa_cons _ _ _ _ _ pe_int (@pa_cons _ _ _ _ _ pe_int pa_nil se_Constant) se_Constant)))) pss_nil) (@pss_cons _ _ _ _ _ (ps_if (pt_cmp (pc_eqI (pe_call (ok__law_mixed (fu := fu) T) (hr.mono (by decide)) rfl T.m__law_mixed T.F__law_mixed.kp T.b__law_mixed .nil passE (@pa_cons _ _ _ _ _ (pv 0) (@pa_cons _ _ _ _ _ pe_int (@pa_cons _ _ _ _ _ pe_int pa_nil se_Constant) se_Constant) se_Name)) pe_int)) (@pss_one _ _ _ (@ps_ret _ _ _ _ (pe_call (ok__law_fraction (fu := fu) T) (hr.mono (by decide)) rfl T.m__law_fraction T.F__law_fraction.kp T.b__law_fraction .nil passE (@pa_cons _ _ _ _ _ (pe_op op_mod (pv 0) (pe_op op_pow pe_int pe_int)) (@pa_cons _ _ _ _ _ (pe_op op_add pe_int (pe_call (ok__law_mixed (fu := fu) T) (hr.mono (by decide)) rfl T.m__law_mixed T.F__law_mixed.kp T.b__law_mixed .nil passE (@pa_cons _ _ _ _ _ (pv 0) (@pa_cons _ _ _ _ _ pe_int (@pa_cons _ _ _ _ _ pe_int pa_nil se_Constant) se_Constant) se_Name))) pa_nil se_BinOp) se_BinOp)))) pss_nil) (@pss_one _ _ _ (@ps_ret _ _ _ _ (pe_call (ok__law_fraction (fu := fu) T) (hr.mono (by decide)) rfl T.m__law_fraction T.F__law_fraction.kp T.b__law_fraction .nil passE (@pa_cons _ _ _ _ _ (pe_call (ok__law_mixed (fu := fu) T) (hr.mono (by decide)) rfl T.m__law_mixed T.F__law_mixed.kp T.b__law_mixed .nil passE (@pa_cons _ _ _ _ _ (pv 0) (@pa_cons _ _ _ _ _ pe_int (@pa_cons _ _ _ _ _ pe_int pa_nil se_Constant) se_Constant) se_Name)) (@pa_cons _ _ _ _ _ (pe_op op_add pe_int (pe_call (ok__law_mixed (fu := fu) T) (hr.mono (by decide)) rfl T.m__law_mixed T.F__law_mixed.kp T.b__law_mixed .nil passE (@pa_cons _ _ _ _ _ (pv 0) (@pa_cons _ _ _ _ _ pe_int (@pa_cons _ _ _ _ _ pe_int pa_nil se_Constant) se_Constant) se_Name))) pa_nil se_BinOp) se_Call)))))), fn_tw (n := 1) (k := 0) (b := tb__law_gain fu) rfl (rs_seq (rs_if (rt_e (re_gt (re_call (rl_cons (re_var 0) (rl_cons (re_int _) (rl_cons (re_int _) rl_nil)))) (re_int _))) (rs_ret (re_tup (rl_cons (re_int _) (rl_cons (re_int _) rl_nil)))) rs_next) (rs_seq (rs_if (rt_e (re_eqI (re_call (rl_cons (re_var 0) (rl_cons (re_int _) (rl_cons (re_int _) rl_nil)))) (re_int _))) (rs_ret (re_call (rl_cons (re_op r2_mod (re_var 0) (re_op r2_pow (re_int _) (re_int _))) (rl_cons (re_op r2_add (re_int _) (re_call (rl_cons (re_var 0) (rl_cons (re_int _) (rl_cons (re_int _) rl_nil))))) rl_nil)))) rs_next) (rs_ret (re_call (rl_cons (re_call (rl_cons (re_var 0) (rl_cons (re_int _) (rl_cons (re_int _) rl_nil)))) (rl_cons (re_op r2_add (re_int _) (re_call (rl_cons (re_var 0) (rl_cons (re_int _) (rl_cons (re_int _) rl_nil))))) rl_nil)))))) h⟩)
noncomputable def tb__law_name (fu : Nat) : TwS := (sSeq (sAsg (eOp dMod (eOp dAdd (eVar 2) (eCall (tw__law_mixed fu) [(eCall (tw__law_cell_at fu) [(eVar 0), (eC (.int 1))]), (eC (.int 30011)), (eVar 1)])) (eVar 1)) (gN 3)) (sSeq (sIf (bE (eOp dEqI (eCall (tw__law_mixed fu) [(eCall (tw__law_cell_at fu) [(eVar 0), (eC (.int 1))]), (eC (.int 40009)), (eC (.int 2))]) (eC (.int 1)))) (sRet (eOp dSub (eOp dSub (eVar 1) (eC (.int 1))) (eVar 3))) sNext) (sRet (eVar 3))))
noncomputable def tw__law_name (fu : Nat) : TwF := runTw 3 1 (tb__law_name fu)
theorem ok__law_name (T : Tx K mg) : FnOk P w K mg base (CXE P w) 2 T.a__law_name T.fd__law_name ["_law_script", "_law_count", "_law_place"] (sTw K 3 (tw__law_name fu)) :=
 T.F__law_name.okE sc__law_name (fun vs H Q E h => h.1) (fun cdv A outer s H vs Q E hr h => ⟨_, (@pss_cons _ _ _ _ _ (@ps_set _ _ 3 _ _ _ _ sc__law_name.nd rfl (Or.inl rfl) (pe_op op_mod (pe_op op_add (pv 2) (pe_call (ok__law_mixed (fu := fu) T) (hr.mono (by decide)) rfl T.m__law_mixed T.F__law_mixed.kp T.b__law_mixed .nil passE (@pa_cons _ _ _ _ _ (pe_call (ok__law_cell_at (fu := fu) T) (hr.mono (by decide)) rfl T.m__law_cell_at T.F__law_cell_at.kp T.b__law_cell_at .nil passE (@pa_cons _ _ _ _ _ (pv 0) (@pa_cons _ _ _ _ _ pe_int pa_nil se_Constant) se_Name)) (@pa_cons _ _ _ _ _ pe_int (@pa_cons _ _ _ _ _ (pv 1) pa_nil se_Name) se_Constant) se_Call))) (pv 1)) (by rfl) (by first | exact .inl rfl | exact .inr rfl | assumption)) (@pss_cons _ _ _ _ _ (ps_if (pt_cmp (pc_eqI (pe_call (ok__law_mixed (fu := fu) T) (hr.mono (by decide)) rfl T.m__law_mixed T.F__law_mixed.kp T.b__law_mixed .nil passE (@pa_cons _ _ _ _ _ (pe_call (ok__law_cell_at (fu := fu) T) (hr.mono (by decide)) rfl T.m__law_cell_at T.F__law_cell_at.kp T.b__law_cell_at .nil passE (@pa_cons _ _ _ _ _ (pv 0) (@pa_cons _ _ _ _ _ pe_int pa_nil se_Constant) se_Name)) (@pa_cons _ _ _ _ _ pe_int (@pa_cons _ _ _ _ _ pe_int pa_nil se_Constant) se_Constant) se_Call)) pe_int)) (@pss_one _ _ _ (@ps_ret _ _ _ _ (pe_op op_sub (pe_op op_sub (pv 1) pe_int) (pv 3)))) pss_nil) (@pss_one _ _ _ (@ps_ret _ _ _ _ (pv 3))))), fn_tw (n := 3) (k := 1) (b := tb__law_name fu) rfl (rs_seq (rs_asg (re_op r2_mod (re_op r2_add (re_var 2) (re_call (rl_cons (re_call (rl_cons (re_var 0) (rl_cons (re_int _) rl_nil))) (rl_cons (re_int _) (rl_cons (re_var 1) rl_nil))))) (re_var 1)) rg_name) (rs_seq (rs_if (rt_e (re_eqI (re_call (rl_cons (re_call (rl_cons (re_var 0) (rl_cons (re_int _) rl_nil))) (rl_cons (re_int _) (rl_cons (re_int _) rl_nil)))) (re_int _))) (rs_ret (re_op r2_sub (re_op r2_sub (re_var 1) (re_int _)) (re_var 3))) rs_next) (rs_ret (re_var 3)))) h⟩)
noncomputable def tb__law_goal (fu : Nat) : TwS := (sSeq (sAsg (eOp dAdd (eC (.int 1)) (eCall (tw__law_mixed fu) [(eCall (tw__law_cell_at fu) [(eVar 0), (eC (.int 1))]), (eC (.int 99991)), (eFn dMin [(eVar 1), (eC (.int 6))])])) (gN 4)) (sSeq (sAsg (eOp dSub (eVar 2) (eOp dMod (eVar 2) (eVar 4))) (gN 5)) (sSeq (sAsg (eVar 1) (gN 6)) (sSeq (sIf (bE (eOp dEqI (eCall (tw__law_mixed fu) [(eOp dAdd (eCall (tw__law_cell_at fu) [(eVar 0), (eC (.int 1))]) (eVar 5)), (eC (.int 65537)), (eC (.int 3))]) (eC (.int 0)))) (sAsg (eFn dMin [(eVar 1), (eOp dAdd (eVar 5) (eVar 4))]) (gN 6)) sNext) (sRet (eCall (tw__law_name fu) [(eVar 0), (eVar 1), (eOp dAdd (eVar 5) (eCall (tw__law_mixed fu) [(eVar 3), (eC (.int 99991)), (eOp dSub (eVar 6) (eVar 5))]))]))))))
noncomputable def tw__law_goal (fu : Nat) : TwF := runTw 4 3 (tb__law_goal fu)
theorem ok__law_goal (T : Tx K mg) : FnOk P w K mg base (CXE P w) 3 T.a__law_goal T.fd__law_goal ["_law_script", "_law_count", "_law_place", "_law_cell"] (sTw K 4 (tw__law_goal fu)) :=
 T.F__law_goal.okE sc__law_goal (fun vs H Q E h => h.1) (fun cdv A outer s H vs Q E hr h => ⟨_, (@pss_cons _ _ _ _ _ (@ps_set _ _ 4 _ _ _ _ sc__law_goal.nd rfl (Or.inl rfl) (pe_op op_add pe_int (pe_call (ok__law_mixed (fu := fu) T) (hr.mono (by decide)) rfl T.m__law_mixed T.F__law_mixed.kp T.b__law_mixed .nil passE (@pa_cons _ _ _ _ _ (pe_call (ok__law_cell_at (fu := fu) T) (hr.mono (by decide)) rfl T.m__law_cell_at T.F__law_cell_at.kp T.b__law_cell_at .nil passE (@pa_cons _ _ _ _ _ (pv 0) (@pa_cons _ _ _ _ _ pe_int pa_nil se_Constant) se_Name)) (@pa_cons _ _ _ _ _ pe_int (@pa_cons _ _ _ _ _ (pe_callB (call_min2 rfl) rfl T.n_min boot_min (@pa_cons _ _ _ _ _ (pv 1) (@pa_cons _ _ _ _ _ pe_int pa_nil se_Constant) se_Name)) pa_nil se_Call) se_Constant) se_Call))) (by rfl) (by first | exact .inl rfl | exact .inr rfl | assumption)) (@pss_cons _ _ _ _ _ (@ps_set _ _ 5 _ _ _ _ sc__law_goal.nd rfl (Or.inl rfl) (pe_op op_sub (pv 2) (pe_op op_mod (pv 2) (pv 4))) (by rfl) (by first | exact .inl rfl | exact .inr rfl | assumption)) (@pss_cons _ _ _ _ _ (@ps_set _ _ 6 _ _ _ _ sc__law_goal.nd rfl (Or.inl rfl) (pv 1) (by rfl) (by first | exact .inl rfl | exact .inr rfl | assumption)) (@pss_cons _ _ _ _ _ (ps_if (pt_cmp (pc_eqI (pe_call (ok__law_mixed (fu := fu) T) (hr.mono (by decide)) rfl T.m__law_mixed T.F__law_mixed.kp T.b__law_mixed .nil passE (@pa_cons _ _ _ _ _ (pe_op op_add (pe_call (ok__law_cell_at (fu := fu) T) (hr.mono (by decide)) rfl T.m__law_cell_at T.F__law_cell_at.kp T.b__law_cell_at .nil passE (@pa_cons _ _ _ _ _ (pv 0) (@pa_cons _ _ _ _ _ pe_int pa_nil se_Constant) se_Name)) (pv 5)) (@pa_cons _ _ _ _ _ pe_int (@pa_cons _ _ _ _ _ pe_int pa_nil se_Constant) se_Constant) se_BinOp)) pe_int)) (@pss_one _ _ _ (@ps_set _ _ 6 _ _ _ _ sc__law_goal.nd rfl (Or.inl rfl) (pe_callB (call_min2 rfl) rfl T.n_min boot_min (@pa_cons _ _ _ _ _ (pv 1) (@pa_cons _ _ _ _ _ (pe_op op_add (pv 5) (pv 4)) pa_nil se_BinOp) se_Name)) (by rfl) (by first | exact .inl rfl | exact .inr rfl | assumption))) pss_nil) (@pss_one _ _ _ (@ps_ret _ _ _ _ (pe_call (ok__law_name (fu := fu) T) (hr.mono (by decide)) rfl T.m__law_name T.F__law_name.kp T.b__law_name .nil passE (@pa_cons _ _ _ _ _ (pv 0) (@pa_cons _ _ _ _ _ (pv 1) (@pa_cons _ _ _ _ _ (pe_op op_add (pv 5) (pe_call (ok__law_mixed (fu := fu) T) (hr.mono (by decide)) rfl T.m__law_mixed T.F__law_mixed.kp T.b__law_mixed .nil passE (@pa_cons _ _ _ _ _ (pv 3) (@pa_cons _ _ _ _ _ pe_int (@pa_cons _ _ _ _ _ (pe_op op_sub (pv 6) (pv 5)) pa_nil se_BinOp) se_Constant) se_Name))) pa_nil se_BinOp) se_Name) se_Name)))))))), fn_tw (n := 4) (k := 3) (b := tb__law_goal fu) rfl (rs_seq (rs_asg (re_op r2_add (re_int _) (re_call (rl_cons (re_call (rl_cons (re_var 0) (rl_cons (re_int _) rl_nil))) (rl_cons (re_int _) (rl_cons (re_fn rc_min (rl_cons (re_var 1) (rl_cons (re_int _) rl_nil))) rl_nil))))) rg_name) (rs_seq (rs_asg (re_op r2_sub (re_var 2) (re_op r2_mod (re_var 2) (re_var 4))) rg_name) (rs_seq (rs_asg (re_var 1) rg_name) (rs_seq (rs_if (rt_e (re_eqI (re_call (rl_cons (re_op r2_add (re_call (rl_cons (re_var 0) (rl_cons (re_int _) rl_nil))) (re_var 5)) (rl_cons (re_int _) (rl_cons (re_int _) rl_nil)))) (re_int _))) (rs_asg (re_fn rc_min (rl_cons (re_var 1) (rl_cons (re_op r2_add (re_var 5) (re_var 4)) rl_nil))) rg_name) rs_next) (rs_ret (re_call (rl_cons (re_var 0) (rl_cons (re_var 1) (rl_cons (re_op r2_add (re_var 5) (re_call (rl_cons (re_var 3) (rl_cons (re_int _) (rl_cons (re_op r2_sub (re_var 6) (re_var 5)) rl_nil))))) rl_nil))))))))) h⟩)
noncomputable def tb__law_table (fu : Nat) : TwS := (sSeq (sAsg (eComp [none] (iR1 (eVar 1)) (gN 0) bTrue (eLst [(eTup [(eC (.int 0)), (eC (.int 1))]), eDict0])) (gN 2)) (sSeq (sAsg (eCall (tw__law_cell_at fu) [(eVar 0), (eC (.int 2))]) (gN 3)) (sSeq (sFor (iEn (eSl dSlL (eVar 0) (oSome (eC (.int 3))) (oSome (eC (.int 63))))) (gT 2 (gsCons (gN 4) (gsCons (gN 5) gsNil))) (sSeq (sAsg (eOp dMod (eVar 4) (eVar 1)) (gN 6)) (sSeq (sAsg (eAnd (eOp dEqI (eCall (tw__law_mixed fu) [(eVar 3), (eC (.int 20011)), (eC (.int 2))]) (eC (.int 1))) (eOp dGt (eCall (tw__law_mixed fu) [(eVar 5), (eC (.int 80021)), (eC (.int 4))]) (eC (.int 0)))) (gN 7)) (sIf (bAnd (bNot (bE (eVar 7))) (bE (eOp dGt (eCall (tw__law_mixed fu) [(eOp dAdd (eVar 3) (eOp dMulB (eVar 6) (eVar 6))), (eC (.int 70001)), (eC (.int 3))]) (eC (.int 0))))) (sSeq (sAsg (eOp dIxL (eOp dIxL (eVar 2) (eVar 6)) (eC (.int 1))) (gN 8)) (sSeq (sIf (bE (eOp dEqD (eVar 8) eDict0)) (sAsg (eCall (tw__law_gain fu) [(eVar 5)]) (gStore (eOp dIxL (eVar 2) (eVar 6)) (eC (.int 0)))) sNext) (sSeq (sAsg (eCall (tw__law_goal fu) [(eVar 0), (eVar 1), (eVar 6), (eVar 5)]) (gN 9)) (sDPutX (eVar 8) (eVar 9) (eOp dAdd (eOp dAdd (eDGet2 (eVar 8) (eVar 9) (eC (.int 0))) (eC (.int 1))) (eOp dMod (eVar 5) (eOp dPow (eC (.int 10)) (eC (.int 9))))))))) sNext)))) (sRet (eVar 2)))))
noncomputable def tw__law_table (fu : Nat) : TwF := runTw 2 8 (tb__law_table fu)
theorem ok__law_table (T : Tx K mg) : FnOk P w K mg base (CXE P w) 4 T.a__law_table T.fd__law_table ["_law_script", "_law_count"] (sTw K 2 (tw__law_table fu)) :=
 T.F__law_table.okE sc__law_table (fun vs H Q E h => h.1) (fun cdv A outer s H vs Q E hr h => ⟨_, (@pss_cons _ _ _ _ _ (ps_setComp (i := 2) (N' := ["_law_k"]) rfl (blk (osc := defScope s__law_table) rfl (by decide +kernel)) (cap_own cap_nil) (pi_range1 rfl T.n_range (@pa_cons _ _ _ _ _ (pv 1) pa_nil se_Name)) (gown_name rfl) (fun C s₀ H₀ fp => pg_name (i := 0) (show (["_law_k"] : List Str).Nodup from by decide +kernel) rfl (Or.inl rfl)) (fun C s₀ H₀ fp => pts_nil) (fun C s₀ H₀ fp => (@pe_lst _ _ _ _ (@pa_cons _ _ _ _ _ (@pe_tup _ _ _ _ _ (@pa_cons _ _ _ _ _ pe_int (@pa_cons _ _ _ _ _ pe_int pa_nil se_Constant) se_Constant)) (pa_cons pe_dnewK pa_nil) se_Tuple))) sc__law_table.nd rfl rfl) (@pss_cons _ _ _ _ _ (@ps_set _ _ 3 _ _ _ _ sc__law_table.nd rfl (Or.inl rfl) (pe_call (ok__law_cell_at (fu := fu) T) (hr.mono (by decide)) rfl T.m__law_cell_at T.F__law_cell_at.kp T.b__law_cell_at .nil passE (@pa_cons _ _ _ _ _ (pv 0) (@pa_cons _ _ _ _ _ pe_int pa_nil se_Constant) se_Name)) (by rfl) (by first | exact .inl rfl | exact .inr rfl | assumption)) (@pss_cons _ _ _ _ _ (ps_for PassesOwn.leaving rfl (pi_enum (K := K) rfl T.n_enumerate (@pa_cons _ _ _ _ _ (pe_slice (sl_listK (K := K)) (pv 0) (po_some pe_int) (po_some pe_int)) pa_nil se_Subscript)) (pg_tupK (K := K) (n := 2) rfl (pgs_cons (pg_name (i := 4) sc__law_table.nd rfl (Or.inl rfl)) (pgs_cons (pg_name (i := 5) sc__law_table.nd rfl (Or.inl rfl)) pgs_nil))) (@pss_cons _ _ _ _ _ (@ps_set _ _ 6 _ _ _ _ sc__law_table.nd rfl (Or.inl rfl) (pe_op op_mod (pv 4) (pv 1)) (by rfl) (by first | exact .inl rfl | exact .inr rfl | assumption)) (@pss_cons _ _ _ _ _ (@ps_set _ _ 7 _ _ _ _ sc__law_table.nd rfl (Or.inl rfl) (pe_and (pe_cmp (pc_eqI (pe_call (ok__law_mixed (fu := fu) T) (hr.mono (by decide)) rfl T.m__law_mixed T.F__law_mixed.kp T.b__law_mixed .nil passE (@pa_cons _ _ _ _ _ (pv 3) (@pa_cons _ _ _ _ _ pe_int (@pa_cons _ _ _ _ _ pe_int pa_nil se_Constant) se_Constant) se_Name)) pe_int)) (pe_one (pe_cmp (pc_gt (pe_call (ok__law_mixed (fu := fu) T) (hr.mono (by decide)) rfl T.m__law_mixed T.F__law_mixed.kp T.b__law_mixed .nil passE (@pa_cons _ _ _ _ _ (pv 5) (@pa_cons _ _ _ _ _ pe_int (@pa_cons _ _ _ _ _ pe_int pa_nil se_Constant) se_Constant) se_Name)) pe_int)))) (by rfl) (by first | exact .inl rfl | exact .inr rfl | assumption)) (@pss_one _ _ _ (ps_if (PW.pt (pw_and (pt_not (pt_val (pv 7))) (pw_and1 (pt_cmp (pc_gt (pe_call (ok__law_mixed (fu := fu) T) (hr.mono (by decide)) rfl T.m__law_mixed T.F__law_mixed.kp T.b__law_mixed .nil passE (@pa_cons _ _ _ _ _ (pe_op op_add (pv 3) (pe_op op_mulB (pv 6) (pv 6))) (@pa_cons _ _ _ _ _ pe_int (@pa_cons _ _ _ _ _ pe_int pa_nil se_Constant) se_Constant) se_BinOp)) pe_int))))) (@pss_cons _ _ _ _ _ (@ps_set _ _ 8 _ _ _ _ sc__law_table.nd rfl (Or.inl rfl) (@pe_ix _ _ _ _ _ _ _ (ix_listK (K := K)) (@pe_ix _ _ _ _ _ _ _ (ix_listK (K := K)) (pv 2) (pv 6) (fun _ _ => rfl)) pe_int (fun _ _ => rfl)) (by rfl) (by first | exact .inl rfl | exact .inr rfl | assumption)) (@pss_cons _ _ _ _ _ (ps_if (pt_cmpR (op_eqNilD hr) (pv 8) pe_dnewK (by rfl)) (@pss_one _ _ _ (ps_asg (pe_call (ok__law_gain (fu := fu) T) (hr.mono (by decide)) rfl T.m__law_gain T.F__law_gain.kp T.b__law_gain .nil passE (@pa_cons _ _ _ _ _ (pv 5) pa_nil se_Name)) (pg_sub (@pe_ix _ _ _ _ _ _ _ (ix_listK (K := K)) (pv 2) (pv 6) (fun _ _ => rfl)) pe_int set_list))) pss_nil) (@pss_cons _ _ _ _ _ (@ps_set _ _ 9 _ _ _ _ sc__law_table.nd rfl (Or.inl rfl) (pe_call (ok__law_goal (fu := fu) T) (hr.mono (by decide)) rfl T.m__law_goal T.F__law_goal.kp T.b__law_goal .nil passE (@pa_cons _ _ _ _ _ (pv 0) (@pa_cons _ _ _ _ _ (pv 1) (@pa_cons _ _ _ _ _ (pv 6) (@pa_cons _ _ _ _ _ (pv 5) pa_nil se_Name) se_Name) se_Name) se_Name)) (by rfl) (by first | exact .inl rfl | exact .inr rfl | assumption)) (@pss_one _ _ _ (ps_dput (hu_of hr) (pv 8) (pv 9) (pe_op op_add (pe_op op_add (pe_dget2 (hu_of hr) (pv 8) (pv 9) pe_int ⟨rfl, rfl, rfl, rfl⟩) pe_int) (pe_op op_mod (pv 5) (pe_op op_pow pe_int pe_int))) rfl))))) pss_nil))))) (@pss_one _ _ _ (@ps_ret _ _ _ _ (pv 2)))))), fn_tw (n := 2) (k := 8) (b := tb__law_table fu) rfl (rs_seq (rs_setComp (re_comp (cap := [none]) (ri_range1 (re_var 1)) rg_name rt_true (re_lst (rl_cons (re_tup (rl_cons (re_int _) (rl_cons (re_int _) rl_nil))) (rl_cons re_dnew rl_nil))))) (rs_seq (rs_asg (re_call (rl_cons (re_var 0) (rl_cons (re_int _) rl_nil))) rg_name) (rs_seq (rs_for (ri_enum (re_slL (re_var 0) (ro_some (re_int _)) (ro_some (re_int _)))) (rg_tup (rgs_cons rg_name (rgs_cons rg_name rgs_nil))) (rs_seq (rs_asg (re_op r2_mod (re_var 4) (re_var 1)) rg_name) (rs_seq (rs_asg (re_and (re_eqI (re_call (rl_cons (re_var 3) (rl_cons (re_int _) (rl_cons (re_int _) rl_nil)))) (re_int _)) (re_gt (re_call (rl_cons (re_var 5) (rl_cons (re_int _) (rl_cons (re_int _) rl_nil)))) (re_int _))) rg_name) (rs_if (rt_and (rt_not (rt_e (re_var 7))) (rt_e (re_gt (re_call (rl_cons (re_op r2_add (re_var 3) (re_op r2_mulB (re_var 6) (re_var 6))) (rl_cons (re_int _) (rl_cons (re_int _) rl_nil)))) (re_int _)))) (rs_seq (rs_asg (re_op r2_ixL (re_op r2_ixL (re_var 2) (re_var 6)) (re_int _)) rg_name) (rs_seq (rs_if (rt_test (re_op r2_eqD (re_var 8) re_dnew)) (rs_asg (re_call (rl_cons (re_var 5) rl_nil)) (rg_store (re_op r2_ixL (re_var 2) (re_var 6)) (re_int _))) rs_next) (rs_seq (rs_asg (re_call (rl_cons (re_var 0) (rl_cons (re_var 1) (rl_cons (re_var 6) (rl_cons (re_var 5) rl_nil))))) rg_name) (rs_dput (re_var 8) (re_var 9) (re_op r2_add (re_op r2_add (re_dget2 (re_var 8) (re_var 9) (re_int _)) (re_int _)) (re_op r2_mod (re_var 5) (re_op r2_pow (re_int _) (re_int _)))))))) rs_next)))) (rs_ret (re_var 2))))) h⟩)
noncomputable def tb__law_chain (fu : Nat) : TwS := (sSeq (sIf (bE (eOp (dEqNil false) (eVar 0) (eLst []))) (sRet (eLst [])) sNext) (sSeq (sAsg (eOp dAdd (eC (.int 1)) (eCall (tw__law_mixed fu) [(eCall (tw__law_cell_at fu) [(eVar 0), (eC (.int 0))]), (eC (.int 99991)), (eC (.int 6))])) (gN 1)) (sSeq (sIf (bE (eOp dEqI (eCall (tw__law_mixed fu) [(eCall (tw__law_cell_at fu) [(eVar 0), (eC (.int 0))]), (eC (.int 65537)), (eC (.int 9))]) (eC (.int 1)))) (sAsg (eOp dAdd (eC (.int 7)) (eCall (tw__law_mixed fu) [(eCall (tw__law_cell_at fu) [(eVar 0), (eC (.int 0))]), (eC (.int 90001)), (eC (.int 10))])) (gN 1)) sNext) (sSeq (sAsg (eCall (tw__law_table fu) [(eVar 0), (eVar 1)]) (gN 2)) (sSeq (sAsg (eComp [none] (iR1 (eVar 1)) (gN 0) bTrue (eLst [])) (gN 3)) (sSeq (sFor (iR1 (eVar 1)) (gN 4) (sSeq (sAsg (eOp dIxL (eOp dIxL (eVar 2) (eVar 4)) (eC (.int 1))) (gN 5)) (sIf (bE (eOp dNeD (eVar 5) eDict0)) (sSeq (sAsg (eUn dSumV (eVar 5)) (gN 6)) (sSeq (sAsg (eComp [none, some 6, some 5] (iL (eUn dSortK (eVar 5))) (gN 0) bTrue (eTup [(eVar 0), (eCall (tw__law_fraction fu) [(eDGet (eVar 2) (eVar 0)), (eVar 1)])])) (gN 7)) (sExpr (eMt mAppend (eOp dIxL (eVar 3) (eCall (tw__law_name fu) [(eVar 0), (eVar 1), (eVar 4)])) [(eTup [(eOp dIxL (eOp dIxL (eVar 2) (eVar 4)) (eC (.int 0))), (eVar 7)])])))) sNext))) (sRet (eVar 3))))))))
noncomputable def tw__law_chain (fu : Nat) : TwF := runTw 1 7 (tb__law_chain fu)
theorem ok__law_chain (T : Tx K mg) : FnOk P w K mg base (CXE P w) 5 T.a__law_chain T.fd__law_chain ["_law_script"] (sTw K 1 (tw__law_chain fu)) :=
 T.F__law_chain.okE sc__law_chain (fun vs H Q E h => h.1) (fun cdv A outer s H vs Q E hr h => ⟨_, (@pss_cons _ _ _ _ _ (ps_if (pt_cmpR (op_eqNil (K := K) hr) (pv 0) (@pe_lst _ _ _ _ pa_nil) (by rfl)) (@pss_one _ _ _ (@ps_ret _ _ _ _ (@pe_lst _ _ _ _ pa_nil))) pss_nil) (@pss_cons _ _ _ _ _ (@ps_set _ _ 1 _ _ _ _ sc__law_chain.nd rfl (Or.inl rfl) (pe_op op_add pe_int (pe_call (ok__law_mixed (fu := fu) T) (hr.mono (by decide)) rfl T.m__law_mixed T.F__law_mixed.kp T.b__law_mixed .nil passE (@pa_cons _ _ _ _ _ (pe_call (ok__law_cell_at (fu := fu) T) (hr.mono (by decide)) rfl T.m__law_cell_at T.F__law_cell_at.kp T.b__law_cell_at .nil passE (@pa_cons _ _ _ _ _ (pv 0) (@pa_cons _ _ _ _ _ pe_int pa_nil se_Constant) se_Name)) (@pa_cons _ _ _ _ _ pe_int (@pa_cons _ _ _ _ _ pe_int pa_nil se_Constant) se_Constant) se_Call))) (by rfl) (by first | exact .inl rfl | exact .inr rfl | assumption)) (@pss_cons _ _ _ _ _ (ps_if (pt_cmp (pc_eqI (pe_call (ok__law_mixed (fu := fu) T) (hr.mono (by decide)) rfl T.m__law_mixed T.F__law_mixed.kp T.b__law_mixed .nil passE (@pa_cons _ _ _ _ _ (pe_call (ok__law_cell_at (fu := fu) T) (hr.mono (by decide)) rfl T.m__law_cell_at T.F__law_cell_at.kp T.b__law_cell_at .nil passE (@pa_cons _ _ _ _ _ (pv 0) (@pa_cons _ _ _ _ _ pe_int pa_nil se_Constant) se_Name)) (@pa_cons _ _ _ _ _ pe_int (@pa_cons _ _ _ _ _ pe_int pa_nil se_Constant) se_Constant) se_Call)) pe_int)) (@pss_one _ _ _ (@ps_set _ _ 1 _ _ _ _ sc__law_chain.nd rfl (Or.inl rfl) (pe_op op_add pe_int (pe_call (ok__law_mixed (fu := fu) T) (hr.mono (by decide)) rfl T.m__law_mixed T.F__law_mixed.kp T.b__law_mixed .nil passE (@pa_cons _ _ _ _ _ (pe_call (ok__law_cell_at (fu := fu) T) (hr.mono (by decide)) rfl T.m__law_cell_at T.F__law_cell_at.kp T.b__law_cell_at .nil passE (@pa_cons _ _ _ _ _ (pv 0) (@pa_cons _ _ _ _ _ pe_int pa_nil se_Constant) se_Name)) (@pa_cons _ _ _ _ _ pe_int (@pa_cons _ _ _ _ _ pe_int pa_nil se_Constant) se_Constant) se_Call))) (by rfl) (by first | exact .inl rfl | exact .inr rfl | assumption))) pss_nil) (@pss_cons _ _ _ _ _ (@ps_set _ _ 2 _ _ _ _ sc__law_chain.nd rfl (Or.inl rfl) (pe_call (ok__law_table (fu := fu) T) (hr.mono (by decide)) rfl T.m__law_table T.F__law_table.kp T.b__law_table .nil passE (@pa_cons _ _ _ _ _ (pv 0) (@pa_cons _ _ _ _ _ (pv 1) pa_nil se_Name) se_Name)) (by rfl) (by first | exact .inl rfl | exact .inr rfl | assumption)) (@pss_cons _ _ _ _ _ (ps_setComp (i := 3) (N' := ["_law_k"]) rfl (blk (osc := defScope s__law_chain) rfl (by decide +kernel)) (cap_own cap_nil) (pi_range1 rfl T.n_range (@pa_cons _ _ _ _ _ (pv 1) pa_nil se_Name)) (gown_name rfl) (fun C s₀ H₀ fp => pg_name (i := 0) (show (["_law_k"] : List Str).Nodup from by decide +kernel) rfl (Or.inl rfl)) (fun C s₀ H₀ fp => pts_nil) (fun C s₀ H₀ fp => (@pe_lst _ _ _ _ pa_nil)) sc__law_chain.nd rfl rfl) (@pss_cons _ _ _ _ _ (ps_for PassesOwn.leaving rfl (pi_range1 rfl T.n_range (@pa_cons _ _ _ _ _ (pv 1) pa_nil se_Name)) (pg_name (i := 4) sc__law_chain.nd rfl (Or.inl rfl)) (@pss_cons _ _ _ _ _ (@ps_set _ _ 5 _ _ _ _ sc__law_chain.nd rfl (Or.inr rfl) (@pe_ix _ _ _ _ _ _ _ (ix_listK (K := K)) (@pe_ix _ _ _ _ _ _ _ (ix_listK (K := K)) (pv 2) (pv 4) (fun _ _ => rfl)) pe_int (fun _ _ => rfl)) (by rfl) (by first | exact .inl rfl | exact .inr rfl | assumption)) (@pss_one _ _ _ (ps_if (pt_cmpR (op_neNilD hr) (pv 5) pe_dnewK (by rfl)) (@pss_cons _ _ _ _ _ (@ps_set _ _ 6 _ _ _ _ sc__law_chain.nd rfl (Or.inr rfl) (pe_callB (call_sumV rfl) rfl T.n_sum PyProof.Rows.Boot.«sum» (@pa_cons _ _ _ _ _ (pe_bm0 PySem.F.plainAttrs_dict PySem.F.slot_dict_values PySem.F.type_dict_values mt_vals (pv 5)) pa_nil se_Call)) (by rfl) (by first | exact .inl rfl | exact .inr rfl | assumption)) (@pss_cons _ _ _ _ _ (ps_setComp (i := 7) (N' := ["_law_to", "_law_whole", "_law_weights"]) rfl (blk (osc := defScope s__law_chain) rfl (by decide +kernel)) (cap_own (cap_out (i := 6) rfl rfl (cap_out (i := 5) rfl rfl cap_nil))) (pi_listK (K := K) (pe_callB (call_sortK rfl) rfl T.n_sorted PyProof.Rows.Boot.«sorted» (@pa_cons _ _ _ _ _ (pe_bm0 PySem.F.plainAttrs_dict PySem.F.slot_dict_keys PySem.F.type_dict_keys mt_keys (pv 5)) pa_nil se_Call))) (gown_name rfl) (fun C s₀ H₀ fp => pg_name (i := 0) (show (["_law_to", "_law_whole", "_law_weights"] : List Str).Nodup from by decide +kernel) rfl (Or.inl rfl)) (fun C s₀ H₀ fp => pts_nil) (fun C s₀ H₀ fp => (@pe_tup _ _ _ _ _ (@pa_cons _ _ _ _ _ (pv 0) (@pa_cons _ _ _ _ _ (pe_call (ok__law_fraction (fu := fu) T) (hr.mono (by decide)) rfl T.m__law_fraction T.F__law_fraction.kp T.b__law_fraction .nil passF (@pa_cons _ _ _ _ _ (pe_dget (hu_of hr) (pv 2) (pv 0) (fun _ _ => rfl)) (@pa_cons _ _ _ _ _ (pv 1) pa_nil se_Name) se_Subscript)) pa_nil se_Call) se_Name))) sc__law_chain.nd rfl rfl) (@pss_one _ _ _ (ps_expr (pe_bm PySem.F.plainAttrs_list PySem.F.slot_list_append PySem.F.type_list_append mt_append (@pe_ix _ _ _ _ _ _ _ (ix_listK (K := K)) (pv 3) (pe_call (ok__law_name (fu := fu) T) (hr.mono (by decide)) rfl T.m__law_name T.F__law_name.kp T.b__law_name .nil passE (@pa_cons _ _ _ _ _ (pv 0) (@pa_cons _ _ _ _ _ (pv 1) (@pa_cons _ _ _ _ _ (pv 4) pa_nil se_Name) se_Name) se_Name)) (fun _ _ => rfl)) (@pa_cons _ _ _ _ _ (@pe_tup _ _ _ _ _ (@pa_cons _ _ _ _ _ (@pe_ix _ _ _ _ _ _ _ (ix_listK (K := K)) (@pe_ix _ _ _ _ _ _ _ (ix_listK (K := K)) (pv 2) (pv 4) (fun _ _ => rfl)) pe_int (fun _ _ => rfl)) (@pa_cons _ _ _ _ _ (pv 7) pa_nil se_Name) se_Subscript)) pa_nil se_Tuple)))))) pss_nil)))) (@pss_one _ _ _ (@ps_ret _ _ _ _ (pv 3))))))))), fn_tw (n := 1) (k := 7) (b := tb__law_chain fu) rfl (rs_seq (rs_if (rt_test (re_op r2_eqNil (re_var 0) (re_lst rl_nil))) (rs_ret (re_lst rl_nil)) rs_next) (rs_seq (rs_asg (re_op r2_add (re_int _) (re_call (rl_cons (re_call (rl_cons (re_var 0) (rl_cons (re_int _) rl_nil))) (rl_cons (re_int _) (rl_cons (re_int _) rl_nil))))) rg_name) (rs_seq (rs_if (rt_e (re_eqI (re_call (rl_cons (re_call (rl_cons (re_var 0) (rl_cons (re_int _) rl_nil))) (rl_cons (re_int _) (rl_cons (re_int _) rl_nil)))) (re_int _))) (rs_asg (re_op r2_add (re_int _) (re_call (rl_cons (re_call (rl_cons (re_var 0) (rl_cons (re_int _) rl_nil))) (rl_cons (re_int _) (rl_cons (re_int _) rl_nil))))) rg_name) rs_next) (rs_seq (rs_asg (re_call (rl_cons (re_var 0) (rl_cons (re_var 1) rl_nil))) rg_name) (rs_seq (rs_setComp (re_comp (cap := [none]) (ri_range1 (re_var 1)) rg_name rt_true (re_lst rl_nil))) (rs_seq (rs_for (ri_range1 (re_var 1)) rg_name (rs_seq (rs_asg (re_op r2_ixL (re_op r2_ixL (re_var 2) (re_var 4)) (re_int _)) rg_name) (rs_if (rt_test (re_op r2_neD (re_var 5) re_dnew)) (rs_seq (rs_asg (re_sumV (re_var 5)) rg_name) (rs_seq (rs_setComp (re_comp (cap := [none, some 6, some 5]) (ri_list (re_sortK (re_var 5))) rg_name rt_true (re_tup (rl_cons (re_var 0) (rl_cons (re_call (rl_cons (re_dget (re_var 2) (re_var 0)) (rl_cons (re_var 1) rl_nil))) rl_nil))))) (rs_expr (re_mt rm_append (re_op r2_ixL (re_var 3) (re_call (rl_cons (re_var 0) (rl_cons (re_var 1) (rl_cons (re_var 4) rl_nil))))) (rl_cons (re_tup (rl_cons (re_op r2_ixL (re_op r2_ixL (re_var 2) (re_var 4)) (re_int _)) (rl_cons (re_var 7) rl_nil))) rl_nil))))) rs_next))) (rs_ret (re_var 3)))))))) h⟩)
noncomputable def tb__law_copy (fu : Nat) : TwS := (sSeq (sAsg (eLst []) (gN 1)) (sSeq (sFor (iL (eVar 0)) (gN 2) (sExpr (eMt mAppend (eVar 1) [(eComp [none, none] (iL (eVar 2)) (gT 2 (gsCons (gN 0) (gsCons (gN 1) gsNil))) bTrue (eTup [(eVar 0), (eFn dList [(eVar 1)])]))]))) (sRet (eVar 1))))
noncomputable def tw__law_copy (fu : Nat) : TwF := runTw 1 2 (tb__law_copy fu)
theorem ok__law_copy (T : Tx K mg) : FnOk P w K mg base (CXE P w) 1 T.a__law_copy T.fd__law_copy ["_law_net"] (sTw K 1 (tw__law_copy fu)) :=
 T.F__law_copy.okE sc__law_copy (fun vs H Q E h => h.1) (fun cdv A outer s H vs Q E hr h => ⟨_, (@pss_cons _ _ _ _ _ (@ps_set _ _ 1 _ _ _ _ sc__law_copy.nd rfl (Or.inl rfl) (@pe_lst _ _ _ _ pa_nil) (by rfl) (by first | exact .inl rfl | exact .inr rfl | assumption)) (@pss_cons _ _ _ _ _ (ps_for PassesOwn.leaving rfl (pi_listK (K := K) (pv 0)) (pg_name (i := 2) sc__law_copy.nd rfl (Or.inl rfl)) (@pss_one _ _ _ (ps_expr (pe_bm PySem.F.plainAttrs_list PySem.F.slot_list_append PySem.F.type_list_append mt_append (pv 1) (pa_cons (pe_comp (N' := ["_law_gain_here", "_law_parts"]) rfl (blk (osc := defScope s__law_copy) rfl (by decide +kernel)) (cap_own (cap_own cap_nil)) (pi_listK (K := K) (pv 2)) (gown_tup (gsown_cons (gown_name rfl) (gsown_cons (gown_name rfl) gsown_nil gname_mono) gname_mono)) (fun C s₀ H₀ fp => pg_tupK (K := K) (n := 2) rfl (pgs_cons (pg_name (i := 0) (show (["_law_gain_here", "_law_parts"] : List Str).Nodup from by decide +kernel) rfl (Or.inl rfl)) (pgs_cons (pg_name (i := 1) (show (["_law_gain_here", "_law_parts"] : List Str).Nodup from by decide +kernel) rfl (Or.inl rfl)) pgs_nil))) (fun C s₀ H₀ fp => pts_nil) (fun C s₀ H₀ fp => (@pe_tup _ _ _ _ _ (@pa_cons _ _ _ _ _ (pv 0) (@pa_cons _ _ _ _ _ (pe_callTy (call_listK (K := K)) rfl T.n_list boot_list (@pa_cons _ _ _ _ _ (pv 1) pa_nil se_Name)) pa_nil se_Call) se_Name)))) pa_nil))))) (@pss_one _ _ _ (@ps_ret _ _ _ _ (pv 1))))), fn_tw (n := 1) (k := 2) (b := tb__law_copy fu) rfl (rs_seq (rs_asg (re_lst rl_nil) rg_name) (rs_seq (rs_for (ri_list (re_var 0)) rg_name (rs_expr (re_mt rm_append (re_var 1) (rl_cons (re_comp (cap := [none, none]) (ri_list (re_var 2)) (rg_tup (rgs_cons rg_name (rgs_cons rg_name rgs_nil))) rt_true (re_tup (rl_cons (re_var 0) (rl_cons (re_fn rc_list (rl_cons (re_var 1) rl_nil)) rl_nil)))) rl_nil)))) (rs_ret (re_var 1)))) h⟩)
noncomputable def tb__law_below (fu : Nat) : TwS := (sSeq (sAsg (eLst [(eVar 1)]) (gN 2)) (sSeq (sAsg (eC (.int 0)) (gN 3)) (sSeq (sWh fu (bE (eOp dLt (eVar 3) (eFn dLen [(eVar 2)]))) (sSeq (sFor (iL (eOp dIxL (eVar 0) (eOp dIxL (eVar 2) (eVar 3)))) (gN 4) (sFor (iL (eOp dIxT (eVar 4) (eC (.int 1)))) (gN 5) (sIf (bE (eOp (dIn true) (eOp dIxT (eVar 5) (eC (.int 0))) (eVar 2))) (sExpr (eMt mAppend (eVar 2) [(eOp dIxT (eVar 5) (eC (.int 0)))])) sNext))) (sAsg (eOp dAdd (eVar 3) (eC (.int 1))) (gN 3)))) (sRet (eFn dSortI [(eVar 2)])))))
noncomputable def tw__law_below (fu : Nat) : TwF := runTw 2 4 (tb__law_below fu)
theorem ok__law_below (T : Tx K mg) : FnOk P w K mg base (CXE P w) 1 T.a__law_below T.fd__law_below ["_law_net", "_law_node"] (sTw K 2 (tw__law_below fu)) :=
 T.F__law_below.okE sc__law_below (fun vs H Q E h => h.1) (fun cdv A outer s H vs Q E hr h => ⟨_, (@pss_cons _ _ _ _ _ (@ps_set _ _ 2 _ _ _ _ sc__law_below.nd rfl (Or.inl rfl) (@pe_lst _ _ _ _ (@pa_cons _ _ _ _ _ (pv 1) pa_nil se_Name)) (by rfl) (by first | exact .inl rfl | exact .inr rfl | assumption)) (@pss_cons _ _ _ _ _ (@ps_set _ _ 3 _ _ _ _ sc__law_below.nd rfl (Or.inl rfl) pe_int (by rfl) (by first | exact .inl rfl | exact .inr rfl | assumption)) (@pss_cons _ _ _ _ _ (ps_while PassesOwn.leaving (pt_cmp (pc_lt (pv 3) (pe_callB (call_lenK (K := K)) rfl T.n_len boot_len (@pa_cons _ _ _ _ _ (pv 2) pa_nil se_Name)))) (@pss_cons _ _ _ _ _ (ps_for PassesOwn.leaving rfl (pi_listK (K := K) (@pe_ix _ _ _ _ _ _ _ (ix_listK (K := K)) (pv 0) (@pe_ix _ _ _ _ _ _ _ (ix_listK (K := K)) (pv 2) (pv 3) (fun _ _ => rfl)) (fun _ _ => rfl))) (pg_name (i := 4) sc__law_below.nd rfl (Or.inl rfl)) (@pss_one _ _ _ (ps_for PassesOwn.leaving rfl (pi_listK (K := K) (@pe_ix _ _ _ _ _ _ _ (ix_tupK (K := K)) (pv 4) pe_int (fun _ _ => rfl))) (pg_name (i := 5) sc__law_below.nd rfl (Or.inl rfl)) (@pss_one _ _ _ (ps_if (pt_cmpR (op_notInK (K := K)) (@pe_ix _ _ _ _ _ _ _ (ix_tupK (K := K)) (pv 5) pe_int (fun _ _ => rfl)) (pv 2) (by rfl)) (@pss_one _ _ _ (ps_expr (pe_bm PySem.F.plainAttrs_list PySem.F.slot_list_append PySem.F.type_list_append mt_append (pv 2) (@pa_cons _ _ _ _ _ (@pe_ix _ _ _ _ _ _ _ (ix_tupK (K := K)) (pv 5) pe_int (fun _ _ => rfl)) pa_nil se_Subscript)))) pss_nil))))) (@pss_one _ _ _ (@ps_set _ _ 3 _ _ _ _ sc__law_below.nd rfl (Or.inl rfl) (pe_op op_add (pv 3) pe_int) (by rfl) (by first | exact .inl rfl | exact .inr rfl | assumption))))) (@pss_one _ _ _ (@ps_ret _ _ _ _ (pe_callB (call_sortI (K := K)) rfl T.n_sorted PyProof.Rows.Boot.«sorted» (@pa_cons _ _ _ _ _ (pv 2) pa_nil se_Name))))))), fn_tw (n := 2) (k := 4) (b := tb__law_below fu) rfl (rs_seq (rs_asg (re_lst (rl_cons (re_var 1) rl_nil)) rg_name) (rs_seq (rs_asg (re_int _) rg_name) (rs_seq (rs_while (rt_e (re_lt (re_var 3) (re_fn rc_len (rl_cons (re_var 2) rl_nil)))) (rs_seq (rs_for (ri_list (re_op r2_ixL (re_var 0) (re_op r2_ixL (re_var 2) (re_var 3)))) rg_name (rs_for (ri_list (re_op r2_ixT (re_var 4) (re_int _))) rg_name (rs_if (rt_test (re_op r2_in (re_op r2_ixT (re_var 5) (re_int _)) (re_var 2))) (rs_expr (re_mt rm_append (re_var 2) (rl_cons (re_op r2_ixT (re_var 5) (re_int _)) rl_nil))) rs_next))) (rs_asg (re_op r2_add (re_var 3) (re_int _)) rg_name))) (rs_ret (re_fn rc_sortI (rl_cons (re_var 2) rl_nil)))))) h⟩)
noncomputable def tb__law_ring (fu : Nat) : TwS := (sSeq (sIf (bOr (bNot (bE (eUn (dIsi "list") (eVar 2)))) (bE (eOp (dEqNil false) (eVar 2) (eLst [])))) (sRet (eC (.bl false))) sNext) (sSeq (sAsg (eC (.bl false)) (gN 3)) (sSeq (sFor (iL (eVar 2)) (gN 4) (sSeq (sIf (bOr (bNot (bE (eUn (dIsi "int") (eVar 4)))) (bE (eUn (dIsi "bool") (eVar 4)))) (sRet (eC (.bl false))) sNext) (sSeq (sIf (bOr (bNot (bE (eChain (fun i j => decide (i ≤ j)) (fun i j => decide (i < j)) (eC (.int 0)) (eVar 4) (eFn dLen [(eVar 0)])))) (bE (eOp (dEqNil false) (eOp dIxL (eVar 0) (eVar 4)) (eLst [])))) (sRet (eC (.bl false))) sNext) (sSeq (sIf (bE (eOp (dEqG true) (eOp dIxL (eVar 1) (eVar 4)) (eVar 2))) (sRet (eC (.bl false))) sNext) (sAsg (eOr (eVar 3) (eOp dGt (eOp dIxT (eOp dIxT (eOp dIxL (eOp dIxL (eVar 0) (eVar 4)) (eC (.int 0))) (eC (.int 0))) (eC (.int 0))) (eC (.int 0)))) (gN 3)))))) (sRet (eVar 3)))))
noncomputable def tw__law_ring (fu : Nat) : TwF := runTw 3 2 (tb__law_ring fu)
theorem ok__law_ring (T : Tx K mg) : FnOk P w K mg base (CXE P w) 1 T.a__law_ring T.fd__law_ring ["_law_net", "_law_below_here", "_law_ring_here"] (sTw K 3 (tw__law_ring fu)) :=
 T.F__law_ring.okE sc__law_ring (fun vs H Q E h => h.1) (fun cdv A outer s H vs Q E hr h => ⟨_, (@pss_cons _ _ _ _ _ (ps_if (PW.pt (pw_or (pt_not (pt_val (pe_callB (call_isiK (K := K)) rfl T.n_isinstance boot_isinstance (pa_cons (pv 2) (pa_cons (pe_bltn (v := .ty "list") rfl T.n_list boot_list rfl) pa_nil))))) (pw_or1 (pt_cmpR (op_eqNil (K := K) hr) (pv 2) (@pe_lst _ _ _ _ pa_nil) (by rfl))))) (@pss_one _ _ _ (@ps_ret _ _ _ _ pe_bl)) pss_nil) (@pss_cons _ _ _ _ _ (@ps_set _ _ 3 _ _ _ _ sc__law_ring.nd rfl (Or.inl rfl) pe_bl (by rfl) (by first | exact .inl rfl | exact .inr rfl | assumption)) (@pss_cons _ _ _ _ _ (ps_for PassesOwn.leaving rfl (pi_listK (K := K) (pv 2)) (pg_name (i := 4) sc__law_ring.nd rfl (Or.inl rfl)) (@pss_cons _ _ _ _ _ (ps_if (PW.pt (pw_or (pt_not (pt_val (pe_callB (call_isiK (K := K)) rfl T.n_isinstance boot_isinstance (pa_cons (pv 4) (pa_cons (pe_bltn (v := .ty "int") rfl T.n_int boot_int rfl) pa_nil))))) (pw_or1 (pt_val (pe_callB (call_isiK (K := K)) rfl T.n_isinstance boot_isinstance (pa_cons (pv 4) (pa_cons (pe_bltn (v := .ty "bool") rfl T.n_bool boot_bool rfl) pa_nil))))))) (@pss_one _ _ _ (@ps_ret _ _ _ _ pe_bl)) pss_nil) (@pss_cons _ _ _ _ _ (ps_if (PW.pt (pw_or (pt_not (pt_chain op_le op_lt pe_int (pv 4) (pe_callB (call_lenK (K := K)) rfl T.n_len boot_len (@pa_cons _ _ _ _ _ (pv 0) pa_nil se_Name)))) (pw_or1 (pt_cmpR (op_eqNil (K := K) hr) (@pe_ix _ _ _ _ _ _ _ (ix_listK (K := K)) (pv 0) (pv 4) (fun _ _ => rfl)) (@pe_lst _ _ _ _ pa_nil) (by rfl))))) (@pss_one _ _ _ (@ps_ret _ _ _ _ pe_bl)) pss_nil) (@pss_cons _ _ _ _ _ (ps_if (pt_cmpR (op_neG (K := K) hr) (@pe_ix _ _ _ _ _ _ _ (ix_listK (K := K)) (pv 1) (pv 4) (fun _ _ => rfl)) (pv 2) (by rfl)) (@pss_one _ _ _ (@ps_ret _ _ _ _ pe_bl)) pss_nil) (@pss_one _ _ _ (@ps_set _ _ 3 _ _ _ _ sc__law_ring.nd rfl (Or.inl rfl) (pe_or (pv 3) (pe_one (pe_cmp (pc_gt (@pe_ix _ _ _ _ _ _ _ (ix_tupK (K := K)) (@pe_ix _ _ _ _ _ _ _ (ix_tupK (K := K)) (@pe_ix _ _ _ _ _ _ _ (ix_listK (K := K)) (@pe_ix _ _ _ _ _ _ _ (ix_listK (K := K)) (pv 0) (pv 4) (fun _ _ => rfl)) pe_int (fun _ _ => rfl)) pe_int (fun _ _ => rfl)) pe_int (fun _ _ => rfl)) pe_int)))) (by rfl) (by first | exact .inl rfl | exact .inr rfl | assumption))))))) (@pss_one _ _ _ (@ps_ret _ _ _ _ (pv 3)))))), fn_tw (n := 3) (k := 2) (b := tb__law_ring fu) rfl (rs_seq (rs_if (rt_or (rt_not (rt_e (re_isi isi_list (re_var 2)))) (rt_test (re_op r2_eqNil (re_var 2) (re_lst rl_nil)))) (rs_ret (re_bl _)) rs_next) (rs_seq (rs_asg (re_bl _) rg_name) (rs_seq (rs_for (ri_list (re_var 2)) rg_name (rs_seq (rs_if (rt_or (rt_not (rt_e (re_isi isi_int (re_var 4)))) (rt_e (re_isi isi_bool (re_var 4)))) (rs_ret (re_bl _)) rs_next) (rs_seq (rs_if (rt_or (rt_not (rt_test (re_chain (re_int _) (re_var 4) (re_fn rc_len (rl_cons (re_var 0) rl_nil))))) (rt_test (re_op r2_eqNil (re_op r2_ixL (re_var 0) (re_var 4)) (re_lst rl_nil)))) (rs_ret (re_bl _)) rs_next) (rs_seq (rs_if (rt_test (re_op r2_eqG (re_op r2_ixL (re_var 1) (re_var 4)) (re_var 2))) (rs_ret (re_bl _)) rs_next) (rs_asg (re_or (re_var 3) (re_gt (re_op r2_ixT (re_op r2_ixT (re_op r2_ixL (re_op r2_ixL (re_var 0) (re_var 4)) (re_int _)) (re_int _)) (re_int _)) (re_int _))) rg_name))))) (rs_ret (re_var 3))))) h⟩)
noncomputable def tb__law_endless (fu : Nat) : TwS := (sRet (eComp [none, some 0, some 1] (iR1 (eFn dLen [(eVar 0)])) (gN 0) (bE (eCall (tw__law_ring fu) [(eVar 1), (eVar 2), (eOp dIxL (eVar 2) (eVar 0))])) (eVar 0)))
noncomputable def tw__law_endless (fu : Nat) : TwF := runTw 2 0 (tb__law_endless fu)
theorem ok__law_endless (T : Tx K mg) : FnOk P w K mg base (CXE P w) 2 T.a__law_endless T.fd__law_endless ["_law_net", "_law_below_here"] (sTw K 2 (tw__law_endless fu)) :=
 T.F__law_endless.okE sc__law_endless (fun vs H Q E h => h.1) (fun cdv A outer s H vs Q E hr h => ⟨_, (@pss_one _ _ _ (@ps_ret _ _ _ _ (pe_comp (N' := ["_law_node", "_law_net", "_law_below_here"]) rfl (blk (osc := defScope s__law_endless) rfl (by decide +kernel)) (cap_own (cap_out (i := 0) rfl rfl (cap_out (i := 1) rfl rfl cap_nil))) (pi_range1 rfl T.n_range (@pa_cons _ _ _ _ _ (pe_callB (call_lenK (K := K)) rfl T.n_len boot_len (@pa_cons _ _ _ _ _ (pv 0) pa_nil se_Name)) pa_nil se_Call)) (gown_name rfl) (fun C s₀ H₀ fp => pg_name (i := 0) (show (["_law_node", "_law_net", "_law_below_here"] : List Str).Nodup from by decide +kernel) rfl (Or.inl rfl)) (fun C s₀ H₀ fp => pts_one (pt_val (pe_call (ok__law_ring (fu := fu) T) (hr.mono (by decide)) rfl T.m__law_ring T.F__law_ring.kp T.b__law_ring .nil passF (@pa_cons _ _ _ _ _ (pv 1) (@pa_cons _ _ _ _ _ (pv 2) (@pa_cons _ _ _ _ _ (@pe_ix _ _ _ _ _ _ _ (ix_listK (K := K)) (pv 2) (pv 0) (fun _ _ => rfl)) pa_nil se_Subscript) se_Name) se_Name)))) (fun C s₀ H₀ fp => (pv 0))))), fn_tw (n := 2) (k := 0) (b := tb__law_endless fu) rfl (rs_ret (re_comp (cap := [none, some 0, some 1]) (ri_range1 (re_fn rc_len (rl_cons (re_var 0) rl_nil))) rg_name (rt_e (re_call (rl_cons (re_var 1) (rl_cons (re_var 2) (rl_cons (re_op r2_ixL (re_var 2) (re_var 0)) rl_nil))))) (re_var 0))) h⟩)
noncomputable def tb__law_way (fu : Nat) : TwS := (sSeq (sIf (bOr (bNot (bE (eUn (dIsi "list") (eVar 1)))) (bE (eOp (dEqNil false) (eVar 1) (eLst [])))) (sRet (eC (.bl false))) sNext) (sSeq (sFor (iL (eVar 1)) (gN 4) (sIf (bOr (bNot (bE (eUn (dIsi "int") (eVar 4)))) (bOr (bE (eUn (dIsi "bool") (eVar 4))) (bNot (bE (eChain (fun i j => decide (i ≤ j)) (fun i j => decide (i < j)) (eC (.int 0)) (eVar 4) (eFn dLen [(eVar 0)])))))) (sRet (eC (.bl false))) sNext)) (sSeq (sFor (iR1 (eOp dSub (eFn dLen [(eVar 1)]) (eC (.int 1)))) (gN 5) (sSeq (sIf (bE (eOp (dEqNil false) (eOp dIxL (eVar 0) (eOp dIxL (eVar 1) (eVar 5))) (eLst []))) (sRet (eC (.bl false))) sNext) (sIf (bE (eOp (dIn true) (eOp dIxL (eVar 1) (eOp dAdd (eVar 5) (eC (.int 1)))) (eComp [none] (iL (eOp dIxT (eOp dIxL (eOp dIxL (eVar 0) (eOp dIxL (eVar 1) (eVar 5))) (eC (.int 0))) (eC (.int 1)))) (gN 0) bTrue (eOp dIxT (eVar 0) (eC (.int 0)))))) (sRet (eC (.bl false))) sNext))) (sRet (eAnd (eOp dEqI (eOp dIxL (eVar 1) (eC (.int 0))) (eVar 2)) (eOp (dIn false) (eOp dIxL (eVar 1) (eUn dNeg (eC (.int 1)))) (eVar 3)))))))
noncomputable def tw__law_way (fu : Nat) : TwF := runTw 4 2 (tb__law_way fu)
theorem ok__law_way (T : Tx K mg) : FnOk P w K mg base (CXE P w) 1 T.a__law_way T.fd__law_way ["_law_net", "_law_way_here", "_law_node", "_law_ring_here"] (sTw K 4 (tw__law_way fu)) :=
 T.F__law_way.okE sc__law_way (fun vs H Q E h => h.1) (fun cdv A outer s H vs Q E hr h => ⟨_, (@pss_cons _ _ _ _ _ (ps_if (PW.pt (pw_or (pt_not (pt_val (pe_callB (call_isiK (K := K)) rfl T.n_isinstance boot_isinstance (pa_cons (pv 1) (pa_cons (pe_bltn (v := .ty "list") rfl T.n_list boot_list rfl) pa_nil))))) (pw_or1 (pt_cmpR (op_eqNil (K := K) hr) (pv 1) (@pe_lst _ _ _ _ pa_nil) (by rfl))))) (@pss_one _ _ _ (@ps_ret _ _ _ _ pe_bl)) pss_nil) (@pss_cons _ _ _ _ _ (ps_for PassesOwn.leaving rfl (pi_listK (K := K) (pv 1)) (pg_name (i := 4) sc__law_way.nd rfl (Or.inl rfl)) (@pss_one _ _ _ (ps_if (PW.pt (pw_or (pt_not (pt_val (pe_callB (call_isiK (K := K)) rfl T.n_isinstance boot_isinstance (pa_cons (pv 4) (pa_cons (pe_bltn (v := .ty "int") rfl T.n_int boot_int rfl) pa_nil))))) (pw_or (pt_val (pe_callB (call_isiK (K := K)) rfl T.n_isinstance boot_isinstance (pa_cons (pv 4) (pa_cons (pe_bltn (v := .ty "bool") rfl T.n_bool boot_bool rfl) pa_nil)))) (pw_or1 (pt_not (pt_chain op_le op_lt pe_int (pv 4) (pe_callB (call_lenK (K := K)) rfl T.n_len boot_len (@pa_cons _ _ _ _ _ (pv 0) pa_nil se_Name)))))))) (@pss_one _ _ _ (@ps_ret _ _ _ _ pe_bl)) pss_nil))) (@pss_cons _ _ _ _ _ (ps_for PassesOwn.leaving rfl (pi_range1 rfl T.n_range (@pa_cons _ _ _ _ _ (pe_op op_sub (pe_callB (call_lenK (K := K)) rfl T.n_len boot_len (@pa_cons _ _ _ _ _ (pv 1) pa_nil se_Name)) pe_int) pa_nil se_BinOp)) (pg_name (i := 5) sc__law_way.nd rfl (Or.inl rfl)) (@pss_cons _ _ _ _ _ (ps_if (pt_cmpR (op_eqNil (K := K) hr) (@pe_ix _ _ _ _ _ _ _ (ix_listK (K := K)) (pv 0) (@pe_ix _ _ _ _ _ _ _ (ix_listK (K := K)) (pv 1) (pv 5) (fun _ _ => rfl)) (fun _ _ => rfl)) (@pe_lst _ _ _ _ pa_nil) (by rfl)) (@pss_one _ _ _ (@ps_ret _ _ _ _ pe_bl)) pss_nil) (@pss_one _ _ _ (ps_if (pt_cmpR (op_notInK (K := K)) (@pe_ix _ _ _ _ _ _ _ (ix_listK (K := K)) (pv 1) (pe_op op_add (pv 5) pe_int) (fun _ _ => rfl)) (pe_comp (N' := ["_law_part"]) rfl (blk (osc := defScope s__law_way) rfl (by decide +kernel)) (cap_own cap_nil) (pi_listK (K := K) (@pe_ix _ _ _ _ _ _ _ (ix_tupK (K := K)) (@pe_ix _ _ _ _ _ _ _ (ix_listK (K := K)) (@pe_ix _ _ _ _ _ _ _ (ix_listK (K := K)) (pv 0) (@pe_ix _ _ _ _ _ _ _ (ix_listK (K := K)) (pv 1) (pv 5) (fun _ _ => rfl)) (fun _ _ => rfl)) pe_int (fun _ _ => rfl)) pe_int (fun _ _ => rfl))) (gown_name rfl) (fun C s₀ H₀ fp => pg_name (i := 0) (show (["_law_part"] : List Str).Nodup from by decide +kernel) rfl (Or.inl rfl)) (fun C s₀ H₀ fp => pts_nil) (fun C s₀ H₀ fp => (@pe_ix _ _ _ _ _ _ _ (ix_tupK (K := K)) (pv 0) pe_int (fun _ _ => rfl)))) (by rfl)) (@pss_one _ _ _ (@ps_ret _ _ _ _ pe_bl)) pss_nil)))) (@pss_one _ _ _ (@ps_ret _ _ _ _ (pe_and (pe_cmp (pc_eqI (@pe_ix _ _ _ _ _ _ _ (ix_listK (K := K)) (pv 1) pe_int (fun _ _ => rfl)) (pv 2))) (pe_one (pe_cmpR (op_inK (K := K)) (@pe_ix _ _ _ _ _ _ _ (ix_listK (K := K)) (pv 1) (pe_un un_neg pe_int) (fun _ _ => rfl)) (pv 3) (by rfl))))))))), fn_tw (n := 4) (k := 2) (b := tb__law_way fu) rfl (rs_seq (rs_if (rt_or (rt_not (rt_e (re_isi isi_list (re_var 1)))) (rt_test (re_op r2_eqNil (re_var 1) (re_lst rl_nil)))) (rs_ret (re_bl _)) rs_next) (rs_seq (rs_for (ri_list (re_var 1)) rg_name (rs_if (rt_or (rt_not (rt_e (re_isi isi_int (re_var 4)))) (rt_or (rt_e (re_isi isi_bool (re_var 4))) (rt_not (rt_test (re_chain (re_int _) (re_var 4) (re_fn rc_len (rl_cons (re_var 0) rl_nil))))))) (rs_ret (re_bl _)) rs_next)) (rs_seq (rs_for (ri_range1 (re_op r2_sub (re_fn rc_len (rl_cons (re_var 1) rl_nil)) (re_int _))) rg_name (rs_seq (rs_if (rt_test (re_op r2_eqNil (re_op r2_ixL (re_var 0) (re_op r2_ixL (re_var 1) (re_var 5))) (re_lst rl_nil))) (rs_ret (re_bl _)) rs_next) (rs_if (rt_test (re_op r2_in (re_op r2_ixL (re_var 1) (re_op r2_add (re_var 5) (re_int _))) (re_comp (cap := [none]) (ri_list (re_op r2_ixT (re_op r2_ixL (re_op r2_ixL (re_var 0) (re_op r2_ixL (re_var 1) (re_var 5))) (re_int _)) (re_int _))) rg_name rt_true (re_op r2_ixT (re_var 0) (re_int _))))) (rs_ret (re_bl _)) rs_next))) (rs_ret (re_and (re_eqI (re_op r2_ixL (re_var 1) (re_int _)) (re_var 2)) (re_op r2_in (re_op r2_ixL (re_var 1) (re_un r1_neg (re_int _))) (re_var 3))))))) h⟩)
noncomputable def tb_law (fu : Nat) : TwS := (sSeq (sAsg (eCall (tw__law_chain fu) [(eVar 0)]) (gN 1)) (sSeq (sAsg (eCall (tw__law_copy fu) [(eVar 1)]) (gN 2)) (sSeq (sAsg (eComp [none, some 1] (iR1 (eFn dLen [(eVar 1)])) (gN 0) bTrue (eCall (tw__law_below fu) [(eVar 1), (eVar 0)])) (gN 3)) (sSeq (sAsg (eCall (tw__law_endless fu) [(eVar 1), (eVar 3)]) (gN 4)) (sSeq (sFor (iR1 (eFn dLen [(eVar 1)])) (gN 5) (sSeq (sAsg (eCall (tw_gain_ring fu) [(eVar 2), (eVar 5)]) (gN 6)) (sIf (bE (eOp (dEqNil false) (eComp [none, some 3, some 5] (iL (eVar 4)) (gN 0) (bE (eOp (dIn false) (eVar 0) (eOp dIxL (eVar 1) (eVar 2)))) (eVar 0)) (eLst []))) (sIf (bE (eUn dNotN (eVar 6))) (sRet (eC (.bl false))) sNext) (sIf (bOr (bNot (bE (eUn (dIsi "tuple") (eVar 6)))) (bE (eOp dNeI (eFn dLen [(eVar 6)]) (eC (.int 2))))) (sRet (eC (.bl false))) (sIf (bNot (bE (eCall (tw__law_ring fu) [(eVar 1), (eVar 3), (eOp dIxT (eVar 6) (eC (.int 1)))]))) (sRet (eC (.bl false))) (sIf (bNot (bE (eCall (tw__law_way fu) [(eVar 1), (eOp dIxT (eVar 6) (eC (.int 0))), (eVar 5), (eOp dIxT (eVar 6) (eC (.int 1)))]))) (sRet (eC (.bl false))) sNext)))))) (sRet (eOp (dEqG false) (eVar 2) (eVar 1))))))))
noncomputable def tw_law (fu : Nat) : TwF := runTw 1 6 (tb_law fu)
theorem okT_law (T : Tx K mg) : FnOk P w K mg base (CXE P w) 6 T.a_law T.fd_law ["_law_script"] (sTw K 1 (tw_law fu)) :=
 T.F_law.okE sc_law (fun vs H Q E h => h.1) (fun cdv A outer s H vs Q E hr h => ⟨_, (@pss_cons _ _ _ _ _ (@ps_set _ _ 1 _ _ _ _ sc_law.nd rfl (Or.inr rfl) (pe_call (ok__law_chain (fu := fu) T) (hr.mono (by decide)) rfl T.m__law_chain T.F__law_chain.kp T.b__law_chain .nil passE (@pa_cons _ _ _ _ _ (pv 0) pa_nil se_Name)) (by rfl) (by first | exact .inl rfl | exact .inr rfl | assumption)) (@pss_cons _ _ _ _ _ (@ps_set _ _ 2 _ _ _ _ sc_law.nd rfl (Or.inl rfl) (pe_call (ok__law_copy (fu := fu) T) (hr.mono (by decide)) rfl T.m__law_copy T.F__law_copy.kp T.b__law_copy .nil passE (@pa_cons _ _ _ _ _ (pv 1) pa_nil se_Name)) (by rfl) (by first | exact .inl rfl | exact .inr rfl | assumption)) (@pss_cons _ _ _ _ _ (@ps_set _ _ 3 _ _ _ _ sc_law.nd rfl (Or.inr rfl) (pe_comp (N' := ["_law_node", "_law_net"]) rfl (blk (osc := defScope s_law) rfl (by decide +kernel)) (cap_own (cap_out (i := 1) rfl rfl cap_nil)) (pi_range1 rfl T.n_range (@pa_cons _ _ _ _ _ (pe_callB (call_lenK (K := K)) rfl T.n_len boot_len (@pa_cons _ _ _ _ _ (pv 1) pa_nil se_Name)) pa_nil se_Call)) (gown_name rfl) (fun C s₀ H₀ fp => pg_name (i := 0) (show (["_law_node", "_law_net"] : List Str).Nodup from by decide +kernel) rfl (Or.inl rfl)) (fun C s₀ H₀ fp => pts_nil) (fun C s₀ H₀ fp => (pe_call (ok__law_below (fu := fu) T) (hr.mono (by decide)) rfl T.m__law_below T.F__law_below.kp T.b__law_below .nil passF (@pa_cons _ _ _ _ _ (pv 1) (@pa_cons _ _ _ _ _ (pv 0) pa_nil se_Name) se_Name)))) (by rfl) (by first | exact .inl rfl | exact .inr rfl | assumption)) (@pss_cons _ _ _ _ _ (@ps_set _ _ 4 _ _ _ _ sc_law.nd rfl (Or.inl rfl) (pe_call (ok__law_endless (fu := fu) T) (hr.mono (by decide)) rfl T.m__law_endless T.F__law_endless.kp T.b__law_endless .nil passE (@pa_cons _ _ _ _ _ (pv 1) (@pa_cons _ _ _ _ _ (pv 3) pa_nil se_Name) se_Name)) (by rfl) (by first | exact .inl rfl | exact .inr rfl | assumption)) (@pss_cons _ _ _ _ _ (ps_for PassesOwn.leaving rfl (pi_range1 rfl T.n_range (@pa_cons _ _ _ _ _ (pe_callB (call_lenK (K := K)) rfl T.n_len boot_len (@pa_cons _ _ _ _ _ (pv 1) pa_nil se_Name)) pa_nil se_Call)) (pg_name (i := 5) sc_law.nd rfl (Or.inr rfl)) (@pss_cons _ _ _ _ _ (@ps_set _ _ 6 _ _ _ _ sc_law.nd rfl (Or.inl rfl) (pe_call (ok_gain_ring (fu := fu) T) (hr.mono (by decide)) rfl T.m_gain_ring T.F_gain_ring.kp T.b_gain_ring .nil passE (@pa_cons _ _ _ _ _ (pv 2) (@pa_cons _ _ _ _ _ (pv 5) pa_nil se_Name) se_Name)) (by rfl) (by first | exact .inl rfl | exact .inr rfl | assumption)) (@pss_one _ _ _ (ps_if (pt_cmpR (op_eqNil (K := K) hr) (pe_comp (N' := ["_law_other", "_law_below_here", "_law_node"]) rfl (blk (osc := defScope s_law) rfl (by decide +kernel)) (cap_own (cap_out (i := 3) rfl rfl (cap_out (i := 5) rfl rfl cap_nil))) (pi_listK (K := K) (pv 4)) (gown_name rfl) (fun C s₀ H₀ fp => pg_name (i := 0) (show (["_law_other", "_law_below_here", "_law_node"] : List Str).Nodup from by decide +kernel) rfl (Or.inl rfl)) (fun C s₀ H₀ fp => pts_one (pt_cmpR (op_inK (K := K)) (pv 0) (@pe_ix _ _ _ _ _ _ _ (ix_listK (K := K)) (pv 1) (pv 2) (fun _ _ => rfl)) (by rfl))) (fun C s₀ H₀ fp => (pv 0))) (@pe_lst _ _ _ _ pa_nil) (by rfl)) (@pss_one _ _ _ (ps_if (pt_cmp (pc_notN (pv 6))) (@pss_one _ _ _ (@ps_ret _ _ _ _ pe_bl)) pss_nil)) (@pss_one _ _ _ (ps_if (PW.pt (pw_or (pt_not (pt_val (pe_callB (call_isiK (K := K)) rfl T.n_isinstance boot_isinstance (pa_cons (pv 6) (pa_cons (pe_bltn (v := .ty "tuple") rfl T.n_tuple boot_tuple rfl) pa_nil))))) (pw_or1 (pt_cmp (pc_neI (pe_callB (call_lenK (K := K)) rfl T.n_len boot_len (@pa_cons _ _ _ _ _ (pv 6) pa_nil se_Name)) pe_int))))) (@pss_one _ _ _ (@ps_ret _ _ _ _ pe_bl)) (@pss_one _ _ _ (ps_if (pt_not (pt_val (pe_call (ok__law_ring (fu := fu) T) (hr.mono (by decide)) rfl T.m__law_ring T.F__law_ring.kp T.b__law_ring .nil passE (@pa_cons _ _ _ _ _ (pv 1) (@pa_cons _ _ _ _ _ (pv 3) (@pa_cons _ _ _ _ _ (@pe_ix _ _ _ _ _ _ _ (ix_tupK (K := K)) (pv 6) pe_int (fun _ _ => rfl)) pa_nil se_Subscript) se_Name) se_Name)))) (@pss_one _ _ _ (@ps_ret _ _ _ _ pe_bl)) (@pss_one _ _ _ (ps_if (pt_not (pt_val (pe_call (ok__law_way (fu := fu) T) (hr.mono (by decide)) rfl T.m__law_way T.F__law_way.kp T.b__law_way .nil passE (@pa_cons _ _ _ _ _ (pv 1) (@pa_cons _ _ _ _ _ (@pe_ix _ _ _ _ _ _ _ (ix_tupK (K := K)) (pv 6) pe_int (fun _ _ => rfl)) (@pa_cons _ _ _ _ _ (pv 5) (@pa_cons _ _ _ _ _ (@pe_ix _ _ _ _ _ _ _ (ix_tupK (K := K)) (pv 6) pe_int (fun _ _ => rfl)) pa_nil se_Subscript) se_Name) se_Subscript) se_Name)))) (@pss_one _ _ _ (@ps_ret _ _ _ _ pe_bl)) pss_nil)))))))))) (@pss_one _ _ _ (@ps_ret _ _ _ _ (pe_cmpR (op_eqG (K := K) hr) (pv 2) (pv 1) (by rfl))))))))), fn_tw (n := 1) (k := 6) (b := tb_law fu) rfl (rs_seq (rs_asg (re_call (rl_cons (re_var 0) rl_nil)) rg_name) (rs_seq (rs_asg (re_call (rl_cons (re_var 1) rl_nil)) rg_name) (rs_seq (rs_asg (re_comp (cap := [none, some 1]) (ri_range1 (re_fn rc_len (rl_cons (re_var 1) rl_nil))) rg_name rt_true (re_call (rl_cons (re_var 1) (rl_cons (re_var 0) rl_nil)))) rg_name) (rs_seq (rs_asg (re_call (rl_cons (re_var 1) (rl_cons (re_var 3) rl_nil))) rg_name) (rs_seq (rs_for (ri_range1 (re_fn rc_len (rl_cons (re_var 1) rl_nil))) rg_name (rs_seq (rs_asg (re_call (rl_cons (re_var 2) (rl_cons (re_var 5) rl_nil))) rg_name) (rs_if (rt_test (re_op r2_eqNil (re_comp (cap := [none, some 3, some 5]) (ri_list (re_var 4)) rg_name (rt_test (re_op r2_in (re_var 0) (re_op r2_ixL (re_var 1) (re_var 2)))) (re_var 0)) (re_lst rl_nil))) (rs_if (rt_e (re_notN (re_var 6))) (rs_ret (re_bl _)) rs_next) (rs_if (rt_or (rt_not (rt_e (re_isi isi_tuple (re_var 6)))) (rt_e (re_neI (re_fn rc_len (rl_cons (re_var 6) rl_nil)) (re_int _)))) (rs_ret (re_bl _)) (rs_if (rt_not (rt_e (re_call (rl_cons (re_var 1) (rl_cons (re_var 3) (rl_cons (re_op r2_ixT (re_var 6) (re_int _)) rl_nil)))))) (rs_ret (re_bl _)) (rs_if (rt_not (rt_e (re_call (rl_cons (re_var 1) (rl_cons (re_op r2_ixT (re_var 6) (re_int _)) (rl_cons (re_var 5) (rl_cons (re_op r2_ixT (re_var 6) (re_int _)) rl_nil))))))) (rs_ret (re_bl _)) rs_next)))))) (rs_ret (re_op r2_eqG (re_var 2) (re_var 1)))))))) h⟩)
end

section
open Mth
noncomputable def Big (fu : Nat) : Prop := 2 ^ 9000 ≤ fu
theorem Big.le {fu : Nat} (h : Big fu) : 1000000 ≤ fu := Nat.le_trans (show 1000000 ≤ 2 ^ 20 by decide) (Nat.le_trans (Nat.pow_le_pow_right (by decide) (by decide)) h)
local macro_rules | `(tactic| walk_at "w1") => `(tactic| first
 | with_reducible apply wx_c | ((with_reducible apply wx_var); exact rfl) | with_reducible apply wx_nil | with_reducible apply wx_oNo | with_reducible apply wx_next | with_reducible apply wx_true
 | with_reducible apply wx_seq | ((with_reducible apply wx_set); try dsimp only [List.set]) | with_reducible apply wx_expr | with_reducible apply wx_ret | with_reducible apply wx_par
 | with_reducible apply wx_op | with_reducible apply wx_un | with_reducible apply wx_bE | with_reducible apply wx_eB | with_reducible apply wx_not
 | with_reducible apply wx_cons | with_reducible apply wx_tup | with_reducible apply wx_lst | with_reducible apply wx_fn | with_reducible apply wx_call
 | with_reducible apply wx_oSome | with_reducible apply wx_sl | with_reducible apply wx_dict0
 | with_reducible apply ox_add | with_reducible apply ox_sub | with_reducible apply ox_neg | with_reducible apply ox_lt | with_reducible apply ox_le | with_reducible apply ox_gt | with_reducible apply ox_ge | with_reducible apply ox_eqI | with_reducible apply ox_neI
 | with_reducible apply ox_min | with_reducible apply ox_max | with_reducible apply ox_ix0 | with_reducible apply ox_ix1
 | ((with_reducible apply ox_pow); exact ⟨by decide, by decide, by decide⟩)
 | ((with_reducible apply ox_mul); first | exact .inl (by decide) | exact .inr (by decide))
 | with_reducible refine Exists.intro _ (And.intro rfl ?_))
local macro_rules | `(tactic| walk_at "w") => `(tactic| repeat walk_at "w1")
local macro_rules | `(tactic| walk_at "wr") => `(tactic| (refine wx_run rfl rfl ?_; dsimp only [List.map, HAppend.hAppend, Append.append, List.append, List.replicate]))
section
variable {fu : Nat} {S : Sto} {xs : Xv} {ns : List Int}
theorem wx_ifT {c : Prop} [Decidable c] {A B : Prop} (h : c → A) (g : ¬ c → B) : (decide c = true → A) ∧ (decide c = false → B) := ⟨fun e => h (of_decide_eq_true e), fun e => g (of_decide_eq_false e)⟩
theorem t_cell {k : Int} (h0 : 0 ≤ k) (hs : lstAt S xs = some (ns.map Xv.int)) : W (tw__law_cell_at fu [xs, .int k] S) fun v S' => ∃ c, v = .int c ∧ S = S' := by
 walk_at "wr"; unfold tb__law_cell_at; walk_at "w"
 refine wx_if ?_
 walk_at "w"
 refine ox_len hs ?_
 walk_at "w"
 refine wx_ifT (fun h => ?_) (fun h => ?_)
 ·walk_at "w"
  rw [List.length_map] at h
  have hk : k.toNat < ns.length := by omega
  refine ox_ixL hs (atI_nn h0 (by rw [List.getElem?_map, List.getElem?_eq_getElem hk]; rfl)) ?_
  exact ⟨_, rfl, rfl⟩
 ·walk_at "w"
  first | exact ⟨0, rfl, rfl⟩ | exact rfl
theorem t_mixed {n p q : Int} (hp : 0 < p) (hq : 0 < q) : W (tw__law_mixed fu [.int n, .int p, .int q] S) fun v S' => ∃ c, v = .int c ∧ 0 ≤ c ∧ c < q ∧ S = S' := by
 walk_at "wr"; unfold tb__law_mixed; walk_at "w"
 refine ox_mod (by decide) ?_
 walk_at "w"
 refine ox_mod hp ?_
 walk_at "w"
 refine ox_mod hq ?_
 first | exact ⟨_, rfl, Int.emod_nonneg _ (by omega), Int.emod_lt_of_pos _ hq, rfl⟩ | exact ⟨Int.emod_nonneg _ (by omega), Int.emod_lt_of_pos _ hq, rfl⟩
noncomputable def lim : Int := 2 ^ 250
theorem lim_bits {g : Int} (h0 : 0 < g) (h : g < lim) : g ≠ 0 ∧ intBits g ≤ 9000 := by
 have h2 : g.natAbs < 2 ^ 250 := by
  unfold lim at h
  omega
 exact ⟨by omega, Nat.le_trans (PySem.intBits_le_iff.mpr h2) (by decide)⟩
theorem t_gcd {t b : Int} : ∀ (n : Nat) (one other : Int), 0 ≤ one → 0 ≤ other → other < n → one < lim → other < lim → 0 < one + other →
  WS (whTw (bE (eOp dGt (eVar 3) (eC (.int 0)))) (sPar 2 3 [(eVar 3), (eOp dMod (eVar 2) (eVar 3))]) n [some (.int t), some (.int b), some (.int one), some (.int other)] S) (fun ρ S' => ∃ g, ρ = [some (.int t), some (.int b), some (.int g), some (.int 0)] ∧ 0 < g ∧ g < lim ∧ S = S') (fun _ _ => False) := by
 intro n
 induction n with
 | zero => intro one other _ h1 h2; omega
 | succ n ih =>
  intro one other h0 h1 h2 h3 h4 h5
  refine wx_turn ?_
  walk_at "w"
  refine wx_ifT (fun h => ?_) (fun h => ?_)
  ·walk_at "w"
   refine ox_mod h ?_
   walk_at "w"
   refine Exists.intro _ (Exists.intro _ (And.intro rfl ?_))
   dsimp only [List.set]
   have e1 := Int.emod_nonneg one (b := other) (by omega)
   have e2 := Int.emod_lt_of_pos one h
   exact ih other (one % other) h1 e1 (by omega) h4 (by omega) (by omega)
  ·have : other = 0 := by omega
   subst this
   exact ⟨one, rfl, by omega, h3, rfl⟩
theorem lim_fu (hb : Big fu) {b : Int} (h : b < lim) : b < fu := by
 have h1 : (2 : Nat) ^ 250 ≤ 2 ^ 9000 := Nat.pow_le_pow_right (by decide) (by decide)
 have h2 : 2 ^ 250 ≤ fu := Nat.le_trans h1 hb
 unfold lim at h
 omega
noncomputable def IsQ (x : Xv) : Prop := ∃ p q : Int, x = .tup [.int p, .int q]
theorem t_fraction (hbg : Big fu) {t b : Int} (h0 : 0 ≤ t) (h1 : t < lim) (h2 : 0 < b) (h3 : b < lim) : W (tw__law_fraction fu [.int t, .int b] S) fun v S' => IsQ v ∧ S = S' := by
 walk_at "wr"; unfold tb__law_fraction; walk_at "w"
 refine wx_wh ?_
 rcases t_gcd (S := S) (t := t) (b := b) fu t b h0 (by omega) (lim_fu hbg h3) h1 h3 (by omega) with ⟨ρ, S', e, g, rfl, g0, g1, rfl⟩ | ⟨_, _, _, z⟩
 ·refine .nx e ?_
  walk_at "w"
  refine ox_fdivB (lim_bits g0 g1) ?_
  walk_at "w"
  refine ox_fdivB (lim_bits g0 g1) ?_
  walk_at "w"
  exact ⟨⟨_, _, rfl⟩, rfl⟩
 ·exact z.elim
theorem t_name {c p : Int} (hc : 0 < c) (hs : lstAt S xs = some (ns.map Xv.int)) : W (tw__law_name fu [xs, .int c, .int p] S) fun v S' => ∃ i, v = .int i ∧ 0 ≤ i ∧ i < c ∧ S = S' := by
 walk_at "wr"; unfold tb__law_name; walk_at "w"
 refine (t_cell (by decide) hs).imp ?_
 rintro _ _ ⟨c1, rfl, rfl⟩
 walk_at "w"
 refine (t_mixed (by decide) hc).imp ?_
 rintro _ _ ⟨c2, rfl, _, _, rfl⟩
 walk_at "w"
 refine ox_mod hc ?_
 have h0 := Int.emod_nonneg (p + c2) (b := c) (by omega)
 have h1 := Int.emod_lt_of_pos (p + c2) hc
 walk_at "w"
 refine wx_if ?_
 walk_at "w"
 refine (t_cell (by decide) hs).imp ?_
 rintro _ _ ⟨c3, rfl, rfl⟩
 walk_at "w"
 refine (t_mixed (by decide) (by decide)).imp ?_
 rintro _ _ ⟨c4, rfl, _, _, rfl⟩
 walk_at "w"
 refine wx_ifT (fun h => ?_) (fun h => ?_)
 ·walk_at "w"
  exact ⟨by omega, by omega, rfl⟩
 ·walk_at "w"
  exact ⟨h0, h1, rfl⟩
theorem t_goal {c p z : Int} (hc : 0 < c) (hp : 0 ≤ p) (hp2 : p < c) (hs : lstAt S xs = some (ns.map Xv.int)) : W (tw__law_goal fu [xs, .int c, .int p, .int z] S) fun v S' => ∃ i, v = .int i ∧ 0 ≤ i ∧ i < c ∧ S = S' := by
 walk_at "wr"; unfold tb__law_goal; walk_at "w"
 refine (t_cell (by decide) hs).imp ?_
 rintro _ _ ⟨c1, rfl, rfl⟩
 walk_at "w"
 refine (t_mixed (by decide) (by first | exact hc | (split <;> omega))).imp ?_
 rintro _ _ ⟨c2, rfl, k0, _, rfl⟩
 walk_at "w"
 refine ox_mod (by omega) ?_
 have h0 := Int.emod_nonneg p (b := 1 + c2) (by omega)
 have h1 := Int.emod_lt_of_pos p (b := 1 + c2) (by omega)
 have h2 : p % (1 + c2) ≤ p := by
  by_cases h : p < 1 + c2
  ·rw [Int.emod_eq_of_lt hp h]; exact Int.le_refl _
  ·omega
 walk_at "w"
 refine wx_cut (fun ρ S' => ∃ hi : Int, ρ = [some xs, some (.int c), some (.int p), some (.int z), some (.int (1 + c2)), some (.int (p - p % (1 + c2))), some (.int hi)] ∧ p - p % (1 + c2) < hi ∧ S = S') (wx_if ?_) ?_
 ·walk_at "w"
  refine (t_cell (by decide) hs).imp ?_
  rintro _ _ ⟨c3, rfl, rfl⟩
  walk_at "w"
  refine (t_mixed (by decide) (by decide)).imp ?_
  rintro _ _ ⟨c4, rfl, _, _, rfl⟩
  walk_at "w"
  refine wx_ifT (fun h => ?_) (fun h => ?_)
  ·walk_at "w"
   exact ⟨by split <;> omega, rfl⟩
  ·walk_at "w"
   exact ⟨by omega, rfl⟩
 ·rintro ρ S' ⟨hi, rfl, hh, rfl⟩
  walk_at "w"
  refine (t_mixed (by decide) (by omega)).imp ?_
  rintro _ _ ⟨c4, rfl, _, _, rfl⟩
  walk_at "w"
  exact t_name hc hs
end
section
variable {fu : Nat} {S : Sto} {xs : Xv} {ns : List Int}
noncomputable def IsG (x : Xv) : Prop := ∃ p q : Int, x = .tup [.int p, .int q] ∧ 0 ≤ p ∧ (p = 0 → q = 1)
theorem t_gcdG {t b : Int} : ∀ (n : Nat) (one other : Int), 0 ≤ one → 0 ≤ other → other < n → one < lim → other < lim → 0 < one + other →
  WS (whTw (bE (eOp dGt (eVar 3) (eC (.int 0)))) (sPar 2 3 [(eVar 3), (eOp dMod (eVar 2) (eVar 3))]) n [some (.int t), some (.int b), some (.int one), some (.int other)] S) (fun ρ S' => ∃ g, ρ = [some (.int t), some (.int b), some (.int g), some (.int 0)] ∧ 0 < g ∧ g < lim ∧ S = S' ∧ g ∣ one ∧ g ∣ other ∧ (one = 0 → g = other) ∧ (other = 0 → g = one)) (fun _ _ => False) := by
 intro n
 induction n with
 | zero => intro one other _ h1 h2; omega
 | succ n ih =>
  intro one other h0 h1 h2 h3 h4 h5
  refine wx_turn ?_
  walk_at "w"
  refine wx_ifT (fun h => ?_) (fun h => ?_)
  ·walk_at "w"
   refine ox_mod h ?_
   walk_at "w"
   refine Exists.intro _ (Exists.intro _ (And.intro rfl ?_))
   dsimp only [List.set]
   have e1 := Int.emod_nonneg one (b := other) (by omega)
   have e2 := Int.emod_lt_of_pos one h
   have := ih other (one % other) h1 e1 (by omega) h4 (by omega) (by omega)
   rcases this with ⟨ρ, S', e, g, q1, q2, q3, q4, d1, d2, k1, k2⟩ | ⟨_, _, _, z⟩
   ·refine .nx e ⟨g, q1, q2, q3, q4, ?_, d1, fun z => k2 (by rw [z]; simp), fun z => by omega⟩
    have e3 := Int.emod_add_mul_ediv one other
    rw [← e3]
    exact Int.dvd_add d2 (Int.dvd_trans d1 (Int.dvd_mul_right _ _))
   ·exact z.elim
  ·have : other = 0 := by omega
   subst this
   exact ⟨one, rfl, by omega, h3, rfl, Int.dvd_refl _, ⟨0, by simp⟩, fun z => z, fun _ => rfl⟩
theorem t_fracG (hbg : Big fu) {t b : Int} (h0 : 0 ≤ t) (h1 : t < lim) (h2 : 0 < b) (h3 : b < lim) : W (tw__law_fraction fu [.int t, .int b] S) fun v S' => IsG v ∧ S = S' := by
 walk_at "wr"; unfold tb__law_fraction; walk_at "w"
 refine wx_wh ?_
 rcases t_gcdG (S := S) (t := t) (b := b) fu t b h0 (by omega) (lim_fu hbg h3) h1 h3 (by omega) with ⟨ρ, S', e, g, rfl, g0, g1, rfl, d1, d2, k1, k2⟩ | ⟨_, _, _, z⟩
 ·refine .nx e ?_
  walk_at "w"
  refine ox_fdivB (lim_bits g0 g1) ?_
  walk_at "w"
  refine ox_fdivB (lim_bits g0 g1) ?_
  walk_at "w"
  refine ⟨⟨_, _, rfl, ?_, ?_⟩, rfl⟩
  ·have e1 := Int.ediv_nonneg h0 (Int.le_of_lt g0)
   first | exact e1 | (rw [Int.fdiv_eq_ediv_of_nonneg _ (Int.le_of_lt g0)]; exact e1)
  ·intro z
   have z2 : t / g = 0 := by first | exact z | (rw [Int.fdiv_eq_ediv_of_nonneg _ (Int.le_of_lt g0)] at z; exact z)
   have e2 := Int.ediv_mul_cancel d1
   rw [z2] at e2
   have e3 : g = b := k1 (by omega)
   subst e3
   first | exact Int.ediv_self (by omega) | (rw [Int.fdiv_eq_ediv_of_nonneg _ (Int.le_of_lt g0)]; exact Int.ediv_self (by omega))
 ·exact z.elim
theorem t_gain (hbg : Big fu) {c : Int} : W (tw__law_gain fu [.int c] S) fun v S' => IsG v ∧ S = S' := by
 walk_at "wr"; unfold tb__law_gain; walk_at "w"
 refine wx_if ?_
 walk_at "w"
 refine (t_mixed (by decide) (by decide)).imp ?_
 rintro _ _ ⟨c1, rfl, _, _, rfl⟩
 walk_at "w"
 refine wx_ifT (fun h => ?_) (fun h => ?_)
 ·walk_at "w"
  exact ⟨⟨_, _, rfl, by decide, fun _ => rfl⟩, rfl⟩
 ·walk_at "w"
  refine wx_if ?_
  walk_at "w"
  refine (t_mixed (by decide) (by decide)).imp ?_
  rintro _ _ ⟨c2, rfl, _, _, rfl⟩
  walk_at "w"
  refine wx_ifT (fun h => ?_) (fun h => ?_)
  ·walk_at "w"
   refine ox_mod (by decide) ?_
   walk_at "w"
   refine (t_mixed (by decide) (by decide)).imp ?_
   rintro _ _ ⟨c3, rfl, g0, g1, rfl⟩
   walk_at "w"
   refine t_fracG hbg (Int.emod_nonneg _ (by decide)) (Int.lt_trans (Int.emod_lt_of_pos _ (by decide)) (by decide)) (by omega) (Int.lt_trans (show 1 + c3 < 5 by omega) (by decide))
  ·walk_at "w"
   refine (t_mixed (by decide) (by decide)).imp ?_
   rintro _ _ ⟨c4, rfl, k0, k1, rfl⟩
   walk_at "w"
   refine (t_mixed (by decide) (by decide)).imp ?_
   rintro _ _ ⟨c3, rfl, g0, g1, rfl⟩
   walk_at "w"
   refine t_fracG hbg k0 (Int.lt_trans k1 (by decide)) (by omega) (Int.lt_trans (show 1 + c3 < 5 by omega) (by decide))
end
section
variable {fu : Nat} {S : Sto} {xs : Xv} {ns : List Int}
inductive Kd where
 | fix (l : List Xv) | frz (l : List Xv) | nod | par | wts | chs | pts
noncomputable def KeysIn (kvs : List (Key × Xv)) (m : Int) : Prop := (kvs.map (·.1)).Nodup ∧ ∀ p ∈ kvs, ∃ i : Int, p.1 = .inl i ∧ 0 ≤ i ∧ i < m
noncomputable def COk (c h m : Int) (τ : List Kd) : Kd → Ce → Prop
 | .fix l, .lst xs => xs = l
 | .frz l, .frz xs => xs = l
 | .nod, .dk kvs => KeysIn kvs h ∧ ∀ p ∈ kvs, ∃ n, p.2 = .ref n ∧ τ[n]? = some .wts
 | .par, .lst xs => ∃ g n, xs = [g, .ref n] ∧ IsG g ∧ τ[n]? = some .wts
 | .wts, .dk kvs => KeysIn kvs c ∧ ∀ p ∈ kvs, ∃ w : Int, p.2 = .int w ∧ 0 < w ∧ w ≤ m
 | .chs, .lst xs => ∀ x ∈ xs, ∃ g n, x = .tup [g, .ref n] ∧ IsG g ∧ τ[n]? = some .pts
 | .pts, .lst xs => xs.length ≤ 60 ∧ ∀ x ∈ xs, ∃ (i : Int) (q : Xv), x = .tup [.int i, q] ∧ 0 ≤ i ∧ i < c ∧ IsQ q
 | _, _ => False
noncomputable def Ty (c h m : Int) (τ : List Kd) (S : Sto) : Prop := τ.length = S.length ∧ ∀ (n : Nat) kd cell, τ[n]? = some kd → S[n]? = some cell → COk c h m τ kd cell
theorem pre_at {τ τ' : List Kd} {n : Nat} {k : Kd} (h : τ <+: τ') (e : τ[n]? = some k) : τ'[n]? = some k := by
 obtain ⟨r, rfl⟩ := h
 rw [List.getElem?_append_left (List.getElem?_eq_some_iff.1 e).1]
 exact e
theorem COk.mono {c h m m' : Int} {τ τ' : List Kd} (hp : τ <+: τ') (hm : m ≤ m') : ∀ {kd : Kd} {cell : Ce}, COk c h m τ kd cell → COk c h m' τ' kd cell
 | .fix _, .lst _, e => e
 | .frz _, .frz _, e => e
 | .nod, .dk _, ⟨a, b⟩ => ⟨a, fun p hp' => by obtain ⟨n, e1, e2⟩ := b p hp'; exact ⟨n, e1, pre_at hp e2⟩⟩
 | .par, .lst _, ⟨g, n, e1, e2, e3⟩ => ⟨g, n, e1, e2, pre_at hp e3⟩
 | .wts, .dk _, ⟨a, b⟩ => ⟨a, fun p hp' => by obtain ⟨w, e1, e2, e3⟩ := b p hp'; exact ⟨w, e1, e2, by omega⟩⟩
 | .chs, .lst _, b => fun x hx => by obtain ⟨g, n, e1, e2, e3⟩ := b x hx; exact ⟨g, n, e1, e2, pre_at hp e3⟩
 | .pts, .lst _, b => b
section
variable {c h m : Int} {τ τ' : List Kd} {n : Nat} {kd : Kd} {cell : Ce}
theorem Ty.le {m' : Int} (T : Ty c h m τ S) (hm : m ≤ m') : Ty c h m' τ S := ⟨T.1, fun n kd cell e1 e2 => (T.2 n kd cell e1 e2).mono (List.prefix_refl _) hm⟩
theorem Ty.app (T : Ty c h m τ S) (hc : COk c h m (τ ++ [kd]) kd cell) : Ty c h m (τ ++ [kd]) (S ++ [cell]) := by
 refine ⟨by simp [T.1], fun n k ce e1 e2 => ?_⟩
 by_cases hn : n < τ.length
 ·rw [List.getElem?_append_left hn] at e1
  rw [List.getElem?_append_left (by rw [← T.1]; exact hn)] at e2
  exact (T.2 n k ce e1 e2).mono (List.prefix_append _ _) (Int.le_refl _)
 ·rw [List.getElem?_append_right (by omega)] at e1
  rw [List.getElem?_append_right (by rw [← T.1]; omega)] at e2
  have : n - τ.length = 0 := by
   have := (List.getElem?_eq_some_iff.1 e1).1
   simpa using this
  rw [← T.1, this] at e2
  rw [this] at e1
  simp at e1 e2
  subst e1 e2
  exact hc
theorem Ty.set (T : Ty c h m τ S) (e : τ[n]? = some kd) (hc : COk c h m τ kd cell) : Ty c h m τ (S.set n cell) := by
 refine ⟨by simp [T.1], fun k kd' ce e1 e2 => ?_⟩
 rw [List.getElem?_set] at e2
 split at e2
 ·rename_i q
  subst q
  split at e2
  ·cases e2
   rw [e] at e1
   cases e1
   exact hc
  ·cases e2
 ·exact T.2 k kd' ce e1 e2
theorem Ty.at_ (T : Ty c h m τ S) (e : τ[n]? = some kd) : ∃ cell, S[n]? = some cell ∧ COk c h m τ kd cell := by
 have hn : n < S.length := by rw [← T.1]; exact (List.getElem?_eq_some_iff.1 e).1
 exact ⟨S[n], List.getElem?_eq_getElem hn, T.2 n kd _ e (List.getElem?_eq_getElem hn)⟩
theorem Ty.fix {l : List Xv} (T : Ty c h m τ S) (e : τ[n]? = some (.fix l)) : S[n]? = some (.lst l) := by
 obtain ⟨cell, e1, e2⟩ := T.at_ e
 cases cell <;> first | (cases e2; exact e1) | cases e2
theorem Ty.frz {l : List Xv} (T : Ty c h m τ S) (e : τ[n]? = some (.frz l)) : lstAt S (.ref n) = some l := by
 obtain ⟨cell, e1, e2⟩ := T.at_ e
 cases cell <;> first | (cases e2; simp [lstAt, e1]) | cases e2
theorem Ty.par (T : Ty c h m τ S) (e : τ[n]? = some .par) : ∃ g k, S[n]? = some (.lst [g, .ref k]) ∧ IsG g ∧ τ[k]? = some .wts := by
 obtain ⟨cell, e1, e2⟩ := T.at_ e
 cases cell <;> first | (obtain ⟨g, k, rfl, a, b⟩ := e2; exact ⟨g, k, e1, a, b⟩) | cases e2
theorem Ty.wts (T : Ty c h m τ S) (e : τ[n]? = some .wts) : ∃ kvs, S[n]? = some (.dk kvs) ∧ KeysIn kvs c ∧ ∀ p ∈ kvs, ∃ w : Int, p.2 = .int w ∧ 0 < w ∧ w ≤ m := by
 obtain ⟨cell, e1, e2⟩ := T.at_ e
 cases cell <;> first | exact ⟨_, e1, e2⟩ | cases e2
theorem Ty.chs (T : Ty c h m τ S) (e : τ[n]? = some .chs) : ∃ xs, S[n]? = some (.lst xs) ∧ ∀ x ∈ xs, ∃ g n, x = .tup [g, .ref n] ∧ IsG g ∧ τ[n]? = some .pts := by
 obtain ⟨cell, e1, e2⟩ := T.at_ e
 cases cell <;> first | exact ⟨_, e1, e2⟩ | cases e2
theorem Ty.pts (T : Ty c h m τ S) (e : τ[n]? = some .pts) : ∃ xs, S[n]? = some (.lst xs) ∧ xs.length ≤ 60 ∧ ∀ x ∈ xs, ∃ (i : Int) (q : Xv), x = .tup [.int i, q] ∧ 0 ≤ i ∧ i < c ∧ IsQ q := by
 obtain ⟨cell, e1, e2⟩ := T.at_ e
 cases cell <;> first | exact ⟨_, e1, e2⟩ | cases e2
theorem Ty.new_at (T : Ty c h m τ S) : (τ ++ [kd])[S.length]? = some kd := by rw [← T.1]; simp
end
theorem mem_putX {kvs : List (Key × Xv)} {k : Key} {x : Xv} {p : Key × Xv} (hp : p ∈ putX kvs k x) : p ∈ kvs ∨ p = (k, x) := by
 unfold putX at hp
 split at hp
 ·obtain ⟨q, hq, e⟩ := List.mem_map.1 hp
  split at e
  ·rename_i z
   rw [z] at e
   exact .inr e.symm
  ·exact .inl (e ▸ hq)
 ·rcases List.mem_append.1 hp with h | h
  ·exact .inl h
  ·exact .inr (by simpa using h)
theorem keys_putX (kvs : List (Key × Xv)) (k : Key) (x : Xv) : (k ∈ kvs.map (·.1) ∧ (putX kvs k x).map (·.1) = kvs.map (·.1)) ∨ (k ∉ kvs.map (·.1) ∧ (putX kvs k x).map (·.1) = kvs.map (·.1) ++ [k]) := by
 unfold putX
 split
 ·rename_i hc
  obtain ⟨p, hp, e⟩ := List.any_eq_true.1 hc
  refine .inl ⟨List.mem_map.2 ⟨p, hp, of_decide_eq_true e⟩, ?_⟩
  rw [List.map_map]
  refine List.map_congr_left fun q _ => ?_
  dsimp only [Function.comp]
  split <;> rfl
 ·rename_i hc
  refine .inr ⟨fun hk => hc ?_, by simp⟩
  obtain ⟨p, hp, e⟩ := List.mem_map.1 hk
  exact List.any_eq_true.2 ⟨p, hp, decide_eq_true e⟩
theorem KeysIn.put {kvs : List (Key × Xv)} {m i : Int} {x : Xv} (h : KeysIn kvs m) (h0 : 0 ≤ i) (h1 : i < m) : KeysIn (putX kvs (.inl i) x) m := by
 refine ⟨?_, fun p hp => ?_⟩
 ·rcases keys_putX kvs (.inl i) x with ⟨_, e⟩ | ⟨hn, e⟩
  ·rw [e]; exact h.1
  ·rw [e]
   exact List.nodup_append.2 ⟨h.1, by simp, fun a ha b hb => by simp at hb; subst hb; exact fun z => hn (z ▸ ha)⟩
 ·rcases mem_putX hp with hp | rfl
  ·exact h.2 p hp
  ·exact ⟨i, rfl, h0, h1⟩
theorem valX_mem {kvs : List (Key × Xv)} {k : Key} {z : Xv} (h : valX kvs k = some z) : (k, z) ∈ kvs := by
 unfold valX at h
 cases e : kvs.find? fun kv => decide (kv.1 = k) with
 | none => rw [e] at h; cases h
 | some p =>
  rw [e] at h
  cases h
  have h1 := List.find?_some e
  have h2 := List.mem_of_find?_eq_some e
  have : p.1 = k := by simpa using h1
  rw [← this]
  exact h2
theorem valX_none {kvs : List (Key × Xv)} {k : Key} (h : valX kvs k = none) : k ∉ kvs.map (·.1) := by
 intro hk
 obtain ⟨p, hp, e⟩ := List.mem_map.1 hk
 unfold valX at h
 rw [Option.map_eq_none_iff, List.find?_eq_none] at h
 exact h p hp (by simpa using e)
theorem valX_some {kvs : List (Key × Xv)} {k : Key} (h : k ∈ kvs.map (·.1)) : ∃ z, valX kvs k = some z := by
 cases e : valX kvs k with
 | some z => exact ⟨z, rfl⟩
 | none => exact absurd h (valX_none e)
theorem keys_put_mem {kvs : List (Key × Xv)} {k : Key} {x : Xv} : k ∈ (putX kvs k x).map (·.1) := by
 rcases keys_putX kvs k x with ⟨h, e⟩ | ⟨_, e⟩
 ·rw [e]; exact h
 ·rw [e]; simp
theorem nd_len : ∀ (m : Nat) (l : List Int), l.Nodup → (∀ x ∈ l, 0 ≤ x ∧ x < m) → l.length ≤ m
 | 0, l, _, h => by
  cases l with
  | nil => simp
  | cons a r => have := h a (by simp); omega
 | m + 1, l, nd, h => by
  by_cases hm : (m : Int) ∈ l
  ·have e := List.length_erase_of_mem hm
   have := nd_len m (l.erase m) (nd.erase _) (fun x hx => by
    have h1 := h x (List.mem_of_mem_erase hx)
    have h2 : x ≠ m := fun z => by subst z; exact (List.Nodup.not_mem_erase nd) hx
    omega)
   have := List.length_pos_of_mem hm
   omega
  ·have := nd_len m l nd (fun x hx => by
    have h1 := h x hx
    have h2 : x ≠ m := fun z => hm (z ▸ hx)
    omega)
   omega
theorem KeysIn.ints {kvs : List (Key × Xv)} {m : Int} (h : KeysIn kvs m) : ∃ is : List Int, ikeys kvs = some is ∧ kvs.map (·.1) = is.map Sum.inl ∧ is.Nodup ∧ (∀ i ∈ is, 0 ≤ i ∧ i < m) ∧ is.length ≤ m.toNat := by
 have key : ∀ (l : List (Key × Xv)), (∀ p ∈ l, ∃ i : Int, p.1 = .inl i ∧ 0 ≤ i ∧ i < m) → ∃ is : List Int, ikeys l = some is ∧ l.map (·.1) = is.map Sum.inl ∧ ∀ i ∈ is, 0 ≤ i ∧ i < m := by
  intro l
  induction l with
  | nil => intro _; exact ⟨[], rfl, rfl, by simp⟩
  | cons p r ih =>
   intro hp
   obtain ⟨k, x⟩ := p
   obtain ⟨i, e, h0, h1⟩ := hp (k, x) (by simp)
   have e : k = .inl i := e
   subst e
   obtain ⟨is, e1, e2, e3⟩ := ih fun q hq => hp q (by simp [hq])
   refine ⟨i :: is, by simp [ikeys, e1], by simp [e2], fun j hj => ?_⟩
   rcases List.mem_cons.1 hj with rfl | hj
   ·exact ⟨h0, h1⟩
   ·exact e3 j hj
 obtain ⟨is, e1, e2, e3⟩ := key kvs h.2
 have nd : is.Nodup := by
  have := h.1
  rw [e2] at this
  exact (List.pairwise_map.1 this).imp fun h z => h (by rw [z])
 refine ⟨is, e1, e2, nd, e3, nd_len _ _ nd fun x hx => ?_⟩
 have := e3 x hx
 omega
end
section
variable {fu : Nat} {S : Sto} {xs : Xv} {ns : List Int}
theorem pre_app {τ : List Kd} {k : Kd} : τ <+: τ ++ [k] := List.prefix_append _ _
structure Tab (c h m : Int) (τ0 : List Kd) (txs : List Xv) (tn : Nat) (τ : List Kd) (S : Sto) : Prop where
 ty : Ty c h m τ S
 pre : τ0 <+: τ
 fix : τ[tn]? = some (.fix txs)
 len : (txs.length : Int) = c
 nod : ∀ x ∈ txs, ∃ n, x = .ref n ∧ τ[n]? = some .par
theorem Tab.ext {c h m m' : Int} {τ0 : List Kd} {txs : List Xv} {tn : Nat} {τ τ' : List Kd} {S' : Sto} (T : Tab c h m τ0 txs tn τ S) (p : τ <+: τ') (ty : Ty c h m' τ' S') : Tab c h m' τ0 txs tn τ' S' :=
 ⟨ty, T.pre.trans p, pre_at p T.fix, T.len, fun x hx => by obtain ⟨n, e1, e2⟩ := T.nod x hx; exact ⟨n, e1, pre_at p e2⟩⟩
theorem Tab.node {c h m : Int} {τ0 : List Kd} {txs : List Xv} {tn : Nat} {τ : List Kd} {p : Int} (T : Tab c h m τ0 txs tn τ S) (h0 : 0 ≤ p) (h1 : p < c) : ∃ nd, lstAt S (.ref tn) = some txs ∧ atI txs p = some (.ref nd) ∧ τ[nd]? = some .par := by
 have hp : p.toNat < txs.length := by have := T.len; omega
 obtain ⟨nd, e1, e2⟩ := T.nod _ (List.getElem_mem hp)
 exact ⟨nd, lstAt_of (T.ty.fix T.fix), by rw [← e1]; exact atI_nn h0 (List.getElem?_eq_getElem hp), e2⟩
theorem small_bits {p : Int} (h0 : 0 ≤ p) (h1 : p < 64) : intBits p + intBits p ≤ 134217728 := by
 have h2 : p.natAbs < 2 ^ 6 := by omega
 have := PySem.intBits_le_iff.mpr h2
 omega
theorem sz64 {n : Nat} (h : n ≤ 64) : n < sizeLine := Nat.lt_of_le_of_lt h (by decide)
theorem t_table (hbg : Big fu) {c h : Int} {τ : List Kd} (hc : 0 < c) (hc2 : c ≤ 60) (hT : Ty c h 0 τ S) (h0 : τ[0]? = some (.frz (ns.map Xv.int))) :
  W (tw__law_table fu [.ref 0, .int c] S) fun v S' => ∃ tn, v = .ref tn ∧ ∃ τ' txs, Tab c h (60 * 10 ^ 9) τ txs tn τ' S' := by
 walk_at "wr"; unfold tb__law_table; walk_at "w"
 refine wx_comp (wx_iR1 ?_)
 walk_at "w"
 refine ⟨⟨by omega, by omega⟩, _, rfl, ?_⟩
 refine wx_compI (by rw [rangeX_len]; exact Nat.le_of_lt (sz64 (by omega))) (fun i es S1 => ∃ τ1, τ <+: τ1 ∧ Ty c h 0 τ1 S1 ∧ ∀ x ∈ es, ∃ n, x = .ref n ∧ τ1[n]? = some .par) (fun _ _ _ _ _ => rfl) ?_ ⟨τ, List.prefix_refl _, hT, by simp⟩ ?_
 ·rintro i x es S1 hx hl ⟨τ1, p1, T1, hes⟩
  refine .of rfl ?_
  walk_at "w"
  refine ⟨rfl, ?_⟩
  walk_at "w"
  have A1 := T1.app (kd := .wts) (cell := .dk []) ⟨⟨by simp, by simp⟩, by simp⟩
  have k1 : (τ1 ++ [Kd.wts])[S1.length]? = some .wts := T1.new_at
  have A2 := A1.app (kd := .par) (cell := .lst [.tup [.int 0, .int 1], .ref S1.length]) ⟨_, _, rfl, ⟨_, _, rfl, by decide, fun _ => rfl⟩, pre_at pre_app k1⟩
  refine ⟨τ1 ++ [.wts] ++ [.par], p1.trans (pre_app.trans pre_app), A2, fun y hy => ?_⟩
  rcases List.mem_append.1 hy with hy | hy
  ·obtain ⟨n, e1, e2⟩ := hes y hy
   exact ⟨n, e1, pre_at (pre_app.trans pre_app) e2⟩
  ·simp at hy
   exact ⟨_, hy, by have := A1.new_at (kd := .par); simpa using this⟩
 rintro txs S1 hl ⟨τ1, p1, T1, hes⟩
 rw [rangeX_len] at hl
 have T2 := T1.app (kd := .fix txs) (cell := .lst txs) rfl
 have hT0 : Tab c h 0 τ txs S1.length (τ1 ++ [.fix txs]) (S1 ++ [.lst txs]) := ⟨T2, p1.trans pre_app, T1.new_at, by omega, fun x hx => by obtain ⟨n, e1, e2⟩ := hes x hx; exact ⟨n, e1, pre_at pre_app e2⟩⟩
 generalize S1.length = tn at hT0 ⊢
 generalize S1 ++ [Ce.lst txs] = S2 at hT0 ⊢
 generalize τ1 ++ [Kd.fix txs] = τ2 at hT0
 clear T1 T2 hes p1 hl
 walk_at "w"
 refine (t_cell (by decide) (hT0.ty.frz (pre_at hT0.pre h0))).imp ?_
 rintro _ _ ⟨kd, rfl, rfl⟩
 walk_at "w"
 refine wx_for (wx_iEn ?_)
 walk_at "w"
 refine ox_slL (hT0.ty.frz (pre_at hT0.pre h0)) ?_
 have hcut : ∀ y ∈ L2.cutD (ns.map Xv.int) (some 3) (some 63), ∃ z, y = .int z := fun y hy => by
  unfold L2.cutD at hy
  have := List.mem_of_mem_drop (List.mem_of_mem_take hy)
  obtain ⟨z, _, rfl⟩ := List.mem_map.1 this
  exact ⟨z, rfl⟩
 have hcl : (L2.cutD (ns.map Xv.int) (some 3) (some 63)).length ≤ 60 := by
  unfold L2.cutD
  rw [List.length_take]
  refine Nat.le_trans (Nat.min_le_left _ _) ?_
  unfold HT.sIx
  simp
  omega
 generalize L2.cutD (ns.map Xv.int) (some 3) (some 63) = l at hcut hcl ⊢
 have T3 := hT0.ty.app (kd := .fix l) (cell := .lst l) rfl
 have hsl : (τ2 ++ [Kd.fix l])[S2.length]? = some (.fix l) := hT0.ty.new_at
 have hT1 := hT0.ext pre_app T3
 generalize S2.length = sn at hsl ⊢
 generalize S2 ++ [Ce.lst l] = S3 at hT1 ⊢
 generalize τ2 ++ [Kd.fix l] = τ3 at hT1 hsl
 clear T3 hT0
 refine ⟨l, lstAt_of (hT1.ty.fix hsl), enumX l, by dsimp only; rw [lstAt_of (hT1.ty.fix hsl)]; rfl, ?_⟩
 refine wx_forI (xs := enumX l) (fun i ρ S4 => ∃ a4 a5 a6 a7 a8 a9 τ4, ρ = [some (.ref 0), some (.int c), some (.ref tn), some (.int kd), a4, a5, a6, a7, a8, a9] ∧ τ3 <+: τ4 ∧ Tab c h (i * 10 ^ 9) τ txs tn τ4 S4) ?_ ?_ ?_ ?_
 ·rintro i ρ S4 _ ⟨_, _, _, _, _, _, τ4, _, p4, T4⟩
  show (lstAt S4 (.ref sn)).map enumX = _
  rw [lstAt_of (T4.ty.fix (pre_at p4 hsl))]
  rfl
 ·rintro i x ρ S4 hx ⟨a4, a5, a6, a7, a8, a9, τ4, rfl, p4, T4⟩
  obtain ⟨y, ey, rfl⟩ := enumX_at hx
  obtain ⟨z, rfl⟩ := hcut y (List.mem_of_getElem? ey)
  have hi : i < 60 := by have := (List.getElem?_eq_some_iff.1 ey).1; omega
  refine .of rfl ?_
  dsimp only [List.set]
  walk_at "w"
  refine ox_mod hc ?_
  walk_at "w"
  have q0 := Int.emod_nonneg (i : Int) (b := c) (by omega)
  have q1 := Int.emod_lt_of_pos (i : Int) hc
  generalize (i : Int) % c = pl at q0 q1 ⊢
  refine W.imp (P := fun x S1 => ∃ b, x = .bl b ∧ S4 = S1) ?_ ?_
  ·refine wx_eAnd ?_
   walk_at "w"
   refine (t_mixed (by decide) (by decide)).imp ?_
   rintro _ _ ⟨c1, rfl, _, _, rfl⟩
   walk_at "w"
   refine wx_ifT (fun _ => ?_) (fun _ => ?_)
   ·walk_at "w"
    refine (t_mixed (by decide) (by decide)).imp ?_
    rintro _ _ ⟨c1, rfl, _, _, rfl⟩
    walk_at "w"
    first | exact ⟨_, rfl, rfl⟩ | exact rfl
   ·first | exact ⟨_, rfl, rfl⟩ | exact rfl
  rintro _ _ ⟨b, rfl, rfl⟩
  walk_at "w"
  refine wx_if ?_
  refine W.imp (P := fun x S1 => S4 = S1) ?_ ?_
  ·refine wx_and ?_
   walk_at "w"
   refine ⟨fun _ => ?_, fun _ => rfl⟩
   walk_at "w"
   refine ox_mulB (small_bits q0 (by omega)) ?_
   walk_at "w"
   refine (t_mixed (by decide) (by decide)).imp ?_
   rintro _ _ ⟨c1, rfl, _, _, rfl⟩
   walk_at "w"
   first | exact rfl | exact ⟨_, rfl, rfl⟩
  rintro b2 _ rfl
  have step : (i : Int) * 10 ^ 9 ≤ ((i + 1 : Nat) : Int) * 10 ^ 9 := by omega
  refine ⟨fun _ => ?_, fun _ => ?_⟩
  rotate_left
  ·walk_at "w"
   exact ⟨_, _, _, _, _, _, τ4, rfl, p4, T4.ext (List.prefix_refl _) (T4.ty.le step)⟩
  walk_at "w"
  obtain ⟨pn, e1', e2', kp⟩ := T4.node q0 q1
  obtain ⟨g0, wn, gp, hg0, kw⟩ := T4.ty.par kp
  refine ox_ixL e1' e2' ?_
  walk_at "w"
  refine ox_ixL (lstAt_of gp) atI_1 ?_
  walk_at "w"
  refine wx_cut (fun ρ S5 => ρ = [some (.ref 0), some (.int c), some (.ref tn), some (.int kd), some (.int i), some (.int z), some (.int pl), some (.bl b), some (.ref wn), a9] ∧ ∃ τ5, τ4 <+: τ5 ∧ Tab c h (i * 10 ^ 9) τ txs tn τ5 S5) (wx_if ?_) ?_
  ·obtain ⟨ws, fw, fk2, fv⟩ := T4.ty.wts kw
   walk_at "w"
   refine ox_eqDn (dkAt_app (dkAt_of fw)) dkAt_new ?_
   have A6 := T4.ty.app (kd := .wts) (cell := .dk []) ⟨⟨by simp, by simp⟩, by simp⟩
   have T6 := T4.ext pre_app A6
   have p6 : τ4 <+: τ4 ++ [Kd.wts] := pre_app
   generalize S4 ++ [Ce.dk []] = S6 at T6 A6 ⊢
   generalize τ4 ++ [Kd.wts] = τ6 at T6 A6 p6
   clear A6
   refine ⟨_, rfl, fun _ => ?_, fun _ => ?_⟩
   rotate_left
   ·walk_at "w"
    exact ⟨rfl, τ6, p6, T6⟩
   obtain ⟨pn', r1, r2, r3⟩ := T6.node q0 q1
   rw [e2'] at r2
   cases r2
   obtain ⟨g1, wn', gp', hg1, kw'⟩ := T6.ty.par r3
   refine wx_store ?_
   refine wx_call ?_
   walk_at "w"
   refine (t_gain hbg).imp ?_
   rintro g _ ⟨hg, rfl⟩
   walk_at "w"
   refine ox_ixL r1 e2' ?_
   walk_at "w"
   refine ⟨pn, _, 0, 0, wlAt_of gp', rfl, rfl, rfl, τ6, p6, T6.ext (List.prefix_refl _) (T6.ty.set r3 ⟨g, wn', rfl, hg, kw'⟩)⟩
  rintro ρ S5 ⟨rfl, τ5, p5, T5⟩
  have kw := pre_at p5 kw
  have p4 := p4.trans p5
  clear e1' kp gp T4 p5
  walk_at "w"
  refine (t_goal hc q0 q1 (T5.ty.frz (pre_at T5.pre h0))).imp ?_
  rintro _ _ ⟨to, rfl, t0, t1, rfl⟩
  walk_at "w"
  obtain ⟨ws, fw, fk2, fv⟩ := T5.ty.wts kw
  refine wx_dput ?_
  refine wx_op (wx_op (wx_dget2 ?_))
  walk_at "w"
  refine ⟨⟨_, dkAt_of fw⟩, ?_⟩
  walk_at "w"
  have hold : ∃ v0 : Int, (valX ws (Sum.inl to)).getD (.int 0) = .int v0 ∧ 0 ≤ v0 ∧ v0 ≤ i * 10 ^ 9 := by
   cases ev2 : valX ws (Sum.inl to) with
   | none => exact ⟨0, rfl, by omega, by omega⟩
   | some y =>
    obtain ⟨w, e, h1, h2⟩ := fv _ (valX_mem ev2)
    exact ⟨w, e, by omega, h2⟩
  obtain ⟨v0, ev0, v1, v2⟩ := hold
  refine ⟨wn, ws, .inl to, dkAt_of fw, rfl, ?_⟩
  rw [ev0]
  walk_at "w"
  refine ox_mod (by decide) ?_
  walk_at "w"
  have r0 := Int.emod_nonneg z (b := 10 ^ (9 : Int).toNat) (by decide)
  have r1 : z % 10 ^ (9 : Int).toNat < 10 ^ 9 := Int.emod_lt_of_pos z (b := 10 ^ 9) (by decide)
  generalize z % 10 ^ (9 : Int).toNat = zr at r0 r1 ⊢
  obtain ⟨is, _, g2, _, _, g5⟩ := fk2.ints
  have hlen : ws.length < sizeLine := by
   have : ws.length = is.length := by rw [← List.length_map (f := (·.1)), g2, List.length_map]
   exact sz64 (by omega)
  refine ⟨wn, ws, .inl to, dkAt_of fw, rfl, hlen, _, _, _, _, _, _, τ5, rfl, p4, T5.ext (List.prefix_refl _) ((T5.ty.le step).set kw ⟨fk2.put t0 t1, fun p hp => ?_⟩)⟩
  rcases mem_putX hp with hp | rfl
  ·obtain ⟨w, e, h1, h2⟩ := fv p hp
   exact ⟨w, e, h1, by omega⟩
  ·exact ⟨_, rfl, by omega, by omega⟩
 ·exact ⟨_, _, _, _, _, _, τ3, rfl, List.prefix_refl _, by simpa using hT1⟩
 ·rintro ρ S4 ⟨a4, a5, a6, a7, a8, a9, τ4, rfl, p4, T4⟩
  walk_at "w"
  refine ⟨τ4, txs, T4.ext (List.prefix_refl _) (T4.ty.le ?_)⟩
  rw [enumX_len]
  omega
end
section
variable {fu : Nat} {S : Sto} {xs : Xv} {ns : List Int}
noncomputable def cellV (ns : List Int) (k : Nat) : Int := ns.getD k 0
noncomputable def mixV (n p q : Int) : Int := n % 1000003 * 48271 % p % q
theorem t_cellX {k : Int} (h0 : 0 ≤ k) (hs : lstAt S xs = some (ns.map Xv.int)) : W (tw__law_cell_at fu [xs, .int k] S) fun v S' => v = .int (cellV ns k.toNat) ∧ S = S' := by
 walk_at "wr"; unfold tb__law_cell_at; walk_at "w"
 refine wx_if ?_
 walk_at "w"
 refine ox_len hs ?_
 walk_at "w"
 refine wx_ifT (fun h => ?_) (fun h => ?_)
 ·walk_at "w"
  rw [List.length_map] at h
  have hk : k.toNat < ns.length := by omega
  refine ox_ixL hs (atI_nn h0 (by rw [List.getElem?_map, List.getElem?_eq_getElem hk]; rfl)) ?_
  exact ⟨by unfold cellV; simp [List.getD_eq_getElem?_getD, hk], rfl⟩
 ·refine wx_next ?_
  refine wx_ret (wx_c ?_)
  rw [List.length_map] at h
  have hk : ¬ k.toNat < ns.length := by omega
  exact ⟨by unfold cellV; rw [List.getD_eq_getElem?_getD, List.getElem?_eq_none (by omega)]; rfl, rfl⟩
theorem t_mixedX {n p q : Int} (hp : 0 < p) (hq : 0 < q) : W (tw__law_mixed fu [.int n, .int p, .int q] S) fun v S' => v = .int (mixV n p q) ∧ S = S' := by
 walk_at "wr"; unfold tb__law_mixed; walk_at "w"
 refine ox_mod (by decide) ?_
 walk_at "w"
 refine ox_mod hp ?_
 walk_at "w"
 refine ox_mod hq ?_
 exact ⟨rfl, rfl⟩
noncomputable def nameV (ns : List Int) (c p : Int) : Int := if mixV (cellV ns 1) 40009 2 = 1 then c - 1 - (p + mixV (cellV ns 1) 30011 c) % c else (p + mixV (cellV ns 1) 30011 c) % c
theorem name_rng {c p : Int} (hc : 0 < c) : 0 ≤ nameV ns c p ∧ nameV ns c p < c := by
 have h0 := Int.emod_nonneg (p + mixV (cellV ns 1) 30011 c) (b := c) (by omega)
 have h1 := Int.emod_lt_of_pos (p + mixV (cellV ns 1) 30011 c) hc
 unfold nameV
 split <;> omega
theorem name_inj {c p q : Int} (hc : 0 < c) (hp : 0 ≤ p) (hp2 : p < c) (hq : 0 ≤ q) (hq2 : q < c) (h : nameV ns c p = nameV ns c q) : p = q := by
 have e : (p + mixV (cellV ns 1) 30011 c) % c = (q + mixV (cellV ns 1) 30011 c) % c := by
  unfold nameV at h
  split at h <;> omega
 have e2 : (p + mixV (cellV ns 1) 30011 c - (q + mixV (cellV ns 1) 30011 c)) % c = 0 := Int.emod_eq_emod_iff_emod_sub_eq_zero.1 e
 have e3 : (p - q) % c = 0 := by
  rw [show p + mixV (cellV ns 1) 30011 c - (q + mixV (cellV ns 1) 30011 c) = p - q by omega] at e2
  exact e2
 obtain ⟨k, hk⟩ := Int.dvd_of_emod_eq_zero e3
 rcases Int.lt_trichotomy k 0 with h1 | h1 | h1
 ·have : c * k ≤ c * (-1) := Int.mul_le_mul_of_nonneg_left (by omega) (by omega)
  omega
 ·subst h1; omega
 ·have : c * 1 ≤ c * k := Int.mul_le_mul_of_nonneg_left (by omega) (by omega)
  omega
theorem t_nameX {c p : Int} (hc : 0 < c) (hs : lstAt S xs = some (ns.map Xv.int)) : W (tw__law_name fu [xs, .int c, .int p] S) fun v S' => v = .int (nameV ns c p) ∧ S = S' := by
 walk_at "wr"; unfold tb__law_name; walk_at "w"
 refine (t_cellX (by decide) hs).imp ?_
 rintro _ _ ⟨rfl, rfl⟩
 walk_at "w"
 refine (t_mixedX (by decide) hc).imp ?_
 rintro _ _ ⟨rfl, rfl⟩
 walk_at "w"
 refine ox_mod hc ?_
 walk_at "w"
 refine wx_if ?_
 walk_at "w"
 refine (t_cellX (by decide) hs).imp ?_
 rintro _ _ ⟨rfl, rfl⟩
 walk_at "w"
 refine (t_mixedX (by decide) (by decide)).imp ?_
 rintro _ _ ⟨rfl, rfl⟩
 walk_at "w"
 refine wx_ifT (fun h => ?_) (fun h => ?_)
 ·have h : mixV (cellV ns 1) 40009 2 = 1 := h
  refine wx_ret (wx_op (wx_op (wx_var rfl (wx_c (ox_sub (wx_var rfl (ox_sub ?_)))))))
  exact ⟨by unfold nameV; rw [if_pos h]; rfl, rfl⟩
 ·have h : ¬ mixV (cellV ns 1) 40009 2 = 1 := h
  refine wx_next (wx_ret (wx_var rfl ?_))
  exact ⟨by unfold nameV; rw [if_neg h]; rfl, rfl⟩
end
section
variable {fu : Nat} {S : Sto} {xs : Xv} {ns : List Int}
noncomputable def ChL (b : Nat) (nxs : List Xv) (τ : List Kd) (S : Sto) : Prop := ∀ x ∈ nxs, ∃ (n : Nat) (ys : List Xv), x = .ref n ∧ τ[n]? = some .chs ∧ S[n]? = some (.lst ys) ∧ ys.length ≤ b
theorem sum_vals : ∀ (l : List (Key × Xv)) (m : Int), (∀ p ∈ l, ∃ w : Int, p.2 = .int w ∧ 0 < w ∧ w ≤ m) → ∃ vs : List Int, intsX (l.map (·.2)) = some vs ∧ 0 ≤ vs.sum ∧ vs.sum ≤ l.length * m ∧ ∀ k w, (k, Xv.int w) ∈ l → w ≤ vs.sum
 | [], m, _ => ⟨[], rfl, by simp, by simp, by simp⟩
 | (k, x) :: r, m, h => by
  obtain ⟨w, e, h0, h1⟩ := h (k, x) (by simp)
  have e : x = .int w := e
  subst e
  obtain ⟨vs, e1, e2, e3, e4⟩ := sum_vals r m fun p hp => h p (by simp [hp])
  refine ⟨w :: vs, by simp [intsX, e1], by simp; omega, ?_, fun k' w' hm => ?_⟩
  ·simp only [List.sum_cons, List.length_cons]
   have : ((r.length + 1 : Nat) : Int) * m = r.length * m + m := by rw [Int.natCast_add, Int.add_mul]; simp
   omega
  ·simp only [List.sum_cons]
   rcases List.mem_cons.1 hm with hm | hm
   ·cases hm; omega
   ·have := e4 k' w' hm; omega
structure NetTy (c : Int) (τ : List Kd) (nxs : List Xv) (nn : Nat) (S : Sto) : Prop where
 c0 : 0 ≤ c
 c60 : c ≤ 60
 ty : ∃ h, Ty c h (60 * 10 ^ 9) τ S
 fix : τ[nn]? = some (.fix nxs)
 len : (nxs.length : Int) = c
 chs : ChL 480 nxs τ S
noncomputable def Lens (f : Nat → Nat) (nxs : List Xv) (τ : List Kd) (S : Sto) : Prop := ∀ (i : Nat) x, nxs[i]? = some x → ∃ (n : Nat) (ys : List Xv), x = .ref n ∧ τ[n]? = some .chs ∧ S[n]? = some (.lst ys) ∧ ys.length ≤ f i
theorem Lens.app {f : Nat → Nat} {nxs : List Xv} {τ τ' : List Kd} {cell : Ce} (h : Lens f nxs τ S) (hp : τ <+: τ') : Lens f nxs τ' (S ++ [cell]) := fun i x hx => by
 obtain ⟨n, ys, e1, e2, e3, e4⟩ := h i x hx
 exact ⟨n, ys, e1, pre_at hp e2, by rw [List.getElem?_append_left (List.getElem?_eq_some_iff.1 e3).1]; exact e3, e4⟩
noncomputable def Apart (nxs : List Xv) : Prop := ∀ (a b n : Nat), nxs[a]? = some (.ref n) → nxs[b]? = some (.ref n) → a = b
open Classical in
noncomputable def seen (ns : List Int) (c : Int) (i idx : Nat) : Nat := if ∃ p : Nat, p < i ∧ (nameV ns c p).toNat = idx then 1 else 0
theorem seen_le (ns : List Int) (c : Int) (i idx : Nat) : seen ns c i idx ≤ 1 := by
 unfold seen
 split <;> omega
theorem seen_mono {ns : List Int} {c : Int} {i idx : Nat} : seen ns c i idx ≤ seen ns c (i + 1) idx := by
 unfold seen
 split
 ·rename_i h
  obtain ⟨p, h1, h2⟩ := h
  rw [if_pos ⟨p, by omega, h2⟩]
  exact Nat.le_refl _
 ·omega
theorem seen_new {ns : List Int} {c : Int} {i : Nat} (hc : 0 < c) (hi : (i : Int) < c) : seen ns c i (nameV ns c i).toNat = 0 ∧ seen ns c (i + 1) (nameV ns c i).toNat = 1 := by
 constructor
 ·unfold seen
  rw [if_neg]
  rintro ⟨p, h1, h2⟩
  have a := name_rng (ns := ns) (p := (p : Int)) hc
  have b := name_rng (ns := ns) (p := (i : Int)) hc
  have := name_inj (ns := ns) hc (p := (p : Int)) (q := (i : Int)) (by omega) (by omega) (by omega) hi (by omega)
  omega
 ·unfold seen
  rw [if_pos ⟨i, by omega, rfl⟩]
theorem t_chain (hbg : Big fu) (ns : List Int) : W (tw__law_chain fu [.ref 0] [.frz (ns.map Xv.int)]) fun v S' => ∃ nn, v = .ref nn ∧ ∃ c τ nxs, NetTy c τ nxs nn S' ∧ Lens (fun _ => 1) nxs τ S' := by
 walk_at "wr"; unfold tb__law_chain; walk_at "w"
 refine wx_if ?_
 walk_at "w"
 have B : ∀ c : Int, Ty c 3 0 [.frz (ns.map Xv.int)] [.frz (ns.map Xv.int)] := fun c => ⟨rfl, fun n kd cell e1 e2 => by
  cases n with
  | zero => simp at e1 e2; subst e1 e2; rfl
  | succ n => simp at e1⟩
 have B1 : ∀ c : Int, Ty c 3 0 ([.frz (ns.map Xv.int)] ++ [.fix []]) ([.frz (ns.map Xv.int)] ++ [.lst []]) := fun c => (B c).app rfl
 have z0 : ([Kd.frz (ns.map Xv.int)] ++ [Kd.fix []])[0]? = some (.frz (ns.map Xv.int)) := rfl
 have z1 : ([Kd.frz (ns.map Xv.int)] ++ [Kd.fix []])[[Ce.frz (ns.map Xv.int)].length]? = some (.fix []) := rfl
 generalize [Kd.frz (ns.map Xv.int)] ++ [Kd.fix []] = τ1 at B1 z0 z1
 generalize [Ce.frz (ns.map Xv.int)].length = en at z1 ⊢
 generalize [Ce.frz (ns.map Xv.int)] ++ [Ce.lst []] = S1 at B1 ⊢
 clear B
 refine ox_eqNil ((B1 0).frz z0) (lstAt_of ((B1 0).fix z1)) ?_
 walk_at "w"
 refine ⟨fun _ => ?_, fun _ => ?_⟩
 ·walk_at "w"
  have T := (B1 0).app (kd := .fix []) (cell := .lst []) rfl
  refine ⟨0, _, [], ⟨ by omega, by omega, ⟨3, T.le (by omega)⟩, (B1 0).new_at, rfl, fun x hx => by cases hx⟩, fun i x hx => by simp at hx⟩
 walk_at "w"
 have hs := (B1 0).frz z0
 refine (t_cell (by decide) hs).imp ?_
 rintro _ _ ⟨c1, rfl, rfl⟩
 walk_at "w"
 refine (t_mixed (by decide) (by decide)).imp ?_
 rintro _ _ ⟨c2, rfl, k0, k1, rfl⟩
 walk_at "w"
 refine wx_cut (fun ρ S2 => S1 = S2 ∧ ∃ c : Int, ρ = [some (.ref 0), some (.int c), none, none, none, none, none, none] ∧ 0 < c ∧ c ≤ 60) (wx_if ?_) ?_
 ·walk_at "w"
  refine (t_cell (by decide) hs).imp ?_
  rintro _ _ ⟨c3, rfl, rfl⟩
  walk_at "w"
  refine (t_mixed (by decide) (by decide)).imp ?_
  rintro _ _ ⟨c4, rfl, _, _, rfl⟩
  walk_at "w"
  refine wx_ifT (fun _ => ?_) (fun _ => ?_)
  ·walk_at "w"
   refine (t_cell (by decide) hs).imp ?_
   rintro _ _ ⟨c5, rfl, rfl⟩
   walk_at "w"
   refine (t_mixed (by decide) (by decide)).imp ?_
   rintro _ _ ⟨c6, rfl, _, _, rfl⟩
   walk_at "w"
   exact ⟨rfl, _, rfl, by omega, by omega⟩
  ·walk_at "w"
   exact ⟨rfl, _, rfl, by omega, by omega⟩
 rintro ρ _ ⟨rfl, c, rfl, hc, hc2⟩
 walk_at "w"
 refine (t_table hbg hc hc2 (B1 c) z0).imp ?_
 rintro _ S2 ⟨tn, rfl, τ2, txs, T2⟩
 walk_at "w"
 refine wx_comp (wx_iR1 ?_)
 walk_at "w"
 refine ⟨⟨by omega, by omega⟩, _, rfl, ?_⟩
 refine wx_compI (by rw [rangeX_len]; exact Nat.le_of_lt (sz64 (by omega))) (fun i es S3 => ∃ τ3, Tab c 3 (60 * 10 ^ 9) τ2 txs tn τ3 S3 ∧ (∀ x ∈ es, ∃ n, x = .ref n ∧ n < S3.length ∧ τ3[n]? = some .chs ∧ S3[n]? = some (.lst [])) ∧ Apart es) (fun _ _ _ _ _ => rfl) ?_ ⟨τ2, ⟨T2.ty, List.prefix_refl _, T2.fix, T2.len, T2.nod⟩, by simp, fun a b n h => by simp at h⟩ ?_
 ·rintro i x es S3 hx hl ⟨τ3, T3, hes, hap⟩
  refine .of rfl ?_
  walk_at "w"
  refine ⟨rfl, ?_⟩
  walk_at "w"
  have old : ∀ (a n : Nat), es[a]? = some (.ref n) → n < S3.length := fun a n h => by
   obtain ⟨m, e1, e2, _⟩ := hes _ (List.mem_of_getElem? h)
   cases e1
   exact e2
  have at_ : ∀ (a n : Nat), (es ++ [Xv.ref S3.length])[a]? = some (.ref n) → es[a]? = some (.ref n) ∨ (a = es.length ∧ n = S3.length) := fun a n h => by
   by_cases ha : a < es.length
   ·rw [List.getElem?_append_left ha] at h
    exact .inl h
   ·rw [List.getElem?_append_right (by omega)] at h
    have hz : a - es.length = 0 := by
     have := (List.getElem?_eq_some_iff.1 h).1
     simpa using this
    rw [hz] at h
    simp at h
    exact .inr ⟨by omega, h.symm⟩
  refine ⟨τ3 ++ [.chs], T3.ext pre_app (T3.ty.app (kd := .chs) (cell := .lst []) (fun x hx => by cases hx)), fun y hy => ?_, fun a b n h1 h2 => ?_⟩
  ·rcases List.mem_append.1 hy with hy | hy
   ·obtain ⟨n, e1, e2, e3, e4⟩ := hes y hy
    exact ⟨n, e1, by simp; omega, pre_at pre_app e3, by rw [List.getElem?_append_left e2]; exact e4⟩
   ·simp at hy
    exact ⟨_, hy, by simp, T3.ty.new_at, by simp⟩
  ·rcases at_ a n h1 with f1 | ⟨f1, g1⟩ <;> rcases at_ b n h2 with f2 | ⟨f2, g2⟩
   ·exact hap a b n f1 f2
   ·have := old a n f1; omega
   ·have := old b n f2; omega
   ·omega
 rintro nxs S3 hl ⟨τ3, T3, hes, hap⟩
 rw [rangeX_len] at hl
 have A := T3.ty.app (kd := .fix nxs) (cell := .lst nxs) rfl
 have hnn : (τ3 ++ [Kd.fix nxs])[S3.length]? = some (.fix nxs) := T3.ty.new_at
 have T4 := T3.ext pre_app A
 have C4 : Lens (seen ns c 0) nxs (τ3 ++ [Kd.fix nxs]) (S3 ++ [Ce.lst nxs]) := Lens.app (τ := τ3) (fun i x hx => by
  obtain ⟨n, e1, _, e3, e4⟩ := hes x (List.mem_of_getElem? hx)
  exact ⟨n, [], e1, e3, e4, by simp⟩) pre_app
 generalize S3.length = nn at hnn ⊢
 generalize S3 ++ [Ce.lst nxs] = S4 at T4 C4 A ⊢
 generalize τ3 ++ [Kd.fix nxs] = τ4 at T4 C4 A hnn
 clear hes T3 A
 have z4 : τ4[0]? = some (.frz (ns.map Xv.int)) := pre_at T4.pre (pre_at T2.pre z0)
 walk_at "w"
 refine wx_for (wx_iR1 ?_)
 walk_at "w"
 refine ⟨⟨by omega, by omega⟩, _, rfl, ?_⟩
 refine wx_forI (xs := rangeX 0 c.toNat) (fun i ρ S5 => ∃ a4 a5 a6 a7 τ5, ρ = [some (.ref 0), some (.int c), some (.ref tn), some (.ref nn), a4, a5, a6, a7] ∧ τ4 <+: τ5 ∧ Tab c 3 (60 * 10 ^ 9) τ2 txs tn τ5 S5 ∧ Lens (seen ns c i) nxs τ5 S5) (fun _ _ _ _ _ => rfl) ?_ ?_ ?_
 ·rintro i x ρ S5 hx ⟨a4, a5, a6, a7, τ5, rfl, p5, T5, C5⟩
  obtain ⟨hi, rfl⟩ := rangeX_at hx
  refine .of rfl ?_
  dsimp only [List.set]
  rw [Int.zero_add]
  have hic : (i : Int) < c := by omega
  obtain ⟨pn, g1, g2, kp⟩ := T5.node (p := (i : Int)) (by omega) hic
  obtain ⟨g0, wn, gp, _, kw⟩ := T5.ty.par kp
  obtain ⟨ws, fw, fk2, fv⟩ := T5.ty.wts kw
  walk_at "w"
  refine ox_ixL g1 g2 ?_
  walk_at "w"
  refine ox_ixL (lstAt_of gp) atI_1 ?_
  walk_at "w"
  refine wx_if ?_
  walk_at "w"
  refine ox_neD (dkAt_app (dkAt_of fw)) dkAt_new ?_
  have A6 := T5.ty.app (kd := .wts) (cell := .dk []) ⟨⟨by simp, by simp⟩, by simp⟩
  have T6 := T5.ext pre_app A6
  have C6 := C5.app (cell := .dk []) (pre_app (k := Kd.wts))
  have p6 : τ4 <+: τ5 ++ [Kd.wts] := p5.trans pre_app
  have fw6 : (S5 ++ [Ce.dk []])[wn]? = some (.dk ws) := by rw [List.getElem?_append_left (List.getElem?_eq_some_iff.1 fw).1]; exact fw
  generalize S5 ++ [Ce.dk []] = S6 at T6 C6 A6 fw6 ⊢
  generalize τ5 ++ [Kd.wts] = τ6 at T6 C6 A6 p6
  clear A6 T5 C5 g1
  refine ⟨_, rfl, fun _ => ?_, fun _ => ?_⟩
  rotate_left
  ·walk_at "w"
   exact ⟨_, _, _, _, τ6, rfl, p6, T6, fun k y hy => by
    obtain ⟨n, ys, q1, q2, q3, q4⟩ := C6 k y hy
    exact ⟨n, ys, q1, q2, q3, Nat.le_trans q4 seen_mono⟩⟩
  walk_at "w"
  obtain ⟨vs, v1, v2, v3, v4⟩ := sum_vals ws _ fv
  refine ox_sumV (dkAt_of fw6) v1 ?_
  walk_at "w"
  obtain ⟨js, j1, j2, j3, j4, j5⟩ := fk2.ints
  have hws : ws.length ≤ 60 := by
   have : ws.length = js.length := by rw [← List.length_map (f := (·.1)), j2, List.length_map]
   omega
  have hv3 : vs.sum < lim := by
   have : (ws.length : Int) * (60 * 10 ^ 9) ≤ 60 * (60 * 10 ^ 9) := Int.mul_le_mul_of_nonneg_right (by omega) (by decide)
   exact Int.lt_of_le_of_lt (Int.le_trans v3 this) (by decide)
  refine wx_comp (wx_iL ?_)
  walk_at "w"
  refine ox_sortK (dkAt_of fw6) j1 (by omega) ?_
  have A8 := T6.ty.app (kd := .fix ((sortI js).map Xv.int)) (cell := .lst ((sortI js).map Xv.int)) rfl
  have hqn : (τ6 ++ [Kd.fix ((sortI js).map Xv.int)])[S6.length]? = some (.fix ((sortI js).map Xv.int)) := T6.ty.new_at
  have T8 := T6.ext pre_app A8
  have C8 := C6.app (cell := .lst ((sortI js).map Xv.int)) (pre_app (k := Kd.fix ((sortI js).map Xv.int)))
  have p8 : τ4 <+: τ6 ++ [Kd.fix ((sortI js).map Xv.int)] := p6.trans pre_app
  have fw8 : (S6 ++ [Ce.lst ((sortI js).map Xv.int)])[wn]? = some (.dk ws) := by rw [List.getElem?_append_left (List.getElem?_eq_some_iff.1 fw6).1]; exact fw6
  generalize S6.length = qn at hqn ⊢
  generalize S6 ++ [Ce.lst ((sortI js).map Xv.int)] = S8 at T8 C8 A8 fw8 ⊢
  generalize τ6 ++ [Kd.fix ((sortI js).map Xv.int)] = τ8 at T8 C8 A8 hqn p8
  clear A8 T6 C6 fw6
  refine ⟨_, lstAt_of (T8.ty.fix hqn), _, lstAt_of (T8.ty.fix hqn), ?_⟩
  refine wx_compI (by rw [List.length_map, sortI_len]; exact Nat.le_of_lt (sz64 (by omega))) (fun i es S9 => S8 = S9 ∧ ∀ x ∈ es, ∃ (i : Int) (q : Xv), x = .tup [.int i, q] ∧ 0 ≤ i ∧ i < c ∧ IsQ q) ?_ ?_ ⟨rfl, by simp⟩ ?_
  ·rintro _ _ _ _ ⟨rfl, _⟩
   exact lstAt_of (T8.ty.fix hqn)
  ·rintro i x es _ hx hl ⟨rfl, hes⟩
   rw [List.getElem?_map] at hx
   cases hs3 : (sortI js)[i]? with
   | none => rw [hs3] at hx; cases hx
   | some to =>
    rw [hs3] at hx
    cases hx
    have hto : to ∈ js := (sortI_perm js).mem_iff.1 (List.mem_of_getElem? hs3)
    have hkt : (Sum.inl to : Key) ∈ ws.map (·.1) := by rw [j2]; exact List.mem_map.2 ⟨to, hto, rfl⟩
    obtain ⟨wv, ew⟩ := valX_some hkt
    obtain ⟨w, e, w0, w1⟩ := fv _ (valX_mem ew)
    have e : wv = .int w := e
    subst e
    have hsum := v4 _ _ (valX_mem ew)
    refine .of rfl ?_
    dsimp only [capR, List.map, List.set]
    walk_at "w"
    refine ⟨rfl, ?_⟩
    walk_at "w"
    refine wx_dget ?_
    walk_at "w"
    refine ⟨wn, ws, .inl to, .int w, dkAt_of fw8, rfl, ew, ?_⟩
    walk_at "w"
    refine (t_fraction hbg (by omega) (by omega) (by omega) hv3).imp ?_
    rintro q _ ⟨hq, rfl⟩
    walk_at "w"
    refine ⟨rfl, fun y hy => ?_⟩
    rcases List.mem_append.1 hy with hy | hy
    ·exact hes y hy
    ·simp at hy
     exact ⟨to, q, hy, (j4 to hto).1, (j4 to hto).2, hq⟩
  rintro ps _ hpl ⟨rfl, hps⟩
  rw [List.length_map, sortI_len] at hpl
  have A9 := T8.ty.app (kd := .pts) (cell := .lst ps) ⟨by omega, hps⟩
  have hpt : (τ8 ++ [Kd.pts])[S8.length]? = some .pts := T8.ty.new_at
  have T9 := T8.ext pre_app A9
  have C9 := C8.app (cell := .lst ps) (pre_app (k := Kd.pts))
  have p9 : τ4 <+: τ8 ++ [Kd.pts] := p8.trans pre_app
  generalize S8.length = sn at hpt ⊢
  generalize S8 ++ [Ce.lst ps] = S9 at T9 C9 A9 ⊢
  generalize τ8 ++ [Kd.pts] = τ9 at T9 C9 A9 hpt p9
  clear A9 T8 C8 fw8
  walk_at "w"
  obtain ⟨m0, m1⟩ := name_rng (ns := ns) (p := (i : Int)) hc
  obtain ⟨sn0, sn1⟩ := seen_new (ns := ns) (i := i) hc hic
  have hnm : (nameV ns c i).toNat < nxs.length := by omega
  obtain ⟨cn, ys, c1, c2, c3, c4⟩ := C9 _ _ (List.getElem?_eq_getElem hnm)
  refine wx_mt ?_
  walk_at "w"
  refine (t_nameX hc (T9.ty.frz (pre_at p9 z4))).imp ?_
  rintro _ _ ⟨rfl, rfl⟩
  refine ox_ixL (lstAt_of (T9.ty.fix (pre_at p9 hnn))) (atI_nn m0 (List.getElem?_eq_getElem hnm)) ?_
  rw [c1]
  refine ⟨⟨ys, lstAt_of c3⟩, ?_⟩
  walk_at "w"
  obtain ⟨pn', r1, r2, r3⟩ := T9.node (p := (i : Int)) (by omega) hic
  rw [g2] at r2
  cases r2
  obtain ⟨g, wn', gp', hg, _⟩ := T9.ty.par r3
  refine ox_ixL r1 g2 ?_
  walk_at "w"
  refine ox_ixL (lstAt_of gp') atI_0 ?_
  walk_at "w"
  refine ox_append (wlAt_of c3) (Nat.lt_of_le_of_lt c4 (by rw [sn0]; decide)) ?_
  obtain ⟨zs, q1, q2⟩ := T9.ty.chs c2
  rw [c3] at q1
  cases q1
  refine ⟨_, _, _, _, τ9, rfl, p9, T9.ext (List.prefix_refl _) (T9.ty.set c2 (fun x hx => ?_)), fun k y hy => ?_⟩
  ·rcases List.mem_append.1 hx with hx | hx
   ·exact q2 x hx
   ·simp at hx
    exact ⟨g, sn, hx, hg, hpt⟩
  ·obtain ⟨n, us, r1, r2, r3, r4⟩ := C9 k y hy
   by_cases hk : cn = n
   ·subst hk
    have hkk : k = (nameV ns c i).toNat := hap _ _ cn (by rw [hy, r1]) (by rw [List.getElem?_eq_getElem hnm, c1])
    subst hkk
    refine ⟨cn, _, r1, r2, by rw [List.getElem?_set, if_pos rfl, if_pos (List.getElem?_eq_some_iff.1 c3).1], ?_⟩
    rw [sn1, List.length_append]
    rw [sn0] at c4
    show ys.length + 1 ≤ 1
    omega
   ·exact ⟨n, us, r1, r2, by rw [List.getElem?_set, if_neg hk]; exact r3, Nat.le_trans r4 seen_mono⟩
 ·exact ⟨_, _, _, _, τ4, rfl, List.prefix_refl _, T4, C4⟩
 ·rintro ρ S5 ⟨a4, a5, a6, a7, τ5, rfl, p5, T5, C5⟩
  walk_at "w"
  have L1 : Lens (fun _ => 1) nxs τ5 S5 := fun k y hy => by
   obtain ⟨n, us, r1, r2, r3, r4⟩ := C5 k y hy
   exact ⟨n, us, r1, r2, r3, Nat.le_trans r4 (seen_le _ _ _ _)⟩
  refine ⟨c, τ5, nxs, ⟨by omega, hc2, ⟨3, T5.ty⟩, pre_at p5 hnn, by omega, fun x hx => ?_⟩, L1⟩
  obtain ⟨k, hk⟩ := List.getElem?_of_mem hx
  obtain ⟨n, us, r1, r2, r3, r4⟩ := L1 k x hk
  exact ⟨n, us, r1, r2, r3, Nat.le_trans r4 (show 1 ≤ 480 by decide)⟩
end
section
variable {fu : Nat} {S S' : Sto} {x y z : Xv}
noncomputable def Le (S S' : Sto) : Prop := ∀ x l, lstAt S x = some l → lstAt S' x = some l
theorem Le.pre (p : S <+: S') : Le S S' := fun x l h => by
 obtain ⟨T, rfl⟩ := p
 exact lstAt_app h
noncomputable def LAt {α : Type} (R : Sto → Xv → α → Prop) (S : Sto) (x : Xv) (as : List α) : Prop := ∃ l, lstAt S x = some l ∧ l.length = as.length ∧ ∀ (i : Nat) a, as[i]? = some a → ∃ z, l[i]? = some z ∧ R S z a
theorem LAt.mono {α : Type} {R : Sto → Xv → α → Prop} {as : List α} (hR : ∀ z a, R S z a → R S' z a) (p : Le S S') (h : LAt R S x as) : LAt R S' x as := by
 obtain ⟨l, e, el, k⟩ := h
 exact ⟨l, p x l e, el, fun i a ha => by obtain ⟨z, e1, e2⟩ := k i a ha; exact ⟨z, e1, hR z a e2⟩⟩
noncomputable abbrev Qr := Int × Int
noncomputable abbrev Ch := Qr × List (Int × Qr)
noncomputable abbrev Net := List (List Ch)
noncomputable def qX (q : Qr) : Xv := .tup [.int q.1, .int q.2]
noncomputable def PtAt (_ : Sto) (z : Xv) (p : Int × Qr) : Prop := z = .tup [.int p.1, qX p.2]
noncomputable def ChAt (S : Sto) (z : Xv) (c : Ch) : Prop := ∃ y, z = .tup [qX c.1, y] ∧ LAt PtAt S y c.2
noncomputable def NetAt (S : Sto) (x : Xv) (g : Net) : Prop := LAt (LAt ChAt) S x g
theorem PtsAt.mono {ps : List (Int × Qr)} (p : Le S S') (h : LAt PtAt S x ps) : LAt PtAt S' x ps := LAt.mono (fun _ _ (h : PtAt S _ _) => (h : PtAt S' _ _)) p h
theorem ChAt.mono {c : Ch} (p : Le S S') (h : ChAt S x c) : ChAt S' x c := by
 obtain ⟨y, e, h⟩ := h
 exact ⟨y, e, PtsAt.mono p h⟩
theorem ChsAt.mono {cs : List Ch} (p : Le S S') (h : LAt ChAt S x cs) : LAt ChAt S' x cs := LAt.mono (fun _ _ h => ChAt.mono p h) p h
theorem NetAt.mono {g : Net} (p : Le S S') (h : NetAt S x g) : NetAt S' x g := LAt.mono (fun _ _ h => ChsAt.mono p h) p h
theorem lift_all {α : Type} {R : Xv → α → Prop} : ∀ (l : List Xv), (∀ z ∈ l, ∃ a, R z a) → ∃ as : List α, l.length = as.length ∧ (∀ (i : Nat) a, as[i]? = some a → ∃ z, l[i]? = some z ∧ R z a) ∧ ∀ a ∈ as, ∃ z ∈ l, R z a
 | [], _ => ⟨[], rfl, by simp, by simp⟩
 | z :: r, h => by
  obtain ⟨a, ha⟩ := h z (by simp)
  obtain ⟨as, e, k, m⟩ := lift_all r fun y hy => h y (by simp [hy])
  refine ⟨a :: as, by simp [e], fun i b hb => ?_, fun b hb => ?_⟩
  ·cases i with
   | zero => simp at hb; subst hb; exact ⟨z, rfl, ha⟩
   | succ i => exact k i b (by simpa using hb)
  ·rcases List.mem_cons.1 hb with rfl | hb
   ·exact ⟨z, by simp, ha⟩
   ·obtain ⟨y, hy, q⟩ := m b hb
    exact ⟨y, by simp [hy], q⟩
structure NetOk (c : Int) (g : Net) : Prop where
 len : (g.length : Int) = c
 c60 : c ≤ 60
 few : ∀ cs ∈ g, cs.length ≤ 480
 rng : ∀ cs ∈ g, ∀ ch ∈ cs, ∀ p ∈ ch.2, 0 ≤ p.1 ∧ p.1 < c
 pts : ∀ cs ∈ g, ∀ ch ∈ cs, ch.2.length ≤ 60
 gn : ∀ cs ∈ g, ∀ ch ∈ cs, 0 ≤ ch.1.1 ∧ (ch.1.1 = 0 → ch.1.2 = 1)
theorem NetTy.net {c : Int} {τ : List Kd} {nxs : List Xv} {nn : Nat} (T : NetTy c τ nxs nn S) : ∃ g, NetAt S (.ref nn) g ∧ NetOk c g := by
 obtain ⟨hh, ty⟩ := T.ty
 have h1 : ∀ (n : Nat), τ[n]? = some .pts → ∃ ps : List (Int × Qr), LAt PtAt S (.ref n) ps ∧ ps.length ≤ 60 ∧ ∀ p ∈ ps, 0 ≤ p.1 ∧ p.1 < c := fun n hn => by
  obtain ⟨l, e, kl, k⟩ := ty.pts hn
  obtain ⟨ps, e1, e2, e3⟩ := lift_all (R := fun z (p : Int × Qr) => PtAt S z p ∧ 0 ≤ p.1 ∧ p.1 < c) l fun z hz => by
   obtain ⟨i, q, r1, r2, r3, a, b, rfl⟩ := k z hz
   exact ⟨(i, a, b), r1, r2, r3⟩
  refine ⟨ps, ⟨l, lstAt_of e, e1, fun i a ha => by obtain ⟨z, q1, q2, _⟩ := e2 i a ha; exact ⟨z, q1, q2⟩⟩, by omega, fun p hp => ?_⟩
  obtain ⟨_, _, _, q⟩ := e3 p hp
  exact q
 have h2 : ∀ z ∈ nxs, ∃ cs : List Ch, LAt ChAt S z cs ∧ cs.length ≤ 480 ∧ ∀ ch ∈ cs, (0 ≤ ch.1.1 ∧ (ch.1.1 = 0 → ch.1.2 = 1)) ∧ ch.2.length ≤ 60 ∧ ∀ p ∈ ch.2, 0 ≤ p.1 ∧ p.1 < c := fun z hz => by
  obtain ⟨n, ys, rfl, e2, e3, e4⟩ := T.chs z hz
  obtain ⟨l, e, k⟩ := ty.chs e2
  rw [e3] at e
  cases e
  obtain ⟨cs, f1, f2, f3⟩ := lift_all (R := fun z (ch : Ch) => ChAt S z ch ∧ (0 ≤ ch.1.1 ∧ (ch.1.1 = 0 → ch.1.2 = 1)) ∧ ch.2.length ≤ 60 ∧ ∀ p ∈ ch.2, 0 ≤ p.1 ∧ p.1 < c) ys fun z hz => by
   obtain ⟨g, m, r1, ⟨a, b, rfl, ga⟩, r3⟩ := k z hz
   obtain ⟨ps, q1, q2⟩ := h1 m r3
   exact ⟨((a, b), ps), ⟨_, r1, q1⟩, ga, q2⟩
  refine ⟨cs, ⟨ys, lstAt_of e3, f1, fun i a ha => by obtain ⟨z, q1, q2, _⟩ := f2 i a ha; exact ⟨z, q1, q2⟩⟩, by omega, fun ch hc => ?_⟩
  obtain ⟨_, _, _, q⟩ := f3 ch hc
  exact q
 obtain ⟨g, f1, f2, f3⟩ := lift_all nxs h2
 refine ⟨g, ⟨nxs, lstAt_of (ty.fix T.fix), f1, fun i a ha => by obtain ⟨z, q1, q2, _⟩ := f2 i a ha; exact ⟨z, q1, q2⟩⟩, ⟨by have := T.len; omega, T.c60, fun cs hc => ?_, fun cs hc ch hh => ?_, fun cs hc ch hh => ?_, fun cs hc ch hh => ?_⟩⟩
 ·obtain ⟨_, _, _, q, _⟩ := f3 cs hc
  exact q
 ·obtain ⟨_, _, _, _, q⟩ := f3 cs hc
  exact (q ch hh).2.2
 ·obtain ⟨_, _, _, _, q⟩ := f3 cs hc
  exact (q ch hh).2.1
 ·obtain ⟨_, _, _, _, q⟩ := f3 cs hc
  exact (q ch hh).1
noncomputable def qD (q : Qr) : D := .tup [.int q.1, .int q.2]
noncomputable def ptD (p : Int × Qr) : D := .tup [.int p.1, qD p.2]
noncomputable def chD (c : Ch) : D := .tup [qD c.1, .lst (c.2.map ptD)]
noncomputable def netD (g : Net) : D := .lst (g.map fun cs => .lst (cs.map chD))
theorem tellL_of {α : Type} {f : Xv → Option D} {t : α → D} : ∀ (as : List α) (l : List Xv), l.length = as.length → (∀ (i : Nat) a, as[i]? = some a → ∃ z, l[i]? = some z ∧ f z = some (t a)) → tellL f l = some (as.map t)
 | [], [], _, _ => rfl
 | [], _ :: _, e, _ => by simp at e
 | _ :: _, [], e, _ => by simp at e
 | a :: as, z :: l, e, h => by
  obtain ⟨y, e1, e2⟩ := h 0 a rfl
  cases e1
  have := tellL_of as l (by simpa using e) fun i b hb => by
   obtain ⟨y, q1, q2⟩ := h (i + 1) b (by simpa using hb)
   exact ⟨y, by simpa using q1, q2⟩
  unfold tellL
  rw [e2, this]
  rfl
theorem tell_L {α : Type} {R : Sto → Xv → α → Prop} {as : List α} {n : Nat} {t : α → D} (hR : ∀ z a, R S z a → tell S n z = some (t a)) (h : LAt R S x as) : tell S (n + 1) x = some (.lst (as.map t)) := by
 obtain ⟨l, e, el, k⟩ := h
 have ht := tellL_of (f := tell S n) (t := t) as l el fun i a ha => by obtain ⟨z, e1, e2⟩ := k i a ha; exact ⟨z, e1, hR z a e2⟩
 cases x <;> simp only [lstAt, reduceCtorEq] at e
 rename_i m
 unfold tell
 dsimp only
 rw [show lstAt S (.ref m) = some l from e, Option.bind_some, ht]
 rfl
theorem tell_net {g : Net} (h : NetAt S x g) : tell S 40 x = some (netD g) :=
 tell_L (n := 39) (fun z cs hz => tell_L (n := 38) (fun z c hz => by
  obtain ⟨y, rfl, hy⟩ := hz
  have := tell_L (n := 36) (t := ptD) (fun z p hz => by cases hz; rfl) hy
  unfold tell
  dsimp only
  unfold tellL
  rw [show tell S 37 (qX c.1) = some (qD c.1) from rfl, Option.bind_some]
  unfold tellL
  rw [this]
  rfl) hz) h
theorem tell_ints {l : List Int} (h : lstAt S x = some (l.map Xv.int)) : tell S 40 x = some (.lst (l.map D.int)) :=
 tell_L (n := 39) (R := fun _ z (i : Int) => z = .int i) (fun z a e => by cases e; rfl) ⟨_, h, by simp, fun i a ha => ⟨.int a, by simp [ha], rfl⟩⟩
theorem hide_le {n : Nat} {c : Ce} : Le (S.set n (.dk [])) (S.set n c) := fun x l h => by
 cases x <;> simp only [lstAt, reduceCtorEq] at h ⊢
 rename_i m
 rw [List.getElem?_set] at h ⊢
 by_cases q : n = m
 ·rw [if_pos q] at h
  by_cases k : n < S.length
  ·rw [if_pos k] at h; cases h
  ·rw [if_neg k] at h; cases h
 ·rw [if_neg q] at h ⊢
  exact h
theorem hide_app {n : Nat} {T : Sto} (hn : n < S.length) : Le (S.set n (.dk [])) ((S ++ T).set n (.dk [])) := by
 rw [List.set_append, if_pos hn]
 exact .pre (List.prefix_append _ _)
theorem pre_set {n : Nat} {c : Ce} (p : S <+: S') (hn : S.length ≤ n) : S <+: S'.set n c := by
 obtain ⟨T, rfl⟩ := p
 rw [List.set_append, if_neg (by omega)]
 exact List.prefix_append _ _
theorem pre_ext {T : Sto} (p : S <+: S') : S <+: S' ++ T := p.trans (List.prefix_append _ _)
theorem pre_ce {n : Nat} {c : Ce} (p : S <+: S') (e : S[n]? = some c) : S'[n]? = some c := by
 obtain ⟨T, rfl⟩ := p
 rw [List.getElem?_append_left (List.getElem?_eq_some_iff.1 e).1]
 exact e
theorem t_copy {g : Net} {c : Int} (ho : NetOk c g) (h : NetAt S x g) : W (tw__law_copy fu [x] S) fun v S' => S <+: S' ∧ NetAt S' v g := by
 walk_at "wr"; unfold tb__law_copy; walk_at "w"
 obtain ⟨xl, e0, el, hk⟩ := h
 have hg : xl.length ≤ 60 := by have := ho.len; have := ho.c60; omega
 refine wx_for (wx_iL ?_)
 walk_at "w"
 refine ⟨xl, lstAt_app e0, xl, lstAt_app e0, ?_⟩
 refine wx_forI (xs := xl) (fun i ρ S2 => ∃ a2, ρ = [some x, some (.ref S.length), a2] ∧ S <+: S2 ∧ ∃ l, S2[S.length]? = some (.lst l) ∧ l.length = i ∧ ∀ (k : Nat) cs, k < i → g[k]? = some cs → ∃ z, l[k]? = some z ∧ LAt ChAt (S2.set S.length (.dk [])) z cs) ?_ ?_ ?_ ?_
 ·rintro i ρ S2 _ ⟨_, _, p, _⟩
  exact Le.pre p _ _ e0
 ·rintro i z ρ S2 hx ⟨a2, rfl, p2, l, c2, l2, k2⟩
  refine .of rfl ?_
  dsimp only [List.set]
  have hi : i < g.length := by rw [← el]; exact (List.getElem?_eq_some_iff.1 hx).1
  obtain ⟨z', e1, e2⟩ := hk i _ (List.getElem?_eq_getElem hi)
  rw [hx] at e1
  cases e1
  obtain ⟨zl, q1, q2, q3⟩ := e2
  have hf := ho.few _ (List.getElem_mem hi)
  generalize hcs : g[i] = cs at q2 q3 hf
  walk_at "w"
  refine wx_mt ?_
  walk_at "w"
  refine ⟨⟨l, lstAt_of c2⟩, ?_⟩
  walk_at "w"
  refine wx_comp (wx_iL ?_)
  walk_at "w"
  refine ⟨zl, Le.pre p2 _ _ q1, zl, Le.pre p2 _ _ q1, ?_⟩
  refine wx_compI (Nat.le_of_lt (Nat.lt_of_le_of_lt (show zl.length ≤ 480 by omega) (by decide))) (fun j es S3 => S2 <+: S3 ∧ es.length = j ∧ ∀ (k : Nat) ch, k < j → cs[k]? = some ch → ∃ z, es[k]? = some z ∧ ChAt (S3.set S.length (.dk [])) z ch) ?_ ?_ ⟨List.prefix_refl _, rfl, fun k ch h => by omega⟩ ?_
  ·rintro _ _ _ _ ⟨p3, _⟩
   exact Le.pre (p2.trans p3) _ _ q1
  ·rintro j w es S3 hw _ ⟨p3, l3, k3⟩
   have hj : j < cs.length := by rw [← q2]; exact (List.getElem?_eq_some_iff.1 hw).1
   obtain ⟨w', r1, r2⟩ := q3 j _ (List.getElem?_eq_getElem hj)
   rw [hw] at r1
   cases r1
   obtain ⟨y, rfl, yl, y1, y2, y3⟩ := r2
   refine .of rfl ?_
   dsimp only [capR, List.map, List.set]
   walk_at "w"
   refine ⟨rfl, ?_⟩
   walk_at "w"
   refine ox_list (Le.pre (p2.trans p3) _ _ y1) ?_
   walk_at "w"
   have hn : S.length < S3.length := Nat.lt_of_lt_of_le (List.getElem?_eq_some_iff.1 c2).1 p3.length_le
   refine ⟨pre_ext p3, by simp [l3], fun k ch hk hc => ?_⟩
   by_cases q : k < j
   ·obtain ⟨z, f1, f2⟩ := k3 k ch q hc
    exact ⟨z, by rw [List.getElem?_append_left (by omega)]; exact f1, f2.mono (hide_app hn)⟩
   ·have : k = j := by omega
    subst this
    rw [List.getElem?_eq_getElem hj] at hc
    cases hc
    refine ⟨_, by rw [List.getElem?_append_right (by omega), l3, Nat.sub_self]; rfl, _, rfl, yl, ?_, y2, y3⟩
    simp only [lstAt]
    rw [List.getElem?_set, if_neg (by omega)]
    simp
  ·rintro es S3 le ⟨p3, l3, k3⟩
   walk_at "w"
   have hn : S.length < S3.length := Nat.lt_of_lt_of_le (List.getElem?_eq_some_iff.1 c2).1 p3.length_le
   have c3 := pre_ce (pre_ext (T := [.lst es]) p3) c2
   refine ox_append (wlAt_of c3) (Nat.lt_of_le_of_lt (show l.length ≤ 60 by omega) (by decide)) ?_
   refine ⟨_, rfl, pre_set (pre_ext (p2.trans p3)) (Nat.le_refl _), l ++ [.ref S3.length], ?_, by simp [l2], fun k cs' hk hc => ?_⟩
   ·rw [List.getElem?_set, if_pos rfl, if_pos (by simp; omega)]
   ·rw [List.set_set]
    by_cases q : k < i
    ·obtain ⟨z, f1, f2⟩ := k2 k cs' q hc
     exact ⟨z, by rw [List.getElem?_append_left (by omega)]; exact f1, ChsAt.mono (by
      obtain ⟨T, rfl⟩ := p3
      rw [List.append_assoc]
      exact hide_app (List.getElem?_eq_some_iff.1 c2).1) f2⟩
    ·have : k = i := by omega
     subst this
     rw [List.getElem?_eq_getElem hi] at hc
     cases hc
     refine ⟨_, by rw [List.getElem?_append_right (by omega), l2, Nat.sub_self]; rfl, es, ?_, by rw [hcs]; omega, fun j ch hj => ?_⟩
     ·simp only [lstAt]
      rw [List.getElem?_set, if_neg (by omega)]
      simp
     ·rw [hcs] at hj
      obtain ⟨z, f1, f2⟩ := k3 j ch (by have := (List.getElem?_eq_some_iff.1 hj).1; omega) hj
      exact ⟨z, f1, f2.mono (hide_app hn)⟩
 ·exact ⟨_, rfl, List.prefix_append _ _, [], by simp, rfl, fun k cs h => by omega⟩
 ·rintro ρ S2 ⟨_, rfl, p2, l, c2, l2, k2⟩
  walk_at "w"
  refine ⟨p2, l, lstAt_of c2, by omega, fun k cs hc => ?_⟩
  obtain ⟨z, f1, f2⟩ := k2 k cs (by have := (List.getElem?_eq_some_iff.1 hc).1; omega) hc
  refine ⟨z, f1, ChsAt.mono ?_ f2⟩
  have := hide_le (S := S2) (n := S.length) (c := .lst l)
  rwa [show S2.set S.length (.lst l) = S2 from List.ext_getElem? fun m => by
   rw [List.getElem?_set]
   split
   ·rename_i q; subst q; rw [if_pos (List.getElem?_eq_some_iff.1 c2).1, c2]
   ·rfl] at this
end
section
variable {fu : Nat} {S S' : Sto} {x y z : Xv} {g : Net} {c : Int}
noncomputable def succ (g : Net) (i : Int) : List Int := ((g[i.toNat]?).getD []).flatMap fun ch => ch.2.map (·.1)
inductive Rch (g : Net) (i : Int) : Int → Prop where
 | here : Rch g i i
 | step {j k : Int} : Rch g i j → k ∈ succ g j → Rch g i k
theorem mem_succ {i : Int} {cs : List Ch} {ch : Ch} {p : Int × Qr} (h : g[i.toNat]? = some cs) (h1 : ch ∈ cs) (h2 : p ∈ ch.2) : p.1 ∈ succ g i := by
 unfold succ
 rw [h]
 exact List.mem_flatMap.2 ⟨ch, h1, List.mem_map.2 ⟨p, h2, rfl⟩⟩
theorem succ_mem {i k : Int} {cs : List Ch} (h : g[i.toNat]? = some cs) (hk : k ∈ succ g i) : ∃ ch ∈ cs, ∃ p ∈ ch.2, p.1 = k := by
 unfold succ at hk
 rw [h] at hk
 obtain ⟨ch, h1, h2⟩ := List.mem_flatMap.1 hk
 obtain ⟨p, h3, h4⟩ := List.mem_map.1 h2
 exact ⟨ch, h1, p, h3, h4⟩
theorem NetOk.at_ (ho : NetOk c g) {i : Int} (h0 : 0 ≤ i) (h1 : i < c) : ∃ cs, g[i.toNat]? = some cs := ⟨_, List.getElem?_eq_getElem (by have := ho.len; omega)⟩
theorem NetOk.succ_in (ho : NetOk c g) {i k : Int} (hk : k ∈ succ g i) : 0 ≤ k ∧ k < c := by
 cases h : g[i.toNat]? with
 | none => unfold succ at hk; rw [h] at hk; cases hk
 | some cs =>
  obtain ⟨ch, h1, p, h2, rfl⟩ := succ_mem h hk
  exact ho.rng cs (List.mem_of_getElem? h) ch h1 p h2
theorem rch_in {l : List Int} {i k : Int} (h : i ∈ l) (hc : ∀ j ∈ l, ∀ k ∈ succ g j, k ∈ l) (hr : Rch g i k) : k ∈ l := by
 induction hr with
 | here => exact h
 | step _ h2 ih => exact hc _ ih _ h2
structure Ahead (c : Int) (g : Net) (i : Int) (l : List Int) : Prop where
 nd : l.Nodup
 rg : ∀ k ∈ l, 0 ≤ k ∧ k < c
 mem : ∀ k, k ∈ l ↔ Rch g i k
theorem Ahead.len {i : Int} {l : List Int} (h : Ahead c g i l) (h0 : 0 ≤ c) (hc : c ≤ 60) : l.length ≤ 60 := by
 have := nd_len c.toNat l h.nd fun x hx => ⟨(h.rg x hx).1, by have := (h.rg x hx).2; omega⟩
 omega
theorem LAt.get {α : Type} {R : Sto → Xv → α → Prop} {as : List α} {i : Nat} {w : Xv} {l : List Xv} (k : ∀ (i : Nat) a, as[i]? = some a → ∃ z, l[i]? = some z ∧ R S z a) (el : l.length = as.length) (h : l[i]? = some w) : ∃ a, as[i]? = some a ∧ R S w a := by
 have hi : i < as.length := by rw [← el]; exact (List.getElem?_eq_some_iff.1 h).1
 obtain ⟨z, e1, e2⟩ := k i _ (List.getElem?_eq_getElem hi)
 rw [h] at e1
 cases e1
 exact ⟨_, List.getElem?_eq_getElem hi, e2⟩
theorem intsX_map : ∀ (l : List Int), intsX (l.map Xv.int) = some l
 | [] => rfl
 | i :: l => by simp [intsX, intsX_map l]
theorem ints_flat (l : List Int) : (l.map Xv.int).all flatX = true := List.all_eq_true.2 fun x hx => by
 obtain ⟨i, _, rfl⟩ := List.mem_map.1 hx
 rfl
theorem any_int {l : List Int} {k : Int} : (l.map Xv.int).any (fun z => eqbX z (.int k)) = decide (k ∈ l) := by
 rw [Bool.eq_iff_iff, List.any_eq_true, decide_eq_true_iff]
 constructor
 ·rintro ⟨z, hz, e⟩
  obtain ⟨i, hi, rfl⟩ := List.mem_map.1 hz
  have : i = k := by simpa [eqbX] using e
  exact this ▸ hi
 ·exact fun h => ⟨.int k, List.mem_map.2 ⟨k, h, rfl⟩, by simp [eqbX]⟩
theorem seq_of {n : Nat} {l : List Xv} (h : S[n]? = some (.lst l)) : seqAt S (.ref n) = some l := by
 unfold seqAt
 dsimp only [Xv.tupOf]
 exact lstAt_of h
structure Bel (c : Int) (g : Net) (i : Int) (l : List Int) : Prop where
 nd : l.Nodup
 rg : ∀ k ∈ l, 0 ≤ k ∧ k < c
 rch : ∀ k ∈ l, Rch g i k
 here : i ∈ l
theorem Bel.len {i : Int} {l : List Int} (h : Bel c g i l) (hc : c ≤ 60) : l.length ≤ 60 := by
 have h0 := h.rg _ h.here
 have := nd_len c.toNat l h.nd fun x hx => ⟨(h.rg x hx).1, by have := (h.rg x hx).2; omega⟩
 omega
theorem Bel.lenc {i : Int} {l : List Int} (h : Bel c g i l) : (l.length : Int) ≤ c := by
 have h0 := h.rg _ h.here
 have := nd_len c.toNat l h.nd fun x hx => ⟨(h.rg x hx).1, by have := (h.rg x hx).2; omega⟩
 omega
theorem Bel.add {i j k : Int} {l : List Int} (ho : NetOk c g) (h : Bel c g i l) (hj : j ∈ l) (hk : k ∈ succ g j) (hn : k ∉ l) : Bel c g i (l ++ [k]) := by
 refine ⟨List.nodup_append.2 ⟨h.nd, by simp, fun a ha b hb => ?_⟩, fun m hm => ?_, fun m hm => ?_, by simp [h.here]⟩
 ·simp at hb
  subst hb
  exact fun z => hn (z ▸ ha)
 ·rcases List.mem_append.1 hm with hm | hm
  ·exact h.rg m hm
  ·simp at hm; subst hm; exact ho.succ_in hk
 ·rcases List.mem_append.1 hm with hm | hm
  ·exact h.rch m hm
  ·simp at hm; subst hm; exact .step (h.rch j hj) hk
theorem set_new {l l' : List Xv} {n : Nat} (h : S[n]? = some (.lst l)) : (S.set n (.lst l'))[n]? = some (.lst l') := by rw [List.getElem?_set, if_pos rfl, if_pos (List.getElem?_eq_some_iff.1 h).1]
theorem fu60 (hb : Big fu) {c : Int} (h : c ≤ 60) : c + 2 < fu := by
 have := hb.le
 omega
end
section
variable {fu : Nat} {S S' : Sto} {x y z : Xv} {g : Net} {c : Int}
theorem below_loop (ho : NetOk c g) (h : NetAt S x g) {i : Int} {nn : Nat} (hnn : S.length ≤ nn) : ∀ (n : Nat) (k : Nat) (l : List Int) (S1 : Sto) (a4 a5 : Option Xv), S <+: S1 → S1[nn]? = some (.lst (l.map Xv.int)) → Bel c g i l → k ≤ l.length → (∀ m ∈ l.take k, ∀ q ∈ succ g m, q ∈ l) → c < n + k →
  WS (whTw (bE (eOp dLt (eVar 3) (eFn dLen [(eVar 2)]))) (sSeq (sFor (iL (eOp dIxL (eVar 0) (eOp dIxL (eVar 2) (eVar 3)))) (gN 4) (sFor (iL (eOp dIxT (eVar 4) (eC (.int 1)))) (gN 5) (sIf (bE (eOp (dIn true) (eOp dIxT (eVar 5) (eC (.int 0))) (eVar 2))) (sExpr (eMt mAppend (eVar 2) [(eOp dIxT (eVar 5) (eC (.int 0)))])) sNext))) (sAsg (eOp dAdd (eVar 3) (eC (.int 1))) (gN 3))) n [some x, some (.int i), some (.ref nn), some (.int k), a4, a5] S1) (fun ρ S' => ∃ l a3 a4 a5, ρ = [some x, some (.int i), some (.ref nn), a3, a4, a5] ∧ S <+: S' ∧ S'[nn]? = some (.lst (l.map Xv.int)) ∧ Ahead c g i l) (fun _ _ => False) := by
 intro n
 induction n with
 | zero => intro k l S1 a4 a5 _ _ B hk _ hc; have := B.lenc; omega
 | succ n ih =>
  intro k l S1 a4 a5 p1 c1 B hk hcl hc
  refine wx_turn ?_
  walk_at "w"
  refine ox_len (lstAt_of c1) ?_
  walk_at "w"
  rw [List.length_map]
  refine wx_ifT (fun hlt => ?_) (fun hlt => ?_)
  ·have hlt : k < l.length := by omega
   have hm : l[k] ∈ l := List.getElem_mem hlt
   obtain ⟨m0, m1⟩ := B.rg _ hm
   obtain ⟨cs, hcs⟩ := ho.at_ m0 m1
   obtain ⟨xl, x1, x2, x3⟩ := h
   obtain ⟨cz, z1, zl, z2, z3, z4⟩ := x3 _ _ hcs
   walk_at "w"
   refine wx_for (wx_iL ?_)
   walk_at "w"
   refine ox_ixL (lstAt_of c1) (atI_nn (by omega) (by rw [Int.toNat_natCast, List.getElem?_map, List.getElem?_eq_getElem hlt]; rfl)) ?_
   refine ox_ixL (Le.pre p1 _ _ x1) (atI_nn m0 z1) ?_
   refine ⟨zl, Le.pre p1 _ _ z2, zl, Le.pre p1 _ _ z2, ?_⟩
   generalize hnode : l[k] = m at hm m0 m1 hcs z1
   refine wx_forI (xs := zl) (fun j ρ S2 => ∃ l2 a4 a5, ρ = [some x, some (.int i), some (.ref nn), some (.int k), a4, a5] ∧ S <+: S2 ∧ S2[nn]? = some (.lst (l2.map Xv.int)) ∧ Bel c g i l2 ∧ l <+: l2 ∧ ∀ (j' : Nat) ch, j' < j → cs[j']? = some ch → ∀ p ∈ ch.2, p.1 ∈ l2) ?_ ?_ ?_ ?_
   ·rintro j ρ S2 _ ⟨_, _, _, _, p2, _⟩
    exact Le.pre p2 _ _ z2
   ·rintro j w ρ S2 hw ⟨l2, a4, a5, rfl, p2, c2, B2, q2, d2⟩
    obtain ⟨ch, hch, y, rfl, yl, y1, y2, y3⟩ := LAt.get z4 z3 hw
    refine .of rfl ?_
    dsimp only [List.set]
    refine wx_for (wx_iL ?_)
    walk_at "w"
    refine ⟨yl, Le.pre p2 _ _ y1, yl, Le.pre p2 _ _ y1, ?_⟩
    refine wx_forI (xs := yl) (fun r ρ S3 => ∃ l3 a5, ρ = [some x, some (.int i), some (.ref nn), some (.int k), some (.tup [qX ch.1, y]), a5] ∧ S <+: S3 ∧ S3[nn]? = some (.lst (l3.map Xv.int)) ∧ Bel c g i l3 ∧ l2 <+: l3 ∧ ∀ (r' : Nat) p, r' < r → ch.2[r']? = some p → p.1 ∈ l3) ?_ ?_ ?_ ?_
    ·rintro j ρ S2 _ ⟨_, _, _, p2, _⟩
     exact Le.pre p2 _ _ y1
    ·rintro r w ρ S3 hw ⟨l3, a5, rfl, p3, c3, B3, q3, d3⟩
     obtain ⟨p, hp, rfl⟩ := LAt.get y3 y2 hw
     have hsu : p.1 ∈ succ g m := mem_succ hcs (List.mem_of_getElem? hch) (List.mem_of_getElem? hp)
     refine .of rfl ?_
     dsimp only [List.set]
     refine wx_if ?_
     walk_at "w"
     refine ox_in (l := l3.map Xv.int) (seq_of c3) (by rw [ints_flat]; rfl) ?_
     rw [any_int]
     refine ⟨_, rfl, fun e => ?_, fun e => ?_⟩
     ·have hn : p.1 ∉ l3 := by simpa using e
      walk_at "w"
      refine wx_mt ?_
      walk_at "w"
      refine ⟨⟨_, lstAt_of c3⟩, ?_⟩
      walk_at "w"
      have B4 := B3.add ho ((q2.trans q3).subset hm) hsu hn
      refine ox_append (wlAt_of c3) (by rw [List.length_map]; exact sz64 (by have := B3.len ho.c60; omega)) ?_
      refine ⟨l3 ++ [p.1], _, rfl, pre_set p3 hnn, by rw [List.map_append]; exact set_new c3, B4, q3.trans (List.prefix_append _ _), fun r' p' hr hp' => ?_⟩
      by_cases q : r' < r
      ·exact List.mem_append_left _ (d3 r' p' q hp')
      ·have : r' = r := by omega
       subst this
       rw [hp] at hp'
       cases hp'
       simp
     ·have hn : p.1 ∈ l3 := by simpa using e
      walk_at "w"
      refine ⟨l3, _, rfl, p3, c3, B3, q3, fun r' p' hr hp' => ?_⟩
      by_cases q : r' < r
      ·exact d3 r' p' q hp'
      ·have : r' = r := by omega
       subst this
       rw [hp] at hp'
       cases hp'
       exact hn
    ·exact ⟨l2, _, rfl, p2, c2, B2, List.prefix_refl _, fun r' p h => by omega⟩
    ·rintro ρ S3 ⟨l3, a5, rfl, p3, c3, B3, q3, d3⟩
     refine ⟨l3, _, _, rfl, p3, c3, B3, q2.trans q3, fun j' ch' hj hc' p hp => ?_⟩
     by_cases q : j' < j
     ·exact q3.subset (d2 j' ch' q hc' p hp)
     ·have : j' = j := by omega
      subst this
      rw [hch] at hc'
      cases hc'
      obtain ⟨r, hr⟩ := List.getElem?_of_mem hp
      exact d3 r p (by have := (List.getElem?_eq_some_iff.1 hr).1; omega) hr
   ·exact ⟨l, _, _, rfl, p1, c1, B, List.prefix_refl _, fun j' ch h => by omega⟩
   ·rintro ρ S2 ⟨l2, a4, a5, rfl, p2, c2, B2, q2, d2⟩
    walk_at "w"
    have := q2.length_le
    refine ih (k + 1) l2 S2 a4 a5 p2 c2 B2 (by omega) (fun q hq s hs => ?_) (by omega)
    obtain ⟨r, rfl⟩ := q2
    rw [List.take_append_of_le_length (by omega), List.take_succ_eq_append_getElem hlt] at hq
    rcases List.mem_append.1 hq with hq | hq
    ·exact List.mem_append_left _ (hcl q hq s hs)
    ·simp at hq
     rw [hnode] at hq
     subst hq
     obtain ⟨ch, h1, p, h2, rfl⟩ := succ_mem hcs hs
     obtain ⟨j, hj⟩ := List.getElem?_of_mem h1
     exact d2 j ch (by have := (List.getElem?_eq_some_iff.1 hj).1; omega) hj p h2
  ·have : k = l.length := by omega
   subst this
   rw [List.take_length] at hcl
   exact ⟨l, _, _, _, rfl, p1, c1, ⟨B.nd, B.rg, fun q => ⟨B.rch q, rch_in B.here hcl⟩⟩⟩
theorem t_below (hbg : Big fu) (ho : NetOk c g) (h : NetAt S x g) {i : Int} (h0 : 0 ≤ i) (h1 : i < c) : W (tw__law_below fu [x, .int i] S) fun v S' => S <+: S' ∧ ∃ l, Ahead c g i l ∧ lstAt S' v = some ((sortI l).map Xv.int) := by
 walk_at "wr"; unfold tb__law_below; walk_at "w"
 refine wx_wh ?_
 have hl := below_loop ho h (i := i) (Nat.le_refl _) fu 0 [i] (S ++ [.lst [.int i]]) none none (List.prefix_append _ _) (by simp) ⟨by simp, by simp; omega, by simp; exact .here, by simp⟩ (by simp) (by simp) (by have := fu60 hbg ho.c60; omega)
 rcases hl with ⟨ρ, S', e, l, a3, a4, a5, rfl, p, c1, A⟩ | ⟨_, _, _, z⟩
 ·refine .nx e ?_
  walk_at "w"
  refine ox_sortI (lstAt_of c1) (intsX_map l) (by have := A.len (by omega) ho.c60; omega) ?_
  exact ⟨pre_ext p, l, A, lstAt_new⟩
 ·exact z.elim
end
section
variable {fu : Nat} {S S' : Sto} {x y z : Xv} {g : Net} {c : Int}
theorem keys_keep {kvs : List (Key × Xv)} {k j : Key} {x : Xv} (h : j ∈ kvs.map (·.1)) : j ∈ (putX kvs k x).map (·.1) := by
 rcases keys_putX kvs k x with ⟨_, e⟩ | ⟨_, e⟩ <;> rw [e]
 ·exact h
 ·exact List.mem_append_left _ h
theorem set_dk {l l' : List (Key × Xv)} {n : Nat} (h : S[n]? = some (.dk l)) : (S.set n (.dk l'))[n]? = some (.dk l') := by rw [List.getElem?_set, if_pos rfl, if_pos (List.getElem?_eq_some_iff.1 h).1]
theorem set_else {n m : Nat} {cell cc : Ce} (h : S[m]? = some cell) (q : n ≠ m) : (S.set n cc)[m]? = some cell := by rw [List.getElem?_set, if_neg q]; exact h
theorem KeysIn.few {kvs : List (Key × Xv)} (h : KeysIn kvs c) (hc : c ≤ 60) : kvs.length < sizeLine := by
 obtain ⟨is, _, e, _, _, k⟩ := h.ints
 have : kvs.length = is.length := by rw [← List.length_map (f := (·.1)), e, List.length_map]
 exact sz64 (by omega)
theorem t_next (ho : NetOk c g) {i : Int} {cs : List Ch} (hcs : g[i.toNat]? = some cs) (h : LAt ChAt S z cs) : W (tw_next_nodes fu [z] S) fun v S' => S <+: S' ∧ ∃ (n : Nat) (l : List Int), v = .ref n ∧ S.length ≤ n ∧ S'[n]? = some (.lst (l.map Xv.int)) ∧ ∀ k, k ∈ l ↔ k ∈ succ g i := by
 walk_at "wr"; unfold tb_next_nodes; walk_at "w"
 obtain ⟨zl, z2, z3, z4⟩ := h
 refine wx_for (wx_iL ?_)
 walk_at "w"
 refine ⟨zl, lstAt_app z2, zl, lstAt_app z2, ?_⟩
 refine wx_forI (xs := zl) (fun j ρ S2 => ∃ kvs a2 a3 a4 a5, ρ = [some z, some (.ref S.length), a2, a3, a4, a5] ∧ S <+: S2 ∧ S2[S.length]? = some (.dk kvs) ∧ KeysIn kvs c ∧ (∀ q, .inl q ∈ kvs.map (·.1) → q ∈ succ g i) ∧ ∀ (j' : Nat) ch, j' < j → cs[j']? = some ch → ∀ p ∈ ch.2, .inl p.1 ∈ kvs.map (·.1)) ?_ ?_ ?_ ?_
 ·rintro j ρ S2 _ ⟨_, _, _, _, _, _, p2, _⟩
  exact Le.pre p2 _ _ z2
 ·rintro j w ρ S2 hw ⟨kvs, a2, a3, a4, a5, rfl, p2, c2, K2, s2, d2⟩
  obtain ⟨ch, hch, y, rfl, yl, y1, y2, y3⟩ := LAt.get z4 z3 hw
  refine .of rfl ?_
  dsimp only [List.set]
  refine wx_for (wx_iL ?_)
  walk_at "w"
  refine ⟨yl, Le.pre p2 _ _ y1, yl, Le.pre p2 _ _ y1, ?_⟩
  refine wx_forI (xs := yl) (fun r ρ S3 => ∃ kvs3 a4 a5, ρ = [some z, some (.ref S.length), some (qX ch.1), some y, a4, a5] ∧ S <+: S3 ∧ S3[S.length]? = some (.dk kvs3) ∧ KeysIn kvs3 c ∧ (∀ q, .inl q ∈ kvs3.map (·.1) → q ∈ succ g i) ∧ (∀ q, q ∈ kvs.map (·.1) → q ∈ kvs3.map (·.1)) ∧ ∀ (r' : Nat) p, r' < r → ch.2[r']? = some p → .inl p.1 ∈ kvs3.map (·.1)) ?_ ?_ ?_ ?_
  ·rintro j ρ S2 _ ⟨_, _, _, _, p2, _⟩
   exact Le.pre p2 _ _ y1
  ·rintro r w ρ S3 hw ⟨kvs3, a4, a5, rfl, p3, c3, K3, s3, m3, d3⟩
   obtain ⟨p, hp, rfl⟩ := LAt.get y3 y2 hw
   have hsu : p.1 ∈ succ g i := mem_succ hcs (List.mem_of_getElem? hch) (List.mem_of_getElem? hp)
   obtain ⟨b0, b1⟩ := ho.succ_in hsu
   refine .of rfl ?_
   dsimp only [List.set]
   refine wx_dput ?_
   walk_at "w"
   refine ⟨S.length, kvs3, .inl p.1, dkAt_of c3, rfl, K3.few ho.c60, _, _, _, rfl, pre_set p3 (Nat.le_refl _), set_dk c3, K3.put b0 b1, fun q hq => ?_, fun q hq => keys_keep (m3 q hq), fun r' p' hr hp' => ?_⟩
   ·rcases keys_putX kvs3 (.inl p.1) (.bl true) with ⟨_, e⟩ | ⟨_, e⟩ <;> rw [e] at hq
    ·exact s3 q hq
    ·rcases List.mem_append.1 hq with hq | hq
     ·exact s3 q hq
     ·simp at hq; exact hq ▸ hsu
   ·by_cases q : r' < r
    ·exact keys_keep (d3 r' p' q hp')
    ·have : r' = r := by omega
     subst this
     rw [hp] at hp'
     cases hp'
     exact keys_put_mem
  ·exact ⟨kvs, _, _, rfl, p2, c2, K2, s2, fun _ h => h, fun r' p h => by omega⟩
  ·rintro ρ S3 ⟨kvs3, a4, a5, rfl, p3, c3, K3, s3, m3, d3⟩
   refine ⟨kvs3, _, _, _, _, rfl, p3, c3, K3, s3, fun j' ch' hj hc' p hp => ?_⟩
   by_cases q : j' < j
   ·exact m3 _ (d2 j' ch' q hc' p hp)
   ·have : j' = j := by omega
    subst this
    rw [hch] at hc'
    cases hc'
    obtain ⟨r, hr⟩ := List.getElem?_of_mem hp
    exact d3 r p (by have := (List.getElem?_eq_some_iff.1 hr).1; omega) hr
 ·exact ⟨[], _, _, _, _, rfl, List.prefix_append _ _, by simp, ⟨by simp, by simp⟩, by simp, fun j' ch h => by omega⟩
 ·rintro ρ S2 ⟨kvs, a2, a3, a4, a5, rfl, p2, c2, K2, s2, d2⟩
  walk_at "w"
  obtain ⟨is, e1, e2, e3, e4, e5⟩ := K2.ints
  refine ox_listD (dkAt_of c2) e1 ?_
  refine ⟨pre_ext p2, _, is, rfl, p2.length_le, by simp, fun k => ?_⟩
  have hk : k ∈ is ↔ Sum.inl k ∈ kvs.map (·.1) := by
   rw [e2]
   exact ⟨fun h => List.mem_map.2 ⟨k, h, rfl⟩, fun h => by obtain ⟨a, h1, h2⟩ := List.mem_map.1 h; cases h2; exact h1⟩
  rw [hk]
  refine ⟨s2 k, fun hs => ?_⟩
  obtain ⟨ch, h1, p, h2, rfl⟩ := succ_mem hcs hs
  obtain ⟨j, hj⟩ := List.getElem?_of_mem h1
  exact d2 j ch (by have := (List.getElem?_eq_some_iff.1 hj).1; omega) hj p h2
theorem keys_in {kvs : List (Key × Xv)} {ks : List Int} (e : kvs.map (·.1) = ks.map Sum.inl) (nd : ks.Nodup) (rg : ∀ k ∈ ks, 0 ≤ k ∧ k < c) : KeysIn kvs c := by
 refine ⟨?_, fun p hp => ?_⟩
 ·rw [e]
  exact List.Pairwise.map _ (fun a b (h : a ≠ b) => fun z => h (Sum.inl.inj z)) nd
 ·have : p.1 ∈ kvs.map (·.1) := List.mem_map.2 ⟨p, hp, rfl⟩
  rw [e] at this
  obtain ⟨k, h1, h2⟩ := List.mem_map.1 this
  exact ⟨k, h2.symm, rg k h1⟩
theorem key_mem {kvs : List (Key × Xv)} {ks : List Int} (e : kvs.map (·.1) = ks.map Sum.inl) {k : Int} : (valX kvs (.inl k)).isSome = decide (k ∈ ks) := by
 rw [Bool.eq_iff_iff, decide_eq_true_iff]
 have hk : k ∈ ks ↔ Sum.inl k ∈ kvs.map (·.1) := by
  rw [e]
  exact ⟨fun h => List.mem_map.2 ⟨k, h, rfl⟩, fun h => by obtain ⟨a, h1, h2⟩ := List.mem_map.1 h; cases h2; exact h1⟩
 rw [hk]
 cases h : valX kvs (.inl k) with
 | none => simp only [Option.isSome]; exact ⟨fun z => (by cases z), fun z => (valX_none h z).elim⟩
 | some v => exact ⟨fun _ => List.mem_map.2 ⟨_, valX_mem h, rfl⟩, fun _ => rfl⟩
theorem keys_new {kvs : List (Key × Xv)} {ks : List Int} {k : Int} (e : kvs.map (·.1) = ks.map Sum.inl) (h : k ∉ ks) : (putX kvs (.inl k) x).map (·.1) = (ks ++ [k]).map Sum.inl := by
 rcases keys_putX kvs (.inl k) x with ⟨q, _⟩ | ⟨_, q⟩
 ·rw [e] at q
  obtain ⟨a, h1, h2⟩ := List.mem_map.1 q
  cases h2
  exact (h h1).elim
 ·rw [q, e, List.map_append]
  rfl
end
section
variable {fu : Nat} {S S' : Sto} {x y z : Xv} {g : Net} {c s : Int}
inductive Wk (g : Net) (s : Int) : Nat → Int → Prop where
 | zero : Wk g s 0 s
 | step {k : Nat} {m q : Int} : Wk g s k m → q ∈ succ g m → Wk g s (k + 1) q
noncomputable def Dst (g : Net) (s : Int) (k : Nat) (q : Int) : Prop := Wk g s k q ∧ ∀ j, j < k → ¬ Wk g s j q
theorem Dst.uniq {k l : Nat} {q : Int} (h : Dst g s k q) (h2 : Dst g s l q) : k = l := by
 rcases Nat.lt_trichotomy k l with e | e | e
 ·exact (h2.2 k e h.1).elim
 ·exact e
 ·exact (h.2 l e h2.1).elim
theorem Wk.pred {k : Nat} {q : Int} (h : Wk g s (k + 1) q) : ∃ m, Wk g s k m ∧ q ∈ succ g m := by
 cases h with
 | step h1 h2 => exact ⟨_, h1, h2⟩
theorem near {q : Int} : ∀ {k : Nat}, Wk g s k q → ∃ j, j ≤ k ∧ Dst g s j q := by
 intro k
 induction k using Nat.strongRecOn with
 | ind k ih =>
  intro h
  by_cases hj : ∃ j, j < k ∧ Wk g s j q
  ·obtain ⟨j, h1, h2⟩ := hj
   obtain ⟨i, h3, h4⟩ := ih j h1 h2
   exact ⟨i, by omega, h4⟩
  ·exact ⟨k, Nat.le_refl _, h, fun j h1 h2 => hj ⟨j, h1, h2⟩⟩
structure Bfs (c : Int) (g : Net) (s : Int) (k : Nat) (ks layer : List Int) : Prop where
 nd : ks.Nodup
 rg : ∀ q ∈ ks, 0 ≤ q ∧ q < c
 mem : ∀ q, q ∈ ks ↔ ∃ j, j ≤ k ∧ Wk g s j q
 lay : ∀ q, q ∈ layer ↔ Dst g s k q
structure Mid (c : Int) (g : Net) (s : Int) (k : Nat) (ks fa : List Int) : Prop where
 nd : (ks ++ fa).Nodup
 rg : ∀ q ∈ ks ++ fa, 0 ≤ q ∧ q < c
 wk : ∀ q ∈ fa, Wk g s (k + 1) q
theorem Mid.lenc {k : Nat} {ks fa : List Int} (h : Mid c g s k ks fa) (h0 : 0 ≤ c) : ((ks ++ fa).length : Int) ≤ c := by
 have := nd_len c.toNat _ h.nd fun x hx => ⟨(h.rg x hx).1, by have := (h.rg x hx).2; omega⟩
 omega
theorem Mid.add {k : Nat} {ks fa : List Int} {m q : Int} (ho : NetOk c g) (h : Mid c g s k ks fa) (hm : Wk g s k m) (hq : q ∈ succ g m) (hn : q ∉ ks ++ fa) : Mid c g s k ks (fa ++ [q]) := by
 refine ⟨?_, fun p hp => ?_, fun p hp => ?_⟩
 ·rw [← List.append_assoc]
  refine List.nodup_append.2 ⟨h.nd, by simp, fun a ha b hb => ?_⟩
  simp at hb
  subst hb
  exact fun z => hn (z ▸ ha)
 ·rw [← List.append_assoc] at hp
  rcases List.mem_append.1 hp with hp | hp
  ·exact h.rg p hp
  ·simp at hp; subst hp; exact ho.succ_in hq
 ·rcases List.mem_append.1 hp with hp | hp
  ·exact h.wk p hp
  ·simp at hp; subst hp; exact .step hm hq
theorem Bfs.far {k : Nat} {ks layer : List Int} {m q : Int} (h : Bfs c g s k ks layer) (hm : Wk g s k m) (hq : q ∈ succ g m) (hn : q ∉ ks) : Dst g s (k + 1) q := ⟨.step hm hq, fun j hj hw => hn ((h.mem q).2 ⟨j, by omega, hw⟩)⟩
theorem Bfs.next {k : Nat} {ks layer fa : List Int} (h : Bfs c g s k ks layer) (m : Mid c g s k ks fa) (hd : ∀ m ∈ layer, ∀ q ∈ succ g m, q ∈ ks ++ fa) : Bfs c g s (k + 1) (ks ++ fa) fa := by
 have hmem : ∀ q, q ∈ ks ++ fa ↔ ∃ j, j ≤ k + 1 ∧ Wk g s j q := fun q => by
  constructor
  ·intro hq
   rcases List.mem_append.1 hq with hq | hq
   ·obtain ⟨j, h1, h2⟩ := (h.mem q).1 hq
    exact ⟨j, by omega, h2⟩
   ·exact ⟨k + 1, Nat.le_refl _, m.wk q hq⟩
  ·rintro ⟨j, h1, h2⟩
   by_cases hj : j ≤ k
   ·exact List.mem_append_left _ ((h.mem q).2 ⟨j, hj, h2⟩)
   ·have : j = k + 1 := by omega
    subst this
    obtain ⟨p, hp, hs⟩ := h2.pred
    by_cases hl : p ∈ layer
    ·exact hd p hl q hs
    ·have : ∃ i, i < k ∧ Wk g s i p := by
      apply Classical.byContradiction
      intro hn
      exact hl ((h.lay p).2 ⟨hp, fun i h1 h2 => hn ⟨i, h1, h2⟩⟩)
     obtain ⟨i, h3, h4⟩ := this
     exact List.mem_append_left _ ((h.mem q).2 ⟨i + 1, h3, .step h4 hs⟩)
 refine ⟨m.nd, m.rg, hmem, fun q => ⟨fun hq => ⟨m.wk q hq, fun j hj hw => ?_⟩, fun hq => ?_⟩⟩
 ·have h1 : q ∈ ks := (h.mem q).2 ⟨j, by omega, hw⟩
  exact (List.nodup_append.1 m.nd).2.2 q h1 q hq rfl
 ·rcases List.mem_append.1 ((hmem q).2 ⟨k + 1, Nat.le_refl _, hq.1⟩) with h1 | h1
  ·obtain ⟨j, h2, h3⟩ := (h.mem q).1 h1
   exact (hq.2 j (by omega) h3).elim
  ·exact h1
theorem Bfs.all {k : Nat} {ks : List Int} (h : Bfs c g s k ks []) {q : Int} : q ∈ ks ↔ ∃ j, Wk g s j q := by
 rw [h.mem]
 refine ⟨fun ⟨j, _, h⟩ => ⟨j, h⟩, fun ⟨j, hj⟩ => ?_⟩
 induction hj with
 | zero => exact ⟨0, by omega, .zero⟩
 | step h1 h2 ih =>
  obtain ⟨i, h3, h4⟩ := ih ⟨_, h1⟩
  obtain ⟨l, h5, h6⟩ := near h4
  have : l ≠ k := fun e => by
   subst e
   have := (h.lay _).2 h6
   cases this
  exact ⟨l + 1, by omega, .step h6.1 h2⟩
theorem Bfs.one (h0 : 0 ≤ s) (h1 : s < c) : Bfs c g s 0 [s] [s] := by
 refine ⟨by simp, by simp; omega, fun q => ?_, fun q => ?_⟩
 ·constructor
  ·intro hq
   simp at hq
   subst hq
   exact ⟨0, Nat.le_refl _, .zero⟩
  ·rintro ⟨j, h1, h2⟩
   have : j = 0 := by omega
   subst this
   cases h2
   simp
 ·constructor
  ·intro hq
   simp at hq
   subst hq
   exact ⟨.zero, fun j hj => by omega⟩
  ·rintro ⟨h2, _⟩
   cases h2
   simp
noncomputable def Vals (V : Int → Xv → Prop) (kvs : List (Key × Xv)) : Prop := ∀ p ∈ kvs, ∃ q : Int, p.1 = .inl q ∧ V q p.2
theorem Vals.put {V : Int → Xv → Prop} {kvs : List (Key × Xv)} {q : Int} {v : Xv} (h : Vals V kvs) (hv : V q v) : Vals V (putX kvs (.inl q) v) := fun p hp => by
 rcases mem_putX hp with hp | rfl
 ·exact h p hp
 ·exact ⟨q, rfl, hv⟩
theorem Vals.get {V : Int → Xv → Prop} {kvs : List (Key × Xv)} {q : Int} {v : Xv} (h : Vals V kvs) (hv : valX kvs (.inl q) = some v) : V q v := by
 obtain ⟨q', e, hq⟩ := h _ (valX_mem hv)
 cases e
 exact hq
structure Told (V : Int → Xv → Prop) (c : Int) (g : Net) (s : Int) (kvs : List (Key × Xv)) (l : List Int) : Prop where
 key : kvs.map (·.1) = l.map Sum.inl
 nd : l.Nodup
 rg : ∀ q ∈ l, 0 ≤ q ∧ q < c
 mem : ∀ q, q ∈ l ↔ ∃ j, Wk g s j q
 val : Vals V kvs
noncomputable def VP (g : Net) (s q : Int) (v : Xv) : Prop := (q = s ∧ v = .non) ∨ ∃ (p : Int) (j : Nat), v = .int p ∧ Dst g s j p ∧ q ∈ succ g p ∧ Dst g s (j + 1) q
theorem ahead_loop (ho : NetOk c g) (h0 : 0 ≤ c) (h : NetAt S x g) {dn : Nat} (hdn : S.length ≤ dn) : ∀ (n k : Nat) (kvs : List (Key × Xv)) (ks layer : List Int) (ln : Nat) (S1 : Sto) (a4 a5 a6 : Option Xv), S <+: S1 → S1[dn]? = some (.dk kvs) → kvs.map (·.1) = ks.map Sum.inl → Vals (VP g s) kvs → S1[ln]? = some (.lst (layer.map Xv.int)) → Bfs c g s k ks layer → (layer ≠ [] → c + 2 ≤ n + ks.length) → 1 ≤ n →
  WS (whTw (bE (eOp dGt (eFn dLen [(eVar 3)]) (eC (.int 0)))) (sSeq (sAsg (eLst []) (gN 4)) (sSeq (sFor (iL (eVar 3)) (gN 5) (sFor (iL (eCall (tw_next_nodes fu) [(eOp dIxL (eVar 0) (eVar 5))])) (gN 6) (sIf (bE (eDIn true (eVar 6) (eVar 2))) (sSeq (sDPutX (eVar 2) (eVar 6) (eVar 5)) (sExpr (eMt mAppend (eVar 4) [(eVar 6)]))) sNext))) (sAsg (eVar 4) (gN 3)))) n [some x, some (.int s), some (.ref dn), some (.ref ln), a4, a5, a6] S1) (fun ρ S' => ∃ kvs l a3 a4 a5 a6, ρ = [some x, some (.int s), some (.ref dn), a3, a4, a5, a6] ∧ S <+: S' ∧ S'[dn]? = some (.dk kvs) ∧ Told (VP g s) c g s kvs l) (fun _ _ => False) := by
 intro n
 induction n with
 | zero => intro k kvs ks layer ln S1 a4 a5 a6 _ _ _ _ _ _ _ z; omega
 | succ n ih =>
  intro k kvs ks layer ln S1 a4 a5 a6 p1 c1 k1 v1 y1 B hme _
  refine wx_turn ?_
  walk_at "w"
  refine ox_len (lstAt_of y1) ?_
  walk_at "w"
  rw [List.length_map]
  refine wx_ifT (fun hlt => ?_) (fun hlt => ?_)
  ·have hne : layer ≠ [] := fun z => by subst z; simp at hlt
   obtain ⟨xl, x1, x2, x3⟩ := h
   walk_at "w"
   have hdl := (List.getElem?_eq_some_iff.1 c1).1
   have hll := (List.getElem?_eq_some_iff.1 y1).1
   have hsl := p1.length_le
   refine wx_for (wx_iL ?_)
   walk_at "w"
   refine ⟨_, lstAt_app (lstAt_of y1), _, lstAt_app (lstAt_of y1), ?_⟩
   refine wx_forI (xs := layer.map Xv.int) (fun j ρ S2 => ∃ kvs2 fa a5 a6, ρ = [some x, some (.int s), some (.ref dn), some (.ref ln), some (.ref S1.length), a5, a6] ∧ S <+: S2 ∧ S2[dn]? = some (.dk kvs2) ∧ kvs2.map (·.1) = (ks ++ fa).map Sum.inl ∧ Vals (VP g s) kvs2 ∧ S2[S1.length]? = some (.lst (fa.map Xv.int)) ∧ S2[ln]? = some (.lst (layer.map Xv.int)) ∧ Mid c g s k ks fa ∧ ∀ (j' : Nat) m, j' < j → layer[j']? = some m → ∀ q ∈ succ g m, q ∈ ks ++ fa) ?_ ?_ ?_ ?_
   ·rintro j ρ S2 _ ⟨_, _, _, _, _, _, _, _, _, _, q, _⟩
    exact lstAt_of q
   ·rintro j w ρ S2 hw ⟨kvs2, fa, a5, a6, rfl, p2, c2, k2, v2, f2, y2, B2, d2⟩
    rw [List.getElem?_map] at hw
    cases hm : layer[j]? with
    | none => rw [hm] at hw; cases hw
    | some m =>
     rw [hm] at hw
     cases hw
     have hml : Dst g s k m := (B.lay m).1 (List.mem_of_getElem? hm)
     have hmk : m ∈ ks := (B.mem m).2 ⟨k, Nat.le_refl _, hml.1⟩
     obtain ⟨m0, m1⟩ := B.rg m hmk
     obtain ⟨cs, hcs⟩ := ho.at_ m0 m1
     obtain ⟨cz, z1, z2⟩ := x3 _ _ hcs
     refine .of rfl ?_
     dsimp only [List.set]
     refine wx_for (wx_iL ?_)
     walk_at "w"
     refine ox_ixL (Le.pre p2 _ _ x1) (atI_nn m0 z1) ?_
     walk_at "w"
     refine (t_next ho hcs (ChsAt.mono (Le.pre p2) z2)).imp ?_
     rintro _ S3 ⟨p3, tn, l, rfl, htn, c3, hl⟩
     have hf2 := (List.getElem?_eq_some_iff.1 f2).1
     have hd2 := (List.getElem?_eq_some_iff.1 c2).1
     have hy2 := (List.getElem?_eq_some_iff.1 y2).1
     refine ⟨_, lstAt_of c3, _, lstAt_of c3, ?_⟩
     refine wx_forI (xs := l.map Xv.int) (fun r ρ S4 => ∃ kvs4 fa4 a6, ρ = [some x, some (.int s), some (.ref dn), some (.ref ln), some (.ref S1.length), some (.int m), a6] ∧ S <+: S4 ∧ S4[dn]? = some (.dk kvs4) ∧ kvs4.map (·.1) = (ks ++ fa4).map Sum.inl ∧ Vals (VP g s) kvs4 ∧ S4[S1.length]? = some (.lst (fa4.map Xv.int)) ∧ S4[ln]? = some (.lst (layer.map Xv.int)) ∧ S4[tn]? = some (.lst (l.map Xv.int)) ∧ Mid c g s k ks fa4 ∧ fa <+: fa4 ∧ ∀ (r' : Nat) q, r' < r → l[r']? = some q → q ∈ ks ++ fa4) ?_ ?_ ?_ ?_
     ·rintro r ρ S4 _ ⟨_, _, _, _, _, _, _, _, _, _, q, _⟩
      exact lstAt_of q
     ·rintro r w ρ S4 hw ⟨kvs4, fa4, a6, rfl, p4, c4, k4, v4, f4, y4, t4, B4, q4, d4⟩
      rw [List.getElem?_map] at hw
      cases hq : l[r]? with
      | none => rw [hq] at hw; cases hw
      | some q =>
       rw [hq] at hw
       cases hw
       have hsu : q ∈ succ g m := (hl q).1 (List.mem_of_getElem? hq)
       refine .of rfl ?_
       dsimp only [List.set]
       refine wx_if ?_
       refine wx_bE (wx_din ?_)
       walk_at "w"
       refine ⟨dn, kvs4, .inl q, dkAt_of c4, rfl, ?_⟩
       rw [key_mem k4]
       refine ⟨_, rfl, fun e => ?_, fun e => ?_⟩
       ·have hn : q ∉ ks ++ fa4 := by simpa using e
        have hnk : q ∉ ks := fun z => hn (List.mem_append_left _ z)
        walk_at "w"
        refine wx_dput ?_
        walk_at "w"
        have K4 := keys_in k4 B4.nd B4.rg
        refine ⟨dn, kvs4, .inl q, dkAt_of c4, rfl, K4.few ho.c60, ?_⟩
        walk_at "w"
        have f5 := set_else (cc := .dk (putX kvs4 (.inl q) (.int m))) f4 (show dn ≠ S1.length by omega)
        refine wx_mt ?_
        walk_at "w"
        refine ⟨⟨_, lstAt_of f5⟩, ?_⟩
        walk_at "w"
        have B5 := B4.add ho hml.1 hsu hn
        refine ox_append (wlAt_of f5) (by rw [List.length_map]; exact sz64 (by have := B4.lenc h0; have := ho.c60; rw [List.length_append] at *; omega)) ?_
        have ne : dn ≠ ln := fun z => by subst z; rw [c1] at y1; cases y1
        have nt : dn ≠ tn := by omega
        refine ⟨putX kvs4 (.inl q) (.int m), fa4 ++ [q], _, rfl, pre_set (pre_set p4 hdn) hsl, set_else (set_dk c4) (by omega), by rw [keys_new k4 hn, List.append_assoc], v4.put (.inr ⟨m, k, rfl, hml, hsu, B.far hml.1 hsu hnk⟩), by rw [List.map_append]; exact set_new f5, set_else (set_else y4 ne) (by omega), set_else (set_else t4 nt) (by omega), B5, q4.trans (List.prefix_append _ _), fun r' u hr hs => ?_⟩
        rw [← List.append_assoc]
        by_cases hh : r' < r
        ·exact List.mem_append_left _ (d4 r' u hh hs)
        ·have : r' = r := by omega
         subst this
         rw [hq] at hs
         cases hs
         simp
       ·have hn : q ∈ ks ++ fa4 := by
         cases hh : decide (q ∈ ks ++ fa4) with
         | true => exact of_decide_eq_true hh
         | false => rw [hh] at e; cases e
        walk_at "w"
        refine ⟨kvs4, fa4, _, rfl, p4, c4, k4, v4, f4, y4, t4, B4, q4, fun r' u hr hs => ?_⟩
        by_cases hh : r' < r
        ·exact d4 r' u hh hs
        ·have : r' = r := by omega
         subst this
         rw [hq] at hs
         cases hs
         exact hn
     ·exact ⟨kvs2, fa, _, rfl, p2.trans p3, pre_ce p3 c2, k2, v2, pre_ce p3 f2, pre_ce p3 y2, c3, B2, List.prefix_refl _, fun r' q h => by omega⟩
     ·rintro ρ S4 ⟨kvs4, fa4, a6, rfl, p4, c4, k4, v4, f4, y4, t4, B4, q4, d4⟩
      refine ⟨kvs4, fa4, _, _, rfl, p4, c4, k4, v4, f4, y4, B4, fun j' m' hj hm' q hq => ?_⟩
      by_cases hh : j' < j
      ·have := d2 j' m' hh hm' q hq
       rcases List.mem_append.1 this with h | h
       ·exact List.mem_append_left _ h
       ·exact List.mem_append_right _ (q4.subset h)
      ·have : j' = j := by omega
       subst this
       rw [hm] at hm'
       cases hm'
       obtain ⟨r, hr⟩ := List.getElem?_of_mem ((hl q).2 hq)
       exact d4 r q (by rw [List.length_map]; exact (List.getElem?_eq_some_iff.1 hr).1) hr
   ·exact ⟨kvs, [], _, _, rfl, pre_ext p1, by rw [List.getElem?_append_left hdl]; exact c1, by simpa using k1, v1, by simp, by rw [List.getElem?_append_left hll]; exact y1, ⟨by simpa using B.nd, by simpa using B.rg, by simp⟩, fun j' m h => by omega⟩
   ·rintro ρ S2 ⟨kvs2, fa, a5, a6, rfl, p2, c2, k2, v2, f2, y2, B2, d2⟩
    walk_at "w"
    have hle := B2.lenc h0
    rw [List.length_append] at hle
    have hme := hme hne
    have Bn := B.next B2 fun m hm q hq => by
     obtain ⟨j, hj⟩ := List.getElem?_of_mem hm
     exact d2 j m (by rw [List.length_map]; exact (List.getElem?_eq_some_iff.1 hj).1) hj q hq
    refine ih (k + 1) kvs2 (ks ++ fa) fa _ S2 _ a5 a6 p2 c2 k2 v2 f2 Bn (fun hf => ?_) (by omega)
    have : 0 < fa.length := List.length_pos_iff.2 hf
    rw [List.length_append]
    omega
  ·have : layer = [] := List.eq_nil_of_length_eq_zero (by omega)
   subst this
   exact ⟨kvs, ks, _, _, _, _, rfl, p1, c1, k1, B.nd, B.rg, fun q => B.all, v1⟩
theorem t_ahead (hbg : Big fu) (ho : NetOk c g) (h : NetAt S x g) (h0 : 0 ≤ s) (h1 : s < c) : W (tw_nodes_ahead fu [x, .int s] S) fun v S' => S <+: S' ∧ ∃ (n : Nat) (kvs : List (Key × Xv)) (l : List Int), v = .ref n ∧ S'[n]? = some (.dk kvs) ∧ Told (VP g s) c g s kvs l := by
 walk_at "wr"; unfold tb_nodes_ahead; walk_at "w"
 refine wx_dict1 ?_
 walk_at "w"
 refine ⟨.inl s, by simp, rfl, ?_⟩
 have p1 : S <+: (S ++ [Ce.dk []]).set S.length (.dk [(.inl s, .non)]) := pre_set (List.prefix_append _ _) (Nat.le_refl _)
 have c1 : ((S ++ [Ce.dk []]).set S.length (.dk [(.inl s, .non)]))[S.length]? = some (.dk [(.inl s, .non)]) := set_dk (l := []) (by simp)
 generalize (S ++ [Ce.dk []]).set S.length (.dk [(.inl s, .non)]) = S1 at p1 c1 ⊢
 walk_at "w"
 refine wx_wh ?_
 have hl := ahead_loop (fu := fu) ho (by omega) h (s := s) (Nat.le_refl _) fu 0 [(.inl s, .non)] [s] [s] S1.length (S1 ++ [.lst [.int s]]) none none none (pre_ext p1) (by rw [List.getElem?_append_left (List.getElem?_eq_some_iff.1 c1).1]; exact c1) rfl (fun p hp => by simp at hp; subst hp; exact ⟨s, rfl, .inl ⟨rfl, rfl⟩⟩) (by simp) (Bfs.one h0 h1) (fun _ => by have := fu60 hbg ho.c60; simp; omega) (by have := hbg.le; omega)
 rcases hl with ⟨ρ, S', e, kvs, l, a3, a4, a5, a6, rfl, p, c1, A⟩ | ⟨_, _, _, z⟩
 ·refine .nx e ?_
  walk_at "w"
  exact ⟨p, _, kvs, l, rfl, c1, A⟩
 ·exact z.elim
end
section
variable {fu : Nat} {S S' : Sto} {x y z : Xv} {g : Net} {c s goal : Int}
theorem Dst.pred {k : Nat} {q : Int} (h : Dst g s (k + 1) q) : ∃ m, Dst g s k m ∧ q ∈ succ g m := by
 obtain ⟨m, h1, h2⟩ := h.1.pred
 exact ⟨m, ⟨h1, fun j hj hw => h.2 (j + 1) (by omega) (.step hw h2)⟩, h2⟩
theorem Dst.row (ho : NetOk c g) (h0 : 0 ≤ s) (h1 : s < c) : ∀ (k : Nat) (q : Int), Dst g s k q → ∃ l : List Int, l.Nodup ∧ l.length = k + 1 ∧ ∀ a ∈ l, (0 ≤ a ∧ a < c) ∧ ∃ i, i ≤ k ∧ Dst g s i a
 | 0, q, h => by
  have := h.1
  cases this
  exact ⟨[s], by simp, rfl, fun a ha => by simp at ha; subst ha; exact ⟨⟨h0, h1⟩, 0, Nat.le_refl _, h⟩⟩
 | k + 1, q, h => by
  obtain ⟨m, hm, hq⟩ := h.pred
  obtain ⟨l, n, e, r⟩ := Dst.row ho h0 h1 k m hm
  refine ⟨q :: l, List.nodup_cons.2 ⟨fun hq => ?_, n⟩, by simp [e], fun a ha => ?_⟩
  ·obtain ⟨_, i, h2, h3⟩ := r q hq
   have := h3.uniq h
   omega
  ·rcases List.mem_cons.1 ha with rfl | ha
   ·exact ⟨ho.succ_in hq, k + 1, Nat.le_refl _, h⟩
   ·obtain ⟨h2, i, h3, h4⟩ := r a ha
    exact ⟨h2, i, by omega, h4⟩
theorem Dst.lt (ho : NetOk c g) (h0 : 0 ≤ s) (h1 : s < c) {k : Nat} {q : Int} (h : Dst g s k q) : k < 60 := by
 obtain ⟨l, n, e, r⟩ := Dst.row ho h0 h1 k q h
 have := nd_len c.toNat l n fun x hx => ⟨(r x hx).1.1, by have := (r x hx).1.2; omega⟩
 have := ho.c60
 omega
inductive Pt (g : Net) (goal : Int) : List Int → Prop where
 | one : Pt g goal [goal]
 | cons {a b : Int} {r : List Int} : b ∈ succ g a → Pt g goal (b :: r) → Pt g goal (a :: b :: r)
theorem Pt.last : ∀ {r : List Int}, Pt g goal r → r[r.length - 1]? = some goal ∧ r ≠ []
 | _, .one => ⟨rfl, by simp⟩
 | _, .cons (a := a) (b := b) (r := r) _ h => by
  have := (Pt.last h).1
  refine ⟨?_, by simp⟩
  simpa using this
theorem Pt.step : ∀ {r : List Int} {k : Nat} {a b : Int}, Pt g goal r → r[k]? = some a → r[k + 1]? = some b → b ∈ succ g a
 | _, k, a, b, .one, _, e => by simp at e
 | _, 0, a, b, .cons h _, e1, e2 => by
  simp at e1 e2
  subst e1 e2
  exact h
 | _, k + 1, a, b, .cons _ h, e1, e2 => Pt.step h (by simpa using e1) (by simpa using e2)
theorem ox_notN {P : Xv → Sto → Prop} (k : P (.bl (!x.isNon)) S) : WO (dNotN x S) P := .of rfl k
theorem ox_revL {P : Xv → Sto → Prop} {l : List Xv} (h : lstAt S x = some l) (k : P (.ref S.length) (S ++ [.lst l.reverse])) : WO (dListRev x S) P := .of (by unfold dListRev; rw [h]; rfl) k
theorem way_loop (ho : NetOk c g) (h0 : 0 ≤ s) (h1 : s < c) {kvs : List (Key × Xv)} {l : List Int} (T : Told (VP g s) c g s kvs l) {dn wn : Nat} (hwn : S.length ≤ wn) : ∀ (n j : Nat) (q : Int) (r : List Int) (S1 : Sto), j + 2 ≤ n → S <+: S1 → S1[dn]? = some (.dk kvs) → S1[wn]? = some (.lst (r.reverse.map Xv.int)) → Pt g goal (q :: r) → Dst g s j q → (∀ a ∈ q :: r, 0 ≤ a ∧ a < c) → r.length + j ≤ 60 →
  WS (whTw (bE (eUn dNotN (eVar 5))) (sSeq (sExpr (eMt mAppend (eVar 4) [(eVar 5)])) (sAsg (eDGet (eVar 3) (eVar 5)) (gN 5))) n [some x, some (.int s), some (.int goal), some (.ref dn), some (.ref wn), some (.int q)] S1) (fun ρ S' => ∃ r', ρ = [some x, some (.int s), some (.int goal), some (.ref dn), some (.ref wn), some .non] ∧ S <+: S' ∧ S'[wn]? = some (.lst (r'.reverse.map Xv.int)) ∧ Pt g goal r' ∧ r'.head? = some s ∧ r'.length = r.length + j + 1 ∧ ∀ a ∈ r', 0 ≤ a ∧ a < c) (fun _ _ => False) := by
 intro n
 induction n with
 | zero => intro j q r S1 hn; omega
 | succ n ih =>
  intro j q r S1 hn p1 c1 w1 hp hd hr hl
  refine wx_turn ?_
  walk_at "w"
  refine ox_notN ?_
  refine ⟨_, rfl, fun _ => ?_, fun z => (by cases z)⟩
  walk_at "w"
  refine wx_mt ?_
  walk_at "w"
  refine ⟨⟨_, lstAt_of w1⟩, ?_⟩
  walk_at "w"
  refine ox_append (wlAt_of w1) (by rw [List.length_map, List.length_reverse]; exact sz64 (by omega)) ?_
  have ne : wn ≠ dn := fun z => by subst z; rw [c1] at w1; cases w1
  have c2 := set_else (cc := .lst (r.reverse.map Xv.int ++ [.int q])) c1 ne
  have w2 : (S1.set wn (.lst (r.reverse.map Xv.int ++ [.int q])))[wn]? = some (.lst ((q :: r).reverse.map Xv.int)) := by
   rw [set_new w1, List.reverse_cons, List.map_append]
   rfl
  have p2 := pre_set (c := .lst (r.reverse.map Xv.int ++ [.int q])) p1 hwn
  generalize S1.set wn (.lst (r.reverse.map Xv.int ++ [.int q])) = S2 at c2 w2 p2 ⊢
  walk_at "w"
  have hq : q ∈ l := (T.mem q).2 ⟨j, hd.1⟩
  have hqk : (Sum.inl q : Key) ∈ kvs.map (·.1) := by rw [T.key]; exact List.mem_map.2 ⟨q, hq, rfl⟩
  obtain ⟨v, ev⟩ := valX_some hqk
  refine wx_dget ?_
  walk_at "w"
  refine ⟨dn, kvs, .inl q, v, dkAt_of c2, rfl, ev, ?_⟩
  rcases T.val.get ev with ⟨rfl, rfl⟩ | ⟨p, i, rfl, hpd, hsu, hqd⟩
  ·have : j = 0 := hd.uniq ⟨.zero, fun j hj => by omega⟩
   subst this
   cases n with
   | zero => omega
   | succ n =>
    refine wx_turn ?_
    walk_at "w"
    refine ox_notN ?_
    refine ⟨_, rfl, (fun z => by cases z), fun _ => ?_⟩
    exact ⟨q :: r, rfl, p2, w2, hp, rfl, by simp, hr⟩
  ·obtain rfl := hd.uniq hqd
   have hpl := T.rg p ((T.mem p).2 ⟨i, hpd.1⟩)
   have := ih i p (q :: r) S2 (by omega) p2 c2 w2 (.cons hsu hp) hpd (fun a ha => by
    rcases List.mem_cons.1 ha with rfl | ha
    ·exact hpl
    ·exact hr a ha) (by simp; omega)
   rw [show (q :: r).length + i + 1 = r.length + (i + 1) + 1 by simp; omega] at this
   exact this
theorem t_way_to (hbg : Big fu) (ho : NetOk c g) (h : NetAt S x g) (h0 : 0 ≤ s) (h1 : s < c) : W (tw_way_to fu [x, .int s, .int goal] S) fun v S' => S <+: S' ∧ (((∀ j, ¬ Wk g s j goal) ∧ v = .non) ∨ ∃ (n : Nat) (r : List Int) (d : Nat), v = .ref n ∧ S'[n]? = some (.lst (r.map Xv.int)) ∧ Dst g s d goal ∧ Pt g goal r ∧ r.head? = some s ∧ r.length = d + 1 ∧ ∀ a ∈ r, 0 ≤ a ∧ a < c) := by
 walk_at "wr"; unfold tb_way_to; walk_at "w"
 refine (t_ahead hbg ho h h0 h1).imp ?_
 rintro _ S1 ⟨p1, dn, kvs, l, rfl, c1, T⟩
 walk_at "w"
 refine wx_if (wx_bE (wx_din ?_))
 walk_at "w"
 refine ⟨dn, kvs, .inl goal, dkAt_of c1, rfl, ?_⟩
 rw [key_mem T.key]
 refine ⟨_, rfl, fun e => ?_, fun e => ?_⟩
 ·have hn : goal ∉ l := by simpa using e
  walk_at "w"
  exact ⟨p1, .inl ⟨fun j hj => hn ((T.mem goal).2 ⟨j, hj⟩), rfl⟩⟩
 ·have hn : goal ∈ l := by simpa using e
  obtain ⟨j, hj⟩ := (T.mem goal).1 hn
  obtain ⟨d, _, hd⟩ := near hj
  have hd60 := hd.lt ho h0 h1
  walk_at "w"
  refine wx_wh ?_
  have hl := way_loop (x := x) (goal := goal) ho h0 h1 T (dn := dn) (wn := S1.length) p1.length_le fu d goal [] (S1 ++ [.lst []]) (by have := hbg.le; omega) (pre_ext p1) (pre_ce (List.prefix_append _ _) c1) (by simp) .one hd (fun a ha => by simp at ha; subst ha; exact T.rg _ hn) (by simp; omega)
  rcases hl with ⟨ρ, S', e, r, rfl, p, w, hp, hh, hlen, hr⟩ | ⟨_, _, _, z⟩
  ·refine .nx e ?_
   walk_at "w"
   refine ox_revL (lstAt_of w) ?_
   refine ⟨pre_ext p, .inr ⟨_, r, d, rfl, ?_, hd, hp, hh, by simpa using hlen, hr⟩⟩
   rw [← List.map_reverse, List.reverse_reverse]
   simp
  ·exact z.elim
theorem atI_end {β : Type} {l : List β} {z : β} (h : l[l.length - 1]? = some z) (h0 : l ≠ []) : atI l (-1) = some z := by
 have hl : 0 < l.length := List.length_pos_iff.2 h0
 unfold atI ixN
 rw [if_neg (by omega), if_pos (by omega), Option.bind_some, show ((-1 : Int) + l.length).toNat = l.length - 1 by omega]
 exact h
end
section
variable {g : Net} {c : Int}
noncomputable def Rep (m : Int) (P : Nat → Prop) : Prop := 0 ≤ m ∧ ∀ i : Nat, m.toNat.testBit i = true ↔ P i
theorem bit_or {x y : Int} (hx : 0 ≤ x) (hy : 0 ≤ y) : Builtin.bitOr x y = ((x.toNat ||| y.toNat : Nat) : Int) := by
 have h1 : ¬ (0 : Int) ≤ Builtin.bitNot x := by unfold Builtin.bitNot; omega
 have h2 : ¬ (0 : Int) ≤ Builtin.bitNot y := by unfold Builtin.bitNot; omega
 have e : ∀ z : Int, Builtin.bitNot (Builtin.bitNot z) = z := fun z => by unfold Builtin.bitNot; omega
 unfold Builtin.bitOr Builtin.bitAnd
 simp only [h1, h2, decide_false]
 rw [e, e, e]
theorem Rep.or {m l : Int} {P Q : Nat → Prop} (h : Rep m P) (h2 : Rep l Q) : Rep (Builtin.bitOr m l) fun i => P i ∨ Q i := by
 rw [bit_or h.1 h2.1]
 refine ⟨by omega, fun i => ?_⟩
 rw [Int.toNat_natCast, Nat.testBit_or, Bool.or_eq_true, h.2 i, h2.2 i]
theorem Rep.nil : Rep 0 fun _ => False := ⟨by decide, fun i => by simp⟩
theorem Rep.one (n : Nat) : Rep (1 * 2 ^ n) fun i => i = n := by
 have e : (1 * 2 ^ n : Int) = ((2 ^ n : Nat) : Int) := by rw [Int.one_mul]; norm_cast
 rw [e]
 refine ⟨Int.natCast_nonneg _, fun i => ?_⟩
 rw [Int.toNat_natCast, Nat.testBit_two_pow]
 simp
 exact eq_comm
theorem Rep.bit {m : Int} {P : Nat → Prop} (h : Rep m P) (t : Nat) : Builtin.bitAnd (m / 2 ^ t) 1 = 1 ↔ P t := by
 have h0 : 0 ≤ m / 2 ^ t := Int.ediv_nonneg h.1 (by have : (0 : Int) < 2 ^ t := Int.pow_pos (by decide); omega)
 rw [← h.2 t, Nat.testBit_eq_decide_div_mod_eq, decide_eq_true_iff]
 have e : Builtin.bitAnd (m / 2 ^ t) 1 = (((m / 2 ^ t).toNat &&& 1 : Nat) : Int) := by
  unfold Builtin.bitAnd
  simp only [h0, decide_true, show (0 : Int) ≤ 1 by decide]
  rfl
 rw [e, Nat.and_one_is_mod]
 have e2 : (m / 2 ^ t).toNat = m.toNat / 2 ^ t := by
  obtain ⟨n, rfl⟩ := Int.eq_ofNat_of_zero_le h.1
  rw [show ((2 : Int) ^ t) = ((2 ^ t : Nat) : Int) by norm_cast]
  rfl
 rw [e2]
 omega
theorem Rep.inj {m l : Int} {P Q : Nat → Prop} (h : Rep m P) (h2 : Rep l Q) (e : ∀ i, P i ↔ Q i) : m = l := by
 have : m.toNat = l.toNat := Nat.eq_of_testBit_eq fun i => by
  have a := h.2 i
  have b := h2.2 i
  rw [e i] at a
  cases x : m.toNat.testBit i <;> cases y : l.toNat.testBit i <;> simp_all
 have := h.1
 have := h2.1
 omega
theorem Rep.congr {m : Int} {P Q : Nat → Prop} (h : Rep m P) (e : ∀ i, P i ↔ Q i) : Rep m Q := ⟨h.1, fun i => (h.2 i).trans (e i)⟩
noncomputable def RK (g : Net) : Nat → Nat → Nat → Prop
 | 0, i, j => j = i ∨ (j : Int) ∈ succ g i
 | k + 1, i, j => RK g k i j ∨ (RK g k i k ∧ RK g k k j)
theorem RK.rch : ∀ {k i j : Nat}, RK g k i j → Rch g i j
 | 0, i, j, h => by
  rcases h with rfl | h
  ·exact .here
  ·exact .step .here h
 | k + 1, i, j, h => by
  rcases h with h | ⟨h1, h2⟩
  ·exact RK.rch h
  ·have a := RK.rch h1
   have b := RK.rch h2
   clear h1 h2
   generalize (k : Int) = x at a b
   generalize (j : Int) = y at b
   induction b with
   | here => exact a
   | step _ hs ih => exact .step ih hs
theorem RK.mono {k i j : Nat} (h : RK g 0 i j) : RK g k i j := by
 induction k with
 | zero => exact h
 | succ k ih => exact .inl ih
theorem RK.trans : ∀ {k i m j : Nat}, m < k → RK g k i m → RK g k m j → RK g k i j
 | 0, i, m, j, h, _, _ => by omega
 | k + 1, i, m, j, h, h1, h2 => by
  by_cases hm : m = k
  ·subst hm
   have a : RK g m i m := by
    rcases h1 with h1 | h1
    ·exact h1
    ·exact h1.1
   have b : RK g m m j := by
    rcases h2 with h2 | h2
    ·exact h2
    ·exact h2.2
   exact .inr ⟨a, b⟩
  ·have hm : m < k := by omega
   rcases h1 with a | ⟨a, a2⟩ <;> rcases h2 with b | ⟨b, b2⟩
   ·exact .inl (RK.trans hm a b)
   ·exact .inr ⟨RK.trans hm a b, b2⟩
   ·exact .inr ⟨a, RK.trans hm a2 b⟩
   ·exact .inr ⟨a, b2⟩
theorem rk_iff (ho : NetOk c g) {i j : Nat} (hi : (i : Int) < c) : RK g g.length i j ↔ Rch g i j := by
 refine ⟨RK.rch, fun h => ?_⟩
 have hl := ho.len
 have aux : ∀ y : Int, Rch g i y → 0 ≤ y ∧ y < c ∧ RK g g.length i y.toNat := fun y h => by
  induction h with
  | here => exact ⟨by omega, hi, by rw [Int.toNat_natCast]; exact RK.mono (.inl rfl)⟩
  | @step m k _ hs ih =>
   obtain ⟨m0, m1, ih⟩ := ih
   obtain ⟨k0, k1⟩ := ho.succ_in hs
   refine ⟨k0, k1, RK.trans (by omega) ih (RK.mono (.inr ?_))⟩
   rw [Int.toNat_of_nonneg k0, Int.toNat_of_nonneg m0]
   exact hs
 have := (aux j h).2.2
 rwa [Int.toNat_natCast] at this
theorem rk_round {t : Nat} {i j : Nat} : RK g (t + 1) i j ↔ RK g t i j ∨ (RK g t i t ∧ RK g t t j) := Iff.rfl
theorem rk_row {t j : Nat} : RK g (t + 1) t j ↔ RK g t t j := ⟨fun h => by
 rcases h with h | h
 ·exact h
 ·exact h.2, .inl⟩
end
section
variable {fu : Nat} {S S' : Sto} {x y z : Xv} {g : Net} {c : Int}
theorem NetTy.one {τ : List Kd} {nxs : List Xv} {nn : Nat} (T : NetTy c τ nxs nn S) (L : Lens (fun _ => 1) nxs τ S) : ∃ g, NetAt S (.ref nn) g ∧ NetOk c g ∧ ∀ cs ∈ g, cs.length ≤ 1 := by
 obtain ⟨g, h1, h2⟩ := T.net
 refine ⟨g, h1, h2, fun cs hcs => ?_⟩
 obtain ⟨i, hi⟩ := List.getElem?_of_mem hcs
 obtain ⟨l, e1, e2, e3⟩ := h1
 obtain ⟨hh, ty⟩ := T.ty
 rw [lstAt_of (ty.fix T.fix)] at e1
 cases e1
 obtain ⟨z, f1, l', g1, g2, _⟩ := e3 i cs hi
 obtain ⟨n, ys, rfl, _, r3, r4⟩ := L i z f1
 rw [lstAt_of r3] at g1
 cases g1
 rw [← g2]
 exact r4
theorem t_mask {l : List Int} (h : lstAt S x = some (l.map Xv.int)) (hr : ∀ k ∈ l, 0 ≤ k ∧ k ≤ 60) : W (tw_mask_of fu [x] S) fun v S' => S = S' ∧ ∃ m, v = .int m ∧ Rep m fun i => (i : Int) ∈ l := by
 walk_at "wr"; unfold tb_mask_of; walk_at "w"
 refine wx_for (wx_iL ?_)
 walk_at "w"
 refine ⟨_, h, _, h, ?_⟩
 refine wx_forI (xs := l.map Xv.int) (fun k ρ S2 => S = S2 ∧ ∃ m a2, ρ = [some x, some (.int m), a2] ∧ Rep m fun i => (i : Int) ∈ l.take k) ?_ ?_ ?_ ?_
 ·rintro _ _ _ _ ⟨rfl, _⟩
  exact h
 ·rintro k w ρ _ hw ⟨rfl, m, a2, rfl, hm⟩
  rw [List.getElem?_map] at hw
  cases hq : l[k]? with
  | none => rw [hq] at hw; cases hw
  | some q =>
   rw [hq] at hw
   cases hw
   obtain ⟨q0, q1⟩ := hr q (List.mem_of_getElem? hq)
   refine .of rfl ?_
   dsimp only [List.set]
   walk_at "w"
   refine ox_shl ⟨q0, by omega, by decide⟩ ?_
   refine ox_bor ?_
   refine ⟨rfl, _, _, rfl, (hm.or (Rep.one q.toNat)).congr fun i => ?_⟩
   have hk := (List.getElem?_eq_some_iff.1 hq)
   rw [List.take_succ_eq_append_getElem hk.1, List.mem_append, hk.2, List.mem_singleton]
   exact or_congr Iff.rfl ⟨fun e => by omega, fun e => by omega⟩
 ·exact ⟨rfl, 0, _, rfl, Rep.nil.congr fun i => by simp⟩
 ·rintro ρ _ ⟨rfl, m, a2, rfl, hm⟩
  walk_at "w"
  rw [List.length_map, List.take_length] at hm
  first | exact ⟨rfl, m, rfl, hm⟩ | exact ⟨rfl, hm⟩
theorem t_masks (ho : NetOk c g) (h : NetAt S x g) : W (tw_reach_masks fu [x] S) fun v S' => S <+: S' ∧ ∃ (n : Nat) (ms : List Int), v = .ref n ∧ S.length ≤ n ∧ S'[n]? = some (.lst (ms.map Xv.int)) ∧ ms.length = g.length ∧ ∀ (i : Nat) m, ms[i]? = some m → Rep m fun j => Rch g i j := by
 walk_at "wr"; unfold tb_reach_masks; walk_at "w"
 obtain ⟨xl, x1, x2, x3⟩ := id h
 have hl := ho.len
 have h60 := ho.c60
 refine wx_comp (wx_iEn ?_)
 walk_at "w"
 refine ⟨xl, x1, enumX xl, by dsimp only; rw [x1]; rfl, ?_⟩
 refine wx_compI (by rw [enumX_len]; exact Nat.le_of_lt (sz64 (by omega))) (fun i es S2 => S <+: S2 ∧ ∃ ms : List Int, es = ms.map Xv.int ∧ ms.length = i ∧ ∀ (k : Nat) m, ms[k]? = some m → Rep m (RK g 0 k)) ?_ ?_ ⟨List.prefix_refl _, [], rfl, rfl, by simp⟩ ?_
 ·rintro i es S2 _ ⟨p2, _⟩
  show (lstAt S2 x).map enumX = _
  rw [Le.pre p2 _ _ x1]
  rfl
 ·rintro i w es S2 hw _ ⟨p2, ms, rfl, l2, k2⟩
  obtain ⟨z, ez, rfl⟩ := enumX_at hw
  obtain ⟨cs, hcs, hz⟩ := LAt.get x3 x2 ez
  have hi : i < 60 := by have := (List.getElem?_eq_some_iff.1 ez).1; omega
  refine .of rfl ?_
  dsimp only [capR, List.map, List.set]
  walk_at "w"
  refine ⟨rfl, ?_⟩
  walk_at "w"
  refine (t_mask (l := [(i : Int)]) lstAt_new (fun k hk => by simp at hk; subst hk; omega)).imp ?_
  rintro _ _ ⟨rfl, m1, rfl, r1⟩
  walk_at "w"
  refine (t_next ho (i := (i : Int)) (cs := cs) (by rw [Int.toNat_natCast]; exact hcs) (ChsAt.mono (Le.pre (pre_ext p2)) hz)).imp ?_
  rintro _ S3 ⟨p3, n3, l3, rfl, _, c3, hl3⟩
  walk_at "w"
  refine (t_mask (lstAt_of c3) (fun k hk => by have := ho.succ_in ((hl3 k).1 hk); omega)).imp ?_
  rintro _ _ ⟨rfl, m2, rfl, r2⟩
  refine ox_bor ?_
  refine ⟨p2.trans ((List.prefix_append _ _).trans p3), ms ++ [_], by rw [List.map_append]; rfl, by simp [l2], fun k m hm => ?_⟩
  by_cases q : k < i
  ·exact k2 k m (by rw [List.getElem?_append_left (by omega)] at hm; exact hm)
  ·rw [List.getElem?_append_right (by omega)] at hm
   have hz : k - ms.length = 0 := by
    have := (List.getElem?_eq_some_iff.1 hm).1
    simpa using this
   rw [hz] at hm
   simp at hm
   subst hm
   have : k = i := by omega
   subst this
   refine (r1.or r2).congr fun j => ?_
   show _ ↔ (j = k ∨ (j : Int) ∈ succ g k)
   rw [hl3, List.mem_singleton]
   exact or_congr ⟨fun e => by omega, fun e => by omega⟩ Iff.rfl
 ·rintro es S2 _ ⟨p2, ms0, rfl, l2, k2⟩
  rw [enumX_len] at l2
  have hl0 : ms0.length = g.length := by omega
  have c2 : (S2 ++ [Ce.lst (ms0.map Xv.int)])[S2.length]? = some (.lst (ms0.map Xv.int)) := by simp
  have p3 : S <+: S2 ++ [Ce.lst (ms0.map Xv.int)] := pre_ext p2
  have hn2 := p2.length_le
  generalize S2.length = nn at c2 hn2 ⊢
  generalize S2 ++ [Ce.lst (ms0.map Xv.int)] = S3 at c2 p3 ⊢
  walk_at "w"
  refine wx_for (wx_iR1 ?_)
  walk_at "w"
  refine ox_len (Le.pre p3 _ _ x1) ?_
  refine ⟨_, rfl, ⟨by omega, by omega⟩, _, rfl, ?_⟩
  refine wx_forI (xs := rangeX 0 ((xl.length : Int)).toNat) (fun t ρ S4 => S <+: S4 ∧ ∃ (a2 a3 : Option Xv) (ms : List Int), ρ = [some x, some (.ref nn), a2, a3] ∧ S4[nn]? = some (.lst (ms.map Xv.int)) ∧ ms.length = g.length ∧ ∀ (k : Nat) m, ms[k]? = some m → Rep m (RK g t k)) (fun _ _ _ _ _ => rfl) ?_ ⟨p3, _, _, ms0, rfl, c2, hl0, k2⟩ ?_
  ·rintro t w ρ S4 hw ⟨p4, a2, a3, ms, rfl, c4, l4, k4⟩
   obtain ⟨ht, rfl⟩ := rangeX_at hw
   refine .of rfl ?_
   dsimp only [List.set]
   rw [Int.zero_add]
   refine wx_for (wx_iR1 ?_)
   walk_at "w"
   refine ox_len (Le.pre p4 _ _ x1) ?_
   refine ⟨_, rfl, ⟨by omega, by omega⟩, _, rfl, ?_⟩
   refine wx_forI (xs := rangeX 0 ((xl.length : Int)).toNat) (fun q ρ S5 => S <+: S5 ∧ ∃ (a3 : Option Xv) (ms : List Int), ρ = [some x, some (.ref nn), some (.int t), a3] ∧ S5[nn]? = some (.lst (ms.map Xv.int)) ∧ ms.length = g.length ∧ ∀ (k : Nat) m, ms[k]? = some m → Rep m (RK g (if k < q then t + 1 else t) k)) (fun _ _ _ _ _ => rfl) ?_ ⟨p4, _, ms, rfl, c4, l4, by simpa using k4⟩ ?_
   ·rintro q w ρ S5 hw ⟨p5, a3, ms, rfl, c5, l5, k5⟩
    obtain ⟨hq, rfl⟩ := rangeX_at hw
    refine .of rfl ?_
    dsimp only [List.set]
    rw [Int.zero_add]
    have hq2 : q < ms.length := by omega
    have ht2 : t < ms.length := by omega
    have rq : Rep ms[q] (RK g t q) := by have := k5 q _ (List.getElem?_eq_getElem hq2); rw [if_neg (by omega)] at this; exact this
    have rt : Rep ms[t] (RK g t t) := by
     have := k5 t _ (List.getElem?_eq_getElem ht2)
     split at this
     ·exact this.congr fun j => rk_row
     ·exact this
    have eq_ : atI (ms.map Xv.int) (q : Int) = some (.int ms[q]) := atI_nn (by omega) (by rw [Int.toNat_natCast, List.getElem?_map, List.getElem?_eq_getElem hq2]; rfl)
    have et : atI (ms.map Xv.int) (t : Int) = some (.int ms[t]) := atI_nn (by omega) (by rw [Int.toNat_natCast, List.getElem?_map, List.getElem?_eq_getElem ht2]; rfl)
    refine wx_if ?_
    walk_at "w"
    refine ox_ixL (lstAt_of c5) eq_ ?_
    walk_at "w"
    refine ox_shr (by omega) ?_
    walk_at "w"
    refine ox_band ?_
    walk_at "w"
    have hb := rq.bit t
    rw [Int.toNat_natCast]
    refine wx_ifT (fun hh => ?_) (fun hh => ?_)
    ·have hr := hb.1 hh
     refine wx_store ?_
     walk_at "w"
     refine ox_ixL (lstAt_of c5) eq_ ?_
     walk_at "w"
     refine ox_ixL (lstAt_of c5) et ?_
     refine ox_bor ?_
     walk_at "w"
     refine ⟨nn, _, q, q, wlAt_of c5, rfl, by unfold ixN; rw [if_pos (by omega), if_pos (by rw [List.length_map]; omega)]; simp, pre_set p5 hn2, _, ms.set q (Builtin.bitOr ms[q] ms[t]), rfl, by rw [List.map_set]; exact set_new c5, by simp [l5], fun k m hm => ?_⟩
     rw [List.getElem?_set] at hm
     by_cases e : q = k
     ·subst e
      rw [if_pos rfl, if_pos hq2] at hm
      cases hm
      rw [if_pos (by omega)]
      refine (rq.or rt).congr fun j => ?_
      rw [rk_round]
      exact ⟨fun z => z.imp id fun y => ⟨hr, y⟩, fun z => z.imp id fun y => y.2⟩
     ·rw [if_neg e] at hm
      have := k5 k m hm
      by_cases hk : k < q
      ·rw [if_pos hk] at this; rw [if_pos (by omega)]; exact this
      ·rw [if_neg hk] at this; rw [if_neg (by omega)]; exact this
    ·have hr : ¬ RK g t q t := fun z => hh (hb.2 z)
     walk_at "w"
     refine ⟨p5, _, ms, rfl, c5, l5, fun k m hm => ?_⟩
     have := k5 k m hm
     by_cases hk : k < q
     ·rw [if_pos hk] at this; rw [if_pos (by omega)]; exact this
     ·rw [if_neg hk] at this
      by_cases hk2 : k = q
      ·subst hk2
       rw [if_pos (by omega)]
       refine this.congr fun j => ?_
       rw [rk_round]
       exact ⟨.inl, fun z => by
        rcases z with z | z
        ·exact z
        ·exact (hr z.1).elim⟩
      ·rw [if_neg (by omega)]; exact this
   ·rintro ρ S5 ⟨p5, a3, ms, rfl, c5, l5, k5⟩
    refine ⟨p5, _, _, ms, rfl, c5, l5, fun k m hm => ?_⟩
    have := k5 k m hm
    rw [rangeX_len, if_pos (by have := (List.getElem?_eq_some_iff.1 hm).1; omega)] at this
    exact this
  ·rintro ρ S4 ⟨p4, a2, a3, ms, rfl, c4, l4, k4⟩
   walk_at "w"
   refine ⟨p4, nn, ms, rfl, hn2, c4, l4, fun i m hm => ?_⟩
   have := k4 i m hm
   rw [rangeX_len, show ((xl.length : Int)).toNat = g.length by omega] at this
   exact this.congr fun j => rk_iff ho (by have := (List.getElem?_eq_some_iff.1 hm).1; omega)
end
section
variable {fu : Nat} {S S' : Sto} {x y z : Xv} {g : Net} {c : Int}
theorem ox_any {P : Xv → Sto → Prop} {l : List Xv} {bs : List Bool} (h : lstAt S x = some l) (h2 : bolsX l = some bs) (k : P (.bl (bs.any id)) S) : WO (dAny [x] S) P := .of (by unfold dAny; dsimp only; rw [h, Option.bind_some, h2]; rfl) k
theorem bols_no : ∀ n : Nat, bolsX (List.replicate n (Xv.bl false)) = some (List.replicate n false)
 | 0 => rfl
 | n + 1 => by rw [List.replicate_succ, List.replicate_succ]; simp [bolsX, bols_no n]
theorem t_refuse (ho : NetOk c g) (h : NetAt S x g) (h1 : ∀ cs ∈ g, cs.length ≤ 1) : W (tw_refuse_hands fu [x] S) fun _ S' => S <+: S' := by
 walk_at "wr"; unfold tb_refuse_hands
 obtain ⟨xl, x1, x2, x3⟩ := id h
 have hl := ho.len
 have h60 := ho.c60
 refine wx_if (wx_bE (wx_fn (wx_cons ?_)))
 refine wx_comp (wx_iL ?_)
 walk_at "w"
 refine ⟨xl, x1, xl, x1, ?_⟩
 refine wx_compI (Nat.le_of_lt (sz64 (by omega))) (fun i es S2 => S = S2 ∧ es = List.replicate i (.bl false)) ?_ ?_ ⟨rfl, rfl⟩ ?_
 ·rintro _ _ _ _ ⟨rfl, _⟩
  exact x1
 ·rintro i w es _ hw _ ⟨rfl, rfl⟩
  obtain ⟨cs, hcs, zl, z1, z2, _⟩ := LAt.get x3 x2 hw
  have := h1 cs (List.mem_of_getElem? hcs)
  refine .of rfl ?_
  dsimp only [capR, List.map, List.set]
  walk_at "w"
  refine ⟨rfl, ?_⟩
  walk_at "w"
  refine ox_len z1 ?_
  walk_at "w"
  refine ⟨rfl, ?_⟩
  rw [List.replicate_succ', decide_eq_false (by omega)]
 ·rintro es _ _ ⟨rfl, rfl⟩
  walk_at "w"
  refine ox_any lstAt_new (bols_no _) ?_
  refine ⟨_, rfl, fun z => ?_, fun _ => ?_⟩
  ·simp at z
  ·walk_at "w"
   exact List.prefix_append _ _
structure Grp (g : Net) (ms : List Int) (i : Nat) (gs : List (Int × List Int)) : Prop where
 ne : ∀ p ∈ gs, p.2 ≠ []
 mem : ∀ p ∈ gs, ∀ k : Int, k ∈ p.2 ↔ ∃ n : Nat, k = n ∧ n < i ∧ ms[n]? = some p.1 ∧ ∃ cs, g[n]? = some cs ∧ cs ≠ []
 asc : ∀ p ∈ gs, p.2.Pairwise (· < ·)
 keys : ∀ (a b : Nat) p q, gs[a]? = some p → gs[b]? = some q → p.1 = q.1 → a = b
 all : ∀ (n : Nat) m cs, n < i → ms[n]? = some m → g[n]? = some cs → cs ≠ [] → ∃ l, (m, l) ∈ gs
 heads : ∀ (a b : Nat) p q, a < b → gs[a]? = some p → gs[b]? = some q → p.2.headD 0 < q.2.headD 0
 len : gs.length ≤ i
theorem headD_mem {l : List Int} (h : l ≠ []) : l.headD 0 ∈ l := by
 cases l with
 | nil => exact (h rfl).elim
 | cons a r => simp
theorem Grp.skip {ms : List Int} {i : Nat} {gs : List (Int × List Int)} (G : Grp g ms i gs) (h : ∀ cs, g[i]? = some cs → cs = []) : Grp g ms (i + 1) gs := by
 refine ⟨G.ne, fun p hp k => ?_, G.asc, G.keys, fun n m cs hn hm hc hne => ?_, G.heads, by have := G.len; omega⟩
 ·rw [G.mem p hp k]
  constructor
  ·rintro ⟨n, e1, e2, e3⟩
   exact ⟨n, e1, by omega, e3⟩
  ·rintro ⟨n, e1, e2, e3, cs, e4, e5⟩
   by_cases hn : n = i
   ·subst hn; exact (e5 (h cs e4)).elim
   ·exact ⟨n, e1, by omega, e3, cs, e4, e5⟩
 ·by_cases hi : n = i
  ·subst hi; exact (hne (h cs hc)).elim
  ·exact G.all n m cs (by omega) hm hc hne
theorem Grp.fresh {ms : List Int} {i : Nat} {gs : List (Int × List Int)} {m : Int} {cs : List Ch} (G : Grp g ms i gs) (hm : ms[i]? = some m) (hc : g[i]? = some cs) (hne : cs ≠ []) (hn : ∀ p ∈ gs, p.1 ≠ m) : Grp g ms (i + 1) (gs ++ [(m, [(i : Int)])]) := by
 have at_ : ∀ (a : Nat) p, (gs ++ [(m, [(i : Int)])])[a]? = some p → gs[a]? = some p ∨ (a = gs.length ∧ p = (m, [(i : Int)])) := fun a p h => by
  by_cases ha : a < gs.length
  ·rw [List.getElem?_append_left ha] at h; exact .inl h
  ·rw [List.getElem?_append_right (by omega)] at h
   have hz : a - gs.length = 0 := by
    have := (List.getElem?_eq_some_iff.1 h).1
    simpa using this
   rw [hz] at h
   simp at h
   exact .inr ⟨by omega, h.symm⟩
 have inew : ∀ p ∈ gs ++ [(m, [(i : Int)])], p ∈ gs ∨ p = (m, [(i : Int)]) := fun p hp => by
  rcases List.mem_append.1 hp with h | h
  ·exact .inl h
  ·exact .inr (by simpa using h)
 refine ⟨fun p hp => ?_, fun p hp k => ?_, fun p hp => ?_, fun a b p q h1 h2 e => ?_, fun n m' cs' h1 h2 h3 h4 => ?_, fun a b p q hab h1 h2 => ?_, by have := G.len; simp; omega⟩
 ·rcases inew p hp with h | rfl
  ·exact G.ne p h
  ·simp
 ·rcases inew p hp with h | rfl
  ·rw [G.mem p h k]
   constructor
   ·rintro ⟨n, e1, e2, e3⟩
    exact ⟨n, e1, by omega, e3⟩
   ·rintro ⟨n, e1, e2, e3, e4⟩
    by_cases hni : n = i
    ·subst hni
     rw [hm] at e3
     cases e3
     exact (hn p h rfl).elim
    ·exact ⟨n, e1, by omega, e3, e4⟩
  ·constructor
   ·intro hk
    simp at hk
    exact ⟨i, hk, by omega, hm, cs, hc, hne⟩
   ·rintro ⟨n, rfl, e2, e3, cs', e4, e5⟩
    by_cases hni : n = i
    ·subst hni; simp
    ·obtain ⟨l, hl⟩ := G.all n m cs' (by omega) e3 e4 e5
     exact (hn _ hl rfl).elim
 ·rcases inew p hp with h | rfl
  ·exact G.asc p h
  ·simp
 ·rcases at_ a p h1 with f1 | ⟨f1, rfl⟩ <;> rcases at_ b q h2 with f2 | ⟨f2, rfl⟩
  ·exact G.keys a b p q f1 f2 e
  ·exact (hn p (List.mem_of_getElem? f1) e).elim
  ·exact (hn q (List.mem_of_getElem? f2) e.symm).elim
  ·omega
 ·by_cases hni : n = i
  ·subst hni
   rw [hm] at h2
   cases h2
   exact ⟨[(n : Int)], List.mem_append_right _ (by simp)⟩
  ·obtain ⟨l, hl⟩ := G.all n m' cs' (by omega) h2 h3 h4
   exact ⟨l, List.mem_append_left _ hl⟩
 ·rcases at_ a p h1 with f1 | ⟨f1, rfl⟩ <;> rcases at_ b q h2 with f2 | ⟨f2, rfl⟩
  ·exact G.heads a b p q hab f1 f2
  ·have hp := List.mem_of_getElem? f1
   obtain ⟨n, e1, e2, _⟩ := (G.mem p hp _).1 (headD_mem (G.ne p hp))
   rw [e1]
   show (n : Int) < (i : Int)
   omega
  ·have := (List.getElem?_eq_some_iff.1 f2).1; omega
  ·omega
theorem Grp.join {ms : List Int} {i a : Nat} {gs : List (Int × List Int)} {m : Int} {l : List Int} {cs : List Ch} (G : Grp g ms i gs) (hm : ms[i]? = some m) (hc : g[i]? = some cs) (hne : cs ≠ []) (ha : gs[a]? = some (m, l)) : Grp g ms (i + 1) (gs.set a (m, l ++ [(i : Int)])) := by
 have hal := (List.getElem?_eq_some_iff.1 ha).1
 have hml := List.mem_of_getElem? ha
 have at_ : ∀ (b : Nat) p, (gs.set a (m, l ++ [(i : Int)]))[b]? = some p → (b ≠ a ∧ gs[b]? = some p) ∨ (b = a ∧ p = (m, l ++ [(i : Int)])) := fun b p h => by
  rw [List.getElem?_set] at h
  by_cases e : a = b
  ·rw [if_pos e, if_pos hal] at h
   cases h
   exact .inr ⟨e.symm, rfl⟩
  ·rw [if_neg e] at h
   exact .inl ⟨fun z => e z.symm, h⟩
 have inew : ∀ p ∈ gs.set a (m, l ++ [(i : Int)]), (∃ b, b ≠ a ∧ gs[b]? = some p) ∨ p = (m, l ++ [(i : Int)]) := fun p hp => by
  obtain ⟨b, hb⟩ := List.getElem?_of_mem hp
  rcases at_ b p hb with ⟨h1, h2⟩ | ⟨_, h2⟩
  ·exact .inl ⟨b, h1, h2⟩
  ·exact .inr h2
 have hd : (l ++ [(i : Int)]).headD 0 = l.headD 0 := by
  cases l with
  | nil => exact (G.ne _ hml rfl).elim
  | cons x r => rfl
 refine ⟨fun p hp => ?_, fun p hp k => ?_, fun p hp => ?_, fun b d p q h1 h2 e => ?_, fun n m' cs' h1 h2 h3 h4 => ?_, fun b d p q hbd h1 h2 => ?_, by have := G.len; simp; omega⟩
 ·rcases inew p hp with ⟨b, _, h⟩ | rfl
  ·exact G.ne p (List.mem_of_getElem? h)
  ·simp
 ·rcases inew p hp with ⟨b, hb, h⟩ | rfl
  ·rw [G.mem p (List.mem_of_getElem? h) k]
   constructor
   ·rintro ⟨n, e1, e2, e3⟩
    exact ⟨n, e1, by omega, e3⟩
   ·rintro ⟨n, e1, e2, e3, e4⟩
    by_cases hni : n = i
    ·subst hni
     rw [hm] at e3
     cases e3
     exact (hb (G.keys b a p _ h ha rfl)).elim
    ·exact ⟨n, e1, by omega, e3, e4⟩
  ·show k ∈ l ++ [(i : Int)] ↔ _
   rw [List.mem_append, G.mem _ hml k]
   constructor
   ·rintro (⟨n, e1, e2, e3⟩ | hk)
    ·exact ⟨n, e1, by omega, e3⟩
    ·simp at hk
     exact ⟨i, hk, by omega, hm, cs, hc, hne⟩
   ·rintro ⟨n, rfl, e2, e3, e4⟩
    by_cases hni : n = i
    ·subst hni; right; simp
    ·exact .inl ⟨n, rfl, by omega, e3, e4⟩
 ·rcases inew p hp with ⟨b, _, h⟩ | rfl
  ·exact G.asc p (List.mem_of_getElem? h)
  ·refine List.pairwise_append.2 ⟨G.asc _ hml, by simp, fun u hu v hv => ?_⟩
   simp at hv
   subst hv
   obtain ⟨n, rfl, e2, _⟩ := (G.mem _ hml u).1 hu
   omega
 ·rcases at_ b p h1 with ⟨f0, f1⟩ | ⟨f1, rfl⟩ <;> rcases at_ d q h2 with ⟨f0', f2⟩ | ⟨f2, rfl⟩
  ·exact G.keys b d p q f1 f2 e
  ·exact (f0 (G.keys b a p _ f1 ha e)).elim
  ·exact (f0' (G.keys d a q _ f2 ha e.symm)).elim
  ·omega
 ·by_cases hni : n = i
  ·subst hni
   rw [hm] at h2
   cases h2
   exact ⟨l ++ [(n : Int)], List.mem_of_getElem? (i := a) (by rw [List.getElem?_set, if_pos rfl, if_pos hal])⟩
  ·obtain ⟨l', hl'⟩ := G.all n m' cs' (by omega) h2 h3 h4
   obtain ⟨b, hb⟩ := List.getElem?_of_mem hl'
   by_cases e : a = b
   ·subst e
    rw [ha] at hb
    cases hb
    exact ⟨l ++ [(i : Int)], List.mem_of_getElem? (i := a) (by rw [List.getElem?_set, if_pos rfl, if_pos hal])⟩
   ·exact ⟨l', List.mem_of_getElem? (i := b) (by rw [List.getElem?_set, if_neg e]; exact hb)⟩
 ·rcases at_ b p h1 with ⟨f0, f1⟩ | ⟨f1, rfl⟩ <;> rcases at_ d q h2 with ⟨f0', f2⟩ | ⟨f2, rfl⟩
  ·exact G.heads b d p q hbd f1 f2
  ·subst f2
   show p.2.headD 0 < (l ++ [(i : Int)]).headD 0
   rw [hd]
   exact G.heads b d p _ hbd f1 ha
  ·subst f1
   show (l ++ [(i : Int)]).headD 0 < q.2.headD 0
   rw [hd]
   exact G.heads b d _ q hbd ha f2
  ·omega
end
section
variable {fu : Nat} {S S' : Sto} {x y z : Xv} {g : Net} {c : Int}
structure Ring (g : Net) (v : Int) (r : List Int) : Prop where
 ch : ∃ cs, g[v.toNat]? = some cs ∧ cs ≠ []
 v0 : 0 ≤ v
 asc : r.Pairwise (· < ·)
 mem : ∀ k, k ∈ r ↔ Rch g v k
 all : ∀ w ∈ r, ∀ k, Rch g w k ↔ Rch g v k
 hd : r.headD 0 = v
structure IsRings (g : Net) (rs : List (List Int)) : Prop where
 ring : ∀ r ∈ rs, Ring g (r.headD 0) r
 all : ∀ v r, Ring g v r → r ∈ rs
 asc : ∀ (a b : Nat) p q, a < b → rs[a]? = some p → rs[b]? = some q → p.headD 0 < q.headD 0
theorem asc_same {a b : List Int} (ha : a.Pairwise (· < ·)) (hb : b.Pairwise (· < ·)) (h : ∀ k, k ∈ a ↔ k ∈ b) : a = b := by
 have na : a.Nodup := ha.imp fun h => by omega
 have nb : b.Nodup := hb.imp fun h => by omega
 exact PySem.W.ksm_same ((List.perm_ext_iff_of_nodup na nb).2 h) (ha.imp fun h => by omega) (hb.imp fun h => by omega)
theorem rch_nat (ho : NetOk c g) {v k : Int} (h0 : 0 ≤ v) (h : Rch g v k) : 0 ≤ k := by
 induction h with
 | here => exact h0
 | step _ hs _ => exact (ho.succ_in hs).1
theorem no_more {v k : Int} (h : ∀ cs, g[v.toNat]? = some cs → cs = []) (hr : Rch g v k) : k = v := by
 have hs : succ g v = [] := by
  unfold succ
  cases e : g[v.toNat]? with
  | none => rfl
  | some cs => rw [h cs e]; rfl
 induction hr with
 | here => rfl
 | step _ hs2 ih => rw [ih, hs] at hs2; cases hs2
theorem Grp.rings {ms : List Int} {gs : List (Int × List Int)} (ho : NetOk c g) (G : Grp g ms g.length gs) (hl : ms.length = g.length) (hm : ∀ (i : Nat) m, ms[i]? = some m → Rep m fun j => Rch g i j) {f : Int × List Int → Bool} (hf : ∀ p ∈ gs, f p = true ↔ Rep p.1 fun i => (i : Int) ∈ p.2) : IsRings g ((gs.filter f).map (·.2)) := by
 have key : ∀ p ∈ gs, f p = true → Ring g (p.2.headD 0) p.2 := fun p hp hfp => by
  have rp := (hf p hp).1 hfp
  have hmem : ∀ w ∈ p.2, 0 ≤ w ∧ (∃ cs, g[w.toNat]? = some cs ∧ cs ≠ []) ∧ ∀ k : Int, 0 ≤ k → (Rch g w k ↔ k ∈ p.2) := fun w hw => by
   obtain ⟨n, rfl, _, e3, e4⟩ := (G.mem p hp w).1 hw
   refine ⟨by omega, by simpa using e4, fun k hk => ?_⟩
   have a := (hm n _ e3).2 k.toNat
   have b := rp.2 k.toNat
   simp only [Int.toNat_of_nonneg hk] at a b
   exact a.symm.trans b
  obtain ⟨h0, h1, h2⟩ := hmem _ (headD_mem (G.ne p hp))
  have h3 : ∀ k, k ∈ p.2 ↔ Rch g (p.2.headD 0) k := fun k => ⟨fun hk => (h2 k (hmem k hk).1).2 hk, fun hk => (h2 k (rch_nat ho h0 hk)).1 hk⟩
  refine ⟨h1, h0, G.asc p hp, h3, fun w hw k => ?_, rfl⟩
  obtain ⟨w0, _, w2⟩ := hmem w hw
  exact ⟨fun hk => (h3 k).1 ((w2 k (rch_nat ho w0 hk)).1 hk), fun hk => (w2 k (rch_nat ho h0 hk)).2 ((h3 k).2 hk)⟩
 refine ⟨fun r hr => ?_, fun v r hv => ?_, fun a b p q hab h1 h2 => ?_⟩
 ·obtain ⟨p, hp, rfl⟩ := List.mem_map.1 hr
  obtain ⟨hp1, hp2⟩ := List.mem_filter.1 hp
  exact key p hp1 hp2
 ·obtain ⟨cs, hcs, hne⟩ := hv.ch
  have hvl := (List.getElem?_eq_some_iff.1 hcs).1
  have em : ms[v.toNat]? = some ms[v.toNat] := List.getElem?_eq_getElem (by omega)
  obtain ⟨l, hl2⟩ := G.all _ _ cs hvl em hcs hne
  have hmv := hm _ _ em
  rw [Int.toNat_of_nonneg hv.v0] at hmv
  have hmemr : ∀ k, k ∈ l ↔ k ∈ r := fun k => by
   rw [G.mem _ hl2 k, hv.mem k]
   constructor
   ·rintro ⟨n, rfl, _, e3, _⟩
    have a := (hm n _ e3).2 n
    have b := hmv.2 n
    exact b.1 (a.2 .here)
   ·intro hk
    have k0 := rch_nat ho hv.v0 hk
    have hkr := hv.all k ((hv.mem k).2 hk)
    have hch : ∃ cs, g[k.toNat]? = some cs ∧ cs ≠ [] := by
     apply Classical.byContradiction
     intro hn
     have := no_more (v := k) (fun cs e => Classical.byContradiction fun z => hn ⟨cs, e, z⟩) ((hkr v).2 .here)
     subst this
     exact hn ⟨cs, hcs, hne⟩
    obtain ⟨ck, hck, hckne⟩ := hch
    have hkl := (List.getElem?_eq_some_iff.1 hck).1
    have ek : ms[k.toNat]? = some ms[k.toNat] := List.getElem?_eq_getElem (by omega)
    refine ⟨k.toNat, by omega, hkl, ?_, ck, hck, hckne⟩
    rw [ek]
    have := hm _ _ ek
    rw [Int.toNat_of_nonneg k0] at this
    exact congrArg some (this.inj hmv fun j => hkr j)
  have hlr : l = r := asc_same (G.asc _ hl2) hv.asc hmemr
  subst hlr
  refine List.mem_map.2 ⟨_, List.mem_filter.2 ⟨hl2, (hf _ hl2).2 ?_⟩, rfl⟩
  exact hmv.congr fun j => (hv.mem j).symm
 ·rw [List.getElem?_map] at h1 h2
  cases e1 : (gs.filter f)[a]? with
  | none => rw [e1] at h1; cases h1
  | some p' =>
   cases e2 : (gs.filter f)[b]? with
   | none => rw [e2] at h2; cases h2
   | some q' =>
    rw [e1] at h1
    rw [e2] at h2
    cases h1; cases h2
    have pw : gs.Pairwise fun p q => p.2.headD 0 < q.2.headD 0 := by
     rw [List.pairwise_iff_getElem]
     intro i j hi hj hij
     exact G.heads i j _ _ hij (List.getElem?_eq_getElem hi) (List.getElem?_eq_getElem hj)
    have := List.pairwise_iff_getElem.1 (pw.filter f) a b (List.getElem?_eq_some_iff.1 e1).1 (List.getElem?_eq_some_iff.1 e2).1 hab
    rw [(List.getElem?_eq_some_iff.1 e1).2, (List.getElem?_eq_some_iff.1 e2).2] at this
    exact this
end
section
variable {fu : Nat} {S S' : Sto} {x y z : Xv} {g : Net} {c : Int}
theorem put_new {kvs : List (Key × Xv)} {k : Key} {v : Xv} (h : valX kvs k = none) : putX kvs k v = kvs ++ [(k, v)] := by
 have hn := valX_none h
 unfold putX
 rw [if_neg]
 intro z
 obtain ⟨p, hp, e⟩ := List.any_eq_true.1 z
 exact hn (List.mem_map.2 ⟨p, hp, of_decide_eq_true e⟩)
structure KvOk (b mn : Nat) (S : Sto) (kvs : List (Key × Xv)) (gs : List (Int × List Int)) : Prop where
 len : kvs.length = gs.length
 at_ : ∀ (i : Nat) p, gs[i]? = some p → ∃ n, kvs[i]? = some (.inl p.1, .ref n) ∧ b ≤ n ∧ mn < n ∧ S[n]? = some (.lst (p.2.map Xv.int))
 ap : ∀ (i j n : Nat) k l, kvs[i]? = some (k, .ref n) → kvs[j]? = some (l, .ref n) → i = j
structure Rows (b n : Nat) (S : Sto) (as : List Nat) (rl : List (List Int)) : Prop where
 len : as.length = rl.length
 at_ : ∀ (i : Nat) a r, as[i]? = some a → rl[i]? = some r → S[a]? = some (.lst (r.map Xv.int)) ∧ b ≤ a ∧ a < n
theorem rows_of : ∀ {as : List Nat} {rl : List (List Int)}, as.length = rl.length → (∀ (i : Nat) a r, as[i]? = some a → rl[i]? = some r → S[a]? = some (.lst (r.map Xv.int))) → rowsX S (as.map Xv.ref) = some rl
 | [], [], _, _ => rfl
 | [], _ :: _, h, _ => by simp at h
 | _ :: _, [], h, _ => by simp at h
 | a :: as, r :: rl, h, k => by
  have h1 := k 0 a r rfl rfl
  have ih := rows_of (as := as) (rl := rl) (by simpa using h) fun i a' r' e1 e2 => k (i + 1) a' r' (by simpa using e1) (by simpa using e2)
  rw [List.map_cons]
  unfold rowsX
  rw [lstAt_of h1, Option.bind_some, intsX_map, Option.bind_some, ih]
  rfl
theorem IsRings.ok {rl : List (List Int)} (h : IsRings g rl) (hl : rl.length < 64) : okRows rl := by
 refine ⟨fun r hr e => ?_, fun i j hij hj => ?_, hl⟩
 ·have := ((h.ring r hr).mem _).2 .here
  rw [e] at this
  cases this
 ·rw [List.getD_eq_getElem?_getD, List.getD_eq_getElem?_getD, List.getElem?_eq_getElem hj, List.getElem?_eq_getElem (show i < rl.length by omega)]
  exact h.asc i j _ _ hij (List.getElem?_eq_getElem (by omega)) (List.getElem?_eq_getElem hj)
open Classical in
noncomputable def own (p : Int × List Int) : Bool := decide (Rep p.1 fun i => (i : Int) ∈ p.2)
open Classical in
theorem own_iff (p : Int × List Int) : own p = true ↔ Rep p.1 fun i => (i : Int) ∈ p.2 := by unfold own; exact decide_eq_true_iff
theorem t_rings (ho : NetOk c g) (h : NetAt S x g) (h1 : ∀ cs ∈ g, cs.length ≤ 1) : W (tw_rings_of fu [x] S) fun v S' => S <+: S' ∧ ∃ (n : Nat) (as : List Nat) (rl : List (List Int)), v = .ref n ∧ S.length ≤ n ∧ S'[n]? = some (.lst (as.map Xv.ref)) ∧ Rows S.length n S' as rl ∧ IsRings g rl ∧ rl.length ≤ 60 := by
 walk_at "wr"; unfold tb_rings_of; walk_at "w"
 have hl := ho.len
 have h60 := ho.c60
 refine (t_refuse ho h h1).imp ?_
 rintro _ S1 p1
 walk_at "w"
 have hdn := p1.length_le
 have c2 : (S1 ++ [Ce.dk []])[S1.length]? = some (.dk []) := by simp
 have p2 : S <+: S1 ++ [Ce.dk []] := pre_ext p1
 generalize S1.length = dn at c2 hdn ⊢
 generalize S1 ++ [Ce.dk []] = S2 at c2 p2 ⊢
 refine wx_for (wx_iEn ?_)
 walk_at "w"
 refine (t_masks ho (h.mono (Le.pre p2))).imp ?_
 rintro _ S3 ⟨p3, mn, ms, rfl, hmn, c3, lm, hms⟩
 have d3 := pre_ce p3 c2
 have p3 := p2.trans p3
 refine ⟨_, lstAt_of c3, enumX (ms.map Xv.int), by dsimp only; rw [lstAt_of c3]; rfl, ?_⟩
 obtain ⟨xl, x1, x2, x3⟩ := id h
 refine wx_forI (xs := enumX (ms.map Xv.int)) (fun i ρ S4 => S <+: S4 ∧ S3.length ≤ S4.length ∧ ∃ (a2 a3 : Option Xv) (kvs : List (Key × Xv)) (gs : List (Int × List Int)), ρ = [some x, some (.ref dn), a2, a3] ∧ S4[dn]? = some (.dk kvs) ∧ S4[mn]? = some (.lst (ms.map Xv.int)) ∧ Grp g ms i gs ∧ KvOk S.length mn S4 kvs gs) ?_ ?_ ?_ ?_
 ·rintro i ρ S4 _ ⟨_, _, _, _, _, _, _, _, e, _⟩
  show (lstAt S4 (.ref mn)).map enumX = _
  rw [lstAt_of e]
  rfl
 ·rintro i w ρ S4 hw ⟨p4, l4, a2, a3, kvs, gs, rfl, d4, m4, G, V⟩
  obtain ⟨z, ez, rfl⟩ := enumX_at hw
  rw [List.getElem?_map] at ez
  cases em : ms[i]? with
  | none => rw [em] at ez; cases ez
  | some m =>
   rw [em] at ez
   cases ez
   have hi : i < g.length := by have := (List.getElem?_eq_some_iff.1 em).1; omega
   have hcs : g[i]? = some g[i] := List.getElem?_eq_getElem hi
   obtain ⟨cz, z1, zl, z2, z3, _⟩ := x3 i _ hcs
   generalize g[i] = cs at hcs z3
   have hmnl := (List.getElem?_eq_some_iff.1 m4).1
   have hdnl := (List.getElem?_eq_some_iff.1 d4).1
   refine .of rfl ?_
   dsimp only [List.set]
   refine wx_if ?_
   walk_at "w"
   refine ox_ixL (Le.pre p4 _ _ x1) (atI_nn (by omega) (by rw [Int.toNat_natCast]; exact z1)) ?_
   walk_at "w"
   refine ox_len (Le.pre p4 _ _ z2) ?_
   walk_at "w"
   refine wx_ifT (fun hz => ?_) (fun hz => ?_)
   ·have hne : cs ≠ [] := fun e => by rw [e] at z3; simp at z3; rw [z3] at hz; simp at hz
    walk_at "w"
    refine wx_mt (wx_dsetd ?_)
    walk_at "w"
    refine ⟨⟨_, dkAt_of d4⟩, ?_⟩
    walk_at "w"
    have d5 : (S4 ++ [Ce.lst []])[dn]? = some (.dk kvs) := pre_ce (List.prefix_append _ _) d4
    have m5 : (S4 ++ [Ce.lst []])[mn]? = some (.lst (ms.map Xv.int)) := pre_ce (List.prefix_append _ _) m4
    have hkl : kvs.length < sizeLine := sz64 (by have := G.len; have := V.len; omega)
    refine ⟨dn, kvs, .inl m, dkAt_of d5, rfl, hkl, fun v hv => ?_, fun hv => ?_⟩
    ·obtain ⟨a, ha⟩ := List.getElem?_of_mem (valX_mem hv)
     have hag : a < gs.length := by have := (List.getElem?_eq_some_iff.1 ha).1; have := V.len; omega
     obtain ⟨n, e1, e2, e2', e3⟩ := V.at_ a _ (List.getElem?_eq_getElem hag)
     rw [ha] at e1
     have hga : gs[a]? = some (m, gs[a].2) := by
      rw [List.getElem?_eq_getElem hag]
      have := congrArg Prod.fst (Option.some.inj e1)
      simp only [Sum.inl.injEq] at this
      rw [this]
     have hv : v = .ref n := congrArg Prod.snd (Option.some.inj e1)
     subst hv
     generalize gs[a].2 = l at hga e3
     have e5 : (S4 ++ [Ce.lst []])[n]? = some (.lst (l.map Xv.int)) := pre_ce (List.prefix_append _ _) e3
     refine ⟨⟨_, lstAt_of e5⟩, ?_⟩
     walk_at "w"
     refine ox_append (wlAt_of e5) (by
      rw [List.length_map]
      have hnd : l.Nodup := (G.asc _ (List.mem_of_getElem? hga)).imp fun h => by omega
      have := nd_len 60 l hnd fun k hk => by
       obtain ⟨q, rfl, q2, _⟩ := (G.mem _ (List.mem_of_getElem? hga) k).1 hk
       omega
      exact sz64 (by omega)) ?_
     have nd : n ≠ dn := fun e => by subst e; rw [d4] at e3; cases e3
     refine ⟨pre_set (pre_ext p4) e2, by simp; omega, _, _, kvs, gs.set a (m, l ++ [(i : Int)]), rfl, set_else d5 nd, set_else m5 (by omega), G.join em hcs hne hga, ⟨by simp [V.len], fun j p hj => ?_, V.ap⟩⟩
     rw [List.getElem?_set] at hj
     by_cases e : a = j
     ·subst e
      rw [if_pos rfl, if_pos hag] at hj
      cases hj
      exact ⟨n, ha, e2, e2', by rw [List.map_append]; exact set_new e5⟩
     ·rw [if_neg e] at hj
      obtain ⟨k, f1, f2, f3, f4⟩ := V.at_ j p hj
      refine ⟨k, f1, f2, f3, set_else (pre_ce (List.prefix_append _ _) f4) fun z => ?_⟩
      subst z
      exact e (V.ap a j n _ _ ha f1)
    ·have e5 : ((S4 ++ [Ce.lst []]).set dn (.dk (putX kvs (.inl m) (.ref S4.length))))[S4.length]? = some (.lst []) := set_else (by simp) (by omega)
     refine ⟨⟨_, lstAt_of e5⟩, ?_⟩
     walk_at "w"
     refine ox_append (wlAt_of e5) (by decide) ?_
     rw [put_new hv] at e5 ⊢
     have hsl := p4.length_le
     have old : ∀ (j n : Nat) k, kvs[j]? = some (k, .ref n) → n < S4.length := fun j n k hj => by
      have hjg : j < gs.length := by have := (List.getElem?_eq_some_iff.1 hj).1; have := V.len; omega
      obtain ⟨q, f1, _, _, f4⟩ := V.at_ j _ (List.getElem?_eq_getElem hjg)
      rw [hj] at f1
      cases f1
      exact (List.getElem?_eq_some_iff.1 f4).1
     have at2 : ∀ (j n : Nat) k, (kvs ++ [(Sum.inl m, Xv.ref S4.length)])[j]? = some (k, .ref n) → kvs[j]? = some (k, .ref n) ∨ (j = kvs.length ∧ n = S4.length) := fun j n k hj => by
      by_cases hjl : j < kvs.length
      ·rw [List.getElem?_append_left hjl] at hj; exact .inl hj
      ·rw [List.getElem?_append_right (by omega)] at hj
       have hz : j - kvs.length = 0 := by
        have := (List.getElem?_eq_some_iff.1 hj).1
        simpa using this
       rw [hz] at hj
       simp at hj
       exact .inr ⟨by omega, hj.2.symm⟩
     refine ⟨pre_set (pre_set (pre_ext p4) hdn) hsl, by simp; omega, _, _, _, gs ++ [(m, [(i : Int)])], rfl, set_else (set_dk d5) (by omega), set_else (set_else m5 (fun e => by subst e; rw [d4] at m4; cases m4)) (by omega), G.fresh em hcs hne (fun p hp e => ?_), ⟨by simp [V.len], fun j p hj => ?_, fun j k n e f h3 h4 => ?_⟩⟩
     ·obtain ⟨a, ha⟩ := List.getElem?_of_mem hp
      obtain ⟨n, f1, _⟩ := V.at_ a p ha
      have := valX_none hv
      rw [← e] at this
      exact this (List.mem_map.2 ⟨_, List.mem_of_getElem? f1, rfl⟩)
     ·by_cases hjl : j < gs.length
      ·rw [List.getElem?_append_left hjl] at hj
       obtain ⟨k, f1, f2, f3, f4⟩ := V.at_ j p hj
       have hk4 := old j k _ f1
       refine ⟨k, by rw [List.getElem?_append_left (by have := V.len; omega)]; exact f1, f2, f3, set_else (set_else (pre_ce (List.prefix_append _ _) f4) fun z => ?_) (by omega)⟩
       subst z
       rw [d4] at f4
       cases f4
      ·rw [List.getElem?_append_right (by omega)] at hj
       have hz : j - gs.length = 0 := by
        have := (List.getElem?_eq_some_iff.1 hj).1
        simpa using this
       rw [hz] at hj
       simp at hj
       subst hj
       refine ⟨S4.length, by rw [List.getElem?_append_right (by have := V.len; omega), show j - kvs.length = 0 by have := V.len; omega]; rfl, hsl, hmnl, ?_⟩
       exact set_new e5
     ·rcases at2 j n e h3 with q1 | ⟨q1, q2⟩ <;> rcases at2 k n f h4 with r1 | ⟨r1, r2⟩
      ·exact V.ap j k n e f q1 r1
      ·have := old j n e q1; omega
      ·have := old k n f r1; omega
      ·omega
   ·have hce : cs = [] := List.eq_nil_of_length_eq_zero (by omega)
    walk_at "w"
    exact ⟨p4, l4, _, _, kvs, gs, rfl, d4, m4, G.skip fun cs' e => by rw [hcs] at e; cases e; exact hce, V⟩
 ·exact ⟨p3, Nat.le_refl _, _, _, [], [], rfl, d3, c3, ⟨by simp, by simp, by simp, fun a b p q h => by simp at h, fun n m cs hn => by omega, fun a b p q _ h => by simp at h, by simp⟩, ⟨rfl, fun i p h => by simp at h, fun i j n k l h => by simp at h⟩⟩
 ·rintro ρ S4 ⟨p4, l4, a2, a3, kvs, gs, rfl, d4, m4, G, V⟩
  rw [enumX_len, List.length_map, lm] at G
  walk_at "w"
  refine wx_comp (wx_iIt ?_)
  walk_at "w"
  refine ⟨dn, kvs, dkAt_of d4, ?_⟩
  have f5 : (S4.set dn (.fdk kvs))[dn]? = some (.fdk kvs) := by rw [List.getElem?_set, if_pos rfl, if_pos (List.getElem?_eq_some_iff.1 d4).1]
  have p5 : S <+: S4.set dn (.fdk kvs) := pre_set p4 hdn
  have V5 : ∀ (i : Nat) p, gs[i]? = some p → ∃ n, kvs[i]? = some (.inl p.1, .ref n) ∧ S.length ≤ n ∧ (S4.set dn (.fdk kvs))[n]? = some (.lst (p.2.map Xv.int)) := fun i p hp => by
   obtain ⟨n, e1, e2, _, e3⟩ := V.at_ i p hp
   exact ⟨n, e1, e2, set_else e3 fun z => by subst z; rw [d4] at e3; cases e3⟩
  generalize S4.set dn (.fdk kvs) = S5 at f5 p5 V5 ⊢
  have get5 : fdkAt dn S5 = some (pairsX kvs) := by unfold fdkAt; rw [f5]
  refine ⟨_, get5, ?_⟩
  have hpl : (pairsX kvs).length = gs.length := by unfold pairsX; rw [List.length_map, V.len]
  refine wx_compF (by rw [hpl]; exact Nat.le_of_lt (sz64 (by have := G.len; omega))) (fun i es S6 => S5 = S6 ∧ ∃ as : List Nat, es = as.map Xv.ref ∧ Rows S.length S5.length S5 as (((gs.take i).filter own).map (·.2))) ?_ ?_ ⟨rfl, [], rfl, ⟨rfl, fun i a r h => by simp at h⟩⟩ ?_
  ·rintro _ _ _ _ ⟨rfl, _⟩
   exact get5
  ·rintro i w es _ hw _ ⟨rfl, as, rfl, R⟩
   have hig : i < gs.length := by have := (List.getElem?_eq_some_iff.1 hw).1; omega
   have hgi : gs[i]? = some gs[i] := List.getElem?_eq_getElem hig
   obtain ⟨n, e1, e2, e3⟩ := V5 i _ hgi
   have hw2 : w = .tup [.int gs[i].1, .ref n] := by
    unfold pairsX at hw
    rw [List.getElem?_map, e1] at hw
    cases hw
    rfl
   subst hw2
   have htake : gs.take (i + 1) = gs.take i ++ [gs[i]] := List.take_succ_eq_append_getElem hig
   have hG := fun k => G.mem _ (List.mem_of_getElem? hgi) k
   rw [htake]
   generalize gs[i] = p at hgi e1 e3 hG
   refine .of rfl ?_
   dsimp only [capR, List.map, List.set]
   refine wx_bE (wx_op (wx_var rfl (wx_call (wx_cons (wx_var rfl (wx_nil ?_))))))
   refine (t_mask (lstAt_of e3) (fun k hk => by obtain ⟨q, rfl, q2, _⟩ := (hG k).1 hk; omega)).imp ?_
   rintro _ _ ⟨rfl, m', rfl, hm'⟩
   refine ox_eqI ?_
   have hown : own p = decide (p.1 = m') := by
    unfold own
    rw [decide_eq_decide]
    exact ⟨fun r => r.inj hm' fun _ => Iff.rfl, fun e => by rw [e]; exact hm'⟩
   refine ⟨_, rfl, fun hb => ?_, fun hb => ?_⟩
   ·rw [← hown] at hb
    refine wx_var rfl ?_
    refine ⟨rfl, as ++ [n], by rw [List.map_append]; rfl, ?_⟩
    rw [List.filter_append, List.map_append, show [p].filter own = [p] by simp [hb]]
    refine ⟨by simp [R.len], fun j a r ha hr => ?_⟩
    by_cases hj : j < as.length
    ·rw [List.getElem?_append_left hj] at ha
     rw [List.getElem?_append_left (by rw [← R.len]; exact hj)] at hr
     exact R.at_ j a r ha hr
    ·rw [List.getElem?_append_right (by omega)] at ha
     rw [List.getElem?_append_right (by rw [← R.len]; omega)] at hr
     have hz : j - as.length = 0 := by
      have := (List.getElem?_eq_some_iff.1 ha).1
      simpa using this
     rw [hz] at ha
     rw [← R.len, hz] at hr
     simp at ha hr
     subst ha hr
     exact ⟨e3, e2, (List.getElem?_eq_some_iff.1 e3).1⟩
   ·rw [← hown] at hb
    refine ⟨rfl, as, rfl, ?_⟩
    rw [List.filter_append, show [p].filter own = [] by simp [hb], List.append_nil]
    exact R
  ·rintro es _ _ ⟨rfl, as, rfl, R⟩
   rw [hpl, List.take_length] at R
   have RG := G.rings ho lm hms (f := own) fun p hp => own_iff p
   have hrl : ((gs.filter own).map (·.2)).length ≤ 60 := by
    have := List.length_filter_le own gs
    have := G.len
    rw [List.length_map]
    omega
   generalize (gs.filter own).map (·.2) = rl at R RG hrl
   walk_at "w"
   refine ox_sortLL lstAt_new (rows_of R.len fun i a r h3 h4 => pre_ce (List.prefix_append _ _) (R.at_ i a r h3 h4).1) (RG.ok (by omega)) ?_
   refine ⟨pre_ext (pre_ext p5), _, as, rl, rfl, by have := p5.length_le; simp; omega, by simp, ⟨R.len, fun i a r h3 h4 => ?_⟩, RG, hrl⟩
   obtain ⟨q1, q2, q3⟩ := R.at_ i a r h3 h4
   exact ⟨pre_ce (List.prefix_append _ _) (pre_ce (List.prefix_append _ _) q1), q2, by simp; omega⟩
end
section
variable {fu : Nat} {S S' : Sto} {x y z : Xv} {g : Net} {c : Int}
noncomputable def Below (c : Int) (g : Net) (v : Nat) (b : List Int) : Prop := ∃ l, Ahead c g v l ∧ b = sortI l
theorem Below.mem {v : Nat} {b : List Int} (h : Below c g v b) (k : Int) : k ∈ b ↔ Rch g v k := by
 obtain ⟨l, A, rfl⟩ := h
 rw [(sortI_perm l).mem_iff, A.mem]
theorem Below.asc {v : Nat} {b : List Int} (h : Below c g v b) : b.Pairwise (· < ·) := by
 obtain ⟨l, A, rfl⟩ := h
 have nd : (sortI l).Nodup := (sortI_perm l).nodup_iff.2 A.nd
 have ho := sortI_sorted l
 exact (ho.and nd).imp fun h => by omega
theorem Below.len {v : Nat} {b : List Int} (h : Below c g v b) (h0 : 0 ≤ c) (h60 : c ≤ 60) : b.length ≤ 60 := by
 obtain ⟨l, A, rfl⟩ := h
 rw [sortI_len]
 exact A.len h0 h60
theorem ref_of {l : List Xv} (h : lstAt S x = some l) : ∃ n, x = .ref n := by
 cases x <;> first | exact ⟨_, rfl⟩ | cases h
structure RowsL (S : Sto) (es : List Xv) (rl : List (List Int)) : Prop where
 len : es.length = rl.length
 at_ : ∀ (i : Nat) e r, es[i]? = some e → rl[i]? = some r → lstAt S e = some (r.map Xv.int)
theorem RowsL.mono {es : List Xv} {rl : List (List Int)} (R : RowsL S es rl) (p : Le S S') : RowsL S' es rl := ⟨R.len, fun i e r h1 h2 => p _ _ (R.at_ i e r h1 h2)⟩
theorem RowsL.add {es : List Xv} {rl : List (List Int)} {e : Xv} {r : List Int} (R : RowsL S es rl) (h : lstAt S e = some (r.map Xv.int)) : RowsL S (es ++ [e]) (rl ++ [r]) := ⟨by simp [R.len], fun i a b h1 h2 => by
 by_cases hi : i < es.length
 ·rw [List.getElem?_append_left hi] at h1
  rw [List.getElem?_append_left (by rw [← R.len]; exact hi)] at h2
  exact R.at_ i a b h1 h2
 ·rw [List.getElem?_append_right (by omega)] at h1
  rw [List.getElem?_append_right (by rw [← R.len]; omega)] at h2
  have hz : i - es.length = 0 := by
   have := (List.getElem?_eq_some_iff.1 h1).1
   simpa using this
  rw [hz] at h1
  rw [← R.len, hz] at h2
  simp at h1 h2
  subst h1 h2
  exact h⟩
end
section
variable {fu : Nat} {S S' : Sto} {x y z : Xv} {g : Net} {c : Int}
noncomputable def okD : Nat → D → Bool
 | 0, d => match d with
  | .tup _ => false
  | .lst _ => false
  | .ins _ _ _ => false
  | _ => true
 | n + 1, d => match d with
  | .tup l => l.all (okD n)
  | .lst l => l.all (okD n)
  | .ins _ _ _ => false
  | _ => true
theorem allZ_self {f : D → D → Option Bool} : ∀ (l : List D), (∀ d ∈ l, f d d = some true) → allZ f l l = some true
 | [], _ => rfl
 | d :: l, h => by
  unfold allZ
  rw [h d (by simp), Option.bind_some, allZ_self l fun e he => h e (by simp [he])]
  rfl
theorem eqG_refl : ∀ (n : Nat) (d : D), okD n d = true → eqG n d d = some true
 | 0, d, h => by cases d <;> first | (simp [eqG]; done) | (simp [okD] at h; done)
 | n + 1, d, h => by
  cases d with
  | tup l =>
   unfold okD at h
   unfold eqG
   dsimp only
   rw [allZ_self l fun e he => eqG_refl n e (List.all_eq_true.1 h e he)]
   simp
  | lst l =>
   unfold okD at h
   unfold eqG
   dsimp only
   rw [if_pos rfl]
   exact allZ_self l fun e he => eqG_refl n e (List.all_eq_true.1 h e he)
  | ins _ _ _ => simp [okD] at h
  | non => simp [eqG]
  | bl b => simp [eqG]
  | int i => simp [eqG]
  | str s => simp [eqG]
theorem net_ok (g : Net) : okD 40 (netD g) = true := by
 unfold netD okD
 dsimp only
 refine List.all_eq_true.2 fun d hd => ?_
 obtain ⟨cs, _, rfl⟩ := List.mem_map.1 hd
 unfold okD
 dsimp only
 refine List.all_eq_true.2 fun d hd => ?_
 obtain ⟨ch, _, rfl⟩ := List.mem_map.1 hd
 unfold chD okD
 dsimp only
 refine List.all_eq_true.2 fun d hd => ?_
 simp only [List.mem_cons, List.not_mem_nil, or_false] at hd
 rcases hd with rfl | rfl
 ·rfl
 ·unfold okD
  dsimp only
  refine List.all_eq_true.2 fun d hd => ?_
  obtain ⟨p, _, rfl⟩ := List.mem_map.1 hd
  rfl
end
section
variable {fu : Nat} {S S' : Sto} {x y z : Xv} {g : Net} {c s : Int}
noncomputable def Gn (g : Net) (v : Nat) : Prop := ∃ ch r, g[v]? = some (ch :: r) ∧ 0 < ch.1.1
noncomputable def HasG (g : Net) (r : List Int) : Prop := ∃ k ∈ r, Gn g k.toNat
noncomputable def GW (g : Net) (v : Nat) (x : Xv) : Prop := ∃ p q : Int, (x = .tup [.int p, .int q] ∨ x = .ct [.int p, .int q]) ∧ (¬ (p = 0 ∧ q = 1) ↔ Gn g v)
theorem GW.tell {v : Nat} (h : GW g v x) : ∃ p q : Int, tell S 40 x = some (.tup [.int p, .int q]) ∧ (¬ (p = 0 ∧ q = 1) ↔ Gn g v) := by
 obtain ⟨p, q, e, k⟩ := h
 refine ⟨p, q, ?_, k⟩
 rcases e with rfl | rfl <;> rfl
theorem eqG_pair (p q : Int) : eqG 40 (.tup [.int p, .int q]) (.tup [.int 0, .int 1]) = some (decide (p = 0 ∧ q = 1)) := by
 unfold eqG
 dsimp only
 by_cases hp : p = 0
 ·by_cases hq : q = 1
  ·subst hp hq; decide
  ·subst hp
   simp [allZ, eqG, hq]
 ·simp [allZ, eqG, hp]
theorem t_gains (ho : NetOk c g) (h : NetAt S x g) : W (tw_gains_of fu [x] S) fun v S' => S <+: S' ∧ ∃ (n : Nat) (l : List Xv), v = .ref n ∧ S'[n]? = some (.lst l) ∧ l.length = g.length ∧ ∀ (i : Nat) y, l[i]? = some y → GW g i y := by
 walk_at "wr"; unfold tb_gains_of; walk_at "w"
 obtain ⟨xl, x1, x2, x3⟩ := id h
 have hl := ho.len
 have h60 := ho.c60
 refine wx_comp (wx_iL ?_)
 walk_at "w"
 refine ⟨xl, x1, xl, x1, ?_⟩
 refine wx_compI (Nat.le_of_lt (sz64 (by omega))) (fun i es S2 => S = S2 ∧ ∀ (k : Nat) y, es[k]? = some y → GW g k y) ?_ ?_ ⟨rfl, by simp⟩ ?_
 ·rintro _ _ _ _ ⟨rfl, _⟩
  exact x1
 ·rintro i w es _ hw hel ⟨rfl, hk⟩
  obtain ⟨cs, hcs, zl, z1, z2, z3⟩ := LAt.get x3 x2 hw
  have fin : ∀ y, GW g i y → ∀ (k : Nat) y', (es ++ [y])[k]? = some y' → GW g k y' := fun y hy k y' e => by
   by_cases q : k < es.length
   ·rw [List.getElem?_append_left q] at e
    exact hk k y' e
   ·rw [List.getElem?_append_right (by omega)] at e
    have hz : k - es.length = 0 := by
     have := (List.getElem?_eq_some_iff.1 e).1
     simpa using this
    rw [hz] at e
    cases e
    rwa [show k = i by omega]
  refine .of rfl ?_
  dsimp only [capR, List.map, List.set]
  walk_at "w"
  refine ⟨rfl, ?_⟩
  refine wx_eIf ?_
  walk_at "w"
  refine ox_len z1 ?_
  walk_at "w"
  refine wx_ifT (fun hp => ?_) (fun hp => ?_)
  ·cases cs with
   | nil => rw [z2] at hp; simp at hp
   | cons ch r =>
    obtain ⟨w0, e0, y0, rfl, _⟩ := z3 0 ch rfl
    walk_at "w"
    refine ox_ixL z1 (atI_nn (by decide) (show zl[(0 : Int).toNat]? = _ from e0)) ?_
    walk_at "w"
    have hg := ho.gn _ (List.mem_of_getElem? hcs) ch (by simp)
    refine ⟨rfl, fin _ ⟨ch.1.1, ch.1.2, .inl rfl, fun q => ⟨ch, r, hcs, ?_⟩, ?_⟩⟩
    ·have : ch.1.1 ≠ 0 := fun z => q ⟨z, hg.2 z⟩
     omega
    ·rintro ⟨ch', r', e1, e2⟩ ⟨q1, _⟩
     rw [hcs] at e1
     cases e1
     omega
  ·cases cs with
   | cons ch r => rw [z2] at hp; simp at hp
   | nil =>
    walk_at "w"
    refine ⟨rfl, fin _ ⟨0, 1, .inr rfl, fun q => (q ⟨rfl, rfl⟩).elim, ?_⟩⟩
    rintro ⟨ch', r', e1, e2⟩
    rw [hcs] at e1
    cases e1
 ·rintro es _ hel ⟨rfl, hk⟩
  exact ⟨List.prefix_append _ _, _, es, rfl, by simp, by omega, hk⟩
theorem bols_map : ∀ l : List Bool, bolsX (l.map Xv.bl) = some l
 | [] => rfl
 | b :: l => by simp [bolsX, bols_map l]
open Classical in
theorem t_has (ho : NetOk c g) {gn rn : Nat} {gl : List Xv} {r : List Int} {a0 : Option Xv} (hg : S[gn]? = some (.lst gl)) (hgl : gl.length = g.length) (hG : ∀ (i : Nat) y, gl[i]? = some y → GW g i y) (hr : S[rn]? = some (.lst (r.map Xv.int))) (hrl : r.length ≤ 60) (hrr : ∀ k ∈ r, 0 ≤ k ∧ k < c) :
  W (bE (eFn dAny [(eComp [none, some 1] (iL (eVar 0)) (gN 0) bTrue (eOp (dEqG true) (eOp dIxL (eVar 1) (eVar 0)) (eC (.ct [.int 0, .int 1]))))]) [some (.ref rn), some (.ref gn)] S) fun b S' => S <+: S' ∧ (b = true ↔ HasG g r) := by
 refine wx_bE (wx_fn (wx_cons ?_))
 refine wx_comp (wx_iL ?_)
 walk_at "w"
 refine ⟨_, lstAt_of hr, _, lstAt_of hr, ?_⟩
 refine wx_compI (by rw [List.length_map]; exact Nat.le_of_lt (sz64 (by omega))) (fun i es S2 => S = S2 ∧ es = ((r.take i).map fun k => decide (Gn g k.toNat)).map Xv.bl) ?_ ?_ ⟨rfl, by simp⟩ ?_
 ·rintro _ _ _ _ ⟨rfl, _⟩
  exact lstAt_of hr
 ·rintro i w es _ hw hel ⟨rfl, rfl⟩
  rw [List.getElem?_map] at hw
  cases hq : r[i]? with
  | none => rw [hq] at hw; cases hw
  | some q =>
   rw [hq] at hw
   cases hw
   obtain ⟨q0, q1⟩ := hrr q (List.mem_of_getElem? hq)
   have hlen := ho.len
   have hql : q.toNat < gl.length := by omega
   have hgw := hG q.toNat _ (List.getElem?_eq_getElem hql)
   obtain ⟨p', q', t1, t2⟩ := hgw.tell (S := S)
   refine .of rfl ?_
   dsimp only [capR, List.map, List.set]
   walk_at "w"
   refine ⟨rfl, ?_⟩
   walk_at "w"
   refine ox_ixL (lstAt_of hg) (atI_nn q0 (List.getElem?_eq_getElem hql)) ?_
   walk_at "w"
   refine ox_eqG t1 (e := .tup [.int 0, .int 1]) rfl rfl (eqG_pair _ _) ?_
   refine ⟨rfl, ?_⟩
   have hk := List.getElem?_eq_some_iff.1 hq
   rw [List.take_succ_eq_append_getElem hk.1, hk.2, List.map_append, List.map_append]
   congr 1
   have : (true != decide (p' = 0 ∧ q' = 1)) = decide (Gn g q.toNat) := by
    rw [Bool.eq_iff_iff, decide_eq_true_iff, ← t2]
    by_cases h : p' = 0 ∧ q' = 1
    ·simp [h]
    ·simp [h]
   rw [this]
   rfl
 ·rintro es _ hel ⟨rfl, rfl⟩
  rw [List.length_map, List.take_length] at *
  walk_at "w"
  refine ox_any lstAt_new (bols_map _) ?_
  refine ⟨_, rfl, List.prefix_append _ _, ?_⟩
  rw [List.any_eq_true]
  unfold HasG
  constructor
  ·rintro ⟨b, hb, e⟩
   obtain ⟨k, hk, rfl⟩ := List.mem_map.1 hb
   exact ⟨k, hk, of_decide_eq_true e⟩
  ·rintro ⟨k, hk, e⟩
   exact ⟨_, List.mem_map.2 ⟨k, hk, rfl⟩, decide_eq_true e⟩
structure GRings (g : Net) (rl : List (List Int)) : Prop where
 ring : ∀ r ∈ rl, Ring g (r.headD 0) r ∧ HasG g r
 all : ∀ v r, Ring g v r → HasG g r → r ∈ rl
theorem Ring.rng (ho : NetOk c g) {v : Int} {r : List Int} (R : Ring g v r) : ∀ k ∈ r, 0 ≤ k ∧ k < c := fun k hk => by
 have hk := (R.mem k).1 hk
 obtain ⟨cs, e1, _⟩ := R.ch
 have hvl := (List.getElem?_eq_some_iff.1 e1).1
 have hl := ho.len
 have v0 := R.v0
 cases hk with
 | here => omega
 | step _ hs => exact ho.succ_in hs
theorem Ring.len (ho : NetOk c g) {v : Int} {r : List Int} (R : Ring g v r) : r.length ≤ 60 := by
 have h60 := ho.c60
 have := nd_len 60 r (R.asc.imp fun h => by omega) fun k hk => by have := R.rng ho k hk; omega
 omega
open Classical in
theorem t_gain_rings (ho : NetOk c g) (h : NetAt S x g) (h1 : ∀ cs ∈ g, cs.length ≤ 1) : W (tw_gain_rings fu [x] S) fun v S' => S <+: S' ∧ ∃ (n : Nat) (as : List Nat) (rl : List (List Int)), v = .ref n ∧ S'[n]? = some (.lst (as.map Xv.ref)) ∧ Rows S.length n S' as rl ∧ GRings g rl ∧ rl.length ≤ 60 := by
 walk_at "wr"; unfold tb_gain_rings; walk_at "w"
 refine (t_gains ho h).imp ?_
 rintro _ S1 ⟨p1, gn, gl, rfl, c1, gll, hG⟩
 walk_at "w"
 refine wx_comp (wx_iL ?_)
 walk_at "w"
 refine (t_rings ho (h.mono (Le.pre p1)) h1).imp ?_
 rintro _ S2 ⟨p2, n2, as, rl, rfl, hn2, c2, R2, I2, l2⟩
 refine ⟨_, lstAt_of c2, _, lstAt_of c2, ?_⟩
 have c1 := pre_ce p2 c1
 refine wx_compF (by rw [List.length_map, R2.len]; exact Nat.le_of_lt (sz64 (by omega))) (fun i es S3 => S2 <+: S3 ∧ ∃ bs : List Nat, es = bs.map Xv.ref ∧ Rows S1.length n2 S2 bs ((rl.take i).filter fun r => decide (HasG g r))) ?_ ?_ ⟨List.prefix_refl _, [], rfl, ⟨rfl, fun i a r h => by simp at h⟩⟩ ?_
 ·rintro _ _ _ _ ⟨p3, _⟩
  exact Le.pre p3 _ _ (lstAt_of c2)
 ·rintro i w es S3 hw _ ⟨p3, bs, rfl, R⟩
  rw [List.getElem?_map] at hw
  cases ha : as[i]? with
  | none => rw [ha] at hw; cases hw
  | some a =>
   rw [ha] at hw
   cases hw
   have hir : i < rl.length := by rw [← R2.len]; exact (List.getElem?_eq_some_iff.1 ha).1
   have hrr := List.getElem?_eq_getElem hir
   obtain ⟨q1, q2, q3⟩ := R2.at_ i a _ ha hrr
   have hRi := I2.ring _ (List.getElem_mem hir)
   have htake : rl.take (i + 1) = rl.take i ++ [rl[i]] := List.take_succ_eq_append_getElem hir
   rw [htake]
   generalize rl[i] = r at q1 hRi
   refine .of rfl ?_
   dsimp only [capR, List.map, List.set]
   refine (t_has ho (pre_ce p3 c1) gll hG (pre_ce p3 q1) (hRi.len ho) (hRi.rng ho) (a0 := none)).imp ?_
   rintro b S4 ⟨p4, hb⟩
   refine ⟨fun e => ?_, fun e => ?_⟩
   ·have hb := hb.1 e
    refine wx_var rfl ⟨p3.trans p4, bs ++ [a], by rw [List.map_append]; rfl, ?_⟩
    rw [List.filter_append, show [r].filter (fun r => decide (HasG g r)) = [r] by simp [hb]]
    refine ⟨by simp [R.len], fun j b' r' hb' hr' => ?_⟩
    by_cases hj : j < bs.length
    ·rw [List.getElem?_append_left hj] at hb'
     rw [List.getElem?_append_left (by rw [← R.len]; exact hj)] at hr'
     exact R.at_ j b' r' hb' hr'
    ·rw [List.getElem?_append_right (by omega)] at hb'
     rw [List.getElem?_append_right (by rw [← R.len]; omega)] at hr'
     have hz : j - bs.length = 0 := by
      have := (List.getElem?_eq_some_iff.1 hb').1
      simpa using this
     rw [hz] at hb'
     rw [← R.len, hz] at hr'
     simp at hb' hr'
     subst hb' hr'
     exact ⟨q1, q2, q3⟩
   ·have hb : ¬ HasG g r := fun z => by rw [hb.2 z] at e; cases e
    refine ⟨p3.trans p4, bs, rfl, ?_⟩
    rw [List.filter_append, show [r].filter (fun r => decide (HasG g r)) = [] by simp [hb], List.append_nil]
    exact R
 ·rintro es S3 hel ⟨p3, bs, rfl, R⟩
  rw [List.length_map, R2.len, List.take_length] at R
  have p12 := p1.trans p2
  refine ⟨pre_ext (p12.trans p3), _, bs, _, rfl, by simp, ⟨R.len, fun i a r e1 e2 => ?_⟩, ⟨fun r hr => ?_, fun v r hv hh => ?_⟩, ?_⟩
  ·obtain ⟨q1, q2, q3⟩ := R.at_ i a r e1 e2
   have b1 := p1.length_le
   have b2 := (List.getElem?_eq_some_iff.1 c2).1
   have b3 := p3.length_le
   exact ⟨pre_ce (List.prefix_append _ _) (pre_ce p3 q1), by omega, by omega⟩
  ·rw [List.mem_filter] at hr
   exact ⟨I2.ring _ hr.1, of_decide_eq_true hr.2⟩
  ·exact List.mem_filter.2 ⟨I2.all v r hv, decide_eq_true hh⟩
  ·have := List.length_filter_le (fun r => decide (HasG g r)) rl
   omega
theorem Wk.rch {k : Nat} {q : Int} (h : Wk g s k q) : Rch g s q := by
 induction h with
 | zero => exact .here
 | step _ h2 ih => exact .step ih h2
theorem Rch.wk {q : Int} (h : Rch g s q) : ∃ k, Wk g s k q := by
 induction h with
 | here => exact ⟨0, .zero⟩
 | step _ h2 ih => obtain ⟨k, hk⟩ := ih; exact ⟨k + 1, .step hk h2⟩
theorem Rch.tr {a b : Int} (h : Rch g s a) (h2 : Rch g a b) : Rch g s b := by
 induction h2 with
 | here => exact h
 | step _ h3 ih => exact .step ih h3
theorem Ring.head (h0 : ∃ v, Ring g v r) : r[0]? = some (r.headD 0) := by
 obtain ⟨v, R⟩ := h0
 have := (R.mem v).2 .here
 cases r with
 | nil => cases this
 | cons a l => rfl
theorem t_gain_ring (hbg : Big fu) (ho : NetOk c g) (h : NetAt S x g) (h1 : ∀ cs ∈ g, cs.length ≤ 1) (s0 : 0 ≤ s) (s1 : s < c) : W (tw_gain_ring fu [x, .int s] S) fun v S' => S <+: S' ∧ ((v = .non ∧ ∀ v r, Ring g v r → HasG g r → ¬ Rch g s v) ∨ ∃ (n m : Nat) (w r : List Int), v = .tup [.ref n, .ref m] ∧ S'[n]? = some (.lst (w.map Xv.int)) ∧ S'[m]? = some (.lst (r.map Xv.int)) ∧ Ring g (r.headD 0) r ∧ HasG g r ∧ Rch g s (r.headD 0) ∧ Pt g (r.headD 0) w ∧ w.head? = some s ∧ w.length ≤ 61 ∧ ∀ a ∈ w, 0 ≤ a ∧ a < c) := by
 walk_at "wr"; unfold tb_gain_ring; walk_at "w"
 refine wx_for (wx_iL ?_)
 walk_at "w"
 refine (t_gain_rings ho h h1).imp ?_
 rintro _ S1 ⟨p1, n1, as, rl, rfl, c1, R1, G1, l1⟩
 refine ⟨_, lstAt_of c1, _, lstAt_of c1, ?_⟩
 refine wx_forI (xs := as.map Xv.ref) (fun i ρ S2 => ∃ a2 a3, ρ = [some x, some (.int s), a2, a3] ∧ S1 <+: S2 ∧ ∀ r ∈ rl.take i, ∀ j, ¬ Wk g s j (r.headD 0)) ?_ ?_ ?_ ?_
 ·rintro i ρ S2 _ ⟨_, _, _, p2, _⟩
  exact Le.pre p2 _ _ (lstAt_of c1)
 ·rintro i w ρ S2 hw ⟨a2, a3, rfl, p2, no⟩
  rw [List.getElem?_map] at hw
  cases ha : as[i]? with
  | none => rw [ha] at hw; cases hw
  | some a =>
   rw [ha] at hw
   cases hw
   have hir : i < rl.length := by rw [← R1.len]; exact (List.getElem?_eq_some_iff.1 ha).1
   obtain ⟨q1, q2, q3⟩ := R1.at_ i a _ ha (List.getElem?_eq_getElem hir)
   obtain ⟨hRi, hGi⟩ := G1.ring _ (List.getElem_mem hir)
   have htake : rl.take (i + 1) = rl.take i ++ [rl[i]] := List.take_succ_eq_append_getElem hir
   rw [htake]
   generalize rl[i] = r at q1 hRi hGi
   have q1 := pre_ce p2 q1
   refine .of rfl ?_
   dsimp only [List.set]
   walk_at "w"
   refine ox_ixL (lstAt_of q1) (atI_nn (z := .int (r.headD 0)) (by decide) (by rw [List.getElem?_map, show (0 : Int).toNat = 0 from rfl, Ring.head ⟨_, hRi⟩]; rfl)) ?_
   walk_at "w"
   refine (t_way_to hbg ho (h.mono (Le.pre (p1.trans p2))) s0 s1 (goal := r.headD 0)).imp ?_
   rintro v S3 ⟨p3, hv⟩
   walk_at "w"
   rcases hv with ⟨hno, rfl⟩ | ⟨n3, w, d, rfl, f3, hd, hp, hh, hlen, hr⟩
   ·refine wx_if ?_
    walk_at "w"
    refine ox_notN ?_
    refine ⟨_, rfl, fun z => (by cases z), fun _ => ?_⟩
    walk_at "w"
    refine ⟨_, _, rfl, p2.trans p3, fun r' hr' => ?_⟩
    rcases List.mem_append.1 hr' with hr' | hr'
    ·exact no r' hr'
    ·simp at hr'; subst hr'; exact hno
   ·refine wx_if ?_
    walk_at "w"
    refine ox_notN ?_
    refine ⟨_, rfl, fun _ => ?_, fun z => (by cases z)⟩
    walk_at "w"
    refine ⟨p1.trans (p2.trans p3), .inr ⟨n3, a, w, r, rfl, f3, pre_ce p3 q1, hRi, hGi, hd.1.rch, hp, hh, ?_, hr⟩⟩
    have := hd.lt ho s0 s1
    omega
 ·exact ⟨_, _, rfl, List.prefix_refl _, by simp⟩
 ·rintro ρ S2 ⟨a2, a3, rfl, p2, no⟩
  walk_at "w"
  refine ⟨p1.trans p2, .inl ⟨rfl, fun v r hv hg hrch => ?_⟩⟩
  have hm := G1.all v r hv hg
  rw [List.length_map, R1.len, List.take_length] at no
  obtain ⟨j, hj⟩ := hrch.wk
  rw [← hv.hd] at hj
  exact no r hm j hj
end
section
variable {fu : Nat} {S S' : Sto} {x y z : Xv} {g : Net} {c s : Int}
structure Bels (c : Int) (g : Net) (S : Sto) (b : Xv) (es : List Xv) (ls : List (List Int)) : Prop where
 at_ : lstAt S b = some es
 rows : RowsL S es ls
 len : ls.length = g.length
 bel : ∀ v, v < g.length → Below c g v (ls.getD v [])
theorem Bels.mono {b : Xv} {es : List Xv} {ls : List (List Int)} (B : Bels c g S b es ls) (p : S <+: S') : Bels c g S' b es ls := ⟨Le.pre p _ _ B.at_, B.rows.mono (Le.pre p), B.len, B.bel⟩
theorem Bels.row {b : Xv} {es : List Xv} {ls : List (List Int)} (B : Bels c g S b es ls) {k : Nat} (hk : k < g.length) : ∃ e, atI es (k : Int) = some e ∧ lstAt S e = some ((ls.getD k []).map Xv.int) := by
 have hke : k < es.length := by rw [B.rows.len, B.len]; exact hk
 have hkl : k < ls.length := by rw [B.len]; exact hk
 refine ⟨es[k], atI_nn (by omega) (by rw [Int.toNat_natCast]; exact List.getElem?_eq_getElem hke), ?_⟩
 rw [List.getD_eq_getElem?_getD, List.getElem?_eq_getElem hkl]
 exact B.rows.at_ k _ _ (List.getElem?_eq_getElem hke) (List.getElem?_eq_getElem hkl)
noncomputable def RkOk (c : Int) (g : Net) (ls : List (List Int)) (r : List Int) (k : Int) : Prop := (0 ≤ k ∧ k < c) ∧ (∃ cs, g[k.toNat]? = some cs ∧ cs ≠ []) ∧ ls.getD k.toNat [] = r
noncomputable def LR (c : Int) (g : Net) (ls : List (List Int)) (r : List Int) : Prop := r ≠ [] ∧ (∀ k ∈ r, RkOk c g ls r k) ∧ HasG g r
theorem LR.ring {ls : List (List Int)} {r : List Int} (hb : ∀ v, v < g.length → Below c g v (ls.getD v [])) (ho : NetOk c g) (h : LR c g ls r) : Ring g (r.headD 0) r := by
 obtain ⟨h1, h2, h3⟩ := h
 have hm : r.headD 0 ∈ r := by cases r with | nil => exact (h1 rfl).elim | cons a l => simp
 have key : ∀ w ∈ r, ∀ k, k ∈ r ↔ Rch g w k := fun w hw k => by
  obtain ⟨⟨w0, w1⟩, _, e⟩ := h2 w hw
  have hl := ho.len
  have := (hb w.toNat (by omega)).mem k
  rw [e, Int.toNat_of_nonneg w0] at this
  exact this
 obtain ⟨⟨w0, w1⟩, hch, e⟩ := h2 _ hm
 have hl := ho.len
 refine ⟨hch, w0, ?_, key _ hm, fun w hw k => (key w hw k).symm.trans (key _ hm k), rfl⟩
 have := (hb (r.headD 0).toNat (by omega)).asc
 rwa [e] at this
theorem Ring.lr {ls : List (List Int)} {r : List Int} {v : Int} (hb : ∀ v, v < g.length → Below c g v (ls.getD v [])) (ho : NetOk c g) (R : Ring g v r) (hg : HasG g r) : LR c g ls r := by
 have hv : v ∈ r := (R.mem v).2 .here
 refine ⟨(fun e => by rw [e] at hv; cases hv), fun k hk => ⟨R.rng ho k hk, ?_, ?_⟩, hg⟩
 ·obtain ⟨k0, k1⟩ := R.rng ho k hk
  obtain ⟨cs, hcs⟩ := ho.at_ k0 k1
  refine ⟨cs, hcs, fun e => ?_⟩
  subst e
  have := no_more (g := g) (v := k) (k := v) (fun cs h => by rw [hcs] at h; cases h; rfl) ((R.all k hk v).2 .here)
  subst this
  obtain ⟨cs', e1, e2⟩ := R.ch
  rw [hcs] at e1
  cases e1
  exact e2 rfl
 ·obtain ⟨k0, k1⟩ := R.rng ho k hk
  have hl := ho.len
  have B := hb k.toNat (by omega)
  refine asc_same B.asc R.asc fun q => ?_
  rw [B.mem, Int.toNat_of_nonneg k0, R.all k hk, R.mem]
theorem t_lring (ho : NetOk c g) (h : NetAt S x g) {b : Xv} {es : List Xv} {ls : List (List Int)} (B : Bels c g S b es ls) {r : List Int} (hy : lstAt S y = some (r.map Xv.int)) (hrl : r.length ≤ 60) : W (tw__law_ring fu [x, b, y] S) fun v S' => S <+: S' ∧ ∃ bb, v = .bl bb ∧ (bb = true ↔ LR c g ls r) := by
 walk_at "wr"; unfold tb__law_ring; walk_at "w"
 obtain ⟨xl, x1, x2, x3⟩ := id h
 have hl := ho.len
 have h60 := ho.c60
 obtain ⟨yn, rfl⟩ := ref_of hy
 refine wx_if (wx_or ?_)
 refine wx_not (wx_bE (wx_un (wx_var rfl ?_)))
 refine ox_isi (v := true) (by unfold isiX; dsimp only; rw [hy]; rfl) ?_
 refine ⟨_, rfl, fun z => (by cases z), fun _ => ?_⟩
 walk_at "w"
 refine ox_eqNil (lstAt_app hy) lstAt_new ?_
 have p1 : S <+: S ++ [Ce.lst []] := List.prefix_append _ _
 generalize S ++ [Ce.lst []] = S1 at p1 ⊢
 refine ⟨_, rfl, fun hn => ?_, fun hn => ?_⟩
 ·walk_at "w"
  refine ⟨p1, _, rfl, fun z => (by cases z), fun z => ?_⟩
  cases r with
  | nil => exact (z.1 rfl).elim
  | cons a l => cases hn
 have hne : r ≠ [] := fun e => by subst e; cases hn
 walk_at "w"
 refine wx_for (wx_iL ?_)
 walk_at "w"
 refine ⟨_, Le.pre p1 _ _ hy, _, Le.pre p1 _ _ hy, ?_⟩
 refine wx_forI (xs := r.map Xv.int) (fun i ρ S2 => S <+: S2 ∧ ∃ bb a4, ρ = [some x, some b, some (.ref yn), some (.bl bb), a4] ∧ (∀ k ∈ r.take i, RkOk c g ls r k) ∧ (bb = true ↔ HasG g (r.take i))) ?_ ?_ ?_ ?_
 ·rintro i ρ S2 _ ⟨p2, _⟩
  exact Le.pre p2 _ _ hy
 ·rintro i w ρ S2 hw ⟨p2, bb, a4, rfl, hall, hbb⟩
  rw [List.getElem?_map] at hw
  cases hq : r[i]? with
  | none => rw [hq] at hw; cases hw
  | some q =>
   rw [hq] at hw
   cases hw
   have hqm := List.mem_of_getElem? hq
   have hk := List.getElem?_eq_some_iff.1 hq
   have ht : r.take (i + 1) = r.take i ++ [q] := by rw [List.take_succ_eq_append_getElem hk.1, hk.2]
   refine .of rfl ?_
   dsimp only [List.set]
   refine wx_seq (wx_if (wx_or ?_))
   walk_at "w"
   refine ox_isi (v := true) rfl ?_
   refine ⟨_, rfl, fun z => (by cases z), fun _ => ?_⟩
   walk_at "w"
   refine ox_isi (v := false) rfl ?_
   refine ⟨_, rfl, fun z => (by cases z), fun _ => ?_⟩
   walk_at "w"
   refine wx_if (W.imp (P := fun bo S3 => S2 <+: S3 ∧ (bo = false ↔ ((0 ≤ q ∧ q < c) ∧ ∃ cs, g[q.toNat]? = some cs ∧ cs ≠ []))) ?_ ?_)
   ·refine wx_or ?_
    refine wx_not (wx_bE (wx_chain ?_))
    walk_at "w"
    refine ⟨fun h0 => ?_, fun h0 => ?_⟩
    ·have h0 : 0 ≤ q := of_decide_eq_true h0
     walk_at "w"
     refine ox_len (Le.pre p2 _ _ x1) ?_
     refine ⟨_, rfl, _, rfl, fun h1 => ?_, fun h1 => ?_⟩
     ·have h1 : ¬ q < c := by
       have : ¬ q < (xl.length : Int) := by simpa using h1
       omega
      exact ⟨List.prefix_refl _, fun z => (by cases z), fun z => (h1 z.1.2).elim⟩
     ·have h1 : q < c := by
       have : q < (xl.length : Int) := by simpa using h1
       omega
      obtain ⟨cs, hcs⟩ := ho.at_ h0 h1
      obtain ⟨cz, z1, zl, z2, z3, _⟩ := x3 q.toNat _ hcs
      walk_at "w"
      refine ox_ixL (Le.pre p2 _ _ x1) (atI_nn h0 z1) ?_
      walk_at "w"
      refine ox_eqNil (lstAt_app (Le.pre p2 _ _ z2)) lstAt_new ?_
      refine ⟨_, rfl, List.prefix_append _ _, ?_⟩
      cases zl with
      | nil =>
       refine ⟨fun z => (by cases z), fun z => ?_⟩
       obtain ⟨_, cs', e1, e2⟩ := z
       rw [hcs] at e1
       cases e1
       exact (e2 (List.eq_nil_of_length_eq_zero (by rw [← z3]; rfl))).elim
      | cons a l =>
       refine ⟨fun _ => ⟨⟨h0, h1⟩, cs, hcs, fun e => by subst e; simp at z3⟩, fun _ => rfl⟩
    ·have h0 : ¬ 0 ≤ q := by simpa using h0
     refine ⟨_, rfl, fun _ => ?_, fun z => (by cases z)⟩
     exact ⟨List.prefix_refl _, fun z => (by cases z), fun z => (h0 z.1.1).elim⟩
   ·rintro bo S3 ⟨p3, hbo⟩
    refine ⟨fun e => ?_, fun e => ?_⟩
    ·walk_at "w"
     refine ⟨p2.trans p3, _, rfl, fun z => (by cases z), fun z => ?_⟩
     have := hbo.2 ⟨(z.2.1 q hqm).1, (z.2.1 q hqm).2.1⟩
     rw [e] at this
     cases this
    ·obtain ⟨⟨q0, q1⟩, cs, hcs, hce⟩ := hbo.1 e
     obtain ⟨eb, eb1, eb2⟩ := B.row (k := q.toNat) (by omega)
     rw [Int.toNat_of_nonneg q0] at eb1
     walk_at "w"
     refine wx_if ?_
     walk_at "w"
     refine ox_ixL (Le.pre (p2.trans p3) _ _ B.at_) eb1 ?_
     walk_at "w"
     refine ox_eqG (tell_ints (Le.pre (p2.trans p3) _ _ eb2)) (tell_ints (Le.pre (p2.trans p3) _ _ hy)) rfl (eqG_ints _ _) ?_
     refine ⟨_, rfl, fun e2 => ?_, fun e2 => ?_⟩
     ·have e2 : ¬ ls.getD q.toNat [] = r := by
       intro z
       rw [decide_eq_true z] at e2
       cases e2
      walk_at "w"
      exact ⟨p2.trans p3, _, rfl, fun z => (by cases z), fun z => (e2 (z.2.1 q hqm).2.2).elim⟩
     ·have e2 : ls.getD q.toNat [] = r := by
       by_cases z : ls.getD q.toNat [] = r
       ·exact z
       ·rw [decide_eq_false z] at e2
        cases e2
      walk_at "w"
      have hall' : ∀ k ∈ r.take (i + 1), RkOk c g ls r k := fun k hk' => by
       rw [ht] at hk'
       rcases List.mem_append.1 hk' with hk' | hk'
       ·exact hall k hk'
       ·simp at hk'
        subst hk'
        exact ⟨⟨q0, q1⟩, ⟨cs, hcs, hce⟩, e2⟩
      refine wx_eOr ?_
      walk_at "w"
      refine ⟨fun eb => ?_, fun eb => ?_⟩
      ·refine ⟨p2.trans p3, true, _, rfl, hall', fun _ => ?_, fun _ => rfl⟩
       obtain ⟨k, hk1, hk2⟩ := hbb.1 eb
       exact ⟨k, by rw [ht]; exact List.mem_append_left _ hk1, hk2⟩
      ·cases cs with
       | nil => exact (hce rfl).elim
       | cons ch rr =>
        obtain ⟨cz, z1, zl, z2, z3, z4⟩ := x3 q.toNat _ hcs
        obtain ⟨w0, w1, y0, rfl, _⟩ := z4 0 ch rfl
        walk_at "w"
        refine ox_ixL (Le.pre (p2.trans p3) _ _ x1) (atI_nn q0 z1) ?_
        walk_at "w"
        refine ox_ixL (Le.pre (p2.trans p3) _ _ z2) (atI_nn (by decide) (show zl[(0 : Int).toNat]? = _ from w1)) ?_
        walk_at "w"
        refine ox_ixT (z := .int ch.1.1) rfl atI_0 ?_
        walk_at "w"
        refine ⟨p2.trans p3, _, _, rfl, hall', ?_⟩
        rw [decide_eq_true_iff]
        constructor
        ·intro hp
         exact ⟨q, by rw [ht]; exact List.mem_append_right _ (by simp), ch, rr, hcs, by omega⟩
        ·rintro ⟨k, hk1, hk2⟩
         rw [ht] at hk1
         rcases List.mem_append.1 hk1 with hk1 | hk1
         ·have := hbb.2 ⟨k, hk1, hk2⟩
          rw [eb] at this
          cases this
         ·simp at hk1
          subst hk1
          obtain ⟨ch', r', f1, f2⟩ := hk2
          rw [hcs] at f1
          cases f1
          omega
 ·refine ⟨p1, false, _, rfl, by simp, fun z => (by cases z), ?_⟩
  rintro ⟨k, hk, _⟩
  simp at hk
 ·rintro ρ S2 ⟨p2, bb, a4, rfl, hall, hbb⟩
  rw [List.length_map, List.take_length] at hall hbb
  walk_at "w"
  exact ⟨p2, _, rfl, fun z => ⟨hne, hall, hbb.1 z⟩, fun z => hbb.2 z.2.2⟩
theorem t_endless (ho : NetOk c g) (h : NetAt S x g) {b : Xv} {es : List Xv} {ls : List (List Int)} (B : Bels c g S b es ls) : W (tw__law_endless fu [x, b] S) fun v S' => S <+: S' ∧ ∃ (n : Nat) (el : List Int), v = .ref n ∧ S'[n]? = some (.lst (el.map Xv.int)) ∧ el.length ≤ 60 ∧ ∀ k, k ∈ el ↔ ∃ v : Nat, v < g.length ∧ k = v ∧ LR c g ls (ls.getD v []) := by
 walk_at "wr"; unfold tb__law_endless; walk_at "w"
 obtain ⟨xl, x1, x2, x3⟩ := id h
 have hl := ho.len
 have h60 := ho.c60
 refine wx_comp (wx_iR1 ?_)
 walk_at "w"
 refine ox_len x1 ?_
 refine ⟨_, rfl, ⟨by omega, by omega⟩, _, rfl, ?_⟩
 refine wx_compF (by rw [rangeX_len]; exact Nat.le_of_lt (sz64 (by omega))) (fun i es S2 => S <+: S2 ∧ ∃ el : List Int, es = el.map Xv.int ∧ ∀ k, k ∈ el ↔ ∃ v : Nat, v < i ∧ k = v ∧ LR c g ls (ls.getD v [])) (fun _ _ _ _ _ => rfl) ?_ ⟨List.prefix_refl _, [], rfl, fun k => ⟨fun z => (by cases z), fun ⟨v, z, _⟩ => by omega⟩⟩ ?_
 ·rintro i w es2 S2 hw hel ⟨p2, el, rfl, hm⟩
  obtain ⟨hi, rfl⟩ := rangeX_at hw
  have hig : i < g.length := by omega
  refine .of rfl ?_
  dsimp only [capR, List.map, List.set]
  rw [Int.zero_add]
  obtain ⟨eb, eb1, eb2⟩ := B.row hig
  walk_at "w"
  refine ox_ixL (Le.pre p2 _ _ B.at_) eb1 ?_
  walk_at "w"
  refine (t_lring ho (h.mono (Le.pre p2)) (B.mono p2) (Le.pre p2 _ _ eb2) ((B.bel i hig).len (by omega) h60)).imp ?_
  rintro _ S3 ⟨p3, bb, rfl, hbb⟩
  refine ⟨_, rfl, fun e => ?_, fun e => ?_⟩
  ·refine wx_var rfl ⟨p2.trans p3, el ++ [(i : Int)], by rw [List.map_append]; rfl, fun k => ?_⟩
   rw [List.mem_append, hm]
   constructor
   ·rintro (⟨v, v1, v2, v3⟩ | hk)
    ·exact ⟨v, by omega, v2, v3⟩
    ·simp at hk
     exact ⟨i, by omega, hk, hbb.1 e⟩
   ·rintro ⟨v, v1, v2, v3⟩
    by_cases q : v < i
    ·exact .inl ⟨v, q, v2, v3⟩
    ·have : v = i := by omega
     subst this
     exact .inr (by simp [v2])
  ·refine ⟨p2.trans p3, el, rfl, fun k => ?_⟩
   rw [hm]
   constructor
   ·rintro ⟨v, v1, v2, v3⟩
    exact ⟨v, by omega, v2, v3⟩
   ·rintro ⟨v, v1, v2, v3⟩
    by_cases q : v < i
    ·exact ⟨v, q, v2, v3⟩
    ·have : v = i := by omega
     subst this
     have := hbb.2 v3
     rw [e] at this
     cases this
 ·rintro es2 S2 hel ⟨p2, el, rfl, hm⟩
  rw [rangeX_len] at hel hm
  rw [List.length_map] at hel
  exact ⟨pre_ext p2, _, el, rfl, by simp, by omega, fun k => by rw [hm, show ((xl.length : Int)).toNat = g.length by omega]⟩
end
section
variable {fu : Nat} {S S' : Sto} {x y z : Xv} {g : Net} {c s goal : Int}
theorem t_lway (ho : NetOk c g) (h : NetAt S x g) (h1 : ∀ cs ∈ g, cs.length ≤ 1) {n m : Nat} {r q : List Int} (hf : S[n]? = some (.lst (r.map Xv.int))) (hm : S[m]? = some (.lst (q.map Xv.int))) (hp : Pt g goal r) (hh : r.head? = some s) (hl : r.length ≤ 61) (hr : ∀ a ∈ r, 0 ≤ a ∧ a < c) (hg : goal ∈ q) : W (tw__law_way fu [x, .ref n, .int s, .ref m] S) fun v S' => v = .bl true ∧ S <+: S' := by
 walk_at "wr"; unfold tb__law_way; walk_at "w"
 obtain ⟨xl, x1, x2, x3⟩ := id h
 have hlc := ho.len
 have hrne := hp.last.2
 have hr0 : 0 < r.length := List.length_pos_iff.2 hrne
 refine wx_if (wx_or ?_)
 refine wx_not (wx_bE (wx_un (wx_var rfl ?_)))
 refine ox_isi (v := true) (by unfold isiX; dsimp only; rw [lstAt_of hf]; rfl) ?_
 refine ⟨_, rfl, fun z => (by cases z), fun _ => ?_⟩
 walk_at "w"
 refine ox_eqNil (lstAt_app (lstAt_of hf)) lstAt_new ?_
 have p1 : S <+: S ++ [Ce.lst []] := List.prefix_append _ _
 generalize S ++ [Ce.lst []] = S1 at p1 ⊢
 refine ⟨_, rfl, fun hn => ?_, fun _ => ?_⟩
 ·cases r with
  | nil => exact (hrne rfl).elim
  | cons a l => cases hn
 walk_at "w"
 refine wx_for (wx_iL ?_)
 walk_at "w"
 refine ⟨_, lstAt_of (pre_ce p1 hf), _, lstAt_of (pre_ce p1 hf), ?_⟩
 refine wx_forI (xs := r.map Xv.int) (fun i ρ S2 => S1 = S2 ∧ ∃ a4 a5, ρ = [some x, some (.ref n), some (.int s), some (.ref m), a4, a5]) ?_ ?_ ?_ ?_
 ·rintro i ρ _ _ ⟨rfl, _⟩
  exact lstAt_of (pre_ce p1 hf)
 ·rintro i w ρ _ hw ⟨rfl, a4, a5, rfl⟩
  obtain ⟨a, ha, rfl⟩ := List.mem_map.1 (List.mem_of_getElem? hw)
  obtain ⟨r0, r1⟩ := hr a ha
  refine .of rfl ?_
  dsimp only [List.set]
  refine wx_if (wx_or ?_)
  walk_at "w"
  refine ox_isi (v := true) rfl ?_
  refine ⟨_, rfl, fun z => (by cases z), fun _ => ?_⟩
  refine wx_or ?_
  walk_at "w"
  refine ox_isi (v := false) rfl ?_
  refine ⟨_, rfl, fun z => (by cases z), fun _ => ?_⟩
  refine wx_not (wx_bE (wx_chain ?_))
  walk_at "w"
  refine ⟨fun _ => ?_, fun z => ?_⟩
  ·walk_at "w"
   refine ox_len (Le.pre p1 _ _ x1) ?_
   refine ⟨_, rfl, _, rfl, fun z => ?_, fun _ => ?_⟩
   ·have : a < (xl.length : Int) := by omega
    simp [this] at z
   ·walk_at "w"
    exact ⟨rfl, _, _, rfl⟩
  ·simp at z
   omega
 ·exact ⟨rfl, _, _, rfl⟩
 rintro ρ _ ⟨rfl, a4, a5, rfl⟩
 walk_at "w"
 refine wx_for (wx_iR1 ?_)
 walk_at "w"
 refine ox_len (lstAt_of (pre_ce p1 hf)) ?_
 walk_at "w"
 rw [List.length_map]
 refine ⟨⟨by omega, by omega⟩, _, rfl, ?_⟩
 rw [show ((r.length : Int) - 1).toNat = r.length - 1 by omega]
 refine wx_forI (xs := rangeX 0 (r.length - 1)) (fun k ρ S2 => S1 <+: S2 ∧ ∃ a5, ρ = [some x, some (.ref n), some (.int s), some (.ref m), a4, a5]) (fun _ _ _ _ _ => rfl) ?_ ?_ ?_
 ·rintro k w ρ S2 hx ⟨p2, a5, rfl⟩
  obtain ⟨hk, rfl⟩ := rangeX_at hx
  have p2 := p1.trans p2
  rename_i p12
  refine .of rfl ?_
  dsimp only [List.set]
  rw [Int.zero_add]
  have f2 := pre_ce p2 hf
  have ha : r[k]? = some r[k] := List.getElem?_eq_getElem (by omega)
  have hb : r[k + 1]? = some r[k + 1] := List.getElem?_eq_getElem (by omega)
  obtain ⟨r0, r1⟩ := hr r[k] (List.getElem_mem (by omega))
  generalize r[k] = a at ha r0 r1
  generalize r[k + 1] = b at hb
  have ea : atI (r.map Xv.int) (k : Int) = some (.int a) := atI_nn (by omega) (by rw [Int.toNat_natCast, List.getElem?_map, ha]; rfl)
  have eb : atI (r.map Xv.int) ((k : Int) + 1) = some (.int b) := atI_nn (by omega) (by rw [show ((k : Int) + 1).toNat = k + 1 by omega, List.getElem?_map, hb]; rfl)
  have hs := hp.step ha hb
  obtain ⟨cs, hcs⟩ := ho.at_ r0 r1
  obtain ⟨ch, hch, pt, hpt, ept⟩ := succ_mem hcs hs
  have hone : cs = [ch] := by
   have := h1 cs (List.mem_of_getElem? hcs)
   cases cs with
   | nil => cases hch
   | cons c0 l =>
    cases l with
    | nil => simp at hch; rw [hch]
    | cons _ _ => simp at this
  subst hone
  obtain ⟨cz, z1, zl, z2, z3, z4⟩ := x3 a.toNat _ hcs
  obtain ⟨w0, w1, y0, rfl, yl, y1, y2, y3⟩ := z4 0 ch rfl
  refine wx_seq (wx_if ?_)
  walk_at "w"
  refine ox_ixL (lstAt_of f2) ea ?_
  refine ox_ixL (Le.pre p2 _ _ x1) (atI_nn r0 z1) ?_
  walk_at "w"
  refine ox_eqNil (lstAt_app (Le.pre p2 _ _ z2)) lstAt_new ?_
  have p3 : S <+: S2 ++ [Ce.lst []] := pre_ext p2
  have q3 : S1 <+: S2 ++ [Ce.lst []] := pre_ext p12
  generalize S2 ++ [Ce.lst []] = S3 at p3 q3 ⊢
  refine ⟨_, rfl, fun z => ?_, fun _ => ?_⟩
  ·cases zl with
   | nil => simp at z3
   | cons _ _ => cases z
  walk_at "w"
  refine wx_if ?_
  walk_at "w"
  refine ox_ixL (lstAt_of (pre_ce p3 hf)) eb ?_
  refine wx_comp (wx_iL ?_)
  walk_at "w"
  refine ox_ixL (lstAt_of (pre_ce p3 hf)) ea ?_
  refine ox_ixL (Le.pre p3 _ _ x1) (atI_nn r0 z1) ?_
  walk_at "w"
  refine ox_ixL (Le.pre p3 _ _ z2) (atI_nn (by decide) (show zl[(0 : Int).toNat]? = _ from w1)) ?_
  walk_at "w"
  have y1 := Le.pre p3 _ _ y1
  refine ⟨yl, y1, yl, y1, ?_⟩
  have hyl := ho.pts _ (List.mem_of_getElem? hcs) ch (by simp)
  refine wx_compI (by rw [y2]; exact Nat.le_of_lt (sz64 (by omega))) (fun i es S4 => S3 = S4 ∧ es = ((ch.2.take i).map (·.1)).map Xv.int) ?_ ?_ ⟨rfl, by simp⟩ ?_
  ·rintro _ _ _ _ ⟨rfl, _⟩
   exact y1
  ·rintro i w es _ hw _ ⟨rfl, rfl⟩
   obtain ⟨p, hp1, hp2⟩ := LAt.get y3 y2 hw
   have hp2 : w = .tup [.int p.1, qX p.2] := hp2
   subst hp2
   refine .of rfl ?_
   dsimp only [capR, List.map, List.set]
   walk_at "w"
   refine ⟨rfl, ?_⟩
   walk_at "w"
   have hk := List.getElem?_eq_some_iff.1 hp1
   refine ⟨rfl, ?_⟩
   rw [List.take_succ_eq_append_getElem hk.1, hk.2, List.map_append, List.map_append]
   rfl
  ·rintro es _ _ ⟨rfl, rfl⟩
   rw [y2, List.take_length]
   refine ox_in (l := (ch.2.map (·.1)).map Xv.int) (seq_of (by simp)) (by rw [ints_flat]; rfl) ?_
   rw [any_int, decide_eq_true (List.mem_map.2 ⟨pt, hpt, ept⟩)]
   refine ⟨_, rfl, fun z => (by cases z), fun _ => ?_⟩
   walk_at "w"
   exact ⟨pre_ext q3, _, rfl⟩
 ·exact ⟨List.prefix_refl _, _, rfl⟩
 ·rintro ρ S2 ⟨p2, a5, rfl⟩
  have f2 := pre_ce (p1.trans p2) hf
  have m2 := pre_ce (p1.trans p2) hm
  refine wx_ret (wx_eAnd ?_)
  walk_at "w"
  refine ox_ixL (lstAt_of f2) (atI_nn (z := .int s) (by decide) (by
   cases r with
   | nil => cases hh
   | cons a r => cases hh; rfl)) ?_
  walk_at "w"
  refine ⟨fun _ => ?_, fun z => ?_⟩
  ·walk_at "w"
   refine ox_ixL (lstAt_of f2) (atI_end (z := .int goal) (by rw [List.length_map, List.getElem?_map, hp.last.1]; rfl) (by simpa using hp.last.2)) ?_
   walk_at "w"
   refine ox_in (l := q.map Xv.int) (seq_of m2) (by rw [ints_flat]; rfl) ?_
   rw [any_int, decide_eq_true hg]
   exact ⟨rfl, p1.trans p2⟩
  ·simp at z
theorem w_law (hbg : Big fu) (ns : List Int) : W (tw_law fu [.ref 0] [.frz (ns.map Xv.int)]) fun v _ => v = .bl true := by
 walk_at "wr"; unfold tb_law; walk_at "w"
 refine (t_chain hbg ns).imp ?_
 rintro _ S1 ⟨nn, rfl, c, τ, nxs, T, L⟩
 obtain ⟨g, N1, ho, h1⟩ := T.one L
 have hl := ho.len
 have h60 := ho.c60
 walk_at "w"
 refine (t_copy ho N1).imp ?_
 rintro hv S2 ⟨p2, N2⟩
 walk_at "w"
 have N1 := N1.mono (Le.pre p2)
 obtain ⟨xl, x1, x2, x3⟩ := id N1
 refine wx_comp (wx_iR1 ?_)
 walk_at "w"
 refine ox_len x1 ?_
 refine ⟨_, rfl, ⟨by omega, by omega⟩, _, rfl, ?_⟩
 refine wx_compI (by rw [rangeX_len]; exact Nat.le_of_lt (sz64 (by omega))) (fun i es S3 => S2 <+: S3 ∧ ∃ ls : List (List Int), RowsL S3 es ls ∧ ls.length = i ∧ ∀ k, k < i → Below c g k (ls.getD k [])) (fun _ _ _ _ _ => rfl) ?_ ⟨List.prefix_refl _, [], ⟨rfl, by simp⟩, rfl, fun k hk => by omega⟩ ?_
 ·rintro i w es S3 hw hel ⟨p3, ls, R, ll, hb⟩
  obtain ⟨hi, rfl⟩ := rangeX_at hw
  refine .of rfl ?_
  dsimp only [capR, List.map, List.set]
  rw [Int.zero_add]
  walk_at "w"
  refine ⟨rfl, ?_⟩
  refine wx_call (wx_cons (wx_var rfl (wx_cons (wx_var rfl (wx_nil ?_)))))
  refine (t_below hbg ho (N1.mono (Le.pre p3)) (i := (i : Int)) (by omega) (by omega)).imp ?_
  rintro v S4 ⟨p4, l, A, e4⟩
  refine ⟨p3.trans p4, ls ++ [sortI l], (R.mono (Le.pre p4)).add e4, by simp [ll], fun k hk => ?_⟩
  by_cases hki : k < i
  ·rw [List.getD_eq_getElem?_getD, List.getElem?_append_left (by omega), ← List.getD_eq_getElem?_getD]
   exact hb k hki
  ·have : k = i := by omega
   subst this
   rw [List.getD_eq_getElem?_getD, List.getElem?_append_right (by omega), ll, Nat.sub_self]
   exact ⟨l, A, rfl⟩
 rintro es S3 _ ⟨p3, ls, R, ll, hb⟩
 rw [rangeX_len] at ll hb
 have B : Bels c g (S3 ++ [.lst es]) (.ref S3.length) es ls := ⟨lstAt_new, R.mono (Le.pre (List.prefix_append _ _)), by omega, fun v hv => hb v (by omega)⟩
 have p3 : S2 <+: S3 ++ [Ce.lst es] := pre_ext p3
 generalize S3.length = bn at B ⊢
 generalize S3 ++ [Ce.lst es] = S4 at B p3 ⊢
 have N1 := N1.mono (Le.pre p3)
 have N2 := N2.mono (Le.pre p3)
 have x1 := Le.pre p3 _ _ x1
 walk_at "w"
 refine (t_endless ho N1 B).imp ?_
 rintro _ S5 ⟨p5, en, el, rfl, c5, l5, m5⟩
 walk_at "w"
 have N1 := N1.mono (Le.pre p5)
 have N2 := N2.mono (Le.pre p5)
 have x1 := Le.pre p5 _ _ x1
 have B := B.mono p5
 refine wx_for (wx_iR1 ?_)
 walk_at "w"
 refine ox_len x1 ?_
 refine ⟨_, rfl, ⟨by omega, by omega⟩, _, rfl, ?_⟩
 refine wx_forI (xs := rangeX 0 ((xl.length : Int)).toNat) (fun i ρ S6 => S5 <+: S6 ∧ ∃ a5 a6, ρ = [some (.ref 0), some (.ref nn), some hv, some (.ref bn), some (.ref en), a5, a6]) (fun _ _ _ _ _ => rfl) ?_ ?_ ?_
 ·rintro i w ρ S6 hw ⟨p6, a5, a6, rfl⟩
  obtain ⟨hi, rfl⟩ := rangeX_at hw
  have hig : i < g.length := by omega
  refine .of rfl ?_
  dsimp only [List.set]
  rw [Int.zero_add]
  walk_at "w"
  refine (t_gain_ring hbg ho (N2.mono (Le.pre p6)) h1 (s := (i : Int)) (by omega) (by omega)).imp ?_
  rintro fv S7 ⟨p7, hfv⟩
  have B := B.mono (p6.trans p7)
  have c7 := pre_ce (p6.trans p7) c5
  have N1 := N1.mono (Le.pre (p6.trans p7))
  have p67 := p6.trans p7
  obtain ⟨eb, eb1, eb2⟩ := B.row hig
  walk_at "w"
  refine wx_if ?_
  refine wx_bE (wx_op ?_)
  refine wx_comp (wx_iL ?_)
  walk_at "w"
  refine ⟨_, lstAt_of c7, _, lstAt_of c7, ?_⟩
  refine wx_compF (by rw [List.length_map]; exact Nat.le_of_lt (sz64 (by omega))) (fun j es S8 => S7 = S8 ∧ ∃ ks : List Int, es = ks.map Xv.int ∧ ∀ k, k ∈ ks ↔ k ∈ el.take j ∧ k ∈ ls.getD i []) ?_ ?_ ⟨rfl, [], rfl, by simp⟩ ?_
  ·rintro _ _ _ _ ⟨rfl, _⟩
   exact lstAt_of c7
  ·rintro j w es _ hw _ ⟨rfl, ks, rfl, hks⟩
   rw [List.getElem?_map] at hw
   cases hq : el[j]? with
   | none => rw [hq] at hw; cases hw
   | some q =>
    rw [hq] at hw
    cases hw
    have hk := List.getElem?_eq_some_iff.1 hq
    have ht : el.take (j + 1) = el.take j ++ [q] := by rw [List.take_succ_eq_append_getElem hk.1, hk.2]
    refine .of rfl ?_
    dsimp only [capR, List.map, List.set]
    walk_at "w"
    refine ox_ixL B.at_ eb1 ?_
    obtain ⟨ebn, rfl⟩ := ref_of eb2
    have eb3 : seqAt S7 (.ref ebn) = some ((ls.getD i []).map Xv.int) := by unfold seqAt; first | exact eb2 | (rw [eb2]; rfl)
    refine ox_in (l := (ls.getD i []).map Xv.int) eb3 (by rw [ints_flat]; rfl) ?_
    rw [any_int]
    refine ⟨_, rfl, fun e => ?_, fun e => ?_⟩
    ·have e : q ∈ ls.getD i [] := by simpa using e
     refine wx_var rfl ⟨rfl, ks ++ [q], by rw [List.map_append]; rfl, fun k => ?_⟩
     rw [List.mem_append, hks, ht, List.mem_append]
     constructor
     ·rintro (⟨a, b⟩ | a)
      ·exact ⟨.inl a, b⟩
      ·simp at a; subst a; exact ⟨.inr (by simp), e⟩
     ·rintro ⟨a | a, b⟩
      ·exact .inl ⟨a, b⟩
      ·exact .inr a
    ·have e : q ∉ ls.getD i [] := by simpa using e
     refine ⟨rfl, ks, rfl, fun k => ?_⟩
     rw [hks, ht, List.mem_append]
     constructor
     ·rintro ⟨a, b⟩
      exact ⟨.inl a, b⟩
     ·rintro ⟨a | a, b⟩
      ·exact ⟨a, b⟩
      ·simp at a; subst a; exact (e b).elim
  rintro _ _ _ ⟨rfl, ks, rfl, hks⟩
  rw [List.length_map, List.take_length] at hks
  walk_at "w"
  refine ox_eqNil (lstAt_app lstAt_new) lstAt_new ?_
  have p8 : S7 <+: S7 ++ [Ce.lst (ks.map Xv.int)] ++ [Ce.lst []] := pre_ext (List.prefix_append _ _)
  generalize S7 ++ [Ce.lst (ks.map Xv.int)] ++ [Ce.lst []] = S8 at p8 ⊢
  have hBi := B.bel i hig
  refine ⟨_, rfl, fun e => ?_, fun e => ?_⟩
  ·have hk0 : ks = [] := by
    cases ks with
    | nil => rfl
    | cons _ _ => cases e
   rcases hfv with ⟨rfl, _⟩ | ⟨n, m, w, r, rfl, _, _, hR, hG, hrch, _⟩
   ·refine wx_if ?_
    walk_at "w"
    refine ox_notN ?_
    refine ⟨_, rfl, fun z => (by cases z), fun _ => ?_⟩
    walk_at "w"
    exact ⟨p67.trans p8, _, _, rfl⟩
   ·exfalso
    obtain ⟨r0, r1⟩ := hR.rng ho (r.headD 0) ((hR.mem _).2 .here)
    have hlr := hR.lr (c := c) (ls := ls) B.bel ho hG
    have hme : r.headD 0 ∈ el := (m5 _).2 ⟨(r.headD 0).toNat, by omega, by omega, by
     rw [(hlr.2.1 _ ((hR.mem _).2 .here)).2.2]
     exact hlr⟩
    have : r.headD 0 ∈ ks := (hks _).2 ⟨hme, (hBi.mem _).2 hrch⟩
    rw [hk0] at this
    cases this
  ·have hk1 : ∃ k, k ∈ ks := by
    cases ks with
    | nil => cases e
    | cons k _ => exact ⟨k, by simp⟩
   obtain ⟨k, hk⟩ := hk1
   obtain ⟨hke, hkb⟩ := (hks k).1 hk
   obtain ⟨v, v1, rfl, v3⟩ := (m5 k).1 hke
   have hRv := v3.ring B.bel ho
   have hhd : (ls.getD v []).headD 0 ∈ ls.getD v [] := (hRv.mem _).2 .here
   have hreach : Rch g i ((ls.getD v []).headD 0) := ((hBi.mem _).1 hkb).tr (((B.bel v v1).mem _).1 hhd)
   rcases hfv with ⟨_, hno⟩ | ⟨n, m, w, r, rfl, f1, f2, hR, hG, hrch, hp, hh, hwl, hwr⟩
   ·exact (hno _ _ hRv v3.2.2 hreach).elim
   ·have f1 := pre_ce p8 f1
    have f2 := pre_ce p8 f2
    have B := B.mono p8
    have N1 := N1.mono (Le.pre p8)
    refine wx_if (wx_or ?_)
    refine wx_not (wx_bE (wx_un (wx_var rfl ?_)))
    refine ox_isi (v := true) rfl ?_
    refine ⟨_, rfl, fun z => (by cases z), fun _ => ?_⟩
    walk_at "w"
    refine WO.of (show dLen [Xv.tup [.ref n, .ref m]] S8 = some (.int 2, S8) from rfl) ?_
    walk_at "w"
    refine ⟨fun z => (by cases z), fun _ => ?_⟩
    refine wx_if ?_
    walk_at "w"
    refine (t_lring ho N1 B (lstAt_of f2) (hR.len ho)).imp ?_
    rintro _ S9 ⟨p9, bb, rfl, hbb⟩
    have hbb := hbb.2 (hR.lr B.bel ho hG)
    subst hbb
    refine ⟨_, rfl, fun z => (by cases z), fun _ => ?_⟩
    refine wx_if ?_
    walk_at "w"
    refine (t_lway ho (N1.mono (Le.pre p9)) h1 (pre_ce p9 f1) (pre_ce p9 f2) hp hh hwl hwr ((hR.mem _).2 .here)).imp ?_
    rintro _ S10 ⟨rfl, p10⟩
    refine ⟨_, rfl, fun z => (by cases z), fun _ => ?_⟩
    walk_at "w"
    exact ⟨p67.trans (p8.trans (p9.trans p10)), _, _, rfl⟩
 ·exact ⟨List.prefix_refl _, _, _, rfl⟩
 ·rintro ρ S6 ⟨p6, a5, a6, rfl⟩
  walk_at "w"
  refine ox_eqG (tell_net (N2.mono (Le.pre p6))) (tell_net (N1.mono (Le.pre p6))) rfl (eqG_refl 40 _ (net_ok g)) ?_
  exact rfl
theorem t_law (hbg : Big fu) (ns : List Int) (hl : ns.length ≤ 63) : ∃ S, tw_law fu [.ref 0] [.frz (ns.map Xv.int)] = some (.ok (.bl true) S) := by
 obtain ⟨v, S, e, rfl⟩ := w_law hbg ns
 exact ⟨S, e⟩
end
end
noncomputable def lawFuel : Nat := 2 ^ 9000
theorem big_lawFuel : Big lawFuel := by unfold Big lawFuel; exact Nat.le_refl _
theorem ok_law {P : Program} {w : World} {K : PySem.W.Frag} {mg : Str → Option Value} {base : Heap} (T : Tx K mg) : FnOk P w K mg base (CXE P w) 6 T.a_law T.fd_law ["_law_script"] (spLawX K) := law_tw (okT_law (fu := lawFuel) T) fun ns hl => t_law big_lawFuel ns hl
theorem all_mk {l : PySem.W.OpenLaw} {w : World} {K : PySem.W.Frag} {h : Heap} {mg : Str → Option Value} {fa : Addr} (X : K.In h) (G : h.Ns mainGlobals mg) (hfa : mg "law" = some (.ref fa))
     {f0 : Addr} {od0 an0 : Option Addr} {sl0 : Array (Option Value)} {oc0 kV0 dc0 pm0 cd0 ct0 : Value} {f1 : Addr} {od1 an1 : Option Addr} {sl1 : Array (Option Value)} {oc1 kV1 dc1 pm1 cd1 ct1 : Value} {f2 : Addr} {od2 an2 : Option Addr} {sl2 : Array (Option Value)} {oc2 kV2 dc2 pm2 cd2 ct2 : Value} {f3 : Addr} {od3 an3 : Option Addr} {sl3 : Array (Option Value)} {oc3 kV3 dc3 pm3 cd3 ct3 : Value} {f4 : Addr} {od4 an4 : Option Addr} {sl4 : Array (Option Value)} {oc4 kV4 dc4 pm4 cd4 ct4 : Value} {f5 : Addr} {od5 an5 : Option Addr} {sl5 : Array (Option Value)} {oc5 kV5 dc5 pm5 cd5 ct5 : Value} {f6 : Addr} {od6 an6 : Option Addr} {sl6 : Array (Option Value)} {oc6 kV6 dc6 pm6 cd6 ct6 : Value} {f7 : Addr} {od7 an7 : Option Addr} {sl7 : Array (Option Value)} {oc7 kV7 dc7 pm7 cd7 ct7 : Value} {f8 : Addr} {od8 an8 : Option Addr} {sl8 : Array (Option Value)} {oc8 kV8 dc8 pm8 cd8 ct8 : Value} {f9 : Addr} {od9 an9 : Option Addr} {sl9 : Array (Option Value)} {oc9 kV9 dc9 pm9 cd9 ct9 : Value} {f10 : Addr} {od10 an10 : Option Addr} {sl10 : Array (Option Value)} {oc10 kV10 dc10 pm10 cd10 ct10 : Value} {f11 : Addr} {od11 an11 : Option Addr} {sl11 : Array (Option Value)} {oc11 kV11 dc11 pm11 cd11 ct11 : Value} {f12 : Addr} {od12 an12 : Option Addr} {sl12 : Array (Option Value)} {oc12 kV12 dc12 pm12 cd12 ct12 : Value} {f13 : Addr} {od13 an13 : Option Addr} {sl13 : Array (Option Value)} {oc13 kV13 dc13 pm13 cd13 ct13 : Value} {f14 : Addr} {od14 an14 : Option Addr} {sl14 : Array (Option Value)} {oc14 kV14 dc14 pm14 cd14 ct14 : Value} {f15 : Addr} {od15 an15 : Option Addr} {sl15 : Array (Option Value)} {oc15 kV15 dc15 pm15 cd15 ct15 : Value} {f16 : Addr} {od16 an16 : Option Addr} {sl16 : Array (Option Value)} {oc16 kV16 dc16 pm16 cd16 ct16 : Value} {f17 : Addr} {od17 an17 : Option Addr} {sl17 : Array (Option Value)} {oc17 kV17 dc17 pm17 cd17 ct17 : Value} {f18 : Addr} {od18 an18 : Option Addr} {sl18 : Array (Option Value)} {oc18 kV18 dc18 pm18 cd18 ct18 : Value} {f19 : Addr} {od19 an19 : Option Addr} {sl19 : Array (Option Value)} {oc19 kV19 dc19 pm19 cd19 ct19 : Value} {f20 : Addr} {od20 an20 : Option Addr} {sl20 : Array (Option Value)} {oc20 kV20 dc20 pm20 cd20 ct20 : Value} {f21 : Addr} {od21 an21 : Option Addr} {sl21 : Array (Option Value)} {oc21 kV21 dc21 pm21 cd21 ct21 : Value} {f22 : Addr} {od22 an22 : Option Addr} {sl22 : Array (Option Value)} {oc22 kV22 dc22 pm22 cd22 ct22 : Value} {f23 : Addr} {od23 an23 : Option Addr} {sl23 : Array (Option Value)} {oc23 kV23 dc23 pm23 cd23 ct23 : Value} {g_LotsError : Addr} {g_HandLeft : Addr} {q_NOUGHT : Addr} {qd_NOUGHT : Option Addr} {qn_NOUGHT : Nat} {qs_NOUGHT : Array (Option Value)} {qt_NOUGHT_0 : Tok} {qt_NOUGHT_1 : Tok}
    (A0 : PySem.W.nsIn K mainGlobals "next_nodes" = some (some (.ref f0))) (L0 : K.lookup f0 = some ⟨oc0, od0, .func (PySem.W.fnOf "next_nodes" "next_nodes" (defArgs s_next_nodes) (defBody s_next_nodes) (defScope s_next_nodes) .none kV0 dc0 pm0 an0 cd0 ct0), sl0⟩) (C0 : PySem.W.codeIn K cd0 "next_nodes" = true) (K0 : PySem.W.keepIn K (.ref f0) = true)
    (A1 : PySem.W.nsIn K mainGlobals "nodes_ahead" = some (some (.ref f1))) (L1 : K.lookup f1 = some ⟨oc1, od1, .func (PySem.W.fnOf "nodes_ahead" "nodes_ahead" (defArgs s_nodes_ahead) (defBody s_nodes_ahead) (defScope s_nodes_ahead) .none kV1 dc1 pm1 an1 cd1 ct1), sl1⟩) (C1 : PySem.W.codeIn K cd1 "nodes_ahead" = true) (K1 : PySem.W.keepIn K (.ref f1) = true)
    (A2 : PySem.W.nsIn K mainGlobals "way_to" = some (some (.ref f2))) (L2 : K.lookup f2 = some ⟨oc2, od2, .func (PySem.W.fnOf "way_to" "way_to" (defArgs s_way_to) (defBody s_way_to) (defScope s_way_to) .none kV2 dc2 pm2 an2 cd2 ct2), sl2⟩) (C2 : PySem.W.codeIn K cd2 "way_to" = true) (K2 : PySem.W.keepIn K (.ref f2) = true)
    (A3 : PySem.W.nsIn K mainGlobals "rings_of" = some (some (.ref f3))) (L3 : K.lookup f3 = some ⟨oc3, od3, .func (PySem.W.fnOf "rings_of" "rings_of" (defArgs s_rings_of) (defBody s_rings_of) (defScope s_rings_of) .none kV3 dc3 pm3 an3 cd3 ct3), sl3⟩) (C3 : PySem.W.codeIn K cd3 "rings_of" = true) (K3 : PySem.W.keepIn K (.ref f3) = true)
    (A4 : PySem.W.nsIn K mainGlobals "refuse_hands" = some (some (.ref f4))) (L4 : K.lookup f4 = some ⟨oc4, od4, .func (PySem.W.fnOf "refuse_hands" "refuse_hands" (defArgs s_refuse_hands) (defBody s_refuse_hands) (defScope s_refuse_hands) .none kV4 dc4 pm4 an4 cd4 ct4), sl4⟩) (C4 : PySem.W.codeIn K cd4 "refuse_hands" = true) (K4 : PySem.W.keepIn K (.ref f4) = true)
    (A5 : PySem.W.nsIn K mainGlobals "mask_of" = some (some (.ref f5))) (L5 : K.lookup f5 = some ⟨oc5, od5, .func (PySem.W.fnOf "mask_of" "mask_of" (defArgs s_mask_of) (defBody s_mask_of) (defScope s_mask_of) .none kV5 dc5 pm5 an5 cd5 ct5), sl5⟩) (C5 : PySem.W.codeIn K cd5 "mask_of" = true) (K5 : PySem.W.keepIn K (.ref f5) = true)
    (A6 : PySem.W.nsIn K mainGlobals "reach_masks" = some (some (.ref f6))) (L6 : K.lookup f6 = some ⟨oc6, od6, .func (PySem.W.fnOf "reach_masks" "reach_masks" (defArgs s_reach_masks) (defBody s_reach_masks) (defScope s_reach_masks) .none kV6 dc6 pm6 an6 cd6 ct6), sl6⟩) (C6 : PySem.W.codeIn K cd6 "reach_masks" = true) (K6 : PySem.W.keepIn K (.ref f6) = true)
    (A7 : PySem.W.nsIn K mainGlobals "gains_of" = some (some (.ref f7))) (L7 : K.lookup f7 = some ⟨oc7, od7, .func (PySem.W.fnOf "gains_of" "gains_of" (defArgs s_gains_of) (defBody s_gains_of) (defScope s_gains_of) .none kV7 dc7 pm7 an7 cd7 ct7), sl7⟩) (C7 : PySem.W.codeIn K cd7 "gains_of" = true) (K7 : PySem.W.keepIn K (.ref f7) = true)
    (A8 : PySem.W.nsIn K mainGlobals "gain_rings" = some (some (.ref f8))) (L8 : K.lookup f8 = some ⟨oc8, od8, .func (PySem.W.fnOf "gain_rings" "gain_rings" (defArgs s_gain_rings) (defBody s_gain_rings) (defScope s_gain_rings) .none kV8 dc8 pm8 an8 cd8 ct8), sl8⟩) (C8 : PySem.W.codeIn K cd8 "gain_rings" = true) (K8 : PySem.W.keepIn K (.ref f8) = true)
    (A9 : PySem.W.nsIn K mainGlobals "gain_ring" = some (some (.ref f9))) (L9 : K.lookup f9 = some ⟨oc9, od9, .func (PySem.W.fnOf "gain_ring" "gain_ring" (defArgs s_gain_ring) (defBody s_gain_ring) (defScope s_gain_ring) .none kV9 dc9 pm9 an9 cd9 ct9), sl9⟩) (C9 : PySem.W.codeIn K cd9 "gain_ring" = true) (K9 : PySem.W.keepIn K (.ref f9) = true)
    (A10 : PySem.W.nsIn K mainGlobals "_law_cell_at" = some (some (.ref f10))) (L10 : K.lookup f10 = some ⟨oc10, od10, .func (PySem.W.fnOf "_law_cell_at" "_law_cell_at" (defArgs s__law_cell_at) (defBody s__law_cell_at) (defScope s__law_cell_at) .none kV10 dc10 pm10 an10 cd10 ct10), sl10⟩) (C10 : PySem.W.codeIn K cd10 "_law_cell_at" = true) (K10 : PySem.W.keepIn K (.ref f10) = true)
    (A11 : PySem.W.nsIn K mainGlobals "_law_mixed" = some (some (.ref f11))) (L11 : K.lookup f11 = some ⟨oc11, od11, .func (PySem.W.fnOf "_law_mixed" "_law_mixed" (defArgs s__law_mixed) (defBody s__law_mixed) (defScope s__law_mixed) .none kV11 dc11 pm11 an11 cd11 ct11), sl11⟩) (C11 : PySem.W.codeIn K cd11 "_law_mixed" = true) (K11 : PySem.W.keepIn K (.ref f11) = true)
    (A12 : PySem.W.nsIn K mainGlobals "_law_fraction" = some (some (.ref f12))) (L12 : K.lookup f12 = some ⟨oc12, od12, .func (PySem.W.fnOf "_law_fraction" "_law_fraction" (defArgs s__law_fraction) (defBody s__law_fraction) (defScope s__law_fraction) .none kV12 dc12 pm12 an12 cd12 ct12), sl12⟩) (C12 : PySem.W.codeIn K cd12 "_law_fraction" = true) (K12 : PySem.W.keepIn K (.ref f12) = true)
    (A13 : PySem.W.nsIn K mainGlobals "_law_gain" = some (some (.ref f13))) (L13 : K.lookup f13 = some ⟨oc13, od13, .func (PySem.W.fnOf "_law_gain" "_law_gain" (defArgs s__law_gain) (defBody s__law_gain) (defScope s__law_gain) .none kV13 dc13 pm13 an13 cd13 ct13), sl13⟩) (C13 : PySem.W.codeIn K cd13 "_law_gain" = true) (K13 : PySem.W.keepIn K (.ref f13) = true)
    (A14 : PySem.W.nsIn K mainGlobals "_law_name" = some (some (.ref f14))) (L14 : K.lookup f14 = some ⟨oc14, od14, .func (PySem.W.fnOf "_law_name" "_law_name" (defArgs s__law_name) (defBody s__law_name) (defScope s__law_name) .none kV14 dc14 pm14 an14 cd14 ct14), sl14⟩) (C14 : PySem.W.codeIn K cd14 "_law_name" = true) (K14 : PySem.W.keepIn K (.ref f14) = true)
    (A15 : PySem.W.nsIn K mainGlobals "_law_goal" = some (some (.ref f15))) (L15 : K.lookup f15 = some ⟨oc15, od15, .func (PySem.W.fnOf "_law_goal" "_law_goal" (defArgs s__law_goal) (defBody s__law_goal) (defScope s__law_goal) .none kV15 dc15 pm15 an15 cd15 ct15), sl15⟩) (C15 : PySem.W.codeIn K cd15 "_law_goal" = true) (K15 : PySem.W.keepIn K (.ref f15) = true)
    (A16 : PySem.W.nsIn K mainGlobals "_law_table" = some (some (.ref f16))) (L16 : K.lookup f16 = some ⟨oc16, od16, .func (PySem.W.fnOf "_law_table" "_law_table" (defArgs s__law_table) (defBody s__law_table) (defScope s__law_table) .none kV16 dc16 pm16 an16 cd16 ct16), sl16⟩) (C16 : PySem.W.codeIn K cd16 "_law_table" = true) (K16 : PySem.W.keepIn K (.ref f16) = true)
    (A17 : PySem.W.nsIn K mainGlobals "_law_chain" = some (some (.ref f17))) (L17 : K.lookup f17 = some ⟨oc17, od17, .func (PySem.W.fnOf "_law_chain" "_law_chain" (defArgs s__law_chain) (defBody s__law_chain) (defScope s__law_chain) .none kV17 dc17 pm17 an17 cd17 ct17), sl17⟩) (C17 : PySem.W.codeIn K cd17 "_law_chain" = true) (K17 : PySem.W.keepIn K (.ref f17) = true)
    (A18 : PySem.W.nsIn K mainGlobals "_law_copy" = some (some (.ref f18))) (L18 : K.lookup f18 = some ⟨oc18, od18, .func (PySem.W.fnOf "_law_copy" "_law_copy" (defArgs s__law_copy) (defBody s__law_copy) (defScope s__law_copy) .none kV18 dc18 pm18 an18 cd18 ct18), sl18⟩) (C18 : PySem.W.codeIn K cd18 "_law_copy" = true) (K18 : PySem.W.keepIn K (.ref f18) = true)
    (A19 : PySem.W.nsIn K mainGlobals "_law_below" = some (some (.ref f19))) (L19 : K.lookup f19 = some ⟨oc19, od19, .func (PySem.W.fnOf "_law_below" "_law_below" (defArgs s__law_below) (defBody s__law_below) (defScope s__law_below) .none kV19 dc19 pm19 an19 cd19 ct19), sl19⟩) (C19 : PySem.W.codeIn K cd19 "_law_below" = true) (K19 : PySem.W.keepIn K (.ref f19) = true)
    (A20 : PySem.W.nsIn K mainGlobals "_law_ring" = some (some (.ref f20))) (L20 : K.lookup f20 = some ⟨oc20, od20, .func (PySem.W.fnOf "_law_ring" "_law_ring" (defArgs s__law_ring) (defBody s__law_ring) (defScope s__law_ring) .none kV20 dc20 pm20 an20 cd20 ct20), sl20⟩) (C20 : PySem.W.codeIn K cd20 "_law_ring" = true) (K20 : PySem.W.keepIn K (.ref f20) = true)
    (A21 : PySem.W.nsIn K mainGlobals "_law_endless" = some (some (.ref f21))) (L21 : K.lookup f21 = some ⟨oc21, od21, .func (PySem.W.fnOf "_law_endless" "_law_endless" (defArgs s__law_endless) (defBody s__law_endless) (defScope s__law_endless) .none kV21 dc21 pm21 an21 cd21 ct21), sl21⟩) (C21 : PySem.W.codeIn K cd21 "_law_endless" = true) (K21 : PySem.W.keepIn K (.ref f21) = true)
    (A22 : PySem.W.nsIn K mainGlobals "_law_way" = some (some (.ref f22))) (L22 : K.lookup f22 = some ⟨oc22, od22, .func (PySem.W.fnOf "_law_way" "_law_way" (defArgs s__law_way) (defBody s__law_way) (defScope s__law_way) .none kV22 dc22 pm22 an22 cd22 ct22), sl22⟩) (C22 : PySem.W.codeIn K cd22 "_law_way" = true) (K22 : PySem.W.keepIn K (.ref f22) = true)
    (A23 : PySem.W.nsIn K mainGlobals "law" = some (some (.ref f23))) (L23 : K.lookup f23 = some ⟨oc23, od23, .func (PySem.W.fnOf "law" "law" (defArgs s_law) (defBody s_law) (defScope s_law) .none kV23 dc23 pm23 an23 cd23 ct23), sl23⟩) (C23 : PySem.W.codeIn K cd23 "law" = true) (K23 : PySem.W.keepIn K (.ref f23) = true)
    (N_any : PySem.W.nsIn K mainGlobals "any" = some none)
    (N_bool : PySem.W.nsIn K mainGlobals "bool" = some none)
    (N_enumerate : PySem.W.nsIn K mainGlobals "enumerate" = some none)
    (N_int : PySem.W.nsIn K mainGlobals "int" = some none)
    (N_isinstance : PySem.W.nsIn K mainGlobals "isinstance" = some none)
    (N_len : PySem.W.nsIn K mainGlobals "len" = some none)
    (N_list : PySem.W.nsIn K mainGlobals "list" = some none)
    (N_min : PySem.W.nsIn K mainGlobals "min" = some none)
    (N_range : PySem.W.nsIn K mainGlobals "range" = some none)
    (N_reversed : PySem.W.nsIn K mainGlobals "reversed" = some none)
    (N_sorted : PySem.W.nsIn K mainGlobals "sorted" = some none)
    (N_sum : PySem.W.nsIn K mainGlobals "sum" = some none)
    (N_tuple : PySem.W.nsIn K mainGlobals "tuple" = some none)
    (sp0 : PySem.W.specialIn K (.builtin "object.__class__") "__get__" = some (some (.builtin "getset_descriptor.__get__"))) (tk0 : PySem.W.takesIn K (.builtin "object.__class__") = some true)
    (a_LotsError : PySem.W.nsIn K mainGlobals "LotsError" = some (some (.ref g_LotsError))) (x_LotsError : PySem.W.excIn K g_LotsError [.type "ValueError", .type "Exception", .type "BaseException", .type "object"] "ValueError.__new__" = true) (p_LotsError : PySem.W.findIn K (.ref g_LotsError) "__getattribute__" = some (some (.builtin "BaseException.__getattribute__"))) (q_LotsError : PySem.W.findIn K (.ref g_LotsError) "__getattr__" = some none) (c_LotsError : PySem.W.isClsIn K g_LotsError = true) (h_LotsError : PySem.W.findIn K (.ref g_LotsError) "__class__" = some (some (.builtin "object.__class__"))) (o_LotsError : PySem.W.mroIn K g_LotsError (.type "object") = some true) (t_LotsError : PySem.W.typeIn K (.ref g_LotsError) = some (.type "type")) (e_LotsError : PySem.W.mroIn K g_LotsError (.type "BaseException") = some true) (v_LotsError : PySem.W.mroIn K g_LotsError (.type "ValueError") = some true)
    (a_HandLeft : PySem.W.nsIn K mainGlobals "HandLeft" = some (some (.ref g_HandLeft))) (x_HandLeft : PySem.W.excIn K g_HandLeft [.type "ValueError", .type "Exception", .type "BaseException", .type "object"] "ValueError.__new__" = true) (p_HandLeft : PySem.W.findIn K (.ref g_HandLeft) "__getattribute__" = some (some (.builtin "BaseException.__getattribute__"))) (q_HandLeft : PySem.W.findIn K (.ref g_HandLeft) "__getattr__" = some none) (c_HandLeft : PySem.W.isClsIn K g_HandLeft = true) (h_HandLeft : PySem.W.findIn K (.ref g_HandLeft) "__class__" = some (some (.builtin "object.__class__"))) (o_HandLeft : PySem.W.mroIn K g_HandLeft (.type "object") = some true) (t_HandLeft : PySem.W.typeIn K (.ref g_HandLeft) = some (.type "type")) (e_HandLeft : PySem.W.mroIn K g_HandLeft (.type "BaseException") = some true) (v_HandLeft : PySem.W.mroIn K g_HandLeft (.type "ValueError") = some true)
    (a_NOUGHT : PySem.W.nsIn K mainGlobals "NOUGHT" = some (some (.ref q_NOUGHT)))
    (l_NOUGHT : K.lookup q_NOUGHT = some ⟨.type "tuple", qd_NOUGHT, .seq #[.int 0 qt_NOUGHT_0, .int 1 qt_NOUGHT_1] qn_NOUGHT, qs_NOUGHT⟩) :
    ∃ fd : FuncData, (∀ (s : Shared) (v : Value), BindsTo s fd ⟨[v], []⟩ [("_law_script", v)]) ∧ ∀ base : Heap, K.In base → base.Ns mainGlobals mg → FnOk l.prog w K mg base (CXE l.prog w) 6 fa fd ["_law_script"] (spLawX K) := by
  have e := hfa.symm.trans (PySem.W.mg_of X G A23)
  cases e
  let T : Tx K mg := { a_next_nodes := f0, fd_next_nodes := _, F_next_nodes := fun_mk (st := s_next_nodes) L0 C0 K0, m_next_nodes := PySem.W.mg_of X G A0, b_next_nodes := (fun_mk (st := s_next_nodes) L0 C0 K0).binds (ps := ["choices"]) fun _ _ _ _ _ _ us hl => match us, hl with | [_], _ => rfl, a_nodes_ahead := f1, fd_nodes_ahead := _, F_nodes_ahead := fun_mk (st := s_nodes_ahead) L1 C1 K1, m_nodes_ahead := PySem.W.mg_of X G A1, b_nodes_ahead := (fun_mk (st := s_nodes_ahead) L1 C1 K1).binds (ps := ["net", "node"]) fun _ _ _ _ _ _ us hl => match us, hl with | [_, _], _ => rfl, a_way_to := f2, fd_way_to := _, F_way_to := fun_mk (st := s_way_to) L2 C2 K2, m_way_to := PySem.W.mg_of X G A2, b_way_to := (fun_mk (st := s_way_to) L2 C2 K2).binds (ps := ["net", "node", "goal"]) fun _ _ _ _ _ _ us hl => match us, hl with | [_, _, _], _ => rfl, a_rings_of := f3, fd_rings_of := _, F_rings_of := fun_mk (st := s_rings_of) L3 C3 K3, m_rings_of := PySem.W.mg_of X G A3, b_rings_of := (fun_mk (st := s_rings_of) L3 C3 K3).binds (ps := ["net"]) fun _ _ _ _ _ _ us hl => match us, hl with | [_], _ => rfl, a_refuse_hands := f4, fd_refuse_hands := _, F_refuse_hands := fun_mk (st := s_refuse_hands) L4 C4 K4, m_refuse_hands := PySem.W.mg_of X G A4, b_refuse_hands := (fun_mk (st := s_refuse_hands) L4 C4 K4).binds (ps := ["net"]) fun _ _ _ _ _ _ us hl => match us, hl with | [_], _ => rfl, a_mask_of := f5, fd_mask_of := _, F_mask_of := fun_mk (st := s_mask_of) L5 C5 K5, m_mask_of := PySem.W.mg_of X G A5, b_mask_of := (fun_mk (st := s_mask_of) L5 C5 K5).binds (ps := ["nodes"]) fun _ _ _ _ _ _ us hl => match us, hl with | [_], _ => rfl, a_reach_masks := f6, fd_reach_masks := _, F_reach_masks := fun_mk (st := s_reach_masks) L6 C6 K6, m_reach_masks := PySem.W.mg_of X G A6, b_reach_masks := (fun_mk (st := s_reach_masks) L6 C6 K6).binds (ps := ["net"]) fun _ _ _ _ _ _ us hl => match us, hl with | [_], _ => rfl, a_gains_of := f7, fd_gains_of := _, F_gains_of := fun_mk (st := s_gains_of) L7 C7 K7, m_gains_of := PySem.W.mg_of X G A7, b_gains_of := (fun_mk (st := s_gains_of) L7 C7 K7).binds (ps := ["net"]) fun _ _ _ _ _ _ us hl => match us, hl with | [_], _ => rfl, a_gain_rings := f8, fd_gain_rings := _, F_gain_rings := fun_mk (st := s_gain_rings) L8 C8 K8, m_gain_rings := PySem.W.mg_of X G A8, b_gain_rings := (fun_mk (st := s_gain_rings) L8 C8 K8).binds (ps := ["net"]) fun _ _ _ _ _ _ us hl => match us, hl with | [_], _ => rfl, a_gain_ring := f9, fd_gain_ring := _, F_gain_ring := fun_mk (st := s_gain_ring) L9 C9 K9, m_gain_ring := PySem.W.mg_of X G A9, b_gain_ring := (fun_mk (st := s_gain_ring) L9 C9 K9).binds (ps := ["net", "node"]) fun _ _ _ _ _ _ us hl => match us, hl with | [_, _], _ => rfl, a__law_cell_at := f10, fd__law_cell_at := _, F__law_cell_at := fun_mk (st := s__law_cell_at) L10 C10 K10, m__law_cell_at := PySem.W.mg_of X G A10, b__law_cell_at := (fun_mk (st := s__law_cell_at) L10 C10 K10).binds (ps := ["_law_script", "_law_k"]) fun _ _ _ _ _ _ us hl => match us, hl with | [_, _], _ => rfl, a__law_mixed := f11, fd__law_mixed := _, F__law_mixed := fun_mk (st := s__law_mixed) L11 C11 K11, m__law_mixed := PySem.W.mg_of X G A11, b__law_mixed := (fun_mk (st := s__law_mixed) L11 C11 K11).binds (ps := ["_law_number", "_law_prime", "_law_many"]) fun _ _ _ _ _ _ us hl => match us, hl with | [_, _, _], _ => rfl, a__law_fraction := f12, fd__law_fraction := _, F__law_fraction := fun_mk (st := s__law_fraction) L12 C12 K12, m__law_fraction := PySem.W.mg_of X G A12, b__law_fraction := (fun_mk (st := s__law_fraction) L12 C12 K12).binds (ps := ["_law_top", "_law_bottom"]) fun _ _ _ _ _ _ us hl => match us, hl with | [_, _], _ => rfl, a__law_gain := f13, fd__law_gain := _, F__law_gain := fun_mk (st := s__law_gain) L13 C13 K13, m__law_gain := PySem.W.mg_of X G A13, b__law_gain := (fun_mk (st := s__law_gain) L13 C13 K13).binds (ps := ["_law_cell"]) fun _ _ _ _ _ _ us hl => match us, hl with | [_], _ => rfl, a__law_name := f14, fd__law_name := _, F__law_name := fun_mk (st := s__law_name) L14 C14 K14, m__law_name := PySem.W.mg_of X G A14, b__law_name := (fun_mk (st := s__law_name) L14 C14 K14).binds (ps := ["_law_script", "_law_count", "_law_place"]) fun _ _ _ _ _ _ us hl => match us, hl with | [_, _, _], _ => rfl, a__law_goal := f15, fd__law_goal := _, F__law_goal := fun_mk (st := s__law_goal) L15 C15 K15, m__law_goal := PySem.W.mg_of X G A15, b__law_goal := (fun_mk (st := s__law_goal) L15 C15 K15).binds (ps := ["_law_script", "_law_count", "_law_place", "_law_cell"]) fun _ _ _ _ _ _ us hl => match us, hl with | [_, _, _, _], _ => rfl, a__law_table := f16, fd__law_table := _, F__law_table := fun_mk (st := s__law_table) L16 C16 K16, m__law_table := PySem.W.mg_of X G A16, b__law_table := (fun_mk (st := s__law_table) L16 C16 K16).binds (ps := ["_law_script", "_law_count"]) fun _ _ _ _ _ _ us hl => match us, hl with | [_, _], _ => rfl, a__law_chain := f17, fd__law_chain := _, F__law_chain := fun_mk (st := s__law_chain) L17 C17 K17, m__law_chain := PySem.W.mg_of X G A17, b__law_chain := (fun_mk (st := s__law_chain) L17 C17 K17).binds (ps := ["_law_script"]) fun _ _ _ _ _ _ us hl => match us, hl with | [_], _ => rfl, a__law_copy := f18, fd__law_copy := _, F__law_copy := fun_mk (st := s__law_copy) L18 C18 K18, m__law_copy := PySem.W.mg_of X G A18, b__law_copy := (fun_mk (st := s__law_copy) L18 C18 K18).binds (ps := ["_law_net"]) fun _ _ _ _ _ _ us hl => match us, hl with | [_], _ => rfl, a__law_below := f19, fd__law_below := _, F__law_below := fun_mk (st := s__law_below) L19 C19 K19, m__law_below := PySem.W.mg_of X G A19, b__law_below := (fun_mk (st := s__law_below) L19 C19 K19).binds (ps := ["_law_net", "_law_node"]) fun _ _ _ _ _ _ us hl => match us, hl with | [_, _], _ => rfl, a__law_ring := f20, fd__law_ring := _, F__law_ring := fun_mk (st := s__law_ring) L20 C20 K20, m__law_ring := PySem.W.mg_of X G A20, b__law_ring := (fun_mk (st := s__law_ring) L20 C20 K20).binds (ps := ["_law_net", "_law_below_here", "_law_ring_here"]) fun _ _ _ _ _ _ us hl => match us, hl with | [_, _, _], _ => rfl, a__law_endless := f21, fd__law_endless := _, F__law_endless := fun_mk (st := s__law_endless) L21 C21 K21, m__law_endless := PySem.W.mg_of X G A21, b__law_endless := (fun_mk (st := s__law_endless) L21 C21 K21).binds (ps := ["_law_net", "_law_below_here"]) fun _ _ _ _ _ _ us hl => match us, hl with | [_, _], _ => rfl, a__law_way := f22, fd__law_way := _, F__law_way := fun_mk (st := s__law_way) L22 C22 K22, m__law_way := PySem.W.mg_of X G A22, b__law_way := (fun_mk (st := s__law_way) L22 C22 K22).binds (ps := ["_law_net", "_law_way_here", "_law_node", "_law_ring_here"]) fun _ _ _ _ _ _ us hl => match us, hl with | [_, _, _, _], _ => rfl, a_law := fa, fd_law := _, F_law := fun_mk (st := s_law) L23 C23 K23, m_law := PySem.W.mg_of X G A23, b_law := (fun_mk (st := s_law) L23 C23 K23).binds (ps := ["_law_script"]) fun _ _ _ _ _ _ us hl => match us, hl with | [_], _ => rfl, n_any := PySem.W.mg_none_of X G N_any, n_bool := PySem.W.mg_none_of X G N_bool, n_enumerate := PySem.W.mg_none_of X G N_enumerate, n_int := PySem.W.mg_none_of X G N_int, n_isinstance := PySem.W.mg_none_of X G N_isinstance, n_len := PySem.W.mg_none_of X G N_len, n_list := PySem.W.mg_none_of X G N_list, n_min := PySem.W.mg_none_of X G N_min, n_range := PySem.W.mg_none_of X G N_range, n_reversed := PySem.W.mg_none_of X G N_reversed, n_sorted := PySem.W.mg_none_of X G N_sorted, n_sum := PySem.W.mg_none_of X G N_sum, n_tuple := PySem.W.mg_none_of X G N_tuple, a_LotsError := g_LotsError, m_LotsError := PySem.W.mg_of X G a_LotsError, x_LotsError := ⟨PySem.W.mg_of X G a_LotsError, x_LotsError⟩, i_LotsError := ⟨p_LotsError, q_LotsError, e_LotsError, c_LotsError, h_LotsError, sp0, tk0, o_LotsError⟩, t_LotsError := t_LotsError, e_LotsError := e_LotsError, v_LotsError := v_LotsError, a_HandLeft := g_HandLeft, m_HandLeft := PySem.W.mg_of X G a_HandLeft, x_HandLeft := ⟨PySem.W.mg_of X G a_HandLeft, x_HandLeft⟩, i_HandLeft := ⟨p_HandLeft, q_HandLeft, e_HandLeft, c_HandLeft, h_HandLeft, sp0, tk0, o_HandLeft⟩, t_HandLeft := t_HandLeft, e_HandLeft := e_HandLeft, v_HandLeft := v_HandLeft, a_NOUGHT := q_NOUGHT, m_NOUGHT := PySem.W.mg_of X G a_NOUGHT, c_NOUGHT := fun H => .inr ⟨_, _, _, l_NOUGHT, rfl, rfl, by show 2 ≤ sizeLine; decide, (.cons ⟨_, rfl⟩ (.cons ⟨_, rfl⟩ .nil))⟩ }
  exact ⟨_, fun s v => .of_eq rfl, fun base _ _ => ok_law T⟩
theorem walk {l : PySem.W.OpenLaw} {q : Program} {loose : List Str} {XP : (Str → Option Value) → Heap → Prop} {YP : World → Heap → Prop} {d : DefRec} {K : Params → PySem.W.Frag} (hn : l.most = some 63) (hdf : d.params.defaults = [])
  (hY : ∀ (w : World) (h : Heap), YP w h → (K w.params).In h)
  (F : ∀ (w : World) (mg : Str → Option Value) (fa : Addr) (h : Heap), (K w.params).In h → h.Ns mainGlobals mg → mg d.name = some (.ref fa) →
   ∃ fd : FuncData, (∀ (s : Shared) (u : Value), BindsTo s fd ⟨[u], []⟩ [("_law_script", u)]) ∧ ∀ base : Heap, (K w.params).In base → base.Ns mainGlobals mg → FnOk l.prog w (K w.params) mg base (CXE l.prog w) 6 fa fd ["_law_script"] (spLawX (K w.params))) :
  PySem.W.WalkO q loose XP YP l.row.toRowW d [] (fun f vs => PySem.call f vs) :=
 L2.walk_of (n := 63) (k := 6) (x := "_law_script") (CX := fun w => CXE l.prog w) (sp := fun w => spLawX (K w.params)) hn (by decide) hdf ⟨rfl, by decide, by decide, rfl⟩ hY F (fun _ _ a ns hl hO hS => ⟨a, ns, rfl, hO, hS, hl, fun _ => rfl⟩) fun _ _ _ _ _ ⟨_, _, _, _, _, z⟩ => z
end Prf
open PySem PySem.W PyProof.Rows
set_option maxRecDepth 100000 in
set_option maxHeartbeats 0 in
theorem PySem.Challenge.cw_lots_k67_a_ring_with_a_gain_holds : PySem.Challenge.rw_lots_k67_a_ring_with_a_gain.Holds := by
 w_on; o_law; k_head; (case hw => w_witness2)
 k_fill
 refine Prf.walk (l := PySem.Challenge.rw_lots_k67_a_ring_with_a_gain) rfl rfl (fun w h Y => PySem.W.kIn_of Y) ?F
 case F =>
  intro w mg fa h KX G hmg
  refine' Prf.all_mk KX G hmg ?A0 ?L0 ?C0 ?K0 ?A1 ?L1 ?C1 ?K1 ?A2 ?L2 ?C2 ?K2 ?A3 ?L3 ?C3 ?K3 ?A4 ?L4 ?C4 ?K4 ?A5 ?L5 ?C5 ?K5 ?A6 ?L6 ?C6 ?K6 ?A7 ?L7 ?C7 ?K7 ?A8 ?L8 ?C8 ?K8 ?A9 ?L9 ?C9 ?K9 ?A10 ?L10 ?C10 ?K10 ?A11 ?L11 ?C11 ?K11 ?A12 ?L12 ?C12 ?K12 ?A13 ?L13 ?C13 ?K13 ?A14 ?L14 ?C14 ?K14 ?A15 ?L15 ?C15 ?K15 ?A16 ?L16 ?C16 ?K16 ?A17 ?L17 ?C17 ?K17 ?A18 ?L18 ?C18 ?K18 ?A19 ?L19 ?C19 ?K19 ?A20 ?L20 ?C20 ?K20 ?A21 ?L21 ?C21 ?K21 ?A22 ?L22 ?C22 ?K22 ?A23 ?L23 ?C23 ?K23 ?N_any ?N_bool ?N_enumerate ?N_int ?N_isinstance ?N_len ?N_list ?N_min ?N_range ?N_reversed ?N_sorted ?N_sum ?N_tuple ?sp0 ?tk0 ?a_LotsError ?x_LotsError ?p_LotsError ?q_LotsError ?c_LotsError ?h_LotsError ?o_LotsError ?t_LotsError ?e_LotsError ?v_LotsError ?a_HandLeft ?x_HandLeft ?p_HandLeft ?q_HandLeft ?c_HandLeft ?h_HandLeft ?o_HandLeft ?t_HandLeft ?e_HandLeft ?v_HandLeft ?a_NOUGHT ?l_NOUGHT
  (case A0 => k_is); (case L0 => k_is); (case C0 => k_is); (case K0 => k_is); (case A1 => k_is); (case L1 => k_is)
  (case C1 => k_is); (case K1 => k_is); (case A2 => k_is); (case L2 => k_is); (case C2 => k_is); (case K2 => k_is)
  (case A3 => k_is); (case L3 => k_is); (case C3 => k_is); (case K3 => k_is); (case A4 => k_is); (case L4 => k_is)
  (case C4 => k_is); (case K4 => k_is); (case A5 => k_is); (case L5 => k_is); (case C5 => k_is); (case K5 => k_is)
  (case A6 => k_is); (case L6 => k_is); (case C6 => k_is); (case K6 => k_is); (case A7 => k_is); (case L7 => k_is)
  (case C7 => k_is); (case K7 => k_is); (case A8 => k_is); (case L8 => k_is); (case C8 => k_is); (case K8 => k_is)
  (case A9 => k_is); (case L9 => k_is); (case C9 => k_is); (case K9 => k_is); (case A10 => k_is); (case L10 => k_is)
  (case C10 => k_is); (case K10 => k_is); (case A11 => k_is); (case L11 => k_is); (case C11 => k_is); (case K11 => k_is)
  (case A12 => k_is); (case L12 => k_is); (case C12 => k_is); (case K12 => k_is); (case A13 => k_is); (case L13 => k_is)
  (case C13 => k_is); (case K13 => k_is); (case A14 => k_is); (case L14 => k_is); (case C14 => k_is); (case K14 => k_is)
  (case A15 => k_is); (case L15 => k_is); (case C15 => k_is); (case K15 => k_is); (case A16 => k_is); (case L16 => k_is)
  (case C16 => k_is); (case K16 => k_is); (case A17 => k_is); (case L17 => k_is); (case C17 => k_is); (case K17 => k_is)
  (case A18 => k_is); (case L18 => k_is); (case C18 => k_is); (case K18 => k_is); (case A19 => k_is); (case L19 => k_is)
  (case C19 => k_is); (case K19 => k_is); (case A20 => k_is); (case L20 => k_is); (case C20 => k_is); (case K20 => k_is)
  (case A21 => k_is); (case L21 => k_is); (case C21 => k_is); (case K21 => k_is); (case A22 => k_is); (case L22 => k_is)
  (case C22 => k_is); (case K22 => k_is); (case A23 => k_is); (case L23 => k_is); (case C23 => k_is); (case K23 => k_is)
  (case N_any => k_is); (case N_bool => k_is); (case N_enumerate => k_is); (case N_int => k_is); (case N_isinstance => k_is); (case N_len => k_is)
  (case N_list => k_is); (case N_min => k_is); (case N_range => k_is); (case N_reversed => k_is); (case N_sorted => k_is); (case N_sum => k_is)
  (case N_tuple => k_is); (case sp0 => k_is); (case tk0 => k_is); (case a_LotsError => k_is); (case x_LotsError => k_exc); (case p_LotsError => k_is)
  (case q_LotsError => k_is); (case c_LotsError => k_is); (case h_LotsError => k_is); (case o_LotsError => k_is); (case t_LotsError => k_is); (case e_LotsError => k_is)
  (case v_LotsError => k_is); (case a_HandLeft => k_is); (case x_HandLeft => k_exc); (case p_HandLeft => k_is); (case q_HandLeft => k_is); (case c_HandLeft => k_is)
  (case h_HandLeft => k_is); (case o_HandLeft => k_is); (case t_HandLeft => k_is); (case e_HandLeft => k_is); (case v_HandLeft => k_is); (case a_NOUGHT => k_is)
  (case l_NOUGHT => k_is)
