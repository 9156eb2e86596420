import PyProof.Rows.All
import Wide.All
import OpenK.AllK
import Wide.FinOn
import Lean
import PyProof.EqAt
import PyProof.EqKinds
import PyProof.TupleCall
import PySem.Challenge.RW_lots_k13_put_and_drawn
set_option Elab.async false
set_option linter.all false
set_option maxRecDepth 100000
/-! THE HAND LAYER, for ints, bools, texts, own classes, LISTS and tuples (index, slices, in, append, pop ..), calls, loops. Paste it whole ahead of your own text; what your proof does not reach may be deleted. -/
namespace L2
open PySem PySem.Spec PyProof.Rows

/-- a key: an int or a str -/
abbrev Key := Sum Int Str
def keyIs : Key → Value → Bool
  | .inl k, v => Value.isInt k v
  | .inr x, v => Value.isStrOf x v
def keyH (w : World) : Key → Int
  | .inl k => hashInt k
  | .inr x => hashStr w x
theorem keyIs_shape : ∀ {k : Key} {v : Value}, keyIs k v = true → (∃ i t, k = Sum.inl i ∧ v = Value.int i t) ∨ (∃ x t, k = Sum.inr x ∧ v = Value.str x t)
  | .inl i, v, h => by
    obtain ⟨t, e⟩ := Value.isInt_shape (k := i) (v := v) h
    exact .inl ⟨i, t, rfl, e⟩
  | .inr x, v, h => by
    obtain ⟨t, e⟩ := Value.isStrOf_shape (x := x) (v := v) h
    exact .inr ⟨x, t, rfl, e⟩
theorem keyIs_int (i : Int) (t : Tok) : keyIs (.inl i) (.int i t) = true := by simp [keyIs, Value.isInt]
theorem keyIs_str (x : Str) (t : Tok) : keyIs (.inr x) (.str x t) = true := by simp [keyIs, Value.isStrOf]
theorem key_ll (a b : Int) : decide ((Sum.inl a : Key) = Sum.inl b) = (a == b) := by
  by_cases e : a = b
  · subst e; simp
  · have h : ¬ (Sum.inl a : Key) = Sum.inl b := fun q => e (Sum.inl.inj q)
    rw [decide_eq_false h]
    exact (beq_eq_false_iff_ne.mpr e).symm
theorem key_rr (a b : Str) : decide ((Sum.inr a : Key) = Sum.inr b) = decide (a = b) := by
  by_cases e : a = b
  · subst e; simp
  · have h : ¬ (Sum.inr a : Key) = Sum.inr b := fun q => e (Sum.inr.inj q)
    rw [decide_eq_false h, decide_eq_false e]
theorem key_lr (a : Int) (b : Str) : decide ((Sum.inl a : Key) = Sum.inr b) = false := decide_eq_false (fun q => nomatch q)
theorem key_rl (a : Str) (b : Int) : decide ((Sum.inr a : Key) = Sum.inl b) = false := decide_eq_false (fun q => nomatch q)

def mixKind (prog : Program) (w : World) : PySem.KeyKind prog w Key where
  is := keyIs
  hash := keyH w
  inj := fun v a b ha hb => by
    rcases keyIs_shape ha with ⟨i, t, rfl, rfl⟩ | ⟨x, t, rfl, rfl⟩
    · rcases keyIs_shape hb with ⟨j, u, rfl, e⟩ | ⟨y, u, rfl, e⟩
      · injection e with e1 _; rw [e1]
      · exact nomatch e
    · rcases keyIs_shape hb with ⟨j, u, rfl, e⟩ | ⟨y, u, rfl, e⟩
      · exact nomatch e
      · injection e with e1 _; rw [e1]
  byValue := fun k v h => by
    rcases keyIs_shape h with ⟨i, t, rfl, rfl⟩ | ⟨x, t, rfl, rfl⟩ <;> rfl
  pyHash := fun hv h => by
    rcases keyIs_shape hv with ⟨i, t, rfl, rfl⟩ | ⟨x, t, rfl, rfl⟩
    · exact wpAny_pyHash_int h
    · exact wpAny_pyHash_str h
  eqBool := fun hu hv h => by
    rcases keyIs_shape hu with ⟨i, t, rfl, rfl⟩ | ⟨x, t, rfl, rfl⟩
    · rcases keyIs_shape hv with ⟨j, u, rfl, rfl⟩ | ⟨y, u, rfl, rfl⟩
      · rw [key_ll] at h; exact wpAny_eqBool_int h
      · rw [key_lr] at h; exact SeqAt.EqAt.int_str i t y u _ _ _ _ h
    · rcases keyIs_shape hv with ⟨j, u, rfl, rfl⟩ | ⟨y, u, rfl, rfl⟩
      · rw [key_rl] at h; exact SeqAt.EqAt.str_int x t j u _ _ _ _ h
      · rw [key_rr] at h; exact wpAny_eqBool_str h
  «strs» := fun k x t v h => by
    rcases keyIs_shape h with ⟨i, u, rfl, e⟩ | ⟨y, u, rfl, e⟩
    · exact nomatch e
    · injection e with e1 _
      subst e1
      cases v <;> rfl

theorem mixKind_is (prog : Program) (w : World) (k : Key) (v : Value) : (mixKind prog w).is k v = keyIs k v := rfl
theorem mixKind_int (prog : Program) (w : World) (i : Int) (t : Tok) : (mixKind prog w).is (.inl i) (.int i t) = true := keyIs_int i t
theorem mixKind_str (prog : Program) (w : World) (x : Str) (t : Tok) : (mixKind prog w).is (.inr x) (.str x t) = true := keyIs_str x t
end L2

namespace L2
open PySem PySem.Spec PyProof.Rows

/-- a value, without the heap -/
inductive V where
  | non | bl (b : Bool) | int (i : Int) | str (x : Str) | byt (b : Array UInt8) | flt (b : UInt64) | ref (a : Addr) | ty (n : String)
  deriving DecidableEq

def RelV : V → Value → Prop
  | .non, u => u = Value.none
  | .bl b, u => u = Value.bool b
  | .int i, u => ∃ t, u = Value.int i t
  | .str x, u => ∃ t, u = Value.str x t
  | .byt b, u => ∃ t, u = Value.bytes b t
  | .flt b, u => ∃ t, u = Value.float b t
  | .ref a, u => u = Value.ref a
  | .ty n, u => u = Value.type n

abbrev Vals : List V → List Value → Prop := Paired RelV
theorem Vals.length {xs : List V} {us : List Value} (r : Vals xs us) : xs.length = us.length := Paired.length r
theorem Vals.get : ∀ {xs : List V} {us : List Value} {i : Nat} {x : V}, Vals xs us → xs[i]? = some x → ∃ u, us[i]? = some u ∧ RelV x u
  | _, _, _, _, .nil, e => by simp at e
  | _, _, 0, _, .cons r _, e => by simp at e; subst e; exact ⟨_, rfl, r⟩
  | _, _, i + 1, x, .cons _ t, e => by
    obtain ⟨u, h1, h2⟩ := Vals.get (i := i) (x := x) t (by simpa using e)
    exact ⟨u, by simpa using h1, h2⟩
theorem Vals.set {x : V} {u : Value} (r : RelV x u) : ∀ {xs : List V} {us : List Value} (i : Nat), Vals xs us → Vals (xs.set i x) (us.set i u)
  | _, _, _, .nil => .nil
  | _, _, 0, .cons _ t => .cons r t
  | _, _, i + 1, .cons q t => .cons q (Vals.set r i t)
theorem Vals.append : ∀ {xs ys : List V} {us ws : List Value}, Vals xs us → Vals ys ws → Vals (xs ++ ys) (us ++ ws)
  | _, _, _, _, .nil, s => s
  | _, _, _, _, .cons r t, s => .cons r (Vals.append t s)
theorem Vals.take : ∀ {xs : List V} {us : List Value} (n : Nat), Vals xs us → Vals (xs.take n) (us.take n)
  | _, _, 0, _ => .nil
  | _, _, _ + 1, .nil => .nil
  | _, _, n + 1, .cons r t => .cons r (Vals.take n t)
theorem Vals.drop : ∀ {xs : List V} {us : List Value} (n : Nat), Vals xs us → Vals (xs.drop n) (us.drop n)
  | _, _, 0, r => r
  | _, _, _ + 1, .nil => .nil
  | _, _, n + 1, .cons _ t => Vals.drop n t
theorem Vals.none_of : ∀ {xs : List V} {us : List Value} {i : Nat}, Vals xs us → xs[i]? = none → us[i]? = none := fun {xs us i} r e => by
  have h1 := r.length
  have h2 : xs.length ≤ i := List.getElem?_eq_none_iff.mp e
  exact List.getElem?_eq_none_iff.mpr (by omega)

def RelO : Option V → Option Value → Prop
  | some v, some u => RelV v u
  | none, none => True
  | _, _ => False
def KV {κ : Type} : List (κ × V) → List (κ × Value) → Prop := Paired fun (p : κ × V) (q : κ × Value) => p.1 = q.1 ∧ RelV p.2 q.2

/-- a key of a dict (00_mix): an int or a text -/
def kV : Key → V
  | .inl i => .int i
  | .inr x => .str x

/-- what stands at a tracked address -/
inductive HO where
  /-- a list -/
  | lst (xs : List V)
  /-- a tuple (never changes) -/
  | tup (xs : List V)
  /-- a dict whose keys are ints and texts; one whose keys are tuples of ints and texts (the empty one is both) -/
  | dK (kvs : List (Key × V)) | dT (kvs : List (List Key × V))
  /-- a set of ints: its members, its size -/
  | set (S : Int → Bool) (n : Nat)
  /-- an instance of the class at C, its dict at dx, its attributes -/
  | ins (C dx : Addr) (fs : List (Str × V))
  /-- the dict of the instance at x -/
  | own (x : Addr)
  /-- the dict of an exception -/
  | xd (fs : List (Str × V))
  /-- a bound method, f of x -/
  | met (f x : Addr)
  /-- a range object lo, lo + 1, .. below hi -/
  | rng (lo hi : Int)
  /-- a thing that is known to the object (the script; a dict while a loop walks it): read, never written while it is so -/
  | frz (o : Obj) (u : HO)
  /-- a code object's table -/
  | tbl (ps : Array Value)
  /-- any other thing, by what is true of its one object (a def of one's own: SetO a S n := HO.ext fun h => ..) -/
  | ext (φ : Heap → Prop)

abbrev Hp := Addr → Option HO
def upd (H : Hp) (a : Addr) (o : HO) : Hp := fun b => if b = a then some o else H b
theorem upd_same {H : Hp} {a : Addr} {o : HO} : upd H a o a = some o := by unfold upd; rw [if_pos rfl]
theorem upd_ne {H : Hp} {a b : Addr} {o : HO} (h : b ≠ a) : upd H a o b = H b := by unfold upd; rw [if_neg h]
theorem upd_upd {H : Hp} {a : Addr} {o u : HO} : upd (upd H a o) a u = upd H a u := by
  funext b; unfold upd; split <;> rfl
/-- two objects of different content stand apart -/
theorem ne_of {H : Hp} {a b : Addr} {o u : HO} (h : H a = some o) (h' : H b = some u) (d : o ≠ u) : a ≠ b := by
  intro e; subst e; rw [h] at h'; exact d (Option.some.inj h')
theorem ne_of_none {H : Hp} {a b : Addr} {o : HO} (h : H a = some o) (h' : H b = none) : a ≠ b := by
  intro e; subst e; rw [h] at h'; cases h'

section
variable (P : Program) (w : World)
def ObjOk (H : Hp) (h : Heap) (a : Addr) : HO → Prop
  | .lst xs => xs.length ≤ sizeLine ∧ ∃ (its : List Value) (n : Nat), Vals xs its ∧ h.get? a = some { cls := .type "list", data := .seq its.toArray n }
  | .tup xs => xs.length ≤ sizeLine ∧ ∃ its : List Value, Vals xs its ∧ IsTup h a its.toArray
  | .dK kvs => kvs.length ≤ sizeLine ∧ (a == sysModules) = false ∧ ∃ vs, KV kvs vs ∧ h.DictOf (mixKind P w) a vs
  | .dT kvs => kvs.length ≤ sizeLine ∧ (a == sysModules) = false ∧ ∃ xs : List (List Key × Addr × Value),
      Paired (fun (p : List Key × V) (q : List Key × Addr × Value) => p.1 = q.1 ∧ H q.2.1 = some (.tup (p.1.map kV)) ∧ RelV p.2 q.2.2) kvs xs ∧
      ∃ o es ep, h.get? a = some o ∧ o.ExactDict ∧ o.data = .dict es ep ∧ es.toList = xs.map (entryOfKey (tupleKind (mixKind P w))) ∧ (xs.map (·.1)).Nodup
  | .set S n => h.SetOf (intKind P w) a S n
  | .ins C dx fs => H dx = some (.own a) ∧ fs.length ≤ 1000 ∧ dx ≠ a ∧ h.get? a = some (PySem.W.instObj C dx) ∧
      ∃ mA, h.Ns1 dx mA ∧ (∀ f, RelO (fs.lookup f) (mA f)) ∧ PySem.Within mA (fs.map (·.1))
  | .own _ => ∃ o, h.get? a = some o
  | .xd fs => ∃ mA, h.Ns1 a mA ∧ ∀ f, RelO (fs.lookup f) (mA f)
  | .rng lo hi => ∃ t u v, h.get? a = some { cls := .type "range", data := .fields #[.int lo t, .int hi u, .int 1 v] }
  | .frz o u => h.get? a = some o ∧ ObjOk H h a u
  | .tbl ps => h.get? a = some { cls := .none, data := .fields ps }
  | .met f x => h.get? a = some (PySem.W.methodObj (.ref f) (.ref x))
  | .ext φ => φ h ∧ (∃ o, h.get? a = some o) ∧ ∀ h1 h2 : Heap, φ h1 → (∀ o, h1.get? a = some o → h2.get? a = some o) → φ h2
/-- the abstract heap is held -/
def HOk (H : Hp) (h : Heap) : Prop := ∀ a o, H a = some o → ObjOk P w H h a o
end

section
variable {P : Program} {w : World} {H H' : Hp} {h h' : Heap} {a : Addr} {o : HO}
theorem ObjOk.lt (x : ObjOk P w H h a o) : a < h.objs.size := by
  cases o with
  | lst xs => obtain ⟨_, _, _, _, e⟩ := x; exact Heap.lt_size e
  | tup xs => obtain ⟨_, _, _, p⟩ := x; exact p.lt
  | dK kvs => obtain ⟨_, _, _, _, o, _, _, e, _⟩ := x; exact Heap.lt_size e
  | dT kvs => obtain ⟨_, _, _, _, o, _, _, e, _⟩ := x; exact Heap.lt_size e
  | set S n => obtain ⟨o, _, _, _, e, _⟩ := x; exact Heap.lt_size e
  | ins C dx fs => obtain ⟨_, _, _, e, _⟩ := x; exact Heap.lt_size e
  | own y => obtain ⟨_, e⟩ := x; exact Heap.lt_size e
  | xd fs => obtain ⟨_, ⟨_, _, _, e, _⟩, _⟩ := x; exact Heap.lt_size e
  | rng lo hi => obtain ⟨_, _, _, e⟩ := x; exact Heap.lt_size e
  | frz ob u => obtain ⟨e, _⟩ := x; exact Heap.lt_size e
  | tbl ps => exact Heap.lt_size (show h.get? a = some _ from x)
  | met f y => exact Heap.lt_size (show h.get? a = some _ from x)
  | ext φ => obtain ⟨_, ⟨_, e⟩, _⟩ := x; exact Heap.lt_size e
theorem Paired.mapP {α β : Type} {F G : α → β → Prop} : ∀ {l₁ : List α} {l₂ : List β}, Paired F l₁ l₂ → (∀ a b, F a b → G a b) → Paired G l₁ l₂
  | _, _, .nil, _ => .nil
  | _, _, .cons r t, f => .cons (f _ _ r) (Paired.mapP t f)
theorem Paired.imp' {α β : Type} {F G : α → β → Prop} (f : ∀ a b, F a b → G a b) {l₁ : List α} {l₂ : List β} (r : Paired F l₁ l₂) : Paired G l₁ l₂ := Paired.mapP r f
/-- what an object's description leans on: its own object, its own dict, the tuples -/
theorem ObjOk.stay (x : ObjOk P w H h a o) (k : ∀ b u, (b = a ∨ H b = some (.own a)) → h.get? b = some u → h'.get? b = some u)
    (ho : ∀ b, H b = some (.own a) → H' b = some (.own a)) (ht : ∀ b xs, H b = some (.tup xs) → H' b = some (.tup xs)) : ObjOk P w H' h' a o := by
  induction o with
  | lst xs => obtain ⟨z, its, n, r, e⟩ := x; exact ⟨z, its, n, r, k _ _ (.inl rfl) e⟩
  | tup xs => obtain ⟨z, its, r, ob, e, c⟩ := x; exact ⟨z, its, r, ob, k _ _ (.inl rfl) e, c⟩
  | dK kvs => obtain ⟨z, y, vs, r, ob, es, ep, e, c⟩ := x; exact ⟨z, y, vs, r, ob, es, ep, k _ _ (.inl rfl) e, c⟩
  | dT kvs =>
    obtain ⟨z, y, xs, r, ob, es, ep, e, c⟩ := x
    exact ⟨z, y, xs, Paired.mapP r fun p q z => ⟨z.1, ht _ _ z.2.1, z.2.2⟩, ob, es, ep, k _ _ (.inl rfl) e, c⟩
  | set S n => obtain ⟨ob, es, ep, t, e, c⟩ := x; exact ⟨ob, es, ep, t, k _ _ (.inl rfl) e, c⟩
  | ins C dx fs =>
    obtain ⟨d, z, ne, e, mA, ⟨od, es, ep, e2, c⟩, r⟩ := x
    exact ⟨ho _ d, z, ne, k _ _ (.inl rfl) e, mA, ⟨od, es, ep, k _ _ (.inr d) e2, c⟩, r⟩
  | own y => obtain ⟨ob, e⟩ := x; exact ⟨ob, k _ _ (.inl rfl) e⟩
  | xd fs => obtain ⟨mA, ⟨od, es, ep, e, c⟩, r⟩ := x; exact ⟨mA, ⟨od, es, ep, k _ _ (.inl rfl) e, c⟩, r⟩
  | rng lo hi => obtain ⟨t, u, v, e⟩ := x; exact ⟨t, u, v, k _ _ (.inl rfl) e⟩
  | frz ob u ih => obtain ⟨e, q⟩ := x; exact ⟨k _ _ (.inl rfl) e, ih q⟩
  | tbl ps =>
    have e : h.get? a = some { cls := .none, data := .fields ps } := x
    show h'.get? a = some { cls := .none, data := .fields ps }
    exact k a _ (.inl rfl) e
  | met f y =>
    have e : h.get? a = some (PySem.W.methodObj (.ref f) (.ref y)) := x
    show h'.get? a = some (PySem.W.methodObj (.ref f) (.ref y))
    exact k a _ (.inl rfl) e
  | ext φ => obtain ⟨p, ⟨o, e⟩, st⟩ := x; exact ⟨st _ _ p fun o q => k _ _ (.inl rfl) q, ⟨o, k _ _ (.inl rfl) e⟩, st⟩
theorem HOk.lt (x : HOk P w H h) (e : H a = some o) : a < h.objs.size := (x a o e).lt
theorem HOk.fresh (x : HOk P w H h) (e : h.objs.size ≤ a) : H a = none := by
  cases q : H a with
  | none => rfl
  | some u => exact absurd (Nat.lt_of_lt_of_le (x.lt q) e) (Nat.lt_irrefl _)
/-- every object of the heap is kept -/
theorem HOk.kept (x : HOk P w H h) (k : ∀ b u, h.get? b = some u → h'.get? b = some u) : HOk P w H h' := fun a o e =>
  (x a o e).stay (fun b u _ q => k b u q) (fun _ q => q) fun _ _ q => q
/-- a new object is laid and tracked -/
theorem HOk.laid (x : HOk P w H h) (k : ∀ b u, h.get? b = some u → h'.get? b = some u) (hp : h.objs.size ≤ a) (new : ObjOk P w (upd H a o) h' a o) : HOk P w (upd H a o) h' := fun b u e => by
  have hn := x.fresh hp
  by_cases hb : b = a
  · subst hb; rw [upd_same] at e; cases e; exact new
  · rw [upd_ne hb] at e
    exact (x b u e).stay (fun c v _ q => k c v q) (fun c q => by rw [upd_ne (ne_of_none q hn)]; exact q) fun c xs q => by rw [upd_ne (ne_of_none q hn)]; exact q
end

/-- what may be read as u: it is u, or a known u -/
def Rd (H : Hp) (a : Addr) (u : HO) : Prop := H a = some u ∨ ∃ o, H a = some (.frz o u)
theorem Rd.of {H : Hp} {a : Addr} {u : HO} (h : H a = some u) : Rd H a u := .inl h
theorem Rd.ok {P : Program} {w : World} {H : Hp} {h : Heap} {a : Addr} {u : HO} (r : Rd H a u) (x : HOk P w H h) : ObjOk P w H h a u := by
  rcases r with r | ⟨o, r⟩
  · exact x a u r
  · obtain ⟨_, q⟩ := x a _ r
    exact q
/-- what may be written -/
def Mut : Option HO → Prop
  | some (.lst _) => True
  | some (.dK _) => True
  | some (.dT _) => True
  | some (.set _ _) => True
  | some (.ins _ _ _) => True
  | some (.ext _) => True
  | _ => False
section
variable {P : Program} {w : World} {H : Hp} {h h' : Heap} {x e : Addr} {o' : HO}
/-- the object at e is changed: x itself, or the dict of the instance x -/
theorem HOk.write (ok : HOk P w H h) (mu : Mut (H x)) (he : e = x ∨ H e = some (.own x)) (k : ∀ b u, b ≠ e → h.get? b = some u → h'.get? b = some u) (heo : ∃ u, h'.get? e = some u)
    (new : ObjOk P w (upd H x o') h' x o') : HOk P w (upd H x o') h' := fun b u q => by
  have nown : ∀ c y, H c = some (.own y) → c ≠ x := fun c y r z => by subst z; rw [r] at mu; exact mu
  have ntup : ∀ c xs, H c = some (.tup xs) → c ≠ x := fun c xs r z => by subst z; rw [r] at mu; exact mu
  by_cases hb : b = x
  · subst hb; rw [upd_same] at q; cases q; exact new
  · rw [upd_ne hb] at q
    by_cases hbe : b = e
    · have q' : H b = some (.own x) := by
        rcases he with z | z
        · exact absurd (hbe.trans z) hb
        · rw [hbe]; exact z
      rw [q] at q'; cases q'
      obtain ⟨v, hv⟩ := heo
      exact ⟨v, by rw [hbe]; exact hv⟩
    · refine (ok b u q).stay (fun c v hc r => k c v ?_ r) (fun c r => by rw [upd_ne (nown c b r)]; exact r) fun c xs r => by rw [upd_ne (ntup c xs r)]; exact r
      rcases hc with rfl | hc
      · exact hbe
      · rintro rfl
        rcases he with z | z
        · exact nown c b hc z
        · rw [hc] at z; cases z; exact hb rfl
end

/-! ### kept unless tracked; of the frames at fs (the callers') the slots may change (an exception that passes writes there); of the records at ex (iterators) nothing is said -/
structure Un (fs ex : List Addr) (H H' : Hp) (h h' : Heap) : Prop where
  keep : ∀ b o, h.get? b = some o → H b = none → b ∉ fs → b ∉ ex → h'.get? b = some o
  slot : ∀ b o, h.get? b = some o → H b = none → b ∈ fs → b ∉ ex → ∃ sl, h'.get? b = some { o with slots := sl }
  free : ∀ b o, h.get? b = some o → H b = none → b ∉ ex → H' b = none
  there : ∀ b o, h.get? b = some o → b ∉ ex → ∃ o', h'.get? b = some o'
  tups : ∀ b xs, H b = some (.tup xs) → H' b = some (.tup xs)
  frzs : ∀ b o u, H b = some (.frz o u) → H' b = some (.frz o u)
  tbls : ∀ b ps, H b = some (.tbl ps) → ∃ more, H' b = some (.tbl (ps ++ more))
section
variable {fs fs' ex ex' : List Addr} {H H1 H2 : Hp} {h h1 h2 h' : Heap} {a x e : Addr} {o : HO}
theorem Un.any (u : Un fs ex H H1 h h1) {b : Addr} {ob : Obj} (q : h.get? b = some ob) (n : H b = none) (hx : b ∉ ex) : ∃ sl, h1.get? b = some { ob with slots := sl } := by
  by_cases hb : b ∈ fs
  · exact u.slot b ob q n hb hx
  · exact ⟨ob.slots, u.keep b ob q n hb hx⟩
theorem Un.trans (a : Un fs ex H H1 h h1) (b : Un fs ex H1 H2 h1 h2) : Un fs ex H H2 h h2 where
  keep := fun c ob q n hc hx => b.keep c ob (a.keep c ob q n hc hx) (a.free c ob q n hx) hc hx
  slot := fun c ob q n hc hx => by
    obtain ⟨sl, e1⟩ := a.slot c ob q n hc hx
    obtain ⟨sl', e2⟩ := b.slot c _ e1 (a.free c ob q n hx) hc hx
    exact ⟨sl', e2⟩
  free := fun c ob q n hx => by
    obtain ⟨o', e1⟩ := a.there c ob q hx
    exact b.free c o' e1 (a.free c ob q n hx) hx
  there := fun c ob q hx => by
    obtain ⟨o', e1⟩ := a.there c ob q hx
    exact b.there c o' e1 hx
  tups := fun c xs q => b.tups c xs (a.tups c xs q)
  frzs := fun c ob xs q => b.frzs c ob xs (a.frzs c ob xs q)
  tbls := fun c ps q => by
    obtain ⟨m1, e1⟩ := a.tbls c ps q
    obtain ⟨m2, e2⟩ := b.tbls c _ e1
    exact ⟨m1 ++ m2, by rw [e2, Array.append_assoc]⟩
theorem Un.kept (k : ∀ b u, h.get? b = some u → h'.get? b = some u) : Un fs ex H H h h' :=
  ⟨fun b ob q _ _ _ => k b ob q, fun b ob q _ _ _ => ⟨ob.slots, k b ob q⟩, fun _ _ _ n _ => n, fun b ob q _ => ⟨ob, k b ob q⟩, fun _ _ q => q, fun _ _ _ q => q, fun _ ps q => ⟨#[], by rw [q]; simp⟩⟩
theorem Un.refl : Un fs ex H H h h := Un.kept fun _ _ q => q
theorem Un.laid (k : ∀ b u, h.get? b = some u → h'.get? b = some u) (hp : h.objs.size ≤ a) (hn : H a = none) : Un fs ex H (upd H a o) h h' where
  keep := fun b u q _ _ _ => k b u q
  slot := fun b u q _ _ _ => ⟨u.slots, k b u q⟩
  free := fun b u q n _ => by rw [upd_ne (Nat.ne_of_lt (Nat.lt_of_lt_of_le (Heap.lt_size q) hp))]; exact n
  there := fun b u q _ => ⟨u, k b u q⟩
  tups := fun b xs q => by rw [upd_ne (ne_of_none q hn)]; exact q
  frzs := fun b u xs q => by rw [upd_ne (ne_of_none q hn)]; exact q
  tbls := fun b ps q => ⟨#[], by rw [upd_ne (ne_of_none q hn), q]; simp⟩
theorem Un.write (mu : Mut (H x)) (he : e = x ∨ H e = some (.own x)) (k : ∀ b u, b ≠ e → h.get? b = some u → h'.get? b = some u) (heo : ∃ u, h'.get? e = some u) : Un fs ex H (upd H x o) h h' := by
  have hx : ∀ b, H b = none → b ≠ x := fun b n z => by subst z; rw [n] at mu; exact mu
  have hb : ∀ b, H b = none → b ≠ e := fun b n z => by
    subst z
    rcases he with r | r
    · exact hx b n r
    · rw [n] at r; cases r
  have hm : ∀ b u, H b = some u → ¬ Mut (some u) → b ≠ x := fun b u q nm z => by subst z; rw [q] at mu; exact nm mu
  refine ⟨fun b u q n _ _ => k b u (hb b n) q, fun b u q n _ _ => ⟨u.slots, k b u (hb b n) q⟩, fun b u q n _ => by rw [upd_ne (hx b n)]; exact n, fun b u q _ => ?_,
    fun b xs q => by rw [upd_ne (hm b _ q fun z => z)]; exact q, fun b u xs q => by rw [upd_ne (hm b _ q fun z => z)]; exact q, fun b ps q => ⟨#[], by rw [upd_ne (hm b _ q fun z => z), q]; simp⟩⟩
  by_cases hbe : b = e
  · subst hbe; exact heo
  · exact ⟨u, k b u hbe q⟩
theorem Un.mono (u : Un fs ex H H1 h h1) (hs : ∀ b ∈ fs, b ∈ fs') (hx : ∀ b ∈ ex, b ∈ ex') : Un fs' ex' H H1 h h1 :=
  ⟨fun b ob q n hb he => u.keep b ob q n (fun z => hb (hs b z)) fun z => he (hx b z), fun _ _ q n _ he => u.any q n fun z => he (hx _ z), fun b ob q n he => u.free b ob q n fun z => he (hx b z), fun b ob q he => u.there b ob q fun z => he (hx b z), u.tups, u.frzs, u.tbls⟩
end

/-! ### the heap without what is tracked -/
def trk (h : Heap) (H : Hp) : List Addr := (List.range h.objs.size).filter fun a => (H a).isSome
def hidT (h : Heap) (H : Hp) : Heap := PySem.W.hideAll h (trk h H)
theorem hidT_size (h : Heap) (H : Hp) : (hidT h H).objs.size = h.objs.size := PySem.W.hideAll_size _ _
theorem hidT_get {h : Heap} {H : Hp} {b : Addr} {o : Obj} (e : h.get? b = some o) (n : H b = none) : (hidT h H).get? b = some o :=
  PySem.W.hideAll_get _ e fun hm => by
    have q : (H b).isSome = true := (List.mem_filter.mp hm).2
    rw [n] at q; simp at q
theorem of_hidT {h : Heap} {H : Hp} {b : Addr} {o : Obj} (e : (hidT h H).get? b = some o) : h.get? b = some o ∧ H b = none := by
  have e' : h.get? b = some o := PySem.W.of_hideAll (trk h H) e
  refine ⟨e', ?_⟩
  cases q : H b with
  | none => rfl
  | some x =>
    have hm : b ∈ trk h H := List.mem_filter.mpr ⟨List.mem_range.mpr (Heap.lt_size e'), by simp [q]⟩
    have z : (hidT h H).get? b = none := PySem.W.hideAll_none (trk h H) hm
    rw [z] at e; cases e

/-! ### OpenK's ledger, filled with every new object but one -/
def allNews (g h : Heap) (L : Addr) : List (Addr × Obj) := (List.range h.objs.size).filterMap fun a => if a = L ∨ (g.get? a).isSome = true then none else (h.get? a).map fun o => (a, o)
theorem mem_allNews {g h : Heap} {L a : Addr} {o : Obj} (h1 : a ≠ L) (h2 : g.get? a = none) (h3 : h.get? a = some o) : (a, o) ∈ allNews g h L :=
  List.mem_filterMap.mpr ⟨a, List.mem_range.mpr (Heap.lt_size h3), by simp [h1, h2, h3]⟩
theorem of_mem_allNews {g h : Heap} {L : Addr} {p : Addr × Obj} (hp : p ∈ allNews g h L) : p.1 ≠ L ∧ g.get? p.1 = none ∧ h.get? p.1 = some p.2 := by
  obtain ⟨b, _, e⟩ := List.mem_filterMap.mp hp
  split at e
  · cases e
  · rename_i hn
    cases q : h.get? b with
    | none => rw [q] at e; simp at e
    | some u =>
      rw [q] at e
      simp only [Option.map_some, Option.some.injEq] at e
      subst e
      refine ⟨fun z => hn (.inl z), ?_, q⟩
      show g.get? b = none
      cases r : g.get? b with
      | none => rfl
      | some v => exact (hn (.inr (by simp [r]))).elim
def rest (g h : Heap) (L d : Addr) : List (Addr × Obj) := (allNews g h L).filter fun p => decide (p.1 ≠ d)
theorem rest_ne {g h : Heap} {L d : Addr} : ∀ p ∈ rest g h L d, p.1 ≠ d := fun p hp => of_decide_eq_true (List.mem_filter.mp hp).2
theorem mem_rest {g h : Heap} {L d a : Addr} {o : Obj} (h1 : a ≠ L) (h2 : g.get? a = none) (h3 : h.get? a = some o) (h4 : a ≠ d) : (a, o) ∈ rest g h L d :=
  List.mem_filter.mpr ⟨mem_allNews h1 h2 h3, decide_eq_true h4⟩
theorem news_all {g h : Heap} {L : Addr} : News g L h (allNews g h L) := fun p hp => let ⟨a, b, c⟩ := of_mem_allNews hp; ⟨c, a, b⟩
theorem news_at {g h : Heap} {L d : Addr} {o : Obj} (h1 : d ≠ L) (h2 : g.get? d = none) (h3 : h.get? d = some o) : News g L h ((d, o) :: rest g h L d) := fun p hp => by
  rcases List.mem_cons.mp hp with rfl | hp
  · exact ⟨h3, h1, h2⟩
  · exact news_all p (List.mem_filter.mp hp).1
/-- behind a rule that changed d alone: all else but the frame is kept -/
theorem kept_of_news {g h h' : Heap} {L d : Addr} {m : Str → Option Value} (k : ∀ b o, g.get? b = some o → h.get? b = some o) (F : Fr g L h' m) (N : News g L h' (rest g h L d)) :
    ∀ b o, b ≠ L → b ≠ d → h.get? b = some o → h'.get? b = some o := fun b o h1 h2 e => by
  cases q : g.get? b with
  | some u =>
    have := k b u q
    rw [e] at this; cases this
    exact F.keep b _ q
  | none => exact (N (b, o) (mem_rest h1 q e h2)).1
end L2

namespace L2
open PySem PySem.Spec PyProof.Rows

/-- the module's facts, over the base: the heap at the law's entry without what is tracked there -/
structure Mod (K : PySem.W.Frag) (mg : Str → Option Value) (base : Heap) : Prop where
  kin : K.In base
  glob : base.Ns mainGlobals mg
  blt : ∃ mb, base.Ns builtinsNs mb ∧ ∀ x : Str, x ≠ "__name__" → mb x = bootBuiltins x
  nolimit : base.NoLimit

/-- the context: a def's body (or a comprehension's block) running. base: fixed through the whole law; s₀, H₀: the entry; outer: the frames whose slots others may change (a def's callers); stack: all frames that run;
   ex: iterators that were made ahead of the entry and are walked here (a comprehension's); fn: the names whose cells were made at the entry (a def: all; a comprehension's block: its own); calm: not within an except suite; pn: pins that every state bears; xe: what is wanted of an exception that leaves the code -/
structure Cx where
  prog : Program
  w : World
  K : PySem.W.Frag
  mg : Str → Option Value
  base : Heap
  A : Around
  N : List Str
  s₀ : Shared
  H₀ : Hp
  env : Env
  outer : List Env
  stack : List Env
  ex : List Addr
  fn : Str → Bool
  calm : Bool
  pn : List (Addr × Obj)
  xe : Value → Shared → Prop
/-- the callers' frames -/
def frs (l : List Env) : List Addr := l.filterMap (·.frame)
abbrev Cx.fs (X : Cx) : List Addr := frs X.outer

def Vis (sc : Scope) (x : Str) : Prop := sc.names.lookup x = some .local ∨ sc.names.lookup x = some .cell ∨ sc.names.lookup x = some .free
def Loc (sc : Scope) (x : Str) : Prop := sc.names.lookup x = some .local ∨ sc.names.lookup x = some .cell
def Look (env : Env) (h : Heap) (m : Str → Option Value) (x : Str) (u : Value) : Prop :=
  (env.kindOf x = some .local ∧ m x = some u) ∨ ((env.kindOf x = some .cell ∨ env.kindOf x = some .free) ∧ ∃ c, env.cells.lookup x = some c ∧ h.IsCell c (some u))

structure Cx.Ok (X : Cx) : Prop where
  mod : Mod X.K X.mg X.base
  kind : X.env.scope.kind = .function
  glob : X.env.globals = mainGlobals
  blt : X.env.builtins = builtinsNs
  above : X.s₀.heap.objs.size ≤ X.env.locals
  inj : ∀ x y c, X.env.cells.lookup x = some c → X.env.cells.lookup y = some c → x = y
  has : ∀ x, (X.env.kindOf x = some .cell ∨ X.env.kindOf x = some .free) → ∃ c, X.env.cells.lookup x = some c
  cab : ∀ x c, X.fn x = true → X.env.cells.lookup x = some c → X.s₀.heap.objs.size ≤ c
  hd : X.calm = true → X.A.handled = none
  frames : X.A.frames = some X.stack
  stk : X.stack = X.outer ∨ (X.stack = X.env :: X.outer ∧ X.env.frame = some X.env.locals)
  exf : ∀ b ∈ X.ex, b ≠ X.env.locals ∧ ∀ x c, X.env.cells.lookup x = some c → c ≠ b
  bs : ∀ b o, X.base.get? b = some o → X.s₀.heap.get? b = some o ∧ X.H₀ b = none
  bsz : X.base.objs.size ≤ X.s₀.heap.objs.size
  noex : ∀ b o, X.base.get? b = some o → b ∉ X.ex
  exfs : ∀ b ∈ X.ex, b ∉ X.fs
  funs : X.s₀.heap.FunFrames X.base X.outer
  frf : ∀ b ∈ X.fs, X.H₀ b = none

structure Inv (X : Cx) (pins : List (Addr × Obj)) (σ : List (Option V)) (H : Hp) (s : Shared) : Prop where
  ok : X.Ok
  os : s.os = X.s₀.os
  bare : AllBare s.gens
  base : Un X.fs X.ex X.H₀ H X.s₀.heap s.heap
  loc : ∃ m, s.heap.Ns X.env.locals m ∧ ∀ (i : Nat) (x : Str) (v : V), X.N[i]? = some x → σ[i]? = some (some v) → Vis X.env.scope x → ∃ u, RelV v u ∧ Look X.env s.heap m x u
  cell : ∀ x c, X.env.cells.lookup x = some c → ∃ v, s.heap.IsCell c v
  free : H X.env.locals = none
  freeC : ∀ x c, X.env.cells.lookup x = some c → H c = none
  pin : ∀ p ∈ X.pn ++ pins, s.heap.get? p.1 = some p.2 ∧ H p.1 = none ∧ p.1 ≠ X.env.locals ∧ p.1 ∉ X.fs ∧ ∀ v, p.2.data ≠ .cell v
  hok : HOk X.prog X.w H s.heap
  len : σ.length = X.N.length

section
variable {X : Cx} {pins : List (Addr × Obj)} {σ : List (Option V)} {H H' : Hp} {s : Shared} {h' : Heap}

theorem Cx.Ok.nofr (ok : X.Ok) {b : Addr} {o : Obj} (e : X.base.get? b = some o) : b ∉ X.fs := fun hb => by
  have := (ok.funs.mem hb).1
  rw [e] at this; cases this
theorem Inv.bs (I : Inv X pins σ H s) : ∀ b o, X.base.get? b = some o → s.heap.get? b = some o ∧ H b = none := fun b o e =>
  ⟨I.base.keep b o (I.ok.bs b o e).1 (I.ok.bs b o e).2 (I.ok.nofr e) (I.ok.noex b o e), I.base.free b o (I.ok.bs b o e).1 (I.ok.bs b o e).2 (I.ok.noex b o e)⟩
theorem Inv.bk (I : Inv X pins σ H s) : ∀ b o, X.base.get? b = some o → s.heap.get? b = some o := fun b o e => (I.bs b o e).1
theorem Inv.mod (I : Inv X pins σ H s) : Mod X.K X.mg X.base := I.ok.mod
theorem Inv.kIn (I : Inv X pins σ H s) : X.K.In s.heap := I.ok.mod.kin.keeps I.bk
theorem Inv.nolimit (I : Inv X pins σ H s) : s.heap.NoLimit := I.ok.mod.nolimit.keeps I.bk
/-- the frame over the base: for OpenK's rules (K.In X.base is I.mod.kin) -/
theorem Inv.fr (I : Inv X pins σ H s) : ∃ m, Fr X.base X.env.locals s.heap m :=
  let ⟨m, hn, _⟩ := I.loc
  ⟨m, hn, I.bk, Nat.le_trans I.ok.bsz I.ok.above⟩
theorem Inv.lt (I : Inv X pins σ H s) : X.env.locals < s.heap.objs.size := let ⟨_, hn, _⟩ := I.loc; hn.lt
theorem Inv.sz (I : Inv X pins σ H s) : X.s₀.heap.objs.size ≤ s.heap.objs.size := Nat.le_trans I.ok.above (Nat.le_of_lt I.lt)
theorem Inv.nofs (I : Inv X pins σ H s) {a : Addr} (h : s.heap.objs.size ≤ a) : a ∉ X.fs := fun hb => by
  obtain ⟨_, o, ho, _⟩ := I.ok.funs.mem hb
  exact absurd (Nat.lt_of_lt_of_le (Heap.lt_size ho) (Nat.le_trans I.sz h)) (Nat.lt_irrefl _)
theorem Inv.cne (I : Inv X pins σ H s) : ∀ x c, X.env.cells.lookup x = some c → c ≠ X.env.locals := fun x c e z => by
  obtain ⟨v, o, ho, hd⟩ := I.cell x c e
  obtain ⟨m, ⟨o', es, ep, ho', hd', _⟩, _⟩ := I.loc
  rw [z, ho'] at ho; cases ho; rw [hd'] at hd; cases hd
theorem Inv.funs (I : Inv X pins σ H s) : s.heap.FunFrames X.base X.outer := by
  have all : ∀ (l : List Env), (∀ b ∈ frs l, b ∈ X.fs) → X.s₀.heap.FunFrames X.base l → s.heap.FunFrames X.base l := by
    intro l
    induction l with
    | nil => intro _ _; trivial
    | cons env r ih =>
      intro hs hl
      obtain ⟨hk, ⟨L, o, hf, hn, ho, hd⟩, hr⟩ := hl
      have hL : L ∈ X.fs := hs L (by unfold frs; rw [List.filterMap_cons, hf]; exact List.mem_cons_self)
      obtain ⟨sl, e⟩ := I.base.slot L o ho (I.ok.frf L hL) hL fun z => I.ok.exfs L z hL
      exact ⟨hk, ⟨L, _, hf, hn, e, hd⟩, ih (fun b hb => hs b (by unfold frs; rw [List.filterMap_cons, hf]; exact List.mem_cons_of_mem _ hb)) hr⟩
  exact all X.outer (fun _ hb => hb) I.ok.funs

/-- the frames that run, for a call -/
theorem Inv.stack (I : Inv X pins σ H s) : s.heap.FunFrames X.base X.stack := by
  rcases I.ok.stk with e | ⟨e, hf⟩
  · rw [e]; exact I.funs
  · rw [e]
    obtain ⟨m, hn, _⟩ := I.loc
    refine .cons (by rw [I.ok.kind]; decide) hf hn ?_ I.funs
    exact Heap.get?_none_of_le (Nat.le_trans I.ok.bsz I.ok.above)
theorem Inv.stkSub (I : Inv X pins σ H s) : ∀ b ∈ frs X.stack, b ∈ X.env.locals :: X.fs := fun b hb => by
  rcases I.ok.stk with e | ⟨e, hf⟩
  · rw [e] at hb; exact List.mem_cons_of_mem _ hb
  · rw [e] at hb
    unfold frs at hb
    rw [List.filterMap_cons, hf] at hb
    exact hb
theorem Inv.stkFree (I : Inv X pins σ H s) : ∀ b ∈ frs X.stack, H b = none := fun b hb => by
  rcases List.mem_cons.mp (I.stkSub b hb) with e | hb
  · rw [e]; exact I.free
  · obtain ⟨_, o, ho, _⟩ := I.ok.funs.mem hb
    exact I.base.free b o ho (I.ok.frf b hb) fun z => I.ok.exfs b z hb

/-- THE STEP: the untracked objects but the frame and the records at ch are kept (the callers' frames up to slots), the frame's map is kept, the new abstract heap is held -/
theorem Inv.step {g' : Array GenState} {t' : Nat} {d' : Drawn} {ch : List Addr} (I : Inv X pins σ H s)
    (hch : ∀ b ∈ ch, (b ∈ X.ex ∨ X.s₀.heap.objs.size ≤ b) ∧ b ≠ X.env.locals ∧ (∀ x c, X.env.cells.lookup x = some c → c ≠ b) ∧ ∀ p ∈ X.pn ++ pins, p.1 ≠ b)
    (keep : ∀ b o, b ≠ X.env.locals → b ∉ X.fs → b ∉ ch → s.heap.get? b = some o → H b = none → h'.get? b = some o)
    (slot : ∀ b o, b ≠ X.env.locals → b ∈ X.fs → b ∉ ch → s.heap.get? b = some o → H b = none → ∃ sl, h'.get? b = some { o with slots := sl }) (free : ∀ b o, b ∉ ch → s.heap.get? b = some o → H b = none → H' b = none)
    (there : ∀ b o, b ∉ ch → s.heap.get? b = some o → ∃ o', h'.get? b = some o')
    (tups : ∀ b xs, H b = some (.tup xs) → H' b = some (.tup xs)) (frzs : ∀ b o u, H b = some (.frz o u) → H' b = some (.frz o u)) (tbls : ∀ b ps, H b = some (.tbl ps) → ∃ more, H' b = some (.tbl (ps ++ more)))
    (ns : ∀ m, s.heap.Ns X.env.locals m → h'.Ns X.env.locals m) (hok : HOk X.prog X.w H' h') (hg : AllBare g') :
    Inv X pins σ H' { s with heap := h', gens := g', drawn := d', toks := t' } := by
  have neL : ∀ b o, X.s₀.heap.get? b = some o → b ≠ X.env.locals := fun b o e => Nat.ne_of_lt (Nat.lt_of_lt_of_le (Heap.lt_size e) I.ok.above)
  have neC : ∀ b o, X.s₀.heap.get? b = some o → b ∉ X.ex → b ∉ ch := fun b o e hx hb => by
    rcases (hch b hb).1 with z | z
    · exact hx z
    · exact absurd (Nat.lt_of_lt_of_le (Heap.lt_size e) z) (Nat.lt_irrefl _)
  have cellK : ∀ x c, X.env.cells.lookup x = some c → ∀ v, s.heap.IsCell c v → h'.IsCell c v := fun x c e v ⟨o, ho, hd⟩ => by
    have nch : c ∉ ch := fun z => (hch c z).2.2.1 x c e rfl
    by_cases hc : c ∈ X.fs
    · obtain ⟨sl, q⟩ := slot c o (I.cne x c e) hc nch ho (I.freeC x c e)
      exact ⟨_, q, hd⟩
    · exact ⟨o, keep c o (I.cne x c e) hc nch ho (I.freeC x c e), hd⟩
  refine ⟨I.ok, I.os, hg, ⟨fun b o e n hb hx => ?_, fun b o e n hb hx => ?_, fun b o e n hx => ?_, fun b o e hx => ?_, fun b xs e => tups b xs (I.base.tups b xs e), fun b o xs e => frzs b o xs (I.base.frzs b o xs e), fun b ps e => ?_⟩, ?_, fun x c e => ?_, ?_, fun x c e => ?_, fun p hp => ?_, hok, I.len⟩
  · exact keep b o (neL b o e) hb (neC b o e hx) (I.base.keep b o e n hb hx) (I.base.free b o e n hx)
  · obtain ⟨sl, e1⟩ := I.base.slot b o e n hb hx
    obtain ⟨sl', e2⟩ := slot b _ (neL b o e) hb (neC b o e hx) e1 (I.base.free b o e n hx)
    exact ⟨sl', e2⟩
  · obtain ⟨o', e1⟩ := I.base.there b o e hx
    exact free b o' (neC b o e hx) e1 (I.base.free b o e n hx)
  · obtain ⟨o', e1⟩ := I.base.there b o e hx
    exact there b o' (neC b o e hx) e1
  · obtain ⟨m1, e1⟩ := I.base.tbls b ps e
    obtain ⟨m2, e2⟩ := tbls b _ e1
    exact ⟨m1 ++ m2, by rw [e2, Array.append_assoc]⟩
  · obtain ⟨m, hn, hl⟩ := I.loc
    refine ⟨m, ns m hn, fun i x v e1 e2 e3 => ?_⟩
    obtain ⟨u, r, l⟩ := hl i x v e1 e2 e3
    refine ⟨u, r, ?_⟩
    rcases l with l | ⟨k, c, e, z⟩
    · exact .inl l
    · exact .inr ⟨k, c, e, cellK x c e _ z⟩
  · obtain ⟨v, z⟩ := I.cell x c e
    exact ⟨v, cellK x c e v z⟩
  · obtain ⟨m, ⟨o, _, _, ho, _⟩, _⟩ := I.loc
    exact free _ o (fun z => (hch _ z).2.1 rfl) ho I.free
  · obtain ⟨v, o, ho, hd⟩ := I.cell x c e
    exact free c o (fun z => (hch c z).2.2.1 x c e rfl) ho (I.freeC x c e)
  · obtain ⟨e, n, ne, nf, d⟩ := I.pin p hp
    have nch : p.1 ∉ ch := fun z => (hch p.1 z).2.2.2 p hp rfl
    exact ⟨keep p.1 p.2 ne nf nch e n, free p.1 p.2 nch e n, ne, nf, d⟩
/-- .. where the frame's own object is kept too -/
theorem Inv.un {t' : Nat} (I : Inv X pins σ H s) (u : Un X.fs [] H H' s.heap h') (hok : HOk X.prog X.w H' h') : Inv X pins σ H' { s with heap := h', toks := t' } := by
  obtain ⟨m, ⟨o, es, ep, ho, r⟩, _⟩ := id I.loc
  obtain ⟨sl, hL⟩ := u.any ho I.free (by simp)
  exact I.step (g' := s.gens) (d' := s.drawn) (ch := []) (fun _ z => nomatch z) (fun b o _ hb _ e n => u.keep b o e n hb (by simp)) (fun b o _ hb _ e n => u.slot b o e n hb (by simp)) (fun b o _ e n => u.free b o e n (by simp)) (fun b o _ e => u.there b o e (by simp)) u.tups u.frzs u.tbls (fun m' hm => by
    obtain ⟨o', es', ep', ho', r'⟩ := hm
    rw [ho] at ho'; cases ho'
    exact ⟨_, es', ep', hL, r'⟩) hok I.bare
/-- behind a call (or a comprehension's block): the slots of this frame may have changed too, the records at ch may have turned -/
theorem Inv.call {g' : Array GenState} {t' : Nat} {d' : Drawn} {ch : List Addr} (I : Inv X pins σ H s) (u : Un (frs X.stack) ch H H' s.heap h') (hok : HOk X.prog X.w H' h') (hg : AllBare g')
    (hch : ∀ b ∈ ch, (b ∈ X.ex ∨ X.s₀.heap.objs.size ≤ b) ∧ b ≠ X.env.locals ∧ (∀ x c, X.env.cells.lookup x = some c → c ≠ b) ∧ ∀ p ∈ X.pn ++ pins, p.1 ≠ b) :
    Inv X pins σ H' { s with heap := h', gens := g', drawn := d', toks := t' } := by
  obtain ⟨m, ⟨o, es, ep, ho, r⟩, _⟩ := id I.loc
  obtain ⟨sl, hL⟩ := u.any ho I.free fun z => (hch _ z).2.1 rfl
  exact I.step (ch := ch) hch (fun b o hL hb hc e n => u.keep b o e n (fun z => (List.mem_cons.mp (I.stkSub b z)).elim hL hb) hc) (fun b o _ _ hc e n => u.any e n hc) (fun b o hc e n => u.free b o e n hc) (fun b o hc e => u.there b o e hc) u.tups u.frzs u.tbls (fun m' hm => by
    obtain ⟨o', es', ep', ho', r'⟩ := hm
    rw [ho] at ho'; cases ho'
    exact ⟨_, es', ep', hL, r'⟩) hok hg
/-- an untracked record of ours (an iterator) has turned -/
theorem Inv.turned {t' : Nat} {it : Addr} (I : Inv X pins σ H s) (k : ∀ b o, b ≠ it → s.heap.get? b = some o → h'.get? b = some o) (hn : H it = none) (hL : it ≠ X.env.locals)
    (h1 : it ∈ X.ex ∨ X.s₀.heap.objs.size ≤ it) (h2 : ∀ x c, X.env.cells.lookup x = some c → c ≠ it) (h3 : ∀ p ∈ X.pn ++ pins, p.1 ≠ it) : Inv X pins σ H { s with heap := h', toks := t' } := by
  have nit : ∀ b u, H b = some u → b ≠ it := fun b u e z => by rw [z, hn] at e; cases e
  refine I.step (g' := s.gens) (d' := s.drawn) (ch := [it]) (fun b hb => ?_) (fun b o _ _ hc e _ => k b o (fun z => hc (by simp [z])) e) (fun b o _ _ hc e _ => ⟨o.slots, k b o (fun z => hc (by simp [z])) e⟩) (fun _ _ _ _ n => n)
    (fun b o hc e => ⟨o, k b o (fun z => hc (by simp [z])) e⟩) (fun _ _ e => e) (fun _ _ _ e => e) (fun b ps e => ⟨#[], by rw [e]; simp⟩) (fun m hm => ?_) (fun b u e => ?_) I.bare
  · have e : b = it := by simpa using hb
    subst e
    exact ⟨h1, hL, h2, h3⟩
  · obtain ⟨o, es, ep, ho, r⟩ := hm
    exact ⟨o, es, ep, k _ o (Ne.symm hL) ho, r⟩
  · refine (I.hok b u e).stay (fun c v hc q => k c v ?_ q) (fun _ q => q) fun _ _ q => q
    rcases hc with z | z
    · rw [z]; exact nit b u e
    · exact nit c _ z
theorem Inv.tok (I : Inv X pins σ H s) (t : Nat) : Inv X pins σ H { s with toks := t } := I.un (h' := s.heap) (t' := t) Un.refl I.hok
/-- all objects kept -/
theorem Inv.kept {t' : Nat} (I : Inv X pins σ H s) (k : ∀ b u, s.heap.get? b = some u → h'.get? b = some u) : Inv X pins σ H { s with heap := h', toks := t' } := I.un (Un.kept k) (I.hok.kept k)
/-- a new object laid and tracked -/
theorem Inv.laid {a : Addr} {o : HO} {t' : Nat} (I : Inv X pins σ H s) (k : ∀ b u, s.heap.get? b = some u → h'.get? b = some u) (hp : s.heap.objs.size ≤ a) (new : ObjOk X.prog X.w (upd H a o) h' a o) :
    Inv X pins σ (upd H a o) { s with heap := h', toks := t' } := I.un (Un.laid k hp (I.hok.fresh hp)) (I.hok.laid k hp new)
/-- an object written -/
theorem Inv.write {x e : Addr} {o : HO} {t' : Nat} (I : Inv X pins σ H s) (mu : Mut (H x)) (he : e = x ∨ H e = some (.own x)) (k : ∀ b u, b ≠ e → s.heap.get? b = some u → h'.get? b = some u) (heo : ∃ u, h'.get? e = some u)
    (new : ObjOk X.prog X.w (upd H x o) h' x o) : Inv X pins σ (upd H x o) { s with heap := h', toks := t' } := I.un (Un.write mu he k heo) (I.hok.write mu he k heo new)
/-- forgetting slots, pins -/
theorem Inv.weak {σ' : List (Option V)} (I : Inv X pins σ H s) (hl : σ'.length = σ.length) (w : ∀ (i : Nat) v, σ'[i]? = some (some v) → σ[i]? = some (some v)) : Inv X pins σ' H s :=
  ⟨I.ok, I.os, I.bare, I.base, let ⟨m, hn, hl'⟩ := I.loc; ⟨m, hn, fun i x v e1 e2 e3 => hl' i x v e1 (w i v e2) e3⟩, I.cell, I.free, I.freeC, I.pin, I.hok, hl.trans I.len⟩
theorem Inv.pins_of {pins' : List (Addr × Obj)} (I : Inv X pins σ H s) (h : ∀ p ∈ pins', s.heap.get? p.1 = some p.2 ∧ H p.1 = none ∧ p.1 ≠ X.env.locals ∧ p.1 ∉ X.fs ∧ ∀ v, p.2.data ≠ .cell v) : Inv X pins' σ H s :=
  ⟨I.ok, I.os, I.bare, I.base, I.loc, I.cell, I.free, I.freeC, fun p hp => (List.mem_append.mp hp).elim (fun z => I.pin p (List.mem_append_left _ z)) (h p), I.hok, I.len⟩

theorem nodup_ix {N : List Str} (hN : N.Nodup) {i j : Nat} {x : Str} (a : N[i]? = some x) (b : N[j]? = some x) : i = j := by
  obtain ⟨h1, e1⟩ := List.getElem?_eq_some_iff.mp a
  obtain ⟨h2, e2⟩ := List.getElem?_eq_some_iff.mp b
  exact (List.getElem_inj hN).mp (e1.trans e2.symm)

/-- a name is stored; what changed -/
theorem store_ok2 {M : Model} {A : Around} {E : Value → Shared → Prop} {i : Nat} {x : Str} {v : V} {u : Value} {Q : Unit → Shared → Prop} (I : Inv X pins σ H s) (hN : X.N.Nodup) (hi : X.N[i]? = some x) (hx : Loc X.env.scope x) (r : RelV v u)
    (h : ∀ s', Inv X pins (σ.set i (some v)) H s' → (∃ a, Heap.SameBut a s.heap s'.heap ∧ (a = X.env.locals ∨ X.env.cells.lookup x = some a)) → Q () s') (hf : X.fn x = true ∨ X.env.scope.names.lookup x = some .local := by first | exact .inl rfl | exact .inr rfl | assumption) : wpAny M A (storeName X.env x u) Q E s := by
  obtain ⟨m, hn, hl⟩ := id I.loc
  have hcls : (X.env.scope.kind == .class || (X.env.scope.kind == .module && X.env.locals != X.env.globals)) = false := by rw [I.ok.kind]; rfl
  have hiσ : i < σ.length := by rw [I.len]; exact (List.getElem?_eq_some_iff.mp hi).1
  have cne := I.cne
  have tracked : ∀ {a : Addr} {h' : Heap}, (∃ o, s.heap.get? a = some o ∧ H a = none) → Heap.SameBut a s.heap h' → HOk X.prog X.w H h' := fun {a h'} ha hs b ob e => by
    obtain ⟨_, _, hfree⟩ := ha
    refine (I.hok b ob e).stay (fun c w' hc q => (hs.2 c ?_).trans q) (fun _ q => q) fun _ _ q => q
    rintro rfl
    rcases hc with rfl | hc
    · rw [hfree] at e; cases e
    · rw [hfree] at hc; cases hc
  rcases hx with hk | hk
  · refine wpAny_storeName_local hk hn (fun h' hn' hs => ?_) hcls
    obtain ⟨oL, _, _, hoL, _⟩ := id hn
    refine h _ ⟨I.ok, I.os, I.bare, ⟨fun b o e n hb hx => ?_, fun b o e n hb hx => ?_, I.base.free, fun b o e hx => ?_, I.base.tups, I.base.frzs, I.base.tbls⟩, ⟨_, hn', fun j y v' e1 e2 e3 => ?_⟩, fun y c e => ?_, I.free, I.freeC, fun p hp => ?_, tracked ⟨oL, hoL, I.free⟩ hs, by simpa using I.len⟩ ⟨_, hs, .inl rfl⟩
    · exact (hs.2 b (Nat.ne_of_lt (Nat.lt_of_lt_of_le (Heap.lt_size e) I.ok.above))).trans (I.base.keep b o e n hb hx)
    · obtain ⟨sl, e1⟩ := I.base.slot b o e n hb hx
      exact ⟨sl, (hs.2 b (Nat.ne_of_lt (Nat.lt_of_lt_of_le (Heap.lt_size e) I.ok.above))).trans e1⟩
    · obtain ⟨o', e1⟩ := I.base.there b o e hx
      exact ⟨o', (hs.2 b (Nat.ne_of_lt (Nat.lt_of_lt_of_le (Heap.lt_size e) I.ok.above))).trans e1⟩
    · by_cases hj : j = i
      · subst hj
        rw [hi] at e1; cases e1
        rw [List.getElem?_set_self hiσ] at e2
        cases e2
        exact ⟨u, r, .inl ⟨hk, by simp⟩⟩
      · rw [List.getElem?_set_ne (Ne.symm hj)] at e2
        obtain ⟨u', r', q⟩ := hl j y v' e1 e2 e3
        refine ⟨u', r', ?_⟩
        rcases q with ⟨k, e⟩ | ⟨k, c, e, z⟩
        · refine .inl ⟨k, ?_⟩
          have : y ≠ x := fun e => hj (nodup_ix hN e1 (e ▸ hi))
          simp [this, e]
        · exact .inr ⟨k, c, e, z.sameBut hs (cne y c e)⟩
    · obtain ⟨w', z⟩ := I.cell y c e
      exact ⟨w', z.sameBut hs (cne y c e)⟩
    · obtain ⟨e, n, ne, nf, d⟩ := I.pin p hp
      exact ⟨(hs.2 p.1 ne).trans e, n, ne, nf, d⟩
  · have hfn : X.fn x = true := by
      rcases hf with z | z
      · exact z
      · rw [z] at hk; cases hk
    obtain ⟨c, hc⟩ := I.ok.has x (.inl hk)
    obtain ⟨w', z⟩ := I.cell x c hc
    refine wpAny_storeName_cell I.ok.kind hk hc z (fun h' hc' hs => ?_)
    obtain ⟨oc, hoc, hocd⟩ := id z
    refine h { s with heap := h' } ⟨I.ok, I.os, I.bare, ⟨fun b o e n hb hx => ?_, fun b o e n hb hx => ?_, I.base.free, fun b o e hx => ?_, I.base.tups, I.base.frzs, I.base.tbls⟩, ⟨m, hn.sameBut hs (Ne.symm (cne x c hc)), fun j y v' e1 e2 e3 => ?_⟩, fun y c' e => ?_, I.free, I.freeC, fun p hp => ?_, tracked ⟨oc, hoc, I.freeC x c hc⟩ hs, by simpa using I.len⟩ ⟨c, hs, .inr hc⟩
    · exact (hs.2 b (Nat.ne_of_lt (Nat.lt_of_lt_of_le (Heap.lt_size e) (I.ok.cab x c hfn hc)))).trans (I.base.keep b o e n hb hx)
    · obtain ⟨sl, e1⟩ := I.base.slot b o e n hb hx
      exact ⟨sl, (hs.2 b (Nat.ne_of_lt (Nat.lt_of_lt_of_le (Heap.lt_size e) (I.ok.cab x c hfn hc)))).trans e1⟩
    · obtain ⟨o', e1⟩ := I.base.there b o e hx
      exact ⟨o', (hs.2 b (Nat.ne_of_lt (Nat.lt_of_lt_of_le (Heap.lt_size e) (I.ok.cab x c hfn hc)))).trans e1⟩
    · by_cases hj : j = i
      · subst hj
        rw [hi] at e1; cases e1
        rw [List.getElem?_set_self hiσ] at e2
        cases e2
        exact ⟨u, r, .inr ⟨.inl hk, c, hc, hc'⟩⟩
      · rw [List.getElem?_set_ne (Ne.symm hj)] at e2
        obtain ⟨u', r', q⟩ := hl j y v' e1 e2 e3
        refine ⟨u', r', ?_⟩
        rcases q with q | ⟨k, c', e, z'⟩
        · exact .inl q
        · refine .inr ⟨k, c', e, z'.sameBut hs ?_⟩
          rintro rfl
          exact hj (nodup_ix hN e1 (I.ok.inj _ _ _ e hc ▸ hi))
    · by_cases hcc : c' = c
      · subst hcc; exact ⟨_, hc'⟩
      · obtain ⟨w2, z2⟩ := I.cell y c' e
        exact ⟨w2, z2.sameBut hs hcc⟩
    · obtain ⟨e, n, ne, nf, d⟩ := I.pin p hp
      refine ⟨(hs.2 p.1 ?_).trans e, n, ne, nf, d⟩
      intro q
      rw [q, hoc] at e
      have q' : oc = p.2 := Option.some.inj e
      exact d w' (by rw [← q']; exact hocd)
theorem store_ok {M : Model} {A : Around} {E : Value → Shared → Prop} {i : Nat} {x : Str} {v : V} {u : Value} {Q : Unit → Shared → Prop} (I : Inv X pins σ H s) (hN : X.N.Nodup) (hi : X.N[i]? = some x) (hx : Loc X.env.scope x) (r : RelV v u)
    (h : ∀ s', Inv X pins (σ.set i (some v)) H s' → Q () s') (hf : X.fn x = true ∨ X.env.scope.names.lookup x = some .local := by first | exact .inl rfl | exact .inr rfl | assumption) : wpAny M A (storeName X.env x u) Q E s :=
  store_ok2 I hN hi hx r (fun s' I' _ => h s' I') hf
/-- behind a call or a block, the state as it is -/
theorem Inv.call' {s' : Shared} {ch : List Addr} (I : Inv X pins σ H s) (ho : s'.os = s.os) (u : Un (frs X.stack) ch H H' s.heap s'.heap) (hok : HOk X.prog X.w H' s'.heap) (hg : AllBare s'.gens)
    (hch : ∀ b ∈ ch, (b ∈ X.ex ∨ X.s₀.heap.objs.size ≤ b) ∧ b ≠ X.env.locals ∧ (∀ x c, X.env.cells.lookup x = some c → c ≠ b) ∧ ∀ p ∈ X.pn ++ pins, p.1 ≠ b) : Inv X pins σ H' s' := by
  obtain ⟨h', g', d', t', o'⟩ := s'
  have e : o' = s.os := ho
  subst e
  exact I.call (g' := g') (t' := t') (d' := d') u hok hg hch
end

/-! ### the judgements -/
/-- an exception: its class, its own dict's address (where it has one), the abstract heap behind it -/
abbrev XK := Value → Option Addr → Hp → Prop
abbrev St := List (Option V)
abbrev VK := V → Hp → Prop
/-- an expression's reading; a test's; an argument list's -/
abbrev TE := St → Hp → VK → Prop
abbrev TT := St → Hp → (Bool → Hp → Prop) → Prop
abbrev TA := St → Hp → (List V → Hp → Prop) → Prop
/-- what is wanted behind a statement -/
structure Ends where
  nx : St → Hp → Prop
  rt : VK
  bk : St → Hp → Prop := fun _ _ => False
  ct : St → Hp → Prop := fun _ _ => False
abbrev TS := Ends → St → Hp → Prop

def EP (X : Cx) (pins : List (Addr × Obj)) (σ : St) (Q : VK) (u : Value) (s' : Shared) : Prop := ∃ v H', Inv X pins σ H' s' ∧ RelV v u ∧ Q v H'
def TP (X : Cx) (pins : List (Addr × Obj)) (σ : St) (Q : Bool → Hp → Prop) (b : Bool) (s' : Shared) : Prop := ∃ H', Inv X pins σ H' s' ∧ Q b H'
def AP (X : Cx) (pins : List (Addr × Obj)) (σ : St) (Q : List V → Hp → Prop) (us : List Value) (s' : Shared) : Prop := ∃ vs H', Inv X pins σ H' s' ∧ Vals vs us ∧ Q vs H'
def SP (X : Cx) (pins : List (Addr × Obj)) (D : Ends) (f : Flow) (s' : Shared) : Prop :=
  match f with
  | .next => ∃ σ' H', Inv X pins σ' H' s' ∧ D.nx σ' H'
  | .brk => ∃ σ' H', Inv X pins σ' H' s' ∧ D.bk σ' H'
  | .cont => ∃ σ' H', Inv X pins σ' H' s' ∧ D.ct σ' H'
  | .ret u => ∃ v σ' H', Inv X pins σ' H' s' ∧ RelV v u ∧ D.rt v H'

def PE (X : Cx) (e : Expr) (t : TE) : Prop :=
  ∀ (pins : List (Addr × Obj)) (s : Shared) (σ : St) (H : Hp) (Q : VK), Inv X pins σ H s → t σ H Q → wpAny (model X.prog X.w) X.A (eval e X.env) (EP X pins σ Q) X.xe s
def PT (X : Cx) (e : Expr) (t : TT) : Prop :=
  ∀ (pins : List (Addr × Obj)) (s : Shared) (σ : St) (H : Hp) (Q : Bool → Hp → Prop), Inv X pins σ H s → t σ H Q → wpAny (model X.prog X.w) X.A (isTrue e X.env (eval e X.env)) (TP X pins σ Q) X.xe s
/-- a test whatever its 'whole' is (and, or) -/
def PW (X : Cx) (e : Expr) (t : TT) : Prop :=
  ∀ (whole : Sem Value) (pins : List (Addr × Obj)) (s : Shared) (σ : St) (H : Hp) (Q : Bool → Hp → Prop), Inv X pins σ H s → t σ H Q → wpAny (model X.prog X.w) X.A (isTrue e X.env whole) (TP X pins σ Q) X.xe s
theorem PW.pt {X : Cx} {e : Expr} {t : TT} (h : PW X e t) : PT X e t := h _
/-- an argument list (no star), from the left -/
def PA (X : Cx) (es : List Expr) (t : TA) : Prop :=
  ∀ (pos : Pos) (pins : List (Addr × Obj)) (s : Shared) (σ : St) (H : Hp) (Q : List V → Hp → Prop), Inv X pins σ H s → t σ H Q → wpAny (model X.prog X.w) X.A (spliced (backTo pos (starEach es X.env))) (AP X pins σ Q) X.xe s
def PS (X : Cx) (st : Stmt) (t : TS) : Prop :=
  ∀ (pins : List (Addr × Obj)) (s : Shared) (σ : St) (H : Hp) (D : Ends), Inv X pins σ H s → t D σ H → wpAny (model X.prog X.w) X.A (exec st X.env) (SP X pins D) X.xe s
def PSs (X : Cx) (st : List Stmt) (t : TS) : Prop :=
  ∀ (pins : List (Addr × Obj)) (s : Shared) (σ : St) (H : Hp) (D : Ends), Inv X pins σ H s → t D σ H → wpAny (model X.prog X.w) X.A (execs st X.env) (SP X pins D) X.xe s
/-- weaken the end -/
theorem thn {α : Type} {t : Sem α} {Q Q' : α → Shared → Prop} {M : Model} {A : Around} {E : Value → Shared → Prop} {s : Shared} (h : wpAny M A t Q E s) (hQ : ∀ a s, Q a s → Q' a s) : wpAny M A t Q' E s := wpAny_mono h hQ fun _ _ x => x
end L2

namespace L2
open PySem PySem.Spec PyProof.Rows
section
variable {X : Cx}

/-- two expressions in a row -/
theorem bin {a b : Expr} {ta tb : TE} (ha : PE X a ta) (hb : PE X b tb) {pins : List (Addr × Obj)} {s : Shared} {σ : St} {H : Hp} {R : V → V → Hp → Prop} (I : Inv X pins σ H s) (h : ta σ H fun x H1 => tb σ H1 fun y H2 => R x y H2)
    {α : Type} {Q : α → Shared → Prop} {f : Value → Value → Sem α}
    (hf : ∀ v u s2 x y H2, Inv X pins σ H2 s2 → RelV x v → RelV y u → R x y H2 → wpAny (model X.prog X.w) X.A (f v u) Q X.xe s2) :
    wpAny (model X.prog X.w) X.A (eval a X.env) (fun v s₁ => wpAny (model X.prog X.w) X.A (eval b X.env) (fun u s₂ => wpAny (model X.prog X.w) X.A (f v u) Q X.xe s₂) X.xe s₁) X.xe s := by
  refine thn (ha pins s σ H _ I h) fun v s1 ⟨x, H1, I1, r1, q1⟩ => ?_
  refine thn (hb pins s1 σ H1 _ I1 q1) fun u s2 ⟨y, H2, I2, r2, q2⟩ => ?_
  exact hf v u s2 x y H2 I2 r1 r2 q2

/-! ### names and constants -/
def tVar (i : Nat) : TE := fun σ H Q => ∃ v, σ[i]? = some (some v) ∧ Q v H
def tC (v : V) : TE := fun _ H Q => Q v H
theorem pe_var {i : Nat} {x : Str} {pos : Pos} (hN : X.N[i]? = some x) (hv : Vis X.env.scope x) (hd : (x == ("__debug__" : Str)) = false := by decide) (hcd : (x == ("__classdict__" : Str)) = false := by decide) : PE X (.Name x pos) (tVar i) := by
  intro pins s σ H Q I h
  obtain ⟨v, e, h⟩ := h
  obtain ⟨m, hn, hl⟩ := I.loc
  obtain ⟨u, r, l⟩ := hl i x v hN e hv
  have fin : EP X pins σ Q u s := ⟨v, H, I, r, h⟩
  rcases l with ⟨hk, hm⟩ | ⟨hk, c, hc, hcell⟩
  · exact wpAny_Name (wpAny_loadName_local I.ok.kind hk hn hm fin) hd
  · rcases hk with hk | hk
    · exact wpAny_Name (wpAny_loadName_cell I.ok.kind hk hc hcell fin) hd
    · exact wpAny_Name (wpAny_loadName_free I.ok.kind hk hc hcell fin hcd) hd
theorem pe_int {i j pos} : PE X (.Constant (.int i) j pos) (tC (.int i)) := fun _ _ _ H _ I h => wpAny_Constant_int ⟨.int i, H, I.tok _, ⟨_, rfl⟩, h⟩
theorem pe_bl {b j pos} : PE X (.Constant (.bool b) j pos) (tC (.bl b)) := fun _ _ _ H _ I h => Constant_bool ⟨.bl b, H, I, rfl, h⟩
theorem pe_non {j pos} : PE X (.Constant .none j pos) (tC .non) := fun _ _ _ H _ I h => Constant_none ⟨.non, H, I, rfl, h⟩
theorem pe_str {x j pos} : PE X (.Constant (.str x) j pos) (tC (.str x)) := fun _ _ _ H _ I h => Calls.Constant_str ⟨.str x, H, I.tok _, ⟨_, rfl⟩, h⟩

/-- a global name of the def -/
def Gl (X : Cx) (x : Str) : Prop := X.env.kindOf x = some .globalImplicit
theorem ld_glob {E : Value → Shared → Prop} {pins : List (Addr × Obj)} {s : Shared} {σ : St} {H : Hp} {x : Str} {u : Value} {pos : Pos} {Q : Value → Shared → Prop} (I : Inv X pins σ H s) (hg : Gl X x) (hm : X.mg x = some u) (h : Q u s)
    (hd : (x == ("__debug__" : Str)) = false := by decide) : wpAny (model X.prog X.w) X.A (eval (.Name x pos) X.env) Q E s :=
  Calls.Name_function_global I.ok.kind hg (Calls.loadGlobal_global (by rw [I.ok.glob]; exact I.mod.glob.keeps I.bk) hm h) hd
theorem ld_blt {E : Value → Shared → Prop} {pins : List (Addr × Obj)} {s : Shared} {σ : St} {H : Hp} {x : Str} {u : Value} {pos : Pos} {Q : Value → Shared → Prop} (I : Inv X pins σ H s) (hg : Gl X x) (hm : X.mg x = none) (hv : bootBuiltins x = some u) (h : Q u s)
    (hn : x ≠ "__name__" := by decide) (hd : (x == ("__debug__" : Str)) = false := by decide) : wpAny (model X.prog X.w) X.A (eval (.Name x pos) X.env) Q E s := by
  obtain ⟨mb, h1, h2⟩ := I.mod.blt
  exact Calls.Name_function_global I.ok.kind hg (Calls.loadGlobal_builtin (by rw [I.ok.glob]; exact I.mod.glob.keeps I.bk) hm (by rw [I.ok.blt]; exact h1.keeps I.bk) ((h2 x hn).trans hv) h) hd
/-- a module's constant, a class, a function, as a value -/
theorem pe_glob {x : Str} {v : V} {u : Value} {pos : Pos} (hg : Gl X x) (hm : X.mg x = some u) (r : RelV v u) (hd : (x == ("__debug__" : Str)) = false := by decide) : PE X (.Name x pos) (tC v) :=
  fun _ _ _ H _ I h => ld_glob I hg hm ⟨v, H, I, r, h⟩ hd
theorem pe_bltn {x : Str} {v : V} {u : Value} {pos : Pos} (hg : Gl X x) (hm : X.mg x = none) (hv : bootBuiltins x = some u) (r : RelV v u) (hn : x ≠ "__name__" := by decide) (hd : (x == ("__debug__" : Str)) = false := by decide) : PE X (.Name x pos) (tC v) :=
  fun _ _ _ H _ I h => ld_blt I hg hm hv ⟨v, H, I, r, h⟩ hn hd

/-! ### arithmetic -/
/-- two ints -/
def t2I (ta tb : TE) (k : Int → Int → Hp → Prop) : St → Hp → Prop := fun σ H => ta σ H fun x H1 => tb σ H1 fun y H2 => ∃ i j, x = .int i ∧ y = .int j ∧ k i j H2
def tAdd (ta tb : TE) : TE := fun σ H Q => t2I ta tb (fun i j H2 => Q (.int (i + j)) H2) σ H
def tSub (ta tb : TE) : TE := fun σ H Q => t2I ta tb (fun i j H2 => Q (.int (i - j)) H2) σ H
/-- the left factor below 2^64 -/
def tMul (ta tb : TE) : TE := fun σ H Q => t2I ta tb (fun i j H2 => (-(2 ^ 64) < i ∧ i < 2 ^ 64) ∧ Q (.int (i * j)) H2) σ H
variable {a b : Expr} {ta tb : TE} {pos : Pos}
theorem pe_add (ha : PE X a ta) (hb : PE X b tb) : PE X (.BinOp a .Add b pos) (tAdd ta tb) := by
  intro pins s σ H Q I h
  refine wpAny_BinOp (bin ha hb I h fun v u s2 x y H2 I2 rx ry q => ?_)
  obtain ⟨i, j, rfl, rfl, q⟩ := q
  obtain ⟨t, rfl⟩ := rx
  obtain ⟨t', rfl⟩ := ry
  exact add_int ⟨.int _, H2, I2.tok _, ⟨_, rfl⟩, q⟩
theorem pe_sub (ha : PE X a ta) (hb : PE X b tb) : PE X (.BinOp a .Sub b pos) (tSub ta tb) := by
  intro pins s σ H Q I h
  refine wpAny_BinOp (bin ha hb I h fun v u s2 x y H2 I2 rx ry q => ?_)
  obtain ⟨i, j, rfl, rfl, q⟩ := q
  obtain ⟨t, rfl⟩ := rx
  obtain ⟨t', rfl⟩ := ry
  exact sub_int ⟨.int _, H2, I2.tok _, ⟨_, rfl⟩, q⟩
theorem pe_mul (ha : PE X a ta) (hb : PE X b tb) : PE X (.BinOp a .Mult b pos) (tMul ta tb) := by
  intro pins s σ H Q I h
  refine wpAny_BinOp (bin ha hb I h fun v u s2 x y H2 I2 rx ry q => ?_)
  obtain ⟨i, j, rfl, rfl, ⟨q1, q2⟩, q⟩ := q
  obtain ⟨t, rfl⟩ := rx
  obtain ⟨t', rfl⟩ := ry
  exact mul_int ⟨.int _, H2, I2.tok _, ⟨_, rfl⟩, q⟩ (.of_left (intBits_le_64 q1 q2))

/-! ### comparisons -/
def PC (X : Cx) (op : CmpOp) (a b : Expr) (t : TE) : Prop :=
  ∀ (pins : List (Addr × Obj)) (s : Shared) (σ : St) (H : Hp) (Q : VK), Inv X pins σ H s → t σ H Q →
    wpAny (model X.prog X.w) X.A (eval a X.env) (fun v s₁ => wpAny (model X.prog X.w) X.A (eval b X.env) (fun u s₂ => wpAny (model X.prog X.w) X.A (compareOp op v u) (EP X pins σ Q) X.xe s₂) X.xe s₁) X.xe s
theorem nobehind (b : Expr) {op : CmpOp} (h : op ≠ .In) (h2 : op ≠ .NotIn) : behindInMarks op b = false := by
  have e1 : (op == CmpOp.In) = false := by cases op <;> first | rfl | exact absurd rfl h
  have e2 : (op == CmpOp.NotIn) = false := by cases op <;> first | rfl | exact absurd rfl h2
  cases b <;> simp [behindInMarks, e1, e2]
def tCmp (p : Int → Int → Bool) (ta tb : TE) : TE := fun σ H Q => t2I ta tb (fun i j H2 => Q (.bl (p i j)) H2) σ H
abbrev tLt : TE → TE → TE := tCmp fun i j => decide (i < j)
abbrev tLe : TE → TE → TE := tCmp fun i j => decide (i ≤ j)
abbrev tGt : TE → TE → TE := tCmp fun i j => decide (j < i)
abbrev tGe : TE → TE → TE := tCmp fun i j => decide (j ≤ i)
abbrev tEqI : TE → TE → TE := tCmp fun i j => decide (i = j)
abbrev tNeI : TE → TE → TE := tCmp fun i j => !decide (i = j)
/-- a comparison of two ints, by its rule -/
theorem pc_int {op : CmpOp} {p : Int → Int → Bool} (ha : PE X a ta) (hb : PE X b tb)
    (rule : ∀ (i j : Int) (t u : Tok) (Q : Value → Shared → Prop) (s : Shared), Q (.bool (p i j)) s → wpAny (model X.prog X.w) X.A (compareOp op (.int i t) (.int j u)) Q X.xe s) : PC X op a b (tCmp p ta tb) := by
  intro pins s σ H Q I h
  refine bin ha hb I h fun v u s2 x y H2 I2 rx ry q => ?_
  obtain ⟨i, j, rfl, rfl, q⟩ := q
  obtain ⟨t, rfl⟩ := rx
  obtain ⟨t', rfl⟩ := ry
  exact rule i j t t' _ s2 ⟨.bl _, H2, I2, rfl, q⟩
theorem pc_lt (ha : PE X a ta) (hb : PE X b tb) : PC X .Lt a b (tLt ta tb) := pc_int ha hb fun _ _ _ _ _ _ h => lt_int h
theorem pc_le (ha : PE X a ta) (hb : PE X b tb) : PC X .LtE a b (tLe ta tb) := pc_int ha hb fun _ _ _ _ _ _ h => le_int h
theorem pc_gt (ha : PE X a ta) (hb : PE X b tb) : PC X .Gt a b (tGt ta tb) := pc_int ha hb fun _ _ _ _ _ _ h => gt_int h
theorem pc_ge (ha : PE X a ta) (hb : PE X b tb) : PC X .GtE a b (tGe ta tb) := pc_int ha hb fun _ _ _ _ _ _ h => ge_int h
theorem pc_eqI (ha : PE X a ta) (hb : PE X b tb) : PC X .Eq a b (tEqI ta tb) := pc_int ha hb fun _ _ _ _ _ _ h => eq_int (by rw [Bool.beq_eq_decide_eq]; exact h)
theorem pc_neI (ha : PE X a ta) (hb : PE X b tb) : PC X .NotEq a b (tNeI ta tb) := pc_int ha hb fun _ _ _ _ _ _ h => ne_int (by rw [bne, Bool.beq_eq_decide_eq]; exact h)
/-- is None -/
def tIsN (ta : TE) : TE := fun σ H Q => ta σ H fun x H1 => Q (.bl (decide (x = .non))) H1
def tNotN (ta : TE) : TE := fun σ H Q => ta σ H fun x H1 => Q (.bl (!decide (x = .non))) H1
theorem RelV.none_iff {x : V} {v : Value} (r : RelV x v) : (v == Value.none) = decide (x = .non) := by
  cases x with
  | non => cases r; rfl
  | bl _ => cases r; rfl
  | int _ => obtain ⟨t, rfl⟩ := r; rfl
  | str _ => obtain ⟨t, rfl⟩ := r; rfl
  | byt _ => obtain ⟨t, rfl⟩ := r; rfl
  | flt _ => obtain ⟨t, rfl⟩ := r; rfl
  | ref _ => cases r; rfl
  | ty _ => cases r; rfl
theorem pc_isN {j pos'} (ha : PE X a ta) : PC X .Is a (.Constant .none j pos') (tIsN ta) := by
  intro pins s σ H Q I h
  refine thn (ha pins s σ H _ I h) fun v s1 ⟨x, H1, I1, r1, q1⟩ => ?_
  exact Constant_none (is_none_gen ⟨.bl _, H1, I1, by rw [r1.none_iff]; rfl, q1⟩)
theorem pc_notN {j pos'} (ha : PE X a ta) : PC X .IsNot a (.Constant .none j pos') (tNotN ta) := by
  intro pins s σ H Q I h
  refine thn (ha pins s σ H _ I h) fun v s1 ⟨x, H1, I1, r1, q1⟩ => ?_
  exact Constant_none (isnot_none_gen ⟨.bl _, H1, I1, by rw [r1.none_iff]; rfl, q1⟩)
/-- a comparison as a value, as a test -/
def tB (t : TE) : TT := fun σ H Q => t σ H fun x H1 => ∃ c, x = .bl c ∧ Q c H1
theorem pe_cmp {op : CmpOp} {t : TE} (h : PC X op a b t) (h1 : behindInMarks op b = false := by first | exact nobehind _ (by decide) (by decide) | rfl) : PE X (.Compare a [op] [b] pos) t := fun pins s σ H Q I hw => wpAny_Compare1 (h pins s σ H Q I hw) h1
theorem pt_cmp {op : CmpOp} {t : TE} (h : PC X op a b t) (h1 : behindInMarks op b = false := by first | exact nobehind _ (by decide) (by decide) | rfl) : PT X (.Compare a [op] [b] pos) (tB t) := by
  intro pins s σ H Q I hw
  refine wpAny_isTrue_Compare1 (thn (h pins s σ H _ I hw) fun v s1 h1 => thn h1 fun u s2 h2 => thn h2 fun c s3 ⟨x, H1, I1, r1, q1⟩ => ?_) h1
  obtain ⟨d, rfl, q⟩ := q1
  cases r1
  exact wpAny_truthy_bool ⟨H1, I1, q⟩
/-- an expression whose value is a bool, as a test -/
theorem pt_val {e : Expr} {t : TE} (h : PE X e t) (he : ∀ whole, isTrue e X.env whole = (do let v ← whole; standAt e.pos; holding [v] (truthy v)) := by intro _; rfl) : PT X e (tB t) := by
  intro pins s σ H Q I hw
  refine isTrue_plain (thn (h pins s σ H _ I hw) fun v s1 ⟨x, H1, I1, r1, q1⟩ => ?_) (he _)
  obtain ⟨d, rfl, q⟩ := q1
  cases r1
  exact wpAny_truthy_bool ⟨H1, I1, q⟩

/-! ### and, or, not -/
variable {tA tB' : TT} {rest : List Expr}
def tAnd (t u : TT) : TT := fun σ H Q => t σ H fun c H1 => if c = true then u σ H1 Q else Q false H1
def tOr (t u : TT) : TT := fun σ H Q => t σ H fun c H1 => if c = true then Q true H1 else u σ H1 Q
def tNot (t : TT) : TT := fun σ H Q => t σ H fun c H1 => Q (!c) H1
theorem pw_and1 (ha : PT X a tA) : PW X (.BoolOp .And [a] pos) tA := by
  intro wh pins s σ H Q I h
  refine isTrue_and (thn (ha pins s σ H Q I h) fun c s1 e => ?_)
  cases c with
  | true => exact isTrue_and_nil e
  | false => exact e
theorem pw_or1 (ha : PT X a tA) : PW X (.BoolOp .Or [a] pos) tA := by
  intro wh pins s σ H Q I h
  refine isTrue_or (thn (ha pins s σ H Q I h) fun c s1 e => ?_)
  cases c with
  | false => exact isTrue_or_nil e
  | true => exact e
theorem pw_and (ha : PT X a tA) (hb : PW X (.BoolOp .And (b :: rest) pos) tB') : PW X (.BoolOp .And (a :: b :: rest) pos) (tAnd tA tB') := by
  intro wh pins s σ H Q I h
  refine isTrue_and (thn (ha pins s σ H _ I h) fun c s1 ⟨H1, I1, q1⟩ => ?_)
  cases c with
  | true => exact hb wh pins s1 σ H1 Q I1 q1
  | false => exact ⟨H1, I1, q1⟩
theorem pw_or (ha : PT X a tA) (hb : PW X (.BoolOp .Or (b :: rest) pos) tB') : PW X (.BoolOp .Or (a :: b :: rest) pos) (tOr tA tB') := by
  intro wh pins s σ H Q I h
  refine isTrue_or (thn (ha pins s σ H _ I h) fun c s1 ⟨H1, I1, q1⟩ => ?_)
  cases c with
  | true => exact ⟨H1, I1, q1⟩
  | false => exact hb wh pins s1 σ H1 Q I1 q1
theorem pt_not (ha : PT X a tA) : PT X (.UnaryOp .Not a pos) (tNot tA) := by
  intro pins s σ H Q I h
  exact isTrue_not (ha pins s σ H (fun c H1 => Q (!c) H1) I h)
/-- .. as values (bools) -/
def tAndV (ta tb : TE) : TE := fun σ H Q => ta σ H fun x H1 => ∃ c, x = .bl c ∧ if c = true then tb σ H1 Q else Q (.bl false) H1
def tOrV (ta tb : TE) : TE := fun σ H Q => ta σ H fun x H1 => ∃ c, x = .bl c ∧ if c = true then Q (.bl true) H1 else tb σ H1 Q
def tNotV (ta : TE) : TE := fun σ H Q => ta σ H fun x H1 => ∃ c, x = .bl c ∧ Q (.bl (!c)) H1
theorem pe_one {op} {t : TE} (h : PE X a t) : PE X (.BoolOp op [a] pos) t := fun pins s σ H Q I hw => BoolOp_one (h pins s σ H Q I hw)
theorem pe_and (ha : PE X a ta) (hb : PE X (.BoolOp .And (b :: rest) pos) tb) : PE X (.BoolOp .And (a :: b :: rest) pos) (tAndV ta tb) := by
  intro pins s σ H Q I h
  refine BoolOp_and (thn (ha pins s σ H _ I h) fun v s1 ⟨x, H1, I1, r1, q1⟩ => ?_)
  obtain ⟨c, rfl, q1⟩ := q1
  cases r1
  refine wpAny_truthy_bool ?_
  cases c with
  | true => exact hb pins s1 σ H1 Q I1 q1
  | false => exact ⟨.bl false, H1, I1, rfl, q1⟩
theorem pe_or (ha : PE X a ta) (hb : PE X (.BoolOp .Or (b :: rest) pos) tb) : PE X (.BoolOp .Or (a :: b :: rest) pos) (tOrV ta tb) := by
  intro pins s σ H Q I h
  refine BoolOp_or (thn (ha pins s σ H _ I h) fun v s1 ⟨x, H1, I1, r1, q1⟩ => ?_)
  obtain ⟨c, rfl, q1⟩ := q1
  cases r1
  refine wpAny_truthy_bool ?_
  cases c with
  | false => exact hb pins s1 σ H1 Q I1 q1
  | true => exact ⟨.bl true, H1, I1, rfl, q1⟩
theorem pe_not (ha : PE X a ta) : PE X (.UnaryOp .Not a pos) (tNotV ta) := by
  intro pins s σ H Q I h
  refine UnaryOp_ (thn (ha pins s σ H _ I h) fun v s1 ⟨x, H1, I1, r1, q1⟩ => ?_)
  obtain ⟨c, rfl, q1⟩ := q1
  cases r1
  exact not_of (wpAny_truthy_bool ⟨.bl (!c), H1, I1, rfl, q1⟩)
/-- a if t else b -/
def tIf (t : TT) (ta tb : TE) : TE := fun σ H Q => t σ H fun c H1 => if c = true then ta σ H1 Q else tb σ H1 Q
theorem pe_ifExp {c : Expr} (hc : PT X c tA) (ha : PE X a ta) (hb : PE X b tb) : PE X (.IfExp c a b pos) (tIf tA ta tb) := by
  intro pins s σ H Q I h
  refine wpAny_IfExp (thn (hc pins s σ H _ I h) fun d s1 ⟨H1, I1, q1⟩ => ?_)
  cases d with
  | true => exact ha pins s1 σ H1 Q I1 q1
  | false => exact hb pins s1 σ H1 Q I1 q1
end
end L2

namespace L2
open PySem PySem.Spec PyProof.Rows

/-! ### a list, a tuple that is read: tracked, frozen, or an object of the module -/
def SqL (K : PySem.W.Frag) (H : Hp) (a : Addr) (xs : List V) : Prop :=
  Rd H a (.lst xs) ∨
    ∃ (o : Obj) (its : Array Value) (n : Nat), K.lookup a = some o ∧ o.cls = .type "list" ∧ o.dict = none ∧ o.data = .seq its n ∧ its.size ≤ sizeLine ∧ Vals xs its.toList
def SqT (K : PySem.W.Frag) (H : Hp) (a : Addr) (xs : List V) : Prop :=
  Rd H a (.tup xs) ∨
    ∃ (o : Obj) (its : Array Value) (n : Nat), K.lookup a = some o ∧ o.cls = .type "tuple" ∧ o.data = .seq its n ∧ its.size ≤ sizeLine ∧ Vals xs its.toList
def absV : Value → Option V
  | .none => some .non
  | .bool b => some (.bl b)
  | .int i _ => some (.int i)
  | .str x _ => some (.str x)
  | .bytes b _ => some (.byt b)
  | .float b _ => some (.flt b)
  | .ref a => some (.ref a)
  | .type n => some (.ty n)
  | _ => none
theorem RelV.abs {x : V} {u : Value} (r : RelV x u) : absV u = some x := by
  cases x with
  | non => cases r; rfl
  | bl _ => cases r; rfl
  | int _ => obtain ⟨t, rfl⟩ := r; rfl
  | str _ => obtain ⟨t, rfl⟩ := r; rfl
  | byt _ => obtain ⟨t, rfl⟩ := r; rfl
  | flt _ => obtain ⟨t, rfl⟩ := r; rfl
  | ref _ => cases r; rfl
  | ty _ => cases r; rfl
theorem RelV.inj {x y : V} {u : Value} (r : RelV x u) (q : RelV y u) : x = y := Option.some.inj (r.abs.symm.trans q.abs)
theorem Vals.inj : ∀ {xs ys : List V} {us : List Value}, Vals xs us → Vals ys us → xs = ys
  | _, _, _, .nil, .nil => rfl
  | _, _, _, .cons r t, .cons r' t' => by rw [r.inj r', Vals.inj t t']
section
variable {X : Cx} {pins : List (Addr × Obj)} {σ : St} {H : Hp} {s : Shared} {a : Addr} {xs ys : List V}
theorem SqL.of {K : PySem.W.Frag} (h : H a = some (.lst xs)) : SqL K H a xs := .inl (.inl h)
theorem SqT.of {K : PySem.W.Frag} (h : H a = some (.tup xs)) : SqT K H a xs := .inl (.inl h)
theorem Inv.list (I : Inv X pins σ H s) (h : SqL X.K H a xs) : ∃ its : List Value, Vals xs its ∧ PlainL s.heap a its.toArray ∧ xs.length ≤ sizeLine := by
  rcases h with h | ⟨o, its, n, hk, hc, hd, hs, hz, r⟩
  · obtain ⟨z, its, n, r, e⟩ := h.ok I.hok
    exact ⟨its, r, ⟨_, n, e, rfl, rfl, rfl⟩, z⟩
  · refine ⟨its.toList, r, ⟨o, n, I.kIn a o hk, hc, hd, by simpa using hs⟩, ?_⟩
    have e := r.length
    simp only [Array.length_toList] at e
    omega
theorem Inv.tuple (I : Inv X pins σ H s) (h : SqT X.K H a xs) : ∃ its : List Value, Vals xs its ∧ IsTup s.heap a its.toArray ∧ xs.length ≤ sizeLine := by
  rcases h with h | ⟨o, its, n, hk, hc, hs, hz, r⟩
  · obtain ⟨z, its, r, p⟩ := h.ok I.hok
    exact ⟨its, r, p, z⟩
  · refine ⟨its.toList, r, ⟨o, I.kIn a o hk, hc, n, by simpa using hs⟩, ?_⟩
    have e := r.length
    simp only [Array.length_toList] at e
    omega
theorem Inv.list_inj (I : Inv X pins σ H s) (h : SqL X.K H a xs) (h' : SqL X.K H a ys) : xs = ys := by
  obtain ⟨its, r, ⟨o, n, e, _, _, d⟩, _⟩ := I.list h
  obtain ⟨its', r', ⟨o', n', e', _, _, d'⟩, _⟩ := I.list h'
  rw [e] at e'; cases e'
  rw [d] at d'
  injection d' with d1 _
  have : its = its' := by simpa using congrArg Array.toList d1
  subst this
  exact r.inj r'
theorem Inv.tuple_inj (I : Inv X pins σ H s) (h : SqT X.K H a xs) (h' : SqT X.K H a ys) : xs = ys := by
  obtain ⟨its, r, ⟨o, e, _, n, d⟩, _⟩ := I.tuple h
  obtain ⟨its', r', ⟨o', e', _, n', d'⟩, _⟩ := I.tuple h'
  rw [e] at e'; cases e'
  rw [d] at d'
  injection d' with d1 _
  have : its = its' := by simpa using congrArg Array.toList d1
  subst this
  exact r.inj r'
end

/-! ### another wish about exceptions -/
abbrev Cx.wish (X : Cx) (E : Value → Shared → Prop) : Cx := { X with xe := E }
/-- no exception leaves -/
abbrev Cx.nox (X : Cx) : Cx := X.wish fun _ _ => False
theorem Cx.Ok.wish {X : Cx} (ok : X.Ok) (E : Value → Shared → Prop) : (X.wish E).Ok :=
  ⟨ok.mod, ok.kind, ok.glob, ok.blt, ok.above, ok.inj, ok.has, ok.cab, ok.hd, ok.frames, ok.stk, ok.exf, ok.bs, ok.bsz, ok.noex, ok.exfs, ok.funs, ok.frf⟩
theorem Cx.Ok.unwish {X : Cx} {E : Value → Shared → Prop} (ok : (X.wish E).Ok) : X.Ok :=
  ⟨ok.mod, ok.kind, ok.glob, ok.blt, ok.above, ok.inj, ok.has, ok.cab, ok.hd, ok.frames, ok.stk, ok.exf, ok.bs, ok.bsz, ok.noex, ok.exfs, ok.funs, ok.frf⟩
section
variable {X : Cx} {pins : List (Addr × Obj)} {σ : St} {H : Hp} {s : Shared} {E : Value → Shared → Prop}
theorem Inv.wish (I : Inv X pins σ H s) (E : Value → Shared → Prop) : Inv (X.wish E) pins σ H s := ⟨I.ok.wish E, I.os, I.bare, I.base, I.loc, I.cell, I.free, I.freeC, I.pin, I.hok, I.len⟩
theorem Inv.unwish (I : Inv (X.wish E) pins σ H s) : Inv X pins σ H s := ⟨I.ok.unwish, I.os, I.bare, I.base, I.loc, I.cell, I.free, I.freeC, I.pin, I.hok, I.len⟩
theorem SP.unwish {D : Ends} {f : Flow} {s' : Shared} (h : SP (X.wish E) pins D f s') : SP X pins D f s' := by
  cases f with
  | next => obtain ⟨σ', H', I, q⟩ := h; exact ⟨σ', H', I.unwish, q⟩
  | brk => obtain ⟨σ', H', I, q⟩ := h; exact ⟨σ', H', I.unwish, q⟩
  | cont => obtain ⟨σ', H', I, q⟩ := h; exact ⟨σ', H', I.unwish, q⟩
  | ret u => obtain ⟨v, σ', H', I, r, q⟩ := h; exact ⟨v, σ', H', I.unwish, r, q⟩
theorem PE.nox {e : Expr} {t : TE} (h : PE X.nox e t) : PE X e t := fun pins s σ H Q I hw =>
  wpAny_mono (h pins s σ H Q (I.wish _) hw) (fun _ _ ⟨v, H', I', r, q⟩ => ⟨v, H', I'.unwish, r, q⟩) fun _ _ z => False.elim z
theorem PT.nox {e : Expr} {t : TT} (h : PT X.nox e t) : PT X e t := fun pins s σ H Q I hw =>
  wpAny_mono (h pins s σ H Q (I.wish _) hw) (fun _ _ ⟨H', I', q⟩ => ⟨H', I'.unwish, q⟩) fun _ _ z => False.elim z
theorem PSs.nox {st : List Stmt} {t : TS} (h : PSs X.nox st t) : PSs X st t := fun pins s σ H D I hw =>
  wpAny_mono (h pins s σ H D (I.wish _) hw) (fun _ _ q => q.unwish) fun _ _ z => False.elim z
end

/-! ### blocks and small statements -/
section
variable {X : Cx} {st : Stmt} {rest : List Stmt} {t u : TS} {e : Expr} {te : TE} {pos : Pos}
def tNext : TS := fun D σ H => D.nx σ H
def tSeq (t u : TS) : TS := fun D σ H => t { D with nx := u D } σ H
theorem pss_nil : PSs X [] tNext := fun _ _ σ H _ I h => wpAny_execs_nil ⟨σ, H, I, h⟩
theorem pss_cons (h1 : PS X st t) (h2 : PSs X rest u) : PSs X (st :: rest) (tSeq t u) := by
  intro pins s σ H D I h
  refine wpAny_execs_cons (thn (h1 pins s σ H { D with nx := u D } I h) fun f s1 q => ?_)
  cases f with
  | next =>
    obtain ⟨σ', H', I', q⟩ := q
    exact h2 pins s1 σ' H' D I' q
  | ret v => exact q
  | brk => exact q
  | cont => exact q
theorem pss_one (h1 : PS X st t) : PSs X [st] t := by
  intro pins s σ H D I h
  refine wpAny_execs_cons (thn (h1 pins s σ H D I h) fun f s1 q => ?_)
  cases f with
  | next => exact wpAny_execs_nil q
  | ret v => exact q
  | brk => exact q
  | cont => exact q
def tBreak : TS := fun D σ H => D.bk σ H
def tCont : TS := fun D σ H => D.ct σ H
theorem ps_pass : PS X (.Pass pos) tNext := fun _ _ σ H _ I h => wpAny_Pass ⟨σ, H, I, h⟩
theorem ps_break : PS X (.Break pos) tBreak := fun _ _ σ H _ I h => wpAny_Break ⟨σ, H, I, h⟩
theorem ps_continue : PS X (.Continue pos) tCont := fun _ _ σ H _ I h => wpAny_Continue ⟨σ, H, I, h⟩
/-- in a def's body nothing is shown -/
theorem Inv.quiet {pins : List (Addr × Obj)} {σ : St} {H : Hp} {s : Shared} (I : Inv X pins σ H s) : interactive X.env = false := by simp [interactive, I.ok.kind]
/-- a docstring -/
theorem ps_doc {x j pos pos'} : PS X (.Expr (.Constant (.str x) j pos) pos') tNext := fun _ s σ H _ I h => wpAny_Expr (Calls.Constant_str (show SP X _ _ .next { s with toks := s.toks + 1 } from ⟨σ, H, I.tok _, h⟩)) I.quiet
/-- an expression whose value is dropped -/
def tDrop (te : TE) : TS := fun D σ H => te σ H fun _ H1 => D.nx σ H1
theorem ps_expr (he : PE X e te) (hs : swapsWith e none pos.line X.env = pure false := by rfl) : PS X (.Expr e pos) (tDrop te) := by
  intro pins s σ H D I h
  exact wpAny_Expr_any (thn (he pins s σ H _ I h) fun v s1 ⟨x, H1, I1, r1, q1⟩ => ⟨σ, H1, I1, q1⟩) I.quiet hs
def tRet (te : TE) : TS := fun D σ H => te σ H D.rt
theorem ps_ret (he : PE X e te) : PS X (.Return (some e) pos) (tRet te) := by
  intro pins s σ H D I h
  exact wpAny_Return_some (thn (he pins s σ H _ I h) fun v s1 ⟨x, H1, I1, r1, q1⟩ => ⟨x, σ, H1, I1, r1, q1⟩)
def tRetN : TS := fun D _ H => D.rt .non H
theorem ps_retN : PS X (.Return none pos) tRetN := fun _ _ σ H _ I h => wpAny_Return_none ⟨.non, σ, H, I, rfl, h⟩
def tIfS (c : TT) (t u : TS) : TS := fun D σ H => c σ H fun b H1 => if b = true then t D σ H1 else u D σ H1
theorem ps_if {c : Expr} {a b : List Stmt} {tc : TT} (hc : PT X c tc) (ha : PSs X a t) (hb : PSs X b u) : PS X (.If c a b pos) (tIfS tc t u) := by
  intro pins s σ H D I h
  refine wpAny_If (thn (hc pins s σ H _ I h) fun d s1 ⟨H1, I1, q1⟩ => ?_)
  cases d with
  | true => exact ha pins s1 σ H1 D I1 q1
  | false => exact hb pins s1 σ H1 D I1 q1
/-- code that the proof never comes to -/
def tNever : TS := fun _ _ _ => False
theorem ps_never : PS X st tNever := fun _ _ _ _ _ _ h => h.elim
theorem pss_never {sts : List Stmt} : PSs X sts tNever := fun _ _ _ _ _ _ h => h.elim
end

/-! ### targets -/
abbrev TG := V → St → Hp → (St → Hp → Prop) → Prop
abbrev TGs := List V → St → Hp → (St → Hp → Prop) → Prop
def PG (X : Cx) (target : Expr) (t : TG) : Prop :=
  ∀ (pins : List (Addr × Obj)) (s : Shared) (σ : St) (H : Hp) (v : V) (u : Value) (Q : St → Hp → Prop), Inv X pins σ H s → RelV v u → t v σ H Q →
    wpAny (model X.prog X.w) X.A (assign target X.env u) (fun _ s' => ∃ σ' H', Inv X pins σ' H' s' ∧ Q σ' H') X.xe s
/-- several targets, one after another -/
def PGs (X : Cx) (ts : List Expr) (t : TGs) : Prop :=
  ∀ (pins : List (Addr × Obj)) (s : Shared) (σ : St) (H : Hp) (vs : List V) (us : List Value) (Q : St → Hp → Prop), Inv X pins σ H s → Vals vs us → t vs σ H Q →
    wpAny (model X.prog X.w) X.A (assignInOrder ((assignEach ts X.env).map (·.2)) us) (fun _ s' => ∃ σ' H', Inv X pins σ' H' s' ∧ Q σ' H') X.xe s
/-- o[i] = v, by values -/
abbrev TSet := V → V → V → Hp → (Hp → Prop) → Prop
def PSet (X : Cx) (t : TSet) : Prop :=
  ∀ (pins : List (Addr × Obj)) (s : Shared) (σ : St) (H : Hp) (o i v : V) (ov iv u : Value) (Q : Hp → Prop), Inv X pins σ H s → RelV o ov → RelV i iv → RelV v u → t o i v H Q →
    wpAny (model X.prog X.w) X.A (setItem ov iv u) (fun _ s' => ∃ H', Inv X pins σ H' s' ∧ Q H') X.xe s
/-- a op= b, by values -/
abbrev TIp := V → V → Hp → VK → Prop
def PIp (X : Cx) (op : Operator) (t : TIp) : Prop :=
  ∀ (pins : List (Addr × Obj)) (s : Shared) (σ : St) (H : Hp) (x y : V) (v u : Value) (Q : VK), Inv X pins σ H s → RelV x v → RelV y u → t x y H Q →
    wpAny (model X.prog X.w) X.A (inplaceOp op v u) (EP X pins σ Q) X.xe s
section
variable {X : Cx} {pos : Pos}
def gName (i : Nat) : TG := fun v σ H Q => Q (σ.set i (some v)) H
theorem pg_name {i : Nat} {x : Str} (hN : X.N.Nodup) (hi : X.N[i]? = some x) (hx : Loc X.env.scope x) (hf : X.fn x = true ∨ X.env.scope.names.lookup x = some .local := by first | exact .inl rfl | exact .inr rfl | assumption) : PG X (.Name x pos) (gName i) := by
  intro pins s σ H v u Q I r h
  exact wpAny_assign_Name (store_ok I hN hi hx r (fun s' I' => ⟨_, H, I', h⟩) hf)
def gNil : TGs := fun vs σ H Q => vs = [] ∧ Q σ H
def gCons (t : TG) (u : TGs) : TGs := fun vs σ H Q => ∃ v r, vs = v :: r ∧ t v σ H fun σ' H' => u r σ' H' Q
theorem pgs_nil : PGs X [] gNil := by
  intro pins s σ H vs us Q I r h
  obtain ⟨e, h⟩ := h
  subst e
  cases r
  exact assignInOrder_nil ⟨σ, H, I, h⟩
theorem pgs_cons {e : Expr} {es : List Expr} {t : TG} {u : TGs} (h1 : PG X e t) (h2 : PGs X es u)
    (hs : (assignEach (e :: es) X.env).map (·.2) = assign e X.env :: (assignEach es X.env).map (·.2) := by rfl) : PGs X (e :: es) (gCons t u) := by
  intro pins s σ H vs us Q I r h
  obtain ⟨v, vr, e1, h⟩ := h
  subst e1
  cases r with
  | cons r rr =>
    rw [hs]
    refine assignInOrder_cons (thn (h1 pins s σ H _ _ _ I r h) fun _ s1 ⟨σ1, H1, I1, q1⟩ => ?_)
    exact h2 pins s1 σ1 H1 _ _ Q I1 rr q1
/-- (a, b, ..) = a tuple of that length -/
def gTup (K : PySem.W.Frag) (n : Nat) (t : TGs) : TG := fun v σ H Q => ∃ a xs, v = .ref a ∧ SqT K H a xs ∧ xs.length = n ∧ t xs σ H Q
theorem pg_tup {es : List Expr} {k : Nat} {t : TGs} {n : Nat} (hc : X.calm = true) (h : PGs X es t)
    (hn : (assignEach es X.env).length = n := by rfl) (hst : (assignEach es X.env).findIdx? (·.1) = none := by rfl) : PG X (.Tuple es k pos) (gTup X.K n t) := by
  intro pins s σ H v u Q I r hw
  obtain ⟨a, xs, e1, hq, hl, hw⟩ := hw
  subst e1
  cases r
  obtain ⟨its, rv, ht, hz⟩ := I.tuple hq
  refine assign_Tuple_tuple (I.ok.hd hc) ht (by simp [hn, ← hl, rv.length]) hst fun h' hx => ?_
  have I1 : Inv X pins σ H { s with heap := h' } := I.kept (t' := s.toks) fun b o e => hx b o (Nat.ne_of_lt (Heap.lt_size e)) e
  exact h pins _ σ H xs _ Q I1 (by simpa using rv) hw
/-- o[i] = .. -/
def gSub (to ti : TE) (t : TSet) : TG := fun v σ H Q => to σ H fun o H1 => ti σ H1 fun i H2 => t o i v H2 fun H3 => Q σ H3
theorem pg_sub {o i : Expr} {to ti : TE} {t : TSet} (ho : PE X o to) (hi : PE X i ti) (hs : PSet X t)
    (ha : ∀ v, assign (.Subscript o i pos) X.env v = (do
      let ov ← holding [v] (eval o X.env)
      let iv ← holding [v, ov] (eval i X.env)
      standAt pos
      holding [v, ov, iv] (setItem ov iv v)
      release [v, ov, iv] []) := by intro _; rfl) : PG X (.Subscript o i pos) (gSub to ti t) := by
  intro pins s σ H v u Q I r h
  rw [ha]
  refine wpAny_bind (wpAny_holding (thn (ho pins s σ H _ I h) fun ov s1 ⟨x, H1, I1, r1, q1⟩ => ?_))
  refine wpAny_bind (wpAny_holding (thn (hi pins s1 σ H1 _ I1 q1) fun iv s2 ⟨y, H2, I2, r2, q2⟩ => ?_))
  refine wpAny_bind (wpAny_standAt (wpAny_bind (wpAny_holding (thn (hs pins s2 σ H2 x y v ov iv u _ I2 r1 r2 r q2) fun _ s3 ⟨H3, I3, q3⟩ => ?_))))
  exact wpAny_release ⟨σ, H3, I3, q3⟩
/-- target = value -/
def tAsg (te : TE) (g : TG) : TS := fun D σ H => te σ H fun x H1 => g x σ H1 D.nx
theorem ps_asg {tg e : Expr} {te : TE} {g : TG} (he : PE X e te) (hg : PG X tg g) (hs : swapsWithSole [tg] e pos.line X.env = pure false := by rfl) (hw : swappedStores [tg] e X.env = pure none := by rfl)
    (h1 : (assignEach [tg] X.env).map (·.2) = [assign tg X.env] := by rfl) : PS X (.Assign [tg] e pos) (tAsg te g) := by
  intro pins s σ H D I h
  refine wpAny_Assign_stores (thn (he pins s σ H _ I h) fun v s1 ⟨x, H1, I1, r1, q1⟩ => ?_) hs hw
  rw [h1]
  exact thn (hg pins s1 σ H1 x v _ I1 r1 q1) fun _ s2 q => q
/-- name = value -/
theorem ps_set {i : Nat} {x : Str} {e : Expr} {te : TE} {pos' : Pos} (hN : X.N.Nodup) (hi : X.N[i]? = some x) (hx : Loc X.env.scope x) (he : PE X e te) (hs : swapsWith e (some (.Name x pos')) pos.line X.env = pure false := by rfl) (hf : X.fn x = true ∨ X.env.scope.names.lookup x = some .local := by first | exact .inl rfl | exact .inr rfl | assumption) :
    PS X (.Assign [.Name x pos'] e pos) (tAsg te (gName i)) := by
  intro pins s σ H D I h
  refine wpAny_Assign_Name (thn (he pins s σ H _ I h) fun v s1 ⟨y, H1, I1, r1, q1⟩ => ?_) hs
  exact store_ok I1 hN hi hx r1 (fun s2 I2 => ⟨_, H1, I2, q1⟩) hf
/-- a, b = x, y with plain local names: stored from the right; the pair itself is not tracked (the opening rows as in PyProof/Rows/TupAssign.lean:23) -/
def tPar (i j : Nat) (ta : TA) : TS := fun D σ H => ta σ H fun vs H1 => ∃ v w, vs = [v, w] ∧ D.nx ((σ.set i (some v)).set j (some w)) H1
theorem ps_par {i j : Nat} {x y : Str} {a b : Expr} {ta : TA} {px py pt : Pos} {kt k2 pt2} (hc : X.calm = true) (hN : X.N.Nodup) (hi : X.N[i]? = some x) (hj : X.N[j]? = some y) (hij : i ≠ j)
    (hx : X.env.scope.names.lookup x = some .local) (hy : X.env.scope.names.lookup y = some .local) (ha : PA X [a, b] ta)
    (hw : swappedStores [.Tuple [.Name x px, .Name y py] kt pt] (.Tuple [a, b] k2 pt2) X.env = pure (some [x, y]))
    (hs : swapsWithSole [.Tuple [.Name x px, .Name y py] kt pt] (.Tuple [a, b] k2 pt2) pos.line X.env = pure false := by rfl) :
    PS X (.Assign [.Tuple [.Name x px, .Name y py] kt pt] (.Tuple [a, b] k2 pt2) pos) (tPar i j ta) := by
  intro pins s σ H D I h
  rw [exec_Assign_arm]
  refine wpAny_bind (wpAny_standAt ?_)
  rw [hs]
  refine wpAny_bind (wpAny_pure ?_)
  rw [if_neg (by decide)]
  refine wpAny_bind (Tuple_ (thn (ha _ pins s σ H _ I h) fun us s1 ⟨vs, H1, I1, r1, q1⟩ => ?_))
  obtain ⟨v, w, e1, q1⟩ := q1
  subst e1
  obtain ⟨u1, u2, rfl, rv, rw'⟩ : ∃ u1 u2, us = [u1, u2] ∧ RelV v u1 ∧ RelV w u2 := by
    cases r1 with
    | cons p q =>
      cases q with
      | cons p' q' =>
        cases q'
        exact ⟨_, _, rfl, p, p'⟩
  refine wpAny_newObj_type ?_ (by show 2 ≤ sizeLine; decide)
  have I2 : Inv X pins σ H1 { s1 with heap := s1.heap.push { cls := .type "tuple", data := .seq [u1, u2].toArray } } := I1.kept (t' := s1.toks) fun b o e => Heap.get?_push_of_some _ e
  rw [hw]
  refine wpAny_bind (wpAny_pure ?_)
  show wpAny (model X.prog X.w) X.A (do rule "assign.swapped-stores"; let items ← unpackItems (.ref s1.heap.objs.size) 2 none; assignInOrder [fun v => bindName X.env y v, fun v => bindName X.env x v] items.reverse; pure Flow.next) _ _ _
  refine wpAny_bind (wpAny_rule (wpAny_bind (unpackItems_tuple (items := #[u1, u2]) (I.ok.hd hc) (IsTup.new s1.heap _) fun h' hx' => ?_)))
  have I3 := I2.kept (h' := h') (t' := s1.toks) fun b o e => hx' b o (Nat.ne_of_lt (Heap.lt_size e)) e
  show wpAny _ _ (assignInOrder [fun v => bindName X.env y v, fun v => bindName X.env x v] [u2, u1] >>= fun _ => pure Flow.next) _ _ _
  refine wpAny_bind (assignInOrder_cons (wpAny_bindName (store_ok I3 hN hj (.inl hy) rw' (fun s2 I4 => ?_) (.inr hy))))
  refine assignInOrder_cons (wpAny_bindName (store_ok I4 hN hi (.inl hx) rv (fun s3 I5 => assignInOrder_nil (wpAny_pure ?_)) (.inr hx)))
  rw [List.set_comm _ _ (Ne.symm hij)] at I5
  exact ⟨_, H1, I5, q1⟩
/-- name op= e -/
def tAug (i : Nat) (te : TE) (ti : TIp) : TS := fun D σ H => ∃ x, σ[i]? = some (some x) ∧ te σ H fun y H1 => ti x y H1 fun z H2 => D.nx (σ.set i (some z)) H2
theorem ps_aug {i : Nat} {x : Str} {e : Expr} {te : TE} {op : Operator} {ti : TIp} {pos' : Pos} (hN : X.N.Nodup) (hi : X.N[i]? = some x) (hx : Loc X.env.scope x) (he : PE X e te) (ho : PIp X op ti) (hf : X.fn x = true ∨ X.env.scope.names.lookup x = some .local := by first | exact .inl rfl | exact .inr rfl | assumption) :
    PS X (.AugAssign (.Name x pos') op e pos) (tAug i te ti) := by
  intro pins s σ H D I h
  obtain ⟨v, e1, h⟩ := h
  obtain ⟨m, hn, hl⟩ := I.loc
  have vis : Vis X.env.scope x := by rcases hx with k | k; exact .inl k; exact .inr (.inl k)
  obtain ⟨u, r, l⟩ := hl i x v hi e1 vis
  refine wpAny_AugAssign_Name ?_
  have go : wpAny (model X.prog X.w) X.A (eval e X.env) (fun w s₂ => wpAny (model X.prog X.w) X.A (inplaceOp op u w) (fun r s₃ => wpAny (model X.prog X.w) X.A (storeName X.env x r) (fun _ => SP X pins D .next) X.xe s₃) X.xe s₂) X.xe s := by
    refine thn (he pins s σ H _ I h) fun w s1 ⟨y, H1, I1, r1, q1⟩ => ?_
    refine thn (ho pins s1 σ H1 v y u w _ I1 r r1 q1) fun z s2 ⟨zv, H2, I2, r2, q2⟩ => ?_
    exact store_ok I2 hN hi hx r2 (fun s3 I3 => ⟨_, H2, I3, q2⟩) hf
  rcases l with ⟨hk, hm⟩ | ⟨hk, c, hc, hcell⟩
  · exact wpAny_loadName_local I.ok.kind hk hn hm go
  · rcases hk with hk | hk
    · exact wpAny_loadName_cell I.ok.kind hk hc hcell go
    · rcases hx with k | k
      · have : X.env.scope.names.lookup x = some .free := hk
        rw [k] at this; cases this
      · have : X.env.scope.names.lookup x = some .free := hk
        rw [k] at this; cases this
/-- o[i] op= e -/
def tAugS (to ti te : TE) (tget : V → V → Hp → VK → Prop) (tip : TIp) (tset : TSet) : TS := fun D σ H => to σ H fun o H1 => ti σ H1 fun i H2 => tget o i H2 fun x H3 => te σ H3 fun y H4 => tip x y H4 fun z H5 => tset o i z H5 fun H6 => D.nx σ H6
/-- o[i], by values -/
def PGet (X : Cx) (t : V → V → Hp → VK → Prop) : Prop :=
  ∀ (pins : List (Addr × Obj)) (s : Shared) (σ : St) (H : Hp) (o i : V) (ov iv : Value) (Q : VK), Inv X pins σ H s → RelV o ov → RelV i iv → t o i H Q →
    wpAny (model X.prog X.w) X.A (getItem ov iv) (EP X pins σ Q) X.xe s
theorem ps_augS {o i e : Expr} {to ti te : TE} {tget : V → V → Hp → VK → Prop} {tip : TIp} {tset : TSet} {op : Operator} {tpos : Pos} (ho : PE X o to) (hi : PE X i ti) (hg : PGet X tget) (he : PE X e te) (hp : PIp X op tip) (hs : PSet X tset)
    (ha : ∀ ov iv new, augStore i ov iv new = (do holding [new, ov, iv] (setItem ov iv new); release [new, ov, iv] []; pure .next) := by intros; rfl) : PS X (.AugAssign (.Subscript o i tpos) op e pos) (tAugS to ti te tget tip tset) := by
  intro pins s σ H D I h
  refine wpAny_AugAssign_SubscriptAny (thn (ho pins s σ H _ I h) fun ov s1 ⟨x1, H1, I1, r1, q1⟩ => ?_) ha
  refine thn (hi pins s1 σ H1 _ I1 q1) fun iv s2 ⟨x2, H2, I2, r2, q2⟩ => ?_
  refine thn (hg pins s2 σ H2 x1 x2 ov iv _ I2 r1 r2 q2) fun old s3 ⟨x3, H3, I3, r3, q3⟩ => ?_
  refine thn (he pins s3 σ H3 _ I3 q3) fun v s4 ⟨x4, H4, I4, r4, q4⟩ => ?_
  refine thn (hp pins s4 σ H4 x3 x4 old v _ I4 r3 r4 q4) fun new s5 ⟨x5, H5, I5, r5, q5⟩ => ?_
  exact thn (hs pins s5 σ H5 x1 x2 x5 ov iv new _ I5 r1 r2 r5 q5) fun _ s6 ⟨H6, I6, q6⟩ => ⟨σ, H6, I6, q6⟩
/-- ints -/
def ipI (f : Int → Int → Int) : TIp := fun x y H Q => ∃ i j, x = .int i ∧ y = .int j ∧ Q (.int (f i j)) H
theorem ip_add : PIp X .Add (ipI fun i j => i + j) := by
  intro pins s σ H x y v u Q I r1 r2 h
  obtain ⟨i, j, e1, e2, q⟩ := h
  subst e1; subst e2
  obtain ⟨t, rfl⟩ := r1
  obtain ⟨t', rfl⟩ := r2
  exact iadd_int ⟨.int _, H, I.tok _, ⟨_, rfl⟩, q⟩
theorem ip_sub : PIp X .Sub (ipI fun i j => i - j) := by
  intro pins s σ H x y v u Q I r1 r2 h
  obtain ⟨i, j, e1, e2, q⟩ := h
  subst e1; subst e2
  obtain ⟨t, rfl⟩ := r1
  obtain ⟨t', rfl⟩ := r2
  exact isub_int ⟨.int _, H, I.tok _, ⟨_, rfl⟩, q⟩
end

/-! ### while -/
section
variable {X : Cx} {pos : Pos}
/-- the invariant W with its measure -/
def tWhile (c : TT) (tb : TS) : TS := fun D σ H => ∃ W : Nat → St → Hp → Prop, (∃ m, W m σ H) ∧ ∀ m σ H, W m σ H →
  c σ H fun b H1 => if b = true then ∃ N : St → Hp → Prop, (∀ σ' H', N σ' H' → ∃ m', m' < m ∧ W m' σ' H') ∧ tb { D with nx := N, ct := N, bk := D.nx } σ H1 else D.nx σ H1
theorem ps_while {c : Expr} {body : List Stmt} {tc : TT} {tb : TS} (hp : PassesOwn (model X.prog X.w) X.A X.env X.xe) (hc : PT X c tc) (hb : PSs X body tb) : PS X (.While c body [] pos) (tWhile tc tb) := by
  intro pins s σ H D I h
  obtain ⟨W, ⟨m0, w0⟩, turn⟩ := h
  refine wpAny_While (codeAny_whileLoop (fun n s' => ∃ σ' H', Inv X pins σ' H' s' ∧ W n σ' H') ?_ m0 ⟨σ, H, I, w0⟩)
  rintro n s1 ⟨σ1, H1, I1, w1⟩
  refine wpAny_passesOwn hp (thn (hc pins s1 σ1 H1 _ I1 (turn n σ1 H1 w1)) fun b s2 ⟨H2, I2, q2⟩ => ?_)
  cases b with
  | true =>
    obtain ⟨N, hN, q2⟩ := q2
    rw [if_pos rfl]
    refine wpAny_passesOwn hp (thn (hb pins s2 σ1 H2 _ I2 q2) fun f s3 q3 => ?_)
    cases f with
    | next =>
      obtain ⟨σ3, H3, I3, n3⟩ := q3
      obtain ⟨m', hm, w3⟩ := hN σ3 H3 n3
      exact ⟨m', hm, σ3, H3, I3, w3⟩
    | cont =>
      obtain ⟨σ3, H3, I3, n3⟩ := q3
      obtain ⟨m', hm, w3⟩ := hN σ3 H3 n3
      exact ⟨m', hm, σ3, H3, I3, w3⟩
    | brk => exact q3
    | ret v => exact q3
  | false =>
    rw [if_neg Bool.false_ne_true]
    exact wpAny_execs_nil ⟨σ1, H2, I2, q2⟩
end

/-! ### what a loop or a comprehension walks -/
/-- at turn i: it yields x (the heap may grow), or it stops -/
structure It where
  go : Nat → Hp → Prop
  yld : Nat → Hp → V → Hp → Prop
  stop : Nat → Hp → Prop
/-- the iterator's own objects may turn: they are not the frame's, not pinned, younger than the entry (or a comprehension's own) -/
def FpOk (X : Cx) (pins : List (Addr × Obj)) (H : Hp) (b : Addr) : Prop :=
  H b = none ∧ b ≠ X.env.locals ∧ b ∉ X.fs ∧ (b ∈ X.ex ∨ X.s₀.heap.objs.size ≤ b) ∧ (∀ x c, X.env.cells.lookup x = some c → c ≠ b) ∧ ∀ p ∈ X.pn ++ pins, p.1 ≠ b
theorem Inv.fpOk {X : Cx} {pins : List (Addr × Obj)} {σ : St} {H H' : Hp} {s : Shared} {b : Addr} (I : Inv X pins σ H s) (hb : s.heap.objs.size ≤ b) (hn : H' b = none) : FpOk X pins H' b := by
  refine ⟨hn, Nat.ne_of_gt (Nat.lt_of_lt_of_le I.lt hb), I.nofs hb, .inr (Nat.le_trans I.sz hb), fun x c e z => ?_, fun p hp z => ?_⟩
  · obtain ⟨v, q⟩ := I.cell x c e
    exact absurd (Nat.lt_of_lt_of_le q.lt (by rw [z]; exact hb)) (Nat.lt_irrefl _)
  · exact absurd (Nat.lt_of_lt_of_le (Heap.lt_size (I.pin p hp).1) (by rw [z]; exact hb)) (Nat.lt_irrefl _)
structure Turn (P : Program) (w : World) (K : PySem.W.Frag) (tg : Expr) (J : It) (fp : List Addr) (it : Addr) (tn : Nat → Heap → Prop) : Prop where
  mem : it ∈ fp
  obj : ∀ i h, tn i h → ∀ b ∈ fp, ∃ o, h.get? b = some o ∧ ∀ v, o.data ≠ .cell v
  keep : ∀ i h h', tn i h → (∀ b ∈ fp, ∀ o, h.get? b = some o → h'.get? b = some o) → tn i h'
  item : ∀ (X : Cx), X.prog = P → X.w = w → X.K = K → X.calm = true → ∀ (i : Nat) (pins : List (Addr × Obj)) (s : Shared) (σ : St) (H : Hp) (E : Value → Shared → Prop), Inv X pins σ H s → (∀ b ∈ fp, FpOk X pins H b) → tn i s.heap → J.go i H →
    wpAny (model P w) X.A (pyNext (.ref it)) (fun r s1 => ∃ u, r = some u ∧
      wpAny (model P w) X.A (letOwnedTupleGo tg (.ref it) u) (fun _ s2 => ∃ x H', Inv X pins σ H' s2 ∧ RelV x u ∧ J.yld i H x H' ∧ tn (i + 1) s2.heap ∧ ∀ b ∈ fp, H' b = none) E s1) E s
  done : ∀ (X : Cx), X.prog = P → X.w = w → X.K = K → X.calm = true → ∀ (i : Nat) (pins : List (Addr × Obj)) (s : Shared) (σ : St) (H : Hp) (E : Value → Shared → Prop), Inv X pins σ H s → (∀ b ∈ fp, FpOk X pins H b) → tn i s.heap → J.stop i H →
    wpAny (model P w) X.A (pyNext (.ref it)) (fun r s1 => r = none ∧ Inv X pins σ H s1) E s
  self : ∀ (A : Around) (i : Nat) (s : Shared) (Q : Value → Shared → Prop) (E : Value → Shared → Prop), tn i s.heap → Q (.ref it) s → wpAny (model P w) A (pyIter (.ref it)) Q E s
abbrev TI := St → Hp → (It → Hp → Prop) → Prop
/-- an iterator has come -/
def PIE (X : Cx) (pins : List (Addr × Obj)) (σ : St) (tg : Expr) (R : It → Hp → Prop) (itv : Value) (s2 : Shared) : Prop :=
  ∃ (it : Addr) (fp : List Addr) (tn : Nat → Heap → Prop) (J : It) (H' : Hp), itv = .ref it ∧ Inv X pins σ H' s2 ∧ Turn X.prog X.w X.K tg J fp it tn ∧ tn 0 s2.heap ∧ (∀ b ∈ fp, FpOk X pins H' b) ∧ R J H'
def PI (X : Cx) (tg iter : Expr) (wi : TI) : Prop :=
  ∀ (pins : List (Addr × Obj)) (s : Shared) (σ : St) (H : Hp) (R : It → Hp → Prop), Inv X pins σ H s → wi σ H R →
    wpAny (model X.prog X.w) X.A (eval iter X.env) (fun v s1 => wpAny (model X.prog X.w) X.A (pyIter v) (PIE X pins σ tg R) X.xe s1) X.xe s

/-- the step ahead of the store is nothing for an iterator that keeps no tuple -/
theorem go_of {M : Model} {A : Around} {E : Value → Shared → Prop} {s : Shared} {tg : Expr} {it : Addr} {u : Value} {o : Obj} {n : String} {vs : Array Value} {Q : Unit → Shared → Prop} (ho : s.heap.get? it = some o) (hc : o.cls = .type n) (hd : o.data = .fields vs)
    (hn : ["enumerate", "zip", "dict_itemiterator", "dict_reverseitemiterator", "odict_iterator", "itertools.zip_longest", "itertools.pairwise"].contains n = false) (hQ : Q () s) : wpAny M A (letOwnedTupleGo tg (.ref it) u) Q E s := by
  unfold letOwnedTupleGo
  cases tg <;> first
    | exact wpAny_pure hQ
    | (cases u <;> first
        | exact wpAny_pure hQ
        | (refine wpAny_bind (wpAny_load ho ?_)
           rw [hc, hd]
           show wpAny M A (if (["enumerate", "zip", "dict_itemiterator", "dict_reverseitemiterator", "odict_iterator", "itertools.zip_longest", "itertools.pairwise"].contains n && vs[0]? == some (rawInt _)) = true then _ else _) Q E s
           rw [if_neg (by intro h; rw [hn, Bool.false_and] at h; cases h)]
           exact wpAny_pure hQ))

/-- the list at a, as it stands at each turn (a loop may append to it) -/
def Itl (K : PySem.W.Frag) (a : Addr) : It :=
  ⟨fun i H => ∃ xs x, SqL K H a xs ∧ xs[i]? = some x, fun i H x H' => H' = H ∧ ∀ xs, SqL K H a xs → xs[i]? = some x, fun i H => ∃ xs, SqL K H a xs ∧ xs.length ≤ i⟩
def Itt (K : PySem.W.Frag) (a : Addr) : It :=
  ⟨fun i H => ∃ xs x, SqT K H a xs ∧ xs[i]? = some x, fun i H x H' => H' = H ∧ ∀ xs, SqT K H a xs → xs[i]? = some x, fun i H => ∃ xs, SqT K H a xs ∧ xs.length ≤ i⟩
/-- lo, lo + 1, .. (n of them) -/
def Itr (lo : Int) (n : Nat) : It := ⟨fun i _ => i < n, fun i H x H' => H' = H ∧ x = .int (lo + i), fun i _ => n ≤ i⟩
theorem turn_list {P : Program} {w : World} {K : PySem.W.Frag} {tg : Expr} (a it : Addr) : Turn P w K tg (Itl K a) [it] it (fun i h => h.IsListIter it a i) where
  mem := by simp
  obj := fun i h st b hb => by
    have e : b = it := by simpa using hb
    subst e
    obtain ⟨o, e, c, d⟩ := st
    exact ⟨o, e, fun v z => by rw [d] at z; cases z⟩
  keep := fun i h h' st k => st.at fun o e => k it (by simp) o e
  item := by
    intro X hP hw hK hc i pins s σ H E I hf st hg
    subst hP hw hK
    obtain ⟨xs, x, hq, hx⟩ := hg
    obtain ⟨its, rv, p, hz⟩ := I.list hq
    obtain ⟨u, hu, ru⟩ := rv.get hx
    obtain ⟨f0, f1, f2, f3, f4, f5⟩ := hf it (by simp)
    refine wpAny_pyNext_list_item st p.isList (x := u) (by simpa using hu) fun h' st' sb => ?_
    have I1 : Inv X pins σ H { s with heap := h' } := I.turned (t' := s.toks) (fun b o hb e => (sb.2 b hb).trans e) f0 f1 f3 f4 f5
    obtain ⟨o, e, c, d⟩ := id st'
    exact ⟨u, rfl, go_of (s := { s with heap := h' }) e c d (by decide) ⟨x, H, I1, ru, ⟨rfl, fun ys hy => by rw [I.list_inj hy hq]; exact hx⟩, st', fun b hb => (hf b hb).1⟩⟩
  done := by
    intro X hP hw hK hc i pins s σ H E I hf st hg
    subst hP hw hK
    obtain ⟨xs, hq, hx⟩ := hg
    obtain ⟨its, rv, p, hz⟩ := I.list hq
    obtain ⟨f0, f1, f2, f3, f4, f5⟩ := hf it (by simp)
    have hl := rv.length
    exact wpAny_pyNext_list_end (I.ok.hd hc) st p.isList (by simp; omega) fun h' eb => ⟨rfl, I.turned (t' := s.toks) (fun b o hb e => eb b o hb e) f0 f1 f3 f4 f5⟩
  self := fun _ _ _ _ _ st h => wpAny_pyIter_listiter st h
theorem turn_tuple {P : Program} {w : World} {K : PySem.W.Frag} {tg : Expr} (a it : Addr) : Turn P w K tg (Itt K a) [it] it (fun i h => h.IsTupleIter it a i) where
  mem := by simp
  obj := fun i h st b hb => by
    have e : b = it := by simpa using hb
    subst e
    obtain ⟨o, e, c, d⟩ := st
    exact ⟨o, e, fun v z => by rw [d] at z; cases z⟩
  keep := fun i h h' st k => st.at fun o e => k it (by simp) o e
  item := by
    intro X hP hw hK hc i pins s σ H E I hf st hg
    subst hP hw hK
    obtain ⟨xs, x, hq, hx⟩ := hg
    obtain ⟨its, rv, p, hz⟩ := I.tuple hq
    obtain ⟨u, hu, ru⟩ := rv.get hx
    obtain ⟨f0, f1, f2, f3, f4, f5⟩ := hf it (by simp)
    refine wpAny_pyNext_tuple_item st (show s.heap.IsTuple a its.toArray from p) (x := u) (by simpa using hu) fun h' st' sb => ?_
    have I1 : Inv X pins σ H { s with heap := h' } := I.turned (t' := s.toks) (fun b o hb e => (sb.2 b hb).trans e) f0 f1 f3 f4 f5
    obtain ⟨o, e, c, d⟩ := id st'
    exact ⟨u, rfl, go_of (s := { s with heap := h' }) e c d (by decide) ⟨x, H, I1, ru, ⟨rfl, fun ys hy => by rw [I.tuple_inj hy hq]; exact hx⟩, st', fun b hb => (hf b hb).1⟩⟩
  done := by
    intro X hP hw hK hc i pins s σ H E I hf st hg
    subst hP hw hK
    obtain ⟨xs, hq, hx⟩ := hg
    obtain ⟨its, rv, p, hz⟩ := I.tuple hq
    obtain ⟨f0, f1, f2, f3, f4, f5⟩ := hf it (by simp)
    have hl := rv.length
    exact wpAny_pyNext_tuple_end (I.ok.hd hc) st (show s.heap.IsTuple a its.toArray from p) (by simp; omega) fun h' eb => ⟨rfl, I.turned (t' := s.toks) (fun b o hb e => eb b o hb e) f0 f1 f3 f4 f5⟩
  self := fun _ _ _ _ _ st h => wpAny_pyIter_tupleiter st h
theorem turn_range {P : Program} {w : World} {K : PySem.W.Frag} {tg : Expr} (it : Addr) (lo : Int) (n : Nat) : Turn P w K tg (Itr lo n) [it] it (fun i h => IsRangeIter h it (lo + (i : Nat) * 1) ((n : Int) - (i : Nat)) 1) where
  mem := by simp
  obj := fun i h st b hb => by
    have e : b = it := by simpa using hb
    subst e
    exact ⟨_, st, fun v z => by
      have z' : Data.fields _ = Data.cell v := z
      cases z'⟩
  keep := fun i h h' st k => k it (by simp) _ st
  item := by
    intro X hP hw hK hc i pins s σ H E I hf st hg
    subst hP hw hK
    obtain ⟨f0, f1, f2, f3, f4, f5⟩ := hf it (by simp)
    have W := Walks.range (prog := X.prog) (w := X.w) (I.ok.hd hc) it lo 1 n
    refine W.item i s _ _ hg st fun v h' tk hv st' kk => ?_
    obtain ⟨t, rfl⟩ := hv
    have I1 : Inv X pins σ H { s with heap := h', toks := tk } := I.turned (fun b o hb e => kk b o (by simpa using hb) e) f0 f1 f3 f4 f5
    refine ⟨_, rfl, go_of (s := { s with heap := h', toks := tk }) (n := "range_iterator") st' rfl rfl (by decide) ⟨.int (lo + i), H, I1, ⟨t, ?_⟩, ⟨rfl, rfl⟩, st', fun b hb => (hf b hb).1⟩⟩
    rw [Int.mul_one]
  done := by
    intro X hP hw hK hc i pins s σ H E I hf st hg
    subst hP hw hK
    obtain ⟨f0, f1, f2, f3, f4, f5⟩ := hf it (by simp)
    exact wpAny_pyNext_range_end (I.ok.hd hc) st (by have : n ≤ i := hg; omega) fun h' eb => ⟨rfl, I.turned (t' := s.toks) (fun b o hb e => eb b o hb e) f0 f1 f3 f4 f5⟩
  self := fun _ _ _ _ _ st h => wpAny_pyIter_rangeiter st h
end L2

namespace L2
open PySem PySem.Spec PyProof.Rows
section
variable {X : Cx} {tg : Expr}
def iList (K : PySem.W.Frag) (tl : TE) : TI := fun σ H R => tl σ H fun x H1 => ∃ a, x = .ref a ∧ (∃ xs, SqL K H1 a xs) ∧ R (Itl K a) H1
def iTup (K : PySem.W.Frag) (tl : TE) : TI := fun σ H R => tl σ H fun x H1 => ∃ a, x = .ref a ∧ (∃ xs, SqT K H1 a xs) ∧ R (Itt K a) H1
theorem pi_list {l : Expr} {tl : TE} (hl : PE X l tl) : PI X tg l (iList X.K tl) := by
  intro pins s σ H R I h
  refine thn (hl pins s σ H _ I h) fun v s1 ⟨x, H1, I1, r1, q1⟩ => ?_
  obtain ⟨a, e, ⟨xs, hq⟩, q⟩ := q1
  subst e
  cases r1
  obtain ⟨its, rv, p, hz⟩ := I1.list hq
  refine wpAny_pyIter_list p.isList ?_
  refine ⟨s1.heap.objs.size, [s1.heap.objs.size], _, _, H1, rfl, I1.kept (t' := s1.toks) fun b o e => Heap.get?_push_of_some _ e, turn_list a _, ⟨_, Heap.get?_push_size _ rfl, rfl, rfl⟩, fun b hb => ?_, q⟩
  have e : b = s1.heap.objs.size := by simpa using hb
  subst e
  exact I1.fpOk (Nat.le_refl _) (I1.hok.fresh (Nat.le_refl _))
theorem pi_tup {l : Expr} {tl : TE} (hl : PE X l tl) : PI X tg l (iTup X.K tl) := by
  intro pins s σ H R I h
  refine thn (hl pins s σ H _ I h) fun v s1 ⟨x, H1, I1, r1, q1⟩ => ?_
  obtain ⟨a, e, ⟨xs, hq⟩, q⟩ := q1
  subst e
  cases r1
  obtain ⟨its, rv, p, hz⟩ := I1.tuple hq
  refine wpAny_pyIter_tuple (show s1.heap.IsTuple a its.toArray from p) ?_
  refine ⟨s1.heap.objs.size, [s1.heap.objs.size], _, _, H1, rfl, I1.kept (t' := s1.toks) fun b o e => Heap.get?_push_of_some _ e, turn_tuple a _, ⟨_, Heap.get?_push_size _ rfl, rfl, rfl⟩, fun b hb => ?_, q⟩
  have e : b = s1.heap.objs.size := by simpa using hb
  subst e
  exact I1.fpOk (Nat.le_refl _) (I1.hok.fresh (Nat.le_refl _))
/-- a range object just made, walked -/
theorem range_it {pins : List (Addr × Obj)} {σ : St} {H : Hp} {s : Shared} {R : It → Hp → Prop} {E : Value → Shared → Prop} {lo hi : Int} {t u v : Tok} {tk : Nat} (I : Inv X pins σ H s) (h1 : -(2 ^ 62) ≤ lo) (h2 : lo < 2 ^ 62) (h3 : -(2 ^ 62) ≤ hi) (h4 : hi < 2 ^ 62)
    (q : R (Itr lo (hi - lo).toNat) H) : wpAny (model X.prog X.w) X.A (pyIter (.ref s.heap.objs.size)) (PIE X pins σ tg R) E { s with heap := s.heap.push { cls := .type "range", data := .fields #[.int lo t, .int hi u, .int 1 v] }, toks := tk } := by
  refine wpAny_pyIter_range (IsRange.new ..) (small_one h1 h2 h3 h4) ?_
  have I1 : Inv X pins σ H { s with heap := s.heap.push { cls := .type "range", data := .fields #[.int lo t, .int hi u, .int 1 v] }, toks := tk } := I.kept fun b o e => Heap.get?_push_of_some _ e
  refine ⟨(s.heap.push { cls := .type "range", data := .fields #[.int lo t, .int hi u, .int 1 v] }).objs.size, [(s.heap.push { cls := .type "range", data := .fields #[.int lo t, .int hi u, .int 1 v] }).objs.size], _, _, H, rfl,
    I1.kept (t' := tk) fun b o e => Heap.get?_push_of_some _ e, turn_range _ lo (hi - lo).toNat, ?_, fun b hb => ?_, q⟩
  · have e1 : lo + ((0 : Nat) : Int) * 1 = lo := by simp
    have e2 : (((hi - lo).toNat : Nat) : Int) - ((0 : Nat) : Int) = Builtin.Range.rangeSize lo hi 1 := by rw [rangeSize_one]; split <;> omega
    show IsRangeIter _ _ (lo + ((0 : Nat) : Int) * 1) ((((hi - lo).toNat : Nat) : Int) - ((0 : Nat) : Int)) 1
    rw [e1, e2]
    exact Heap.get?_push_size _ rfl
  · have e : b = (s.heap.push { cls := .type "range", data := .fields #[.int lo t, .int hi u, .int 1 v] }).objs.size := by simpa using hb
    subst e
    exact I1.fpOk (Nat.le_refl _) (I1.hok.fresh (Nat.le_refl _))
def iRng1 (ta : TA) : TI := fun σ H R => ta σ H fun vs H1 => ∃ j : Int, vs = [.int j] ∧ -(2 ^ 62) ≤ j ∧ j < 2 ^ 62 ∧ R (Itr 0 j.toNat) H1
def iRng2 (ta : TA) : TI := fun σ H R => ta σ H fun vs H1 => ∃ i j : Int, vs = [.int i, .int j] ∧ (-(2 ^ 62) ≤ i ∧ i < 2 ^ 62 ∧ -(2 ^ 62) ≤ j ∧ j < 2 ^ 62) ∧ R (Itr i (j - i).toNat) H1
theorem pi_range1 {a : Expr} {ta : TA} {p pos : Pos} (hg : Gl X "range") (hm : X.mg "range" = none) (ha : PA X [a] ta) (hs : starEach [a] X.env = [(false, eval a X.env)] := by rfl) : PI X tg (.Call (.Name "range" p) [a] [] pos) (iRng1 ta) := by
  intro pins s σ H R I h
  refine Call_ (ld_blt I hg hm boot_range (PyProof.Rows.callWith_type1 (thn (ha pos pins s σ H _ I h) fun us s1 ⟨vs, H1, I1, r1, q1⟩ => ?_) hs rfl))
  obtain ⟨j, e, q1, q2, q⟩ := q1
  subst e
  cases r1 with
  | cons r rr =>
    cases rr
    obtain ⟨t, rfl⟩ := r
    exact call_range_1 (range_it I1 (by omega) (by omega) q1 q2 (by simpa using q))
theorem pi_range2 {a b : Expr} {ta : TA} {p pos : Pos} (hg : Gl X "range") (hm : X.mg "range" = none) (ha : PA X [a, b] ta) (hs : starEach [a, b] X.env = [(false, eval a X.env), (false, eval b X.env)] := by rfl) (hs2 : starEach [b] X.env = [(false, eval b X.env)] := by rfl) :
    PI X tg (.Call (.Name "range" p) [a, b] [] pos) (iRng2 ta) := by
  intro pins s σ H R I h
  refine Call_ (ld_blt I hg hm boot_range (PyProof.Rows.callWith_type1 (thn (ha pos pins s σ H _ I h) fun us s1 ⟨vs, H1, I1, r1, q1⟩ => ?_) (by rw [hs, hs2]) (by rw [hs2]; rfl)))
  obtain ⟨i, j, e, ⟨q1, q2, q3, q4⟩, q⟩ := q1
  subst e
  cases r1 with
  | cons r rr =>
    cases rr with
    | cons r' rr =>
      cases rr
      obtain ⟨t, rfl⟩ := r
      obtain ⟨t', rfl⟩ := r'
      exact call_range_2 (range_it I1 q1 q2 q3 q4 q)

/-! ### for -/
/-- W: the invariant by the turn and a measure; N: what the body is to reach -/
def tFor (wi : TI) (g : TG) (tb : TS) : TS := fun D σ H => wi σ H fun J H1 => ∃ W : Nat → Nat → St → Hp → Prop, (∃ m, W 0 m σ H1) ∧ ∀ i m σ H, W i m σ H →
  (J.stop i H ∧ D.nx σ H) ∨ (J.go i H ∧ ∃ N : St → Hp → Prop, (∀ σ' H', N σ' H' → ∃ m', m' < m ∧ W (i + 1) m' σ' H') ∧ ∀ x H', J.yld i H x H' → g x σ H' fun σ2 H2 => tb { D with nx := N, ct := N, bk := D.nx } σ2 H2)
/-- the records at fp as they stand -/
def pinsAt (fp : List Addr) (h : Heap) : List (Addr × Obj) := fp.filterMap fun b => (h.get? b).map fun o => (b, o)
theorem mem_pinsAt {fp : List Addr} {h : Heap} {b : Addr} {o : Obj} (hb : b ∈ fp) (e : h.get? b = some o) : (b, o) ∈ pinsAt fp h := List.mem_filterMap.mpr ⟨b, hb, by rw [e]; rfl⟩
theorem of_pinsAt {fp : List Addr} {h : Heap} {p : Addr × Obj} (hp : p ∈ pinsAt fp h) : p.1 ∈ fp ∧ h.get? p.1 = some p.2 := by
  obtain ⟨b, hb, e⟩ := List.mem_filterMap.mp hp
  cases q : h.get? b with
  | none => rw [q] at e; cases e
  | some o =>
    rw [q] at e
    have e' : (b, o) = p := Option.some.inj e
    subst e'
    exact ⟨hb, q⟩
theorem Inv.pinned {pins : List (Addr × Obj)} {σ : St} {H : Hp} {s : Shared} {fp : List Addr} (I : Inv X pins σ H s) (hf : ∀ b ∈ fp, FpOk X pins H b) (ho : ∀ b ∈ fp, ∃ o, s.heap.get? b = some o ∧ ∀ v, o.data ≠ .cell v) : Inv X (pins ++ pinsAt fp s.heap) σ H s :=
  I.pins_of fun p hp => (List.mem_append.mp hp).elim (fun z => I.pin p (List.mem_append_right _ z)) fun z => by
    obtain ⟨hb, e⟩ := of_pinsAt z
    obtain ⟨f0, f1, f2, _⟩ := hf p.1 hb
    obtain ⟨o, e', d⟩ := ho p.1 hb
    rw [e] at e'; cases e'
    exact ⟨e, f0, f1, f2, d⟩
theorem Inv.unpinned {pins pl : List (Addr × Obj)} {σ : St} {H : Hp} {s : Shared} (I : Inv X (pins ++ pl) σ H s) : Inv X pins σ H s := I.pins_of fun p hp => I.pin p (List.mem_append_right _ (List.mem_append_left _ hp))
theorem ps_for {iter : Expr} {body : List Stmt} {wi : TI} {g : TG} {tb : TS} {pos : Pos} (hp : PassesOwn (model X.prog X.w) X.A X.env X.xe) (hc : X.calm = true) (hi : PI X tg iter wi) (hg : PG X tg g) (hb : PSs X body tb)
    (hs : ∀ x, foldedSetIterable iter X.env x = pure x := by intro _; rfl) : PS X (.For tg iter body [] pos) (tFor wi g tb) := by
  intro pins s σ H D I h
  refine wpAny_For (thn (hi pins s σ H _ I h) fun v s1 h1 => thn h1 fun itv s2 h2 => ?_) hs
  obtain ⟨it, fp, tn, J, H2, e, I2, T, st2, f2, W, ⟨m0, w0⟩, turn⟩ := h2
  subst e
  -- what stays true of the iterator's objects through the loop
  have stat : ∀ {H' : Hp}, (∀ b ∈ fp, H' b = none) → ∀ b ∈ fp, FpOk X pins H' b := fun hn b hb => ⟨hn b hb, (f2 b hb).2⟩
  refine codeAny_forLoop_any (fun n s' => ∃ i σ' H', Inv X pins σ' H' s' ∧ tn i s'.heap ∧ (∀ b ∈ fp, H' b = none) ∧ W i n σ' H') ?_ m0 ⟨0, σ, H2, I2, st2, fun b hb => (f2 b hb).1, w0⟩
  rintro n s3 ⟨i, σ3, H3, I3, st3, fr3, w3⟩
  rcases turn i n σ3 H3 w3 with ⟨stop, qn⟩ | ⟨go, N, hN, step⟩
  · refine wpAny_passesOwn hp (thn (T.done X rfl rfl rfl hc i pins s3 σ3 H3 X.xe I3 (stat fr3) st3 stop) fun r s4 ⟨hr, I4⟩ => ?_)
    subst hr
    exact wpAny_execs_nil ⟨σ3, H3, I4, qn⟩
  · refine wpAny_passesOwn hp (thn (T.item X rfl rfl rfl hc i pins s3 σ3 H3 X.xe I3 (stat fr3) st3 go) fun r s4 ⟨u, hr, h4⟩ => ?_)
    subst hr
    refine wpAny_passesOwn hp (thn h4 fun _ s5 ⟨x, H5, I5, r5, y5, st5, fr5⟩ => ?_)
    have I5' := I5.pinned (stat fr5) (T.obj _ _ st5)
    refine wpAny_passesOwn hp (thn (hg _ s5 σ3 H5 x u _ I5' r5 (step x H5 y5)) fun _ s6 ⟨σ6, H6, I6, q6⟩ => ?_)
    refine wpAny_passesOwn hp (thn (hb _ s6 σ6 H6 _ I6 q6) fun f s7 q7 => ?_)
    have again : ∀ {σ7 : St} {H7 : Hp}, Inv X (pins ++ pinsAt fp s5.heap) σ7 H7 s7 → N σ7 H7 → ∃ m, m < n ∧ ∃ i σ' H', Inv X pins σ' H' s7 ∧ tn i s7.heap ∧ (∀ b ∈ fp, H' b = none) ∧ W i m σ' H' := fun {σ7 H7} I7 n7 => by
      obtain ⟨m', hm, w7⟩ := hN σ7 H7 n7
      refine ⟨m', hm, i + 1, σ7, H7, I7.unpinned, T.keep _ _ _ st5 fun b hb o e => (I7.pin (b, o) (List.mem_append_right _ (List.mem_append_right _ (mem_pinsAt hb e)))).1, fun b hb => ?_, w7⟩
      obtain ⟨o, e, d⟩ := T.obj _ _ st5 b hb
      exact (I7.pin (b, o) (List.mem_append_right _ (List.mem_append_right _ (mem_pinsAt hb e)))).2.1
    cases f with
    | next => obtain ⟨σ7, H7, I7, n7⟩ := q7; exact again I7 n7
    | cont => obtain ⟨σ7, H7, I7, n7⟩ := q7; exact again I7 n7
    | brk => obtain ⟨σ7, H7, I7, q7⟩ := q7; exact ⟨σ7, H7, I7.unpinned, q7⟩
    | ret v => obtain ⟨x7, σ7, H7, I7, r7, q7⟩ := q7; exact ⟨x7, σ7, H7, I7.unpinned, r7, q7⟩
end

/-! ### the forms one uses -/
/-- over a list that the body leaves as it is -/
theorem for_list {K : PySem.W.Frag} {a : Addr} {xs : List V} {g : TG} {tb : TS} {D : Ends} {σ : St} {H : Hp} (Pv : Nat → St → Hp → Prop) (h0 : Pv 0 σ H) (hl : ∀ i σ H, i ≤ xs.length → Pv i σ H → SqL K H a xs)
    (hs : ∀ i x σ H, xs[i]? = some x → Pv i σ H → g x σ H fun σ2 H2 => tb { D with nx := Pv (i + 1), ct := Pv (i + 1), bk := D.nx } σ2 H2) (hd : ∀ σ H, Pv xs.length σ H → D.nx σ H) :
    ∃ W : Nat → Nat → St → Hp → Prop, (∃ m, W 0 m σ H) ∧ ∀ i m σ H, W i m σ H →
      ((Itl K a).stop i H ∧ D.nx σ H) ∨ ((Itl K a).go i H ∧ ∃ N : St → Hp → Prop, (∀ σ' H', N σ' H' → ∃ m', m' < m ∧ W (i + 1) m' σ' H') ∧ ∀ x H', (Itl K a).yld i H x H' → g x σ H' fun σ2 H2 => tb { D with nx := N, ct := N, bk := D.nx } σ2 H2) := by
  refine ⟨fun i m σ H => m = xs.length - i ∧ i ≤ xs.length ∧ Pv i σ H, ⟨xs.length, by simp, Nat.zero_le _, h0⟩, ?_⟩
  rintro i m σ H ⟨rfl, hi, p⟩
  have q := hl i σ H hi p
  by_cases hlt : i < xs.length
  · refine .inr ⟨⟨xs, xs[i], q, by simp [hlt]⟩, Pv (i + 1), fun σ' H' p' => ⟨xs.length - (i + 1), by omega, rfl, hlt, p'⟩, fun x H' y => ?_⟩
    obtain ⟨e, y⟩ := y
    subst e
    exact hs i x σ _ (y xs q) p
  · have e : i = xs.length := by omega
    subst e
    exact .inl ⟨⟨xs, q, Nat.le_refl _⟩, hd σ H p⟩
theorem for_tup {K : PySem.W.Frag} {a : Addr} {xs : List V} {g : TG} {tb : TS} {D : Ends} {σ : St} {H : Hp} (Pv : Nat → St → Hp → Prop) (h0 : Pv 0 σ H) (hl : ∀ i σ H, i ≤ xs.length → Pv i σ H → SqT K H a xs)
    (hs : ∀ i x σ H, xs[i]? = some x → Pv i σ H → g x σ H fun σ2 H2 => tb { D with nx := Pv (i + 1), ct := Pv (i + 1), bk := D.nx } σ2 H2) (hd : ∀ σ H, Pv xs.length σ H → D.nx σ H) :
    ∃ W : Nat → Nat → St → Hp → Prop, (∃ m, W 0 m σ H) ∧ ∀ i m σ H, W i m σ H →
      ((Itt K a).stop i H ∧ D.nx σ H) ∨ ((Itt K a).go i H ∧ ∃ N : St → Hp → Prop, (∀ σ' H', N σ' H' → ∃ m', m' < m ∧ W (i + 1) m' σ' H') ∧ ∀ x H', (Itt K a).yld i H x H' → g x σ H' fun σ2 H2 => tb { D with nx := N, ct := N, bk := D.nx } σ2 H2) := by
  refine ⟨fun i m σ H => m = xs.length - i ∧ i ≤ xs.length ∧ Pv i σ H, ⟨xs.length, by simp, Nat.zero_le _, h0⟩, ?_⟩
  rintro i m σ H ⟨rfl, hi, p⟩
  have q := hl i σ H hi p
  by_cases hlt : i < xs.length
  · refine .inr ⟨⟨xs, xs[i], q, by simp [hlt]⟩, Pv (i + 1), fun σ' H' p' => ⟨xs.length - (i + 1), by omega, rfl, hlt, p'⟩, fun x H' y => ?_⟩
    obtain ⟨e, y⟩ := y
    subst e
    exact hs i x σ _ (y xs q) p
  · have e : i = xs.length := by omega
    subst e
    exact .inl ⟨⟨xs, q, Nat.le_refl _⟩, hd σ H p⟩
theorem for_range {lo : Int} {n : Nat} {g : TG} {tb : TS} {D : Ends} {σ : St} {H : Hp} (Pv : Nat → St → Hp → Prop) (h0 : Pv 0 σ H)
    (hs : ∀ i σ H, i < n → Pv i σ H → g (.int (lo + i)) σ H fun σ2 H2 => tb { D with nx := Pv (i + 1), ct := Pv (i + 1), bk := D.nx } σ2 H2) (hd : ∀ σ H, Pv n σ H → D.nx σ H) :
    ∃ W : Nat → Nat → St → Hp → Prop, (∃ m, W 0 m σ H) ∧ ∀ i m σ H, W i m σ H →
      ((Itr lo n).stop i H ∧ D.nx σ H) ∨ ((Itr lo n).go i H ∧ ∃ N : St → Hp → Prop, (∀ σ' H', N σ' H' → ∃ m', m' < m ∧ W (i + 1) m' σ' H') ∧ ∀ x H', (Itr lo n).yld i H x H' → g x σ H' fun σ2 H2 => tb { D with nx := N, ct := N, bk := D.nx } σ2 H2) := by
  refine ⟨fun i m σ H => m = n - i ∧ i ≤ n ∧ Pv i σ H, ⟨n, by simp, Nat.zero_le _, h0⟩, ?_⟩
  rintro i m σ H ⟨rfl, hi, p⟩
  by_cases hlt : i < n
  · refine .inr ⟨hlt, Pv (i + 1), fun σ' H' p' => ⟨n - (i + 1), by omega, rfl, hlt, p'⟩, fun x H' y => ?_⟩
    obtain ⟨e, y⟩ := y
    subst e y
    exact hs i σ _ hlt p
  · have e : i = n := by omega
    subst e
    exact .inl ⟨Nat.le_refl _, hd σ H p⟩
/-- while, by a word and a measure of the state -/
theorem while_by {c : TT} {tb : TS} {D : Ends} {σ : St} {H : Hp} (Pv : St → Hp → Prop) (μ : St → Hp → Nat) (h0 : Pv σ H)
    (hs : ∀ σ H, Pv σ H → c σ H fun b H1 => if b = true then tb { D with nx := fun σ' H' => Pv σ' H' ∧ μ σ' H' < μ σ H, ct := fun σ' H' => Pv σ' H' ∧ μ σ' H' < μ σ H, bk := D.nx } σ H1 else D.nx σ H1)
    (mono : ∀ σ H Q Q', (∀ b H1, Q b H1 → Q' b H1) → c σ H Q → c σ H Q') : tWhile c tb D σ H := by
  refine ⟨fun m σ H => m = μ σ H ∧ Pv σ H, ⟨_, rfl, h0⟩, ?_⟩
  rintro m σ H ⟨rfl, p⟩
  refine mono σ H _ _ (fun b H1 q => ?_) (hs σ H p)
  cases b with
  | true => exact ⟨_, fun σ' H' ⟨p', l⟩ => ⟨_, l, rfl, p'⟩, q⟩
  | false => exact q
end L2

namespace L2
open PySem PySem.Spec PyProof.Rows

abbrev R2 := V → V → Hp → VK → Prop
/-- a two-place operation on values: f is binaryOp op, inplaceOp op or compareOp op -/
def OpR (X : Cx) (f : Value → Value → Sem Value) (r : R2) : Prop :=
  ∀ (pins : List (Addr × Obj)) (s : Shared) (σ : St) (H : Hp) (x y : V) (v u : Value) (Q : VK), Inv X pins σ H s → RelV x v → RelV y u → r x y H Q →
    wpAny (model X.prog X.w) X.A (f v u) (EP X pins σ Q) X.xe s
/-- a one-place operation -/
def UnR (X : Cx) (f : Value → Sem Value) (r : V → Hp → VK → Prop) : Prop :=
  ∀ (pins : List (Addr × Obj)) (s : Shared) (σ : St) (H : Hp) (x : V) (v : Value) (Q : VK), Inv X pins σ H s → RelV x v → r x H Q →
    wpAny (model X.prog X.w) X.A (f v) (EP X pins σ Q) X.xe s
/-- a call of a value that is known (a builtin, a type) with values -/
def CallR (X : Cx) (f : Value) (r : List V → Hp → VK → Prop) : Prop :=
  ∀ (pins : List (Addr × Obj)) (s : Shared) (σ : St) (H : Hp) (xs : List V) (us : List Value) (Q : VK), Inv X pins σ H s → Vals xs us → r xs H Q →
    wpAny (model X.prog X.w) X.A (call f us) (EP X pins σ Q) X.xe s
/-- a value's truth -/
def TruR (X : Cx) (r : V → Hp → (Bool → Hp → Prop) → Prop) : Prop :=
  ∀ (pins : List (Addr × Obj)) (s : Shared) (σ : St) (H : Hp) (x : V) (v : Value) (Q : Bool → Hp → Prop), Inv X pins σ H s → RelV x v → r x H Q →
    wpAny (model X.prog X.w) X.A (truthy v) (TP X pins σ Q) X.xe s

def tOp (r : R2) (ta tb : TE) : TE := fun σ H Q => ta σ H fun x H1 => tb σ H1 fun y H2 => r x y H2 Q
def tUn (r : V → Hp → VK → Prop) (ta : TE) : TE := fun σ H Q => ta σ H fun x H1 => r x H1 Q
/-- ints in, under C, and a value out -/
def rI (C : Int → Int → Prop) (g : Int → Int → V) : R2 := fun x y H Q => ∃ i j, x = .int i ∧ y = .int j ∧ C i j ∧ Q (g i j) H
def rI0 (g : Int → Int → V) : R2 := fun x y H Q => ∃ i j, x = .int i ∧ y = .int j ∧ Q (g i j) H
def rU (g : Int → V) : V → Hp → VK → Prop := fun x H Q => ∃ i, x = .int i ∧ Q (g i) H

section
variable {X : Cx} {a b c : Expr} {ta tb tc : TE} {pos : Pos}

theorem binT (ha : PE X a ta) (hb : PE X b tb) {pins : List (Addr × Obj)} {s : Shared} {σ : St} {H : Hp} {R : V → V → Hp → Prop} (I : Inv X pins σ H s)
    (h : ta σ H fun x H1 => tb σ H1 fun y H2 => R x y H2) {Q : Value → Shared → Prop} {f : Value → Value → Sem Value}
    (hf : ∀ v u s2 x y H2, Inv X pins σ H2 s2 → RelV x v → RelV y u → R x y H2 → wpAny (model X.prog X.w) X.A (f v u) Q X.xe s2) :
    wpAny (model X.prog X.w) X.A (eval a X.env) (fun v s₁ => wpAny (model X.prog X.w) X.A (eval b X.env) (fun u s₂ => wpAny (model X.prog X.w) X.A (f v u) Q X.xe s₂) X.xe s₁) X.xe s := by
  refine thn (ha pins s σ H _ I h) fun v s1 ⟨x, H1, I1, r1, q1⟩ => ?_
  refine thn (hb pins s1 σ H1 _ I1 q1) fun u s2 ⟨y, H2, I2, r2, q2⟩ => ?_
  exact hf v u s2 x y H2 I2 r1 r2 q2

theorem pe_op {op : Operator} {r : R2} (ho : OpR X (binaryOp op) r) (ha : PE X a ta) (hb : PE X b tb) : PE X (.BinOp a op b pos) (tOp r ta tb) := by
  intro pins s σ H Q I h
  exact wpAny_BinOp (binT ha hb I h fun v u s2 x y H2 I2 rx ry q => ho pins s2 σ H2 x y v u Q I2 rx ry q)
theorem pe_un {op : UnaryOp} {r : V → Hp → VK → Prop} (ho : UnR X (unaryOp op) r) (ha : PE X a ta) : PE X (.UnaryOp op a pos) (tUn r ta) := by
  intro pins s σ H Q I h
  exact UnaryOp_ (thn (ha pins s σ H _ I h) fun v s1 ⟨x, H1, I1, r1, q1⟩ => ho pins s1 σ H1 x v Q I1 r1 q1)
/-- a op= e at a name: the name's slot i -/
theorem augR {op : Operator} {r : R2} (ho : OpR X (inplaceOp op) r) {pins : List (Addr × Obj)} {s : Shared} {σ : St} {H : Hp} {x y : V} {v u : Value} {Q : VK} (I : Inv X pins σ H s)
    (rx : RelV x v) (ry : RelV y u) (q : r x y H Q) : wpAny (model X.prog X.w) X.A (inplaceOp op v u) (EP X pins σ Q) X.xe s := ho pins s σ H x y v u Q I rx ry q

/-! ### ints -/
theorem opI {f : Value → Value → Sem Value} {C : Int → Int → Prop} {g : Int → Int → Int}
    (rule : ∀ (i j : Int) (t u : Tok) (s : Shared) (Q : Value → Shared → Prop) (E : Value → Shared → Prop), C i j → Q (.int (g i j) s.toks) { s with toks := s.toks + 1 } → wpAny (model X.prog X.w) X.A (f (.int i t) (.int j u)) Q E s) :
    OpR X f (rI C fun i j => .int (g i j)) := by
  intro pins s σ H x y v u Q I rx ry h
  obtain ⟨i, j, rfl, rfl, hc, q⟩ := h
  obtain ⟨t, rfl⟩ := rx
  obtain ⟨t', rfl⟩ := ry
  exact rule i j t t' s _ _ hc ⟨.int (g i j), H, I.tok _, ⟨_, rfl⟩, q⟩
theorem opI0 {f : Value → Value → Sem Value} {g : Int → Int → Int}
    (rule : ∀ (i j : Int) (t u : Tok) (s : Shared) (Q : Value → Shared → Prop) (E : Value → Shared → Prop), Q (.int (g i j) s.toks) { s with toks := s.toks + 1 } → wpAny (model X.prog X.w) X.A (f (.int i t) (.int j u)) Q E s) :
    OpR X f (rI0 fun i j => .int (g i j)) := by
  intro pins s σ H x y v u Q I rx ry h
  obtain ⟨i, j, rfl, rfl, q⟩ := h
  obtain ⟨t, rfl⟩ := rx
  obtain ⟨t', rfl⟩ := ry
  exact rule i j t t' s _ _ ⟨.int (g i j), H, I.tok _, ⟨_, rfl⟩, q⟩
theorem opB0 {f : Value → Value → Sem Value} {g : Int → Int → Bool}
    (rule : ∀ (i j : Int) (t u : Tok) (s : Shared) (Q : Value → Shared → Prop) (E : Value → Shared → Prop), Q (.bool (g i j)) s → wpAny (model X.prog X.w) X.A (f (.int i t) (.int j u)) Q E s) :
    OpR X f (rI0 fun i j => .bl (g i j)) := by
  intro pins s σ H x y v u Q I rx ry h
  obtain ⟨i, j, rfl, rfl, q⟩ := h
  obtain ⟨t, rfl⟩ := rx
  obtain ⟨t', rfl⟩ := ry
  exact rule i j t t' s _ _ ⟨.bl (g i j), H, I, rfl, q⟩

def CDiv (i j : Int) : Prop := 0 < j ∧ j < 1073741824
def CDivN (i j : Int) : Prop := j ≠ 0 ∧ j.natAbs < 1073741824
def CPow (i j : Int) : Prop := 0 ≤ j ∧ j ≤ 1000000 ∧ i.natAbs < 2 ^ 64
def CMul (i j : Int) : Prop := (-(2 ^ 64) < i ∧ i < 2 ^ 64) ∨ (-(2 ^ 64) < j ∧ j < 2 ^ 64)
theorem CMul.ok {i j : Int} (h : CMul i j) : IntMulOk i j := by
  rcases h with ⟨h1, h2⟩ | ⟨h1, h2⟩
  · exact .of_left (intBits_le_64 h1 h2)
  · exact .of_right (intBits_le_64 h1 h2)
theorem two_pow_nn (k : Nat) : (0 : Int) ≤ 2 ^ k := by
  rw [two_pow_cast]
  exact Int.natCast_nonneg _

theorem op_add : OpR X (binaryOp .Add) (rI0 fun i j => .int (i + j)) := opI0 fun _ _ _ _ _ _ _ q => add_int q
theorem op_sub : OpR X (binaryOp .Sub) (rI0 fun i j => .int (i - j)) := opI0 fun _ _ _ _ _ _ _ q => sub_int q
theorem op_mul : OpR X (binaryOp .Mult) (rI CMul fun i j => .int (i * j)) := opI fun _ _ _ _ _ _ _ hc q => mul_int q hc.ok
/-- // by a positive divisor -/
theorem op_fdiv : OpR X (binaryOp .FloorDiv) (rI CDiv fun i j => .int (i / j)) := opI fun i j _ _ _ _ _ hc q => by
  have h1 : (0 : Int) < j := hc.1
  have h2 : j < 1073741824 := hc.2
  exact floordiv_int (by omega) (by rw [Int.fdiv_eq_ediv_of_nonneg i (by omega)]; exact q) (.inl (PyProof.noPylong_small (by omega)))
theorem op_fdivN : OpR X (binaryOp .FloorDiv) (rI CDivN fun i j => .int (i.fdiv j)) := opI fun _ _ _ _ _ _ _ hc q => floordiv_int hc.1 q (.inl (PyProof.noPylong_small hc.2))
/-- % by a positive divisor of any size -/
theorem op_mod : OpR X (binaryOp .Mod) (rI (fun _ j => 0 < j) fun i j => .int (i % j)) := opI fun i j _ _ _ _ _ hc q => by
  have h1 : (0 : Int) < j := hc
  exact mod_int' (by omega) (by rw [Int.fmod_eq_emod_of_nonneg i (by omega)]; exact q)
theorem op_modN : OpR X (binaryOp .Mod) (rI (fun _ j => j ≠ 0) fun i j => .int (i.fmod j)) := opI fun _ _ _ _ _ _ _ hc q => mod_int' hc q
theorem op_pow : OpR X (binaryOp .Pow) (rI CPow fun i j => .int (i ^ j.toNat)) := opI fun _ _ _ _ _ _ _ hc q => pow_int_small hc.1 hc.2.1 hc.2.2 q
theorem op_shl : OpR X (binaryOp .LShift) (rI CPow fun i j => .int (i * 2 ^ j.toNat)) := opI fun _ _ _ _ _ _ _ hc q => lshift_int_small hc.1 hc.2.1 hc.2.2 q
theorem op_shr : OpR X (binaryOp .RShift) (rI (fun _ j => 0 ≤ j) fun i j => .int (i / 2 ^ j.toNat)) := opI fun i j _ _ _ _ _ hc q =>
  rshift_int hc (by rw [Int.fdiv_eq_ediv_of_nonneg i (two_pow_nn _)]; exact q)
theorem op_and : OpR X (binaryOp .BitAnd) (rI0 fun i j => .int (Builtin.bitAnd i j)) := opI0 fun _ _ _ _ _ _ _ q => and_int q
theorem op_or : OpR X (binaryOp .BitOr) (rI0 fun i j => .int (Builtin.bitOr i j)) := opI0 fun _ _ _ _ _ _ _ q => or_int q
theorem op_xor : OpR X (binaryOp .BitXor) (rI0 fun i j => .int (Builtin.bitXor i j)) := opI0 fun _ _ _ _ _ _ _ q => xor_int q

theorem iop_add : OpR X (inplaceOp .Add) (rI0 fun i j => .int (i + j)) := opI0 fun _ _ _ _ _ _ _ q => iadd_int q
theorem iop_sub : OpR X (inplaceOp .Sub) (rI0 fun i j => .int (i - j)) := opI0 fun _ _ _ _ _ _ _ q => isub_int q
theorem iop_mul : OpR X (inplaceOp .Mult) (rI CMul fun i j => .int (i * j)) := opI fun _ _ _ _ _ _ _ hc q => imul_int q hc.ok
theorem iop_fdiv : OpR X (inplaceOp .FloorDiv) (rI CDiv fun i j => .int (i / j)) := opI fun i j _ _ _ _ _ hc q => by
  have h1 : (0 : Int) < j := hc.1
  have h2 : j < 1073741824 := hc.2
  exact ifloordiv_int (by omega) (by rw [Int.fdiv_eq_ediv_of_nonneg i (by omega)]; exact q) (.inl (PyProof.noPylong_small (by omega)))
theorem iop_mod : OpR X (inplaceOp .Mod) (rI (fun _ j => 0 < j) fun i j => .int (i % j)) := opI fun i j _ _ _ _ _ hc q => by
  have h1 : (0 : Int) < j := hc
  exact imod_int (by omega) (by rw [Int.fmod_eq_emod_of_nonneg i (by omega)]; exact q)
theorem iop_shl : OpR X (inplaceOp .LShift) (rI CPow fun i j => .int (i * 2 ^ j.toNat)) := opI fun _ _ _ _ _ _ _ hc q => ilshift_int_small hc.1 hc.2.1 hc.2.2 q
theorem iop_shr : OpR X (inplaceOp .RShift) (rI (fun _ j => 0 ≤ j) fun i j => .int (i / 2 ^ j.toNat)) := opI fun i j _ _ _ _ _ hc q =>
  irshift_int hc (by rw [Int.fdiv_eq_ediv_of_nonneg i (two_pow_nn _)]; exact q)
theorem iop_and : OpR X (inplaceOp .BitAnd) (rI0 fun i j => .int (Builtin.bitAnd i j)) := opI0 fun _ _ _ _ _ _ _ q => iand_int q
theorem iop_or : OpR X (inplaceOp .BitOr) (rI0 fun i j => .int (Builtin.bitOr i j)) := opI0 fun _ _ _ _ _ _ _ q => ior_int q
theorem iop_xor : OpR X (inplaceOp .BitXor) (rI0 fun i j => .int (Builtin.bitXor i j)) := opI0 fun _ _ _ _ _ _ _ q => ixor_int q

theorem unI {f : Value → Sem Value} {g : Int → Int}
    (rule : ∀ (i : Int) (t : Tok) (s : Shared) (Q : Value → Shared → Prop) (E : Value → Shared → Prop), Q (.int (g i) s.toks) { s with toks := s.toks + 1 } → wpAny (model X.prog X.w) X.A (f (.int i t)) Q E s) :
    UnR X f (rU fun i => .int (g i)) := by
  intro pins s σ H x v Q I rx h
  obtain ⟨i, rfl, q⟩ := h
  obtain ⟨t, rfl⟩ := rx
  exact rule i t s _ _ ⟨.int (g i), H, I.tok _, ⟨_, rfl⟩, q⟩
theorem un_neg : UnR X (unaryOp .USub) (rU fun i => .int (-i)) := unI fun _ _ _ _ _ q => neg_int q
theorem un_inv : UnR X (unaryOp .Invert) (rU fun i => .int (Builtin.bitNot i)) := unI fun _ _ _ _ _ q => invert_int q

/-! ### bools among ints: n += (a < b) -/
theorem op_add_ib : OpR X (binaryOp .Add) (fun x y H Q => ∃ i k, x = .int i ∧ y = .bl k ∧ Q (.int (i + b2i k)) H) := by
  intro pins s σ H x y v u Q I rx ry h
  obtain ⟨i, k, rfl, rfl, q⟩ := h
  obtain ⟨t, rfl⟩ := rx
  cases ry
  exact add_int_bool ⟨.int (i + b2i k), H, I.tok _, ⟨_, rfl⟩, q⟩
end

/-! ### comparisons -/
/-- the scalars that == tells apart as data does -/
def scal : V → V → Bool
  | .non, .non => true | .non, .int _ => true | .int _, .non => true | .non, .bl _ => true | .bl _, .non => true | .non, .str _ => true | .str _, .non => true
  | .int _, .int _ => true | .bl _, .bl _ => true | .str _, .str _ => true | .byt _, .byt _ => true
  | .int _, .str _ => true | .str _, .int _ => true | .bl _, .str _ => true | .str _, .bl _ => true
  | _, _ => false
def rEq : R2 := fun x y H Q => scal x y = true ∧ Q (.bl (decide (x = y))) H
def rNe : R2 := fun x y H Q => scal x y = true ∧ Q (.bl (!decide (x = y))) H

theorem dec_int {i j : Int} : decide (V.int i = V.int j) = (i == j) := by
  rw [Bool.eq_iff_iff]
  simp
theorem dec_bl {i j : Bool} : decide (V.bl i = V.bl j) = (i == j) := by
  rw [Bool.eq_iff_iff]
  simp
theorem dec_str {i j : Str} : decide (V.str i = V.str j) = (i == j) := by
  rw [Bool.eq_iff_iff]
  simp
theorem dec_byt {i j : Array UInt8} : decide (V.byt i = V.byt j) = (i.toList == j.toList) := by
  rw [Bool.eq_iff_iff]
  cases i
  cases j
  simp

section
variable {X : Cx} {a b c : Expr} {ta tb tc : TE} {pos : Pos}
theorem fin_bl {pins : List (Addr × Obj)} {σ : St} {H : Hp} {s : Shared} {Q : VK} {k k' : Bool} (I : Inv X pins σ H s) (q : Q (.bl k) H) (e : k = k') : EP X pins σ Q (.bool k') s := by
  subst e
  exact ⟨.bl k, H, I, rfl, q⟩
theorem op_eq : OpR X (compareOp .Eq) rEq := by
  intro pins s σ H x y v u Q I rx ry h
  obtain ⟨hs, q⟩ := h
  cases x with
  | non =>
    cases rx
    cases y with
    | non => cases ry; exact PySem.EqNone.eq_none_none (fin_bl I q (by simp))
    | bl j => cases ry; exact PySem.EqNone.eq_none_bool (fin_bl I q (by simp))
    | int j => obtain ⟨t', rfl⟩ := ry; exact PySem.EqNone.eq_none_int (fin_bl I q (by simp))
    | str j => obtain ⟨t', rfl⟩ := ry; exact PySem.EqNone.eq_none_str (fin_bl I q (by simp))
    | _ => exact absurd (show false = true from hs) Bool.false_ne_true
  | bl i =>
    cases rx
    cases y with
    | non => cases ry; exact PySem.EqNone.eq_bool_none (fin_bl I q (by simp))
    | bl j => cases ry; exact eq_bool (fin_bl I q dec_bl)
    | str j => obtain ⟨t', rfl⟩ := ry; exact PySem.EqMixed.eq_bool_str (fin_bl I q (by simp))
    | _ => exact absurd (show false = true from hs) Bool.false_ne_true
  | int i =>
    obtain ⟨t, rfl⟩ := rx
    cases y with
    | non => cases ry; exact PySem.EqNone.eq_int_none (fin_bl I q (by simp))
    | int j => obtain ⟨t', rfl⟩ := ry; exact eq_int (fin_bl I q dec_int)
    | str j => obtain ⟨t', rfl⟩ := ry; exact PySem.EqMixed.eq_int_str (fin_bl I q (by simp))
    | _ => exact absurd (show false = true from hs) Bool.false_ne_true
  | str i =>
    obtain ⟨t, rfl⟩ := rx
    cases y with
    | non => cases ry; exact PySem.EqNone.eq_str_none (fin_bl I q (by simp))
    | bl j => cases ry; exact PySem.EqMixed.eq_str_bool (fin_bl I q (by simp))
    | int j => obtain ⟨t', rfl⟩ := ry; exact PySem.EqMixed.eq_str_int (fin_bl I q (by simp))
    | str j => obtain ⟨t', rfl⟩ := ry; exact eq_str (fin_bl I q dec_str)
    | _ => exact absurd (show false = true from hs) Bool.false_ne_true
  | byt i =>
    obtain ⟨t, rfl⟩ := rx
    cases y with
    | byt j => obtain ⟨t', rfl⟩ := ry; exact PySem.W.eq_bytes (fin_bl I q dec_byt)
    | _ => exact absurd (show false = true from hs) Bool.false_ne_true
  | _ => cases y <;> exact absurd (show false = true from hs) Bool.false_ne_true
theorem op_ne : OpR X (compareOp .NotEq) rNe := by
  intro pins s σ H x y v u Q I rx ry h
  obtain ⟨hs, q⟩ := h
  cases x with
  | non =>
    cases rx
    cases y with
    | non => cases ry; exact PySem.EqNone.ne_none_none (fin_bl I q (by simp))
    | bl j => cases ry; exact PySem.EqNone.ne_none_bool (fin_bl I q (by simp))
    | int j => obtain ⟨t', rfl⟩ := ry; exact PySem.EqNone.ne_none_int (fin_bl I q (by simp))
    | str j => obtain ⟨t', rfl⟩ := ry; exact PySem.EqNone.ne_none_str (fin_bl I q (by simp))
    | _ => exact absurd (show false = true from hs) Bool.false_ne_true
  | bl i =>
    cases rx
    cases y with
    | non => cases ry; exact PySem.EqNone.ne_bool_none (fin_bl I q (by simp))
    | bl j => cases ry; exact ne_bool (fin_bl I q (congrArg not dec_bl))
    | str j => obtain ⟨t', rfl⟩ := ry; exact PySem.EqMixed.ne_bool_str (fin_bl I q (by simp))
    | _ => exact absurd (show false = true from hs) Bool.false_ne_true
  | int i =>
    obtain ⟨t, rfl⟩ := rx
    cases y with
    | non => cases ry; exact PySem.EqNone.ne_int_none (fin_bl I q (by simp))
    | int j => obtain ⟨t', rfl⟩ := ry; exact ne_int (fin_bl I q (congrArg not dec_int))
    | str j => obtain ⟨t', rfl⟩ := ry; exact PySem.EqMixed.ne_int_str (fin_bl I q (by simp))
    | _ => exact absurd (show false = true from hs) Bool.false_ne_true
  | str i =>
    obtain ⟨t, rfl⟩ := rx
    cases y with
    | non => cases ry; exact PySem.EqNone.ne_str_none (fin_bl I q (by simp))
    | bl j => cases ry; exact PySem.EqMixed.ne_str_bool (fin_bl I q (by simp))
    | int j => obtain ⟨t', rfl⟩ := ry; exact PySem.EqMixed.ne_str_int (fin_bl I q (by simp))
    | str j => obtain ⟨t', rfl⟩ := ry; exact ne_str (fin_bl I q (congrArg not dec_str))
    | _ => exact absurd (show false = true from hs) Bool.false_ne_true
  | byt i =>
    obtain ⟨t, rfl⟩ := rx
    cases y with
    | byt j => obtain ⟨t', rfl⟩ := ry; exact PySem.W.ne_bytes (fin_bl I q (congrArg not dec_byt))
    | _ => exact absurd (show false = true from hs) Bool.false_ne_true
  | _ => cases y <;> exact absurd (show false = true from hs) Bool.false_ne_true

theorem op_lt : OpR X (compareOp .Lt) (rI0 fun i j => .bl (decide (i < j))) := opB0 fun _ _ _ _ _ _ _ q => lt_int q
theorem op_le : OpR X (compareOp .LtE) (rI0 fun i j => .bl (decide (i ≤ j))) := opB0 fun _ _ _ _ _ _ _ q => le_int q
theorem op_gt : OpR X (compareOp .Gt) (rI0 fun i j => .bl (decide (j < i))) := opB0 fun _ _ _ _ _ _ _ q => gt_int q
theorem op_ge : OpR X (compareOp .GtE) (rI0 fun i j => .bl (decide (j ≤ i))) := opB0 fun _ _ _ _ _ _ _ q => ge_int q
theorem op_lt_str : OpR X (compareOp .Lt) (fun x y H Q => ∃ i j, x = .str i ∧ y = .str j ∧ Q (.bl (decide (i.cps.toList < j.cps.toList))) H) := by
  intro pins s σ H x y v u Q I rx ry h
  obtain ⟨i, j, rfl, rfl, q⟩ := h
  obtain ⟨t, rfl⟩ := rx
  obtain ⟨t', rfl⟩ := ry
  exact lt_str (fin_bl I q rfl)
/-- the one string within the other -/
theorem op_in_str : OpR X (compareOp .In) (fun x y H Q => ∃ i j, x = .str i ∧ y = .str j ∧ Q (.bl (!(Builtin.Str.occurrences j i 0 j.length 1).isEmpty)) H) := by
  intro pins s σ H x y v u Q I rx ry h
  obtain ⟨i, j, rfl, rfl, q⟩ := h
  obtain ⟨t, rfl⟩ := rx
  obtain ⟨t', rfl⟩ := ry
  exact in_str (fin_bl I q rfl)

/-- is None, is not None: the right side a value none -/
theorem op_isN : OpR X (compareOp .Is) (fun x y H Q => y = .non ∧ Q (.bl (decide (x = .non))) H) := by
  intro pins s σ H x y v u Q I rx ry h
  obtain ⟨rfl, q⟩ := h
  cases ry
  refine is_none_gen (fin_bl I q ?_)
  cases x <;> first
    | (cases rx; rfl)
    | (obtain ⟨t, rfl⟩ := rx; rfl)
theorem op_notN : OpR X (compareOp .IsNot) (fun x y H Q => y = .non ∧ Q (.bl (!decide (x = .non))) H) := by
  intro pins s σ H x y v u Q I rx ry h
  obtain ⟨rfl, q⟩ := h
  cases ry
  refine isnot_none_gen (fin_bl I q ?_)
  cases x <;> first
    | (cases rx; rfl)
    | (obtain ⟨t, rfl⟩ := rx; rfl)

theorem op_notin_str : OpR X (compareOp .NotIn) (fun x y H Q => ∃ i j, x = .str i ∧ y = .str j ∧ Q (.bl (!(!(Builtin.Str.occurrences j i 0 j.length 1).isEmpty))) H) := by
  intro pins s σ H x y v u Q I rx ry h
  obtain ⟨i, j, rfl, rfl, q⟩ := h
  obtain ⟨t, rfl⟩ := rx
  obtain ⟨t', rfl⟩ := ry
  exact notIn_str (fin_bl I q rfl)
/-- is, is not of two objects that are tracked lists or instances -/
def isObj : HO → Bool
  | .lst _ => true
  | .ins _ _ _ => true
  | _ => false
theorem obj_there {pins : List (Addr × Obj)} {s : Shared} {σ : St} {H : Hp} {a : Addr} {o : HO} (I : Inv X pins σ H s) (h : H a = some o) (p : isObj o = true) : ∃ ob, s.heap.get? a = some ob ∧ ob.cls ≠ .type "tuple" := by
  cases o with
  | lst xs =>
    obtain ⟨_, its, n, _, e⟩ : xs.length ≤ sizeLine ∧ ∃ (its : List Value) (n : Nat), Vals xs its ∧ s.heap.get? a = some { cls := .type "list", data := .seq its.toArray n } := I.hok a _ h
    exact ⟨_, e, (by show Value.type "list" ≠ .type "tuple"; decide +kernel)⟩
  | ins C dx fs =>
    have x := I.hok a _ h
    obtain ⟨_, _, _, e, _⟩ := x
    exact ⟨_, e, (by show Value.ref C ≠ .type "tuple"; exact fun z => by cases z)⟩
  | _ => exact absurd (show false = true from p) Bool.false_ne_true
theorem op_is_ref : OpR X (compareOp .Is) (fun x y H Q => ∃ a b oa ob, x = .ref a ∧ y = .ref b ∧ H a = some oa ∧ isObj oa = true ∧ H b = some ob ∧ isObj ob = true ∧ Q (.bl (decide (a = b))) H) := by
  intro pins s σ H x y v u Q I rx ry h
  obtain ⟨a, b, oa, ob, rfl, rfl, ha, pa, hb, pb, q⟩ := h
  cases rx
  cases ry
  obtain ⟨o1, e1, n1⟩ := obj_there I ha pa
  obtain ⟨o2, e2, _⟩ := obj_there I hb pb
  by_cases z : a = b
  · subst z
    exact wpAny_is_ref_self (fin_bl I q (by simp))
  · exact wpAny_is_ref_other z e1 e2 n1 (fin_bl I q (by simp [z]))
theorem op_isnot_ref : OpR X (compareOp .IsNot) (fun x y H Q => ∃ a b oa ob, x = .ref a ∧ y = .ref b ∧ H a = some oa ∧ isObj oa = true ∧ H b = some ob ∧ isObj ob = true ∧ Q (.bl (!decide (a = b))) H) := by
  intro pins s σ H x y v u Q I rx ry h
  obtain ⟨a, b, oa, ob, rfl, rfl, ha, pa, hb, pb, q⟩ := h
  cases rx
  cases ry
  obtain ⟨o1, e1, n1⟩ := obj_there I ha pa
  obtain ⟨o2, e2, _⟩ := obj_there I hb pb
  by_cases z : a = b
  · subst z
    exact wpAny_isNot_ref_self (fin_bl I q (by simp))
  · exact wpAny_isNot_ref_other z e1 e2 n1 (fin_bl I q (by simp [z]))

/-- two rules for one operation: by cases -/
theorem OpR.or {f : Value → Value → Sem Value} {r r' : R2} (h : OpR X f r) (h' : OpR X f r') : OpR X f (fun x y H Q => r x y H Q ∨ r' x y H Q) := by
  intro pins s σ H x y v u Q I rx ry q
  rcases q with q | q
  · exact h pins s σ H x y v u Q I rx ry q
  · exact h' pins s σ H x y v u Q I rx ry q

theorem nomark (b : Expr) {op : CmpOp} (h : op ≠ .In := by decide) (h2 : op ≠ .NotIn := by decide) : behindInMarks op b = false := by
  have e1 : (op == CmpOp.In) = false := by cases op <;> first | rfl | exact absurd rfl h
  have e2 : (op == CmpOp.NotIn) = false := by cases op <;> first | rfl | exact absurd rfl h2
  cases b <;> simp [behindInMarks, e1, e2]
/-- a comparison as a value; hm: nomark b, or (for in, not in) by with_unfolding_all rfl -/
theorem pe_cmpR {op : CmpOp} {r : R2} (ho : OpR X (compareOp op) r) (ha : PE X a ta) (hb : PE X b tb) (hm : behindInMarks op b = false) : PE X (.Compare a [op] [b] pos) (tOp r ta tb) := by
  intro pins s σ H Q I h
  exact wpAny_Compare1 (binT ha hb I h fun v u s2 x y H2 I2 rx ry q => ho pins s2 σ H2 x y v u Q I2 rx ry q) hm
/-- a reading of a value as a test -/
def tTest (t : TE) : TT := fun σ H Q => t σ H fun x H' => ∃ k, x = .bl k ∧ Q k H'
theorem pt_cmpR {op : CmpOp} {r : R2} (ho : OpR X (compareOp op) r) (ha : PE X a ta) (hb : PE X b tb) (hm : behindInMarks op b = false) : PT X (.Compare a [op] [b] pos) (tTest (tOp r ta tb)) := by
  intro pins s σ H Q I h
  refine wpAny_isTrue_Compare1 (thn (ha pins s σ H _ I h) fun v s1 ⟨x, H1, I1, r1, q1⟩ => thn (hb pins s1 σ H1 _ I1 q1) fun u s2 ⟨y, H2, I2, r2, q2⟩ =>
    thn (ho pins s2 σ H2 x y v u _ I2 r1 r2 q2) fun c s3 ⟨z, H3, I3, r3, k, e, q3⟩ => ?_) hm
  subst e
  cases r3
  exact wpAny_truthy_bool ⟨H3, I3, q3⟩
/-- a op1 b op2 c -/
def tChain (r r' : R2) (ta tb tc : TE) : TE := fun σ H Q => ta σ H fun x H1 => tb σ H1 fun y H2 => r x y H2 fun z H3 => ∃ k, z = .bl k ∧
  (if k = true then tc σ H3 fun w' H4 => r' y w' H4 Q else Q (.bl false) H3)
theorem pe_chain {op op' : CmpOp} {r r' : R2} (ho : OpR X (compareOp op) r) (ho' : OpR X (compareOp op') r') (ha : PE X a ta) (hb : PE X b tb) (hc : PE X c tc)
    (hm : lastMarks [op, op'] [b, c] = false := by with_unfolding_all rfl) : PE X (.Compare a [op, op'] [b, c] pos) (tChain r r' ta tb tc) := by
  intro pins s σ H Q I h
  refine Compare_chain (thn (ha pins s σ H _ I h) fun v s1 ⟨x, H1, I1, r1, q1⟩ => chain_link (thn (hb pins s1 σ H1 _ I1 q1) fun u s2 ⟨y, H2, I2, r2, q2⟩ =>
    thn (ho pins s2 σ H2 x y v u _ I2 r1 r2 q2) fun d s3 ⟨z, H3, I3, r3, k, e, q3⟩ => ?_)) hm
  subst e
  cases r3
  refine wpAny_truthy_bool ?_
  cases k with
  | false => exact ite_ff ⟨.bl false, H3, I3, rfl, q3⟩
  | true => exact ite_tt (chain_last (thn (hc pins s3 σ H3 _ I3 q3) fun w' s4 ⟨z', H4, I4, r4, q4⟩ => ho' pins s4 σ H4 y z' u w' Q I4 r2 r4 q4))
theorem pt_chain {op op' : CmpOp} {r r' : R2} (ho : OpR X (compareOp op) r) (ho' : OpR X (compareOp op') r') (ha : PE X a ta) (hb : PE X b tb) (hc : PE X c tc)
    (hm : lastMarks [op, op'] [b, c] = false := by with_unfolding_all rfl) : PT X (.Compare a [op, op'] [b, c] pos) (tTest (tChain r r' ta tb tc)) := by
  intro pins s σ H Q I h
  refine isTrue_chain (thn (ha pins s σ H _ I h) fun v s1 ⟨x, H1, I1, r1, q1⟩ => test_link (thn (hb pins s1 σ H1 _ I1 q1) fun u s2 ⟨y, H2, I2, r2, q2⟩ =>
    thn (ho pins s2 σ H2 x y v u _ I2 r1 r2 q2) fun d s3 ⟨z, H3, I3, r3, k, e, q3⟩ => ?_)) hm
  subst e
  cases r3
  refine wpAny_truthy_bool ?_
  cases k with
  | false =>
    obtain ⟨k', e', q'⟩ := q3
    cases e'
    exact ite_ff ⟨H3, I3, q'⟩
  | true =>
    refine ite_tt (test_last (thn (hc pins s3 σ H3 _ I3 q3) fun w' s4 ⟨z', H4, I4, r4, q4⟩ => thn (ho' pins s4 σ H4 y z' u w' _ I4 r2 r4 q4) fun d' s5 ⟨z2, H5, I5, r5, k2, e2, q5⟩ => ?_))
    subst e2
    cases r5
    exact wpAny_truthy_bool ⟨H5, I5, q5⟩

/-! ### truth -/
/-- a value's truth by the abstract heap -/
def TruV (K : PySem.W.Frag) (x : V) (H : Hp) (k : Bool) : Prop :=
  match x with
  | .non => k = false
  | .bl b => k = b
  | .int i => k = (i != 0)
  | .str y => y.length ≤ sizeLine ∧ k = ((y.length : Int) != 0)
  | .byt y => y.size ≤ sizeLine ∧ k = ((y.size : Int) != 0)
  | .ref p => (∃ xs, SqL K H p xs ∧ k = !xs.isEmpty) ∨ (∃ xs, SqT K H p xs ∧ k = !xs.isEmpty) ∨ ∃ kvs, H p = some (.dK kvs) ∧ k = !kvs.isEmpty
  | _ => False
theorem isEmpty_kv {κ : Type} {kvs : List (κ × V)} {vs : List (κ × Value)} (r : KV kvs vs) : (!vs.isEmpty) = !kvs.isEmpty := by
  cases r <;> rfl
theorem isEmpty_of {xs : List V} {its : List Value} (r : Vals xs its) : (!its.toArray.isEmpty) = !xs.isEmpty := by
  cases r <;> simp
theorem line63 : (sizeLine : Nat) < 2 ^ 63 := by rw [sizeLine_eq]; decide
theorem tru_ok : TruR X (fun x H Q => ∃ k, TruV X.K x H k ∧ Q k H) := by
  intro pins s σ H x v Q I rx h
  obtain ⟨k, e, q⟩ := h
  have hl := line63
  have hs : sizeLine = 16777216 := sizeLine_eq
  cases x with
  | non =>
    cases rx
    have e' : k = false := e
    subst e'
    exact truthy_none ⟨H, I, q⟩
  | bl b =>
    cases rx
    have e' : k = b := e
    subst e'
    exact wpAny_truthy_bool ⟨H, I, q⟩
  | int i =>
    obtain ⟨t, rfl⟩ := rx
    have e' : k = (i != 0) := e
    subst e'
    exact PySem.P.truthy_int ⟨H, I, q⟩
  | str y =>
    obtain ⟨t, rfl⟩ := rx
    obtain ⟨hy, e'⟩ : y.length ≤ sizeLine ∧ k = ((y.length : Int) != 0) := e
    subst e'
    exact PySem.P.truthy_str (by omega) ⟨H, I.tok _, q⟩
  | byt y =>
    obtain ⟨t, rfl⟩ := rx
    obtain ⟨hy, e'⟩ : y.size ≤ sizeLine ∧ k = ((y.size : Int) != 0) := e
    subst e'
    exact PySem.W.truthy_bytes (by omega) ⟨H, I.tok _, q⟩
  | ref p =>
    cases rx
    have e' : (∃ xs, SqL X.K H p xs ∧ k = !xs.isEmpty) ∨ (∃ xs, SqT X.K H p xs ∧ k = !xs.isEmpty) ∨ ∃ kvs, H p = some (.dK kvs) ∧ k = !kvs.isEmpty := e
    rcases e' with ⟨xs, hx, e'⟩ | ⟨xs, hx, e'⟩ | ⟨kvs, hx, e'⟩
    · subst e'
      obtain ⟨its, r, pl, hz⟩ := I.list hx
      have hlen := r.length
      exact wpAny_truthy_list pl.isList (by simp only [List.size_toArray]; omega) ⟨H, I.tok _, by rw [isEmpty_of r]; exact q⟩
    · subst e'
      obtain ⟨its, r, pl, hz⟩ := I.tuple hx
      have hlen := r.length
      exact truthy_tuple pl (by simp only [List.size_toArray]; omega) ⟨H, I.tok _, by rw [isEmpty_of r]; exact q⟩
    · subst e'
      obtain ⟨hz, hS, vs, r, m⟩ : kvs.length ≤ sizeLine ∧ (p == sysModules) = false ∧ ∃ vs, KV kvs vs ∧ s.heap.DictOf (mixKind X.prog X.w) p vs := I.hok p _ hx
      have hlen : kvs.length = vs.length := Paired.length r
      exact wpAny_truthy_dict hS m (by omega) ⟨H, I.tok _, by rw [isEmpty_kv r]; exact q⟩
  | _ => exact (show False from e).elim
/-- any expression whose test is its value's truth (a name, a call, a subscript, a field ..: he by fun _ => rfl) -/
theorem pt_truth (ha : PE X a ta) (he : ∀ whole, isTrue a X.env whole = (do let v ← whole; standAt a.pos; holding [v] (truthy v))) :
    PT X a (fun σ H Q => ta σ H fun x H' => ∃ k, TruV X.K x H' k ∧ Q k H') := by
  intro pins s σ H Q I h
  exact isTrue_plain (thn (ha pins s σ H _ I h) fun v s1 ⟨x, H1, I1, r1, q1⟩ => tru_ok pins s1 σ H1 x v Q I1 r1 q1) (he _)

/-! ### strs and bytes -/
theorem pe_byt {x : List UInt8} {k : Nat} : PE X (.Constant (.bytes x) k pos) (fun _ H Q => Q (.byt x.toArray) H) := fun _ _ _ H _ I h => PySem.W.Constant_bytes ⟨.byt x.toArray, H, I.tok _, ⟨_, rfl⟩, h⟩
theorem op_add_str : OpR X (binaryOp .Add) (fun x y H Q => ∃ i j, x = .str i ∧ y = .str j ∧ i.length + j.length ≤ sizeLine ∧ Q (.str (i ++ j)) H) := by
  intro pins s σ H x y v u Q I rx ry h
  obtain ⟨i, j, rfl, rfl, hz, q⟩ := h
  obtain ⟨t, rfl⟩ := rx
  obtain ⟨t', rfl⟩ := ry
  exact add_str (fun t' tk => ⟨.str (i ++ j), H, I.tok _, ⟨_, rfl⟩, q⟩) hz
theorem iop_add_str : OpR X (inplaceOp .Add) (fun x y H Q => ∃ i j, x = .str i ∧ y = .str j ∧ i.length + j.length ≤ sizeLine ∧ Q (.str (i ++ j)) H) := by
  intro pins s σ H x y v u Q I rx ry h
  obtain ⟨i, j, rfl, rfl, hz, q⟩ := h
  obtain ⟨t, rfl⟩ := rx
  obtain ⟨t', rfl⟩ := ry
  exact iadd_str (fun t' tk => ⟨.str (i ++ j), H, I.tok _, ⟨_, rfl⟩, q⟩) hz
theorem op_add_byt : OpR X (binaryOp .Add) (fun x y H Q => ∃ i j, x = .byt i ∧ y = .byt j ∧ i.size + j.size ≤ 16777216 ∧ Q (.byt (i ++ j)) H) := by
  intro pins s σ H x y v u Q I rx ry h
  obtain ⟨i, j, rfl, rfl, hz, q⟩ := h
  obtain ⟨t, rfl⟩ := rx
  obtain ⟨t', rfl⟩ := ry
  exact PySem.W.KBy.add_bytes hz (fun t' tk => ⟨.byt (i ++ j), H, I.tok _, ⟨_, rfl⟩, q⟩)

def PlainIxT (b : Expr) : Prop := ∀ o i, subscripted b false o i = operate [o, i] (getItem o i)
/-- s[i], 0 ≤ i < len -/
theorem pe_item_str (ha : PE X a ta) (hb : PE X b tb) (hs : PlainIxT b) :
    PE X (.Subscript a b pos) (tOp (fun x y H Q => ∃ z i c, x = .str z ∧ y = .int i ∧ 0 ≤ i ∧ i < 2 ^ 63 ∧ i < z.length ∧ z.cps[i.toNat]? = some c ∧ Q (.str ⟨#[c]⟩) H) ta tb) := by
  intro pins s σ H Q I h
  refine Subscript_ (binT ha hb I h fun v u s2 x y H2 I2 rx ry q => ?_)
  obtain ⟨z, i, c, rfl, rfl, h0, h63, h1, hc, q⟩ := q
  obtain ⟨t, rfl⟩ := rx
  obtain ⟨t', rfl⟩ := ry
  have e : seqIndex? i z.length = some i.toNat := PySem.StrLaws.seqIndex_nonneg h0 h1
  exact tail_any (typeIs_str s2 z t) slot_str_getitem.lookup (getItem_str (c := c) (by
    have e1 : decide (i < -(2 ^ 63 : Int)) = false := decide_eq_false (by omega)
    have e2 : decide (i ≥ 2 ^ 63) = false := decide_eq_false (by omega)
    rw [e1, e2] <;> rfl) (by rw [e]; exact hc) ⟨.str ⟨#[c]⟩, H2, I2.tok _, ⟨_, rfl⟩, q⟩) (hs _ _)
/-- b[i], 0 ≤ i < len -/
theorem pe_item_byt (ha : PE X a ta) (hb : PE X b tb) (hs : PlainIxT b) :
    PE X (.Subscript a b pos) (tOp (fun x y H Q => ∃ (z : List UInt8) (i : Int), x = .byt z.toArray ∧ y = .int i ∧ z.length ≤ sizeLine ∧ 0 ≤ i ∧ i < z.length ∧ Q (.int ((z.getD i.toNat 0).toNat : Nat)) H) ta tb) := by
  intro pins s σ H Q I h
  refine Subscript_ (binT ha hb I h fun v u s2 x y H2 I2 rx ry q => ?_)
  obtain ⟨z, i, rfl, rfl, hz, h0, h1, q⟩ := q
  obtain ⟨t, rfl⟩ := rx
  obtain ⟨t', rfl⟩ := ry
  have hl : sizeLine = 16777216 := sizeLine_eq
  exact tail_any (PySem.W.typeIs_bytes s2 z.toArray t) PySem.W.FB.slot_bytes_getitem.lookup (PySem.W.getItem_bytes (by omega) h0 h1 ⟨.int ((z.getD i.toNat 0).toNat : Nat), H2, I2.tok _, ⟨_, rfl⟩, q⟩) (hs _ _)

/-! ### scalar builtins, by CallR -/
theorem vals1 {x : V} {us : List Value} (r : Vals [x] us) : ∃ u, us = [u] ∧ RelV x u := by
  cases r with
  | cons r1 r2 => cases r2; exact ⟨_, rfl, r1⟩
theorem vals2 {x y : V} {us : List Value} (r : Vals [x, y] us) : ∃ u w', us = [u, w'] ∧ RelV x u ∧ RelV y w' := by
  cases r with
  | cons r1 r2 =>
    cases r2 with
    | cons r3 r4 => cases r4; exact ⟨_, _, rfl, r1, r3⟩
theorem call_abs : CallR X (.builtin "abs") (fun xs H Q => ∃ i, xs = [.int i] ∧ Q (.int (if i < 0 then -i else i)) H) := by
  intro pins s σ H xs us Q I r h
  obtain ⟨i, rfl, q⟩ := h
  obtain ⟨u, rfl, t, rfl⟩ := vals1 r
  exact call_abs_int fun u tk => ⟨.int (if i < 0 then -i else i), H, I.tok _, ⟨_, rfl⟩, q⟩
theorem call_max2 (hc : X.calm = true) : CallR X (.builtin "max") (fun xs H Q => ∃ i j, xs = [.int i, .int j] ∧ Q (.int (if j > i then j else i)) H) := by
  intro pins s σ H xs us Q I r h
  obtain ⟨i, j, rfl, q⟩ := h
  obtain ⟨u, w', rfl, ⟨t, rfl⟩, ⟨t', rfl⟩⟩ := vals2 r
  refine max_two_ints (I.ok.hd hc) fun h' tk k => ⟨_, H, I.kept k, ?_, q⟩
  by_cases hj : j > i
  · rw [if_pos hj, if_pos hj]; exact ⟨_, rfl⟩
  · rw [if_neg hj, if_neg hj]; exact ⟨_, rfl⟩
theorem call_min2 (hc : X.calm = true) : CallR X (.builtin "min") (fun xs H Q => ∃ i j, xs = [.int i, .int j] ∧ Q (.int (if j < i then j else i)) H) := by
  intro pins s σ H xs us Q I r h
  obtain ⟨i, j, rfl, q⟩ := h
  obtain ⟨u, w', rfl, ⟨t, rfl⟩, ⟨t', rfl⟩⟩ := vals2 r
  refine min_two_ints (I.ok.hd hc) fun h' tk k => ⟨_, H, I.kept k, ?_, q⟩
  by_cases hj : j < i
  · rw [if_pos hj, if_pos hj]; exact ⟨_, rfl⟩
  · rw [if_neg hj, if_neg hj]; exact ⟨_, rfl⟩
theorem call_int1 : CallR X (.type "int") (fun xs H Q => (∃ i, xs = [.int i] ∧ Q (.int i) H) ∨ ∃ k, xs = [.bl k] ∧ Q (.int (if k then 1 else 0)) H) := by
  intro pins s σ H xs us Q I r h
  rcases h with ⟨i, rfl, q⟩ | ⟨k, rfl, q⟩
  · obtain ⟨u, rfl, t, rfl⟩ := vals1 r
    exact call_int_int ⟨.int i, H, I, ⟨_, rfl⟩, q⟩
  · obtain ⟨u, rfl, r1⟩ := vals1 r
    cases r1
    exact call_int_bool ⟨.int (if k then 1 else 0), H, I.tok _, ⟨_, rfl⟩, q⟩
theorem call_bool1 : CallR X (.type "bool") (fun xs H Q => (∃ i, xs = [.int i] ∧ Q (.bl (i != 0)) H) ∨ ∃ k, xs = [.bl k] ∧ Q (.bl k) H) := by
  intro pins s σ H xs us Q I r h
  rcases h with ⟨i, rfl, q⟩ | ⟨k, rfl, q⟩
  · obtain ⟨u, rfl, t, rfl⟩ := vals1 r
    exact call_bool_int ⟨.bl (i != 0), H, I, rfl, q⟩
  · obtain ⟨u, rfl, r1⟩ := vals1 r
    cases r1
    exact call_bool_bool ⟨.bl k, H, I, rfl, q⟩
theorem call_str_int : CallR X (.type "str") (fun xs H Q => ∃ i, xs = [.int i] ∧ i.natAbs.log2 < 1920 ∧ Q (.str (toString i)) H) := by
  intro pins s σ H xs us Q I r h
  obtain ⟨i, rfl, hz, q⟩ := h
  obtain ⟨u, rfl, t, rfl⟩ := vals1 r
  exact PySem.P.str_of_int hz ⟨.str _, H, I.tok _, ⟨_, rfl⟩, q⟩
theorem call_ord : CallR X (.builtin "ord") (fun xs H Q => ∃ x, xs = [.str x] ∧ x.length = 1 ∧ Q (.int (x.cps.getD 0 0 : Nat)) H) := by
  intro pins s σ H xs us Q I r h
  obtain ⟨x, rfl, hz, q⟩ := h
  obtain ⟨u, rfl, t, rfl⟩ := vals1 r
  exact ord_of_one hz ⟨.int _, H, I.tok _, ⟨_, rfl⟩, q⟩
theorem call_chr : CallR X (.builtin "chr") (fun xs H Q => ∃ i, xs = [.int i] ∧ 0 ≤ i ∧ i ≤ 1114111 ∧ Q (.str ⟨#[i.toNat]⟩) H) := by
  intro pins s σ H xs us Q I r h
  obtain ⟨i, rfl, h0, h1, q⟩ := h
  obtain ⟨u, rfl, t, rfl⟩ := vals1 r
  exact chr_of_range h0 h1 ⟨.str _, H, I.tok _, ⟨_, rfl⟩, q⟩
/-- len of a str, a bytes, a list, a tuple -/
def LenV (K : PySem.W.Frag) (x : V) (H : Hp) (n : Nat) : Prop :=
  match x with
  | .str y => y.length ≤ sizeLine ∧ n = y.length
  | .byt y => y.size ≤ sizeLine ∧ n = y.size
  | .ref p => (∃ xs, SqL K H p xs ∧ n = xs.length) ∨ ∃ xs, SqT K H p xs ∧ n = xs.length
  | _ => False
theorem call_len : CallR X (.builtin "len") (fun xs H Q => ∃ x n, xs = [x] ∧ LenV X.K x H n ∧ Q (.int n) H) := by
  intro pins s σ H xs us Q I r h
  obtain ⟨x, n, rfl, e, q⟩ := h
  obtain ⟨u, rfl, rx⟩ := vals1 r
  have hl := line63
  have hs : sizeLine = 16777216 := sizeLine_eq
  cases x with
  | str y =>
    obtain ⟨t, rfl⟩ := rx
    obtain ⟨hy, e'⟩ : y.length ≤ sizeLine ∧ n = y.length := e
    subst e'
    exact len_str (by omega) ⟨.int _, H, I.tok _, ⟨_, rfl⟩, q⟩
  | byt y =>
    obtain ⟨t, rfl⟩ := rx
    obtain ⟨hy, e'⟩ : y.size ≤ sizeLine ∧ n = y.size := e
    subst e'
    exact PySem.W.len_bytes (by omega) ⟨.int _, H, I.tok _, ⟨_, rfl⟩, q⟩
  | ref p =>
    cases rx
    have e' : (∃ xs, SqL X.K H p xs ∧ n = xs.length) ∨ ∃ xs, SqT X.K H p xs ∧ n = xs.length := e
    rcases e' with ⟨xs, hx, e'⟩ | ⟨xs, hx, e'⟩
    · subst e'
      obtain ⟨its, r', pl, hz⟩ := I.list hx
      have hlen := r'.length
      exact Calls.call_len_list pl.isList (by simp only [List.size_toArray]; omega) ⟨.int xs.length, H, I.tok _, ⟨_, by simp only [List.size_toArray]; rw [hlen]⟩, q⟩
    · subst e'
      obtain ⟨its, r', pl, hz⟩ := I.tuple hx
      have hlen := r'.length
      exact len_tuple pl (by simp only [List.size_toArray]; omega) ⟨.int xs.length, H, I.tok _, ⟨_, by simp only [List.size_toArray]; rw [hlen]⟩, q⟩
  | _ => exact (show False from e).elim
/-- divmod: a new tuple -/
theorem call_divmod : CallR X (.builtin "divmod") (fun xs H Q => ∃ i j, xs = [.int i, .int j] ∧ CDiv i j ∧ ∀ p, H p = none → Q (.ref p) (upd H p (.tup [.int (i / j), .int (i % j)]))) := by
  intro pins s σ H xs us Q I r h
  obtain ⟨i, j, rfl, ⟨h1, h2⟩, q⟩ := h
  obtain ⟨u, w', rfl, ⟨t, rfl⟩, ⟨t', rfl⟩⟩ := vals2 r
  refine divmod_int (by omega) ?_ (.inl (PyProof.noPylong_small (by omega)))
  rw [Int.fdiv_eq_ediv_of_nonneg i (by omega), Int.fmod_eq_emod_of_nonneg i (by omega)]
  have hn : H s.heap.objs.size = none := I.hok.fresh (Nat.le_refl _)
  refine ⟨.ref s.heap.objs.size, _, ?_, rfl, q _ hn⟩
  refine I.laid (fun b o e => Heap.get?_push_of_some _ e) (Nat.le_refl _) ⟨by simp only [List.length_cons, List.length_nil]; rw [sizeLine_eq]; decide, [.int (i / j) s.toks, .int (i % j) (s.toks + 1)], .cons ⟨_, rfl⟩ (.cons ⟨_, rfl⟩ .nil), ?_⟩
  exact ⟨_, Heap.get?_push_size s.heap rfl, rfl, 0, rfl⟩
end
end L2

namespace L2
open PySem PySem.Spec PyProof.Rows

/-! ### an instance, its attributes a map -/
structure ObjM (h : Heap) (x dx C : Addr) (mA : Str → Option Value) : Prop where
  obj : h.get? x = some (PySem.W.instObj C dx)
  ns : h.Ns1 dx mA
  ne : dx ≠ x

theorem lookIn_ns {h : Heap} {dx : Addr} {mA : Str → Option Value} (n : h.Ns1 dx mA) : ∃ od, h.get? dx = some od ∧ ∀ name, PySem.W.lookIn name od = some (mA name) := by
  obtain ⟨o, es, ep, ho, hd, hk, _, hm⟩ := n
  refine ⟨o, ho, fun name => ?_⟩
  have e := hm name
  unfold nsFind findBy at e
  rw [← Array.find?_toList] at e
  unfold PySem.W.lookIn
  rw [hd]
  dsimp only
  split
  · rename_i y q
    rw [q] at e
    exact congrArg some e
  · rename_i q
    rw [q] at e
    have a : es.toList.any (·.refKey) = false := by
      rw [List.any_eq_false]
      intro y hy
      obtain ⟨z, t, hkey⟩ := hk y (Array.mem_toList_iff.mp hy)
      simp [DictEntry.refKey, hkey]
    have a' : ¬ es.toList.any (·.refKey) = true := by rw [a]; exact Bool.false_ne_true
    rw [if_neg a']
    exact congrArg some e

theorem ObjM.look {h : Heap} {x dx C : Addr} {mA : Str → Option Value} (I : ObjM h x dx C mA) : ∃ od, PySem.W.InstAt h x (PySem.W.instObj C dx) C (some od) ∧ ∀ name, PySem.W.lookIn name od = some (mA name) :=
  let ⟨od, ho, hl⟩ := lookIn_ns I.ns
  ⟨od, ⟨I.obj, rfl, rfl, ho⟩, hl⟩

section
variable {prog : Program} {w : World} {A : Around} {E : Value → Shared → Prop} {s : Shared} {K : PySem.W.Frag} {x dx C f : Addr} {mA : Str → Option Value} {name : Str} {v : Value}

theorem get_map {expr : Bool} {Q : Value → Shared → Prop} (X : K.In s.heap) (I : ObjM s.heap x dx C mA) (hg : PySem.W.plainGet K C name = true) (hh : PySem.W.hasDictIn K C = true)
    (ha : PySem.W.findIn K (.ref C) name = some none) (hv : mA name = some v) (hv' : PySem.W.handedIn v = true) (h : Q v { s with toks := s.toks + 1 }) :
    wpAny (model prog w) A (getAttr (.ref x) name expr) Q E s := by
  obtain ⟨od, J, hl⟩ := I.look
  exact PySem.W.get_value X J (PySem.W.plainGet_of hg).1 (PySem.W.findObj_own hh ha rfl (by rw [hl, hv])) hv' h

theorem get_const {expr : Bool} {a : Value} {Q : Value → Shared → Prop} (X : K.In s.heap) (I : ObjM s.heap x dx C mA) (hg : PySem.W.plainGet K C name = true) (hh : PySem.W.hasDictIn K C = true)
    (ha : PySem.W.findIn K (.ref C) name = some (some a)) (hn : PySem.W.specialIn K a "__get__" = some none) (hc : PySem.W.copiedNames.contains name = false) (hv : mA name = none) (hv' : PySem.W.handedIn a = true)
    (h : Q a { s with toks := s.toks + 1 }) : wpAny (model prog w) A (getAttr (.ref x) name expr) Q E s := by
  obtain ⟨od, J, hl⟩ := I.look
  exact PySem.W.get_value X J (PySem.W.plainGet_of hg).1 (PySem.W.findObj_cls hh ha hn hv' hc (by rw [hl, hv])) hv' h

theorem get_meth {pl : Sem Bool} {Q : Value × List Value → Shared → Prop} (X : K.In s.heap) (I : ObjM s.heap x dx C mA) (hg : PySem.W.plainGet K C name = true)
    (hf : PySem.W.findIn K (.ref C) name = some (some (.ref f))) (ht : PySem.W.isFn K (.ref f) = true) (hv : mA name = none) (h : Q (.ref f, [.ref x]) s) :
    wpAny (model prog w) A (getMethod (.ref x) name pl) Q E s := by
  obtain ⟨od, J, hl⟩ := I.look
  exact PySem.W.method_fn X J (PySem.W.plainGet_of hg).1 (PySem.W.plainGet_of hg).2 hf (beq_iff_eq.mp ht) (by show (PySem.W.lookIn name od).map (·.isSome) = some false; rw [hl, hv]; rfl) h

theorem set_map {ns : List Str} {Q : Unit → Shared → Prop} (X : K.In s.heap) (I : ObjM s.heap x dx C mA)
    (hs : PySem.W.findIn K (.ref C) "__setattr__" = some (some (.builtin "object.__setattr__"))) (hp : PySem.W.plainOver K C = true) (ht : PySem.W.takerIn K C name = some none) (hh : PySem.W.hasDictIn K C = true)
    (hw : PySem.Within mA ns) (hsz : ns.length ≤ sizeLine)
    (h : ∀ h', ObjM h' x dx C (fun y => if y = name then some v else mA y) → Heap.SameBut dx s.heap h' → Q () { s with heap := h', toks := s.toks + 2 }) :
    wpAny (model prog w) A (setAttr (.ref x) name v) Q E s := by
  obtain ⟨od, J, hl⟩ := I.look
  refine PySem.W.set_plain X J hs (PySem.W.osa_open (s := { s with toks := s.toks + 1 }) (r := none) X J hp ht fun b => ?_)
  obtain ⟨cd, hc, hd'⟩ := PySem.W.any_some hh
  have hx : s.heap.get? x = some ⟨.ref C, some dx, .plain, #[]⟩ := I.obj
  refine wpAny_bind (wpAny_pure (wpAny_bind (wpAny_bind (wpAny_loadPart hx (wpAny_bind (PySem.W.Looks.here (s := { s with toks := s.toks + 1 }) (PySem.W.looks_clsIn X hc) ?_))))))
  rw [hd']
  refine wpAny_pure (a := some dx) (wpAny_bind (wpAny_pure (wpAny_bind ?_)))
  refine wpAny_nsSet1 (s := { s with toks := s.toks + 1 }) I.ns fun h' hn2 hs2 => ?_
  obtain ⟨oD, esD, epD, hoD, hdD, hcD⟩ := hn2.count (PySem.Within.cons name v hw)
  refine wpAny_bind (wpAny_lookBehind hoD (by rw [hdD]; exact pastItsLine_dict (Nat.le_trans hcD (by rw [List.length_cons]; omega))) ?_)
  exact wpAny_pure (h _ ⟨(hs2.2 _ (Ne.symm I.ne)).trans I.obj, hn2, I.ne⟩ hs2)

/-- C(..): the dict at the heap's end, the instance behind it; then its __init__ -/
theorem make_map {R : Result → Shared → Prop} {vs : List Value} {kw : List (Str × Value)} (X : K.In s.heap) (hm : PySem.W.makesIn K C = true)
    (hi : PySem.W.findIn K (.ref C) "__init__" = some (some (.ref f))) (hf : PySem.W.typeIn K (.ref f) = some (.type "function"))
    (h : codeAny (model prog w) (A.under (.builtin "type.__call__" ⟨.ref C :: vs, kw⟩)) (.call (.ref f) ⟨.ref (s.heap.objs.size + 1) :: vs, kw⟩) (PySem.W.InitBack (s.heap.objs.size + 1) R)
      { s with heap := (s.heap.push PySem.W.emptyDict).push (PySem.W.instObj C s.heap.objs.size) }) :
    codeAny (model prog w) A (.call (.ref C) ⟨vs, kw⟩) R s := by
  obtain ⟨hh, g, d, t, os⟩ := s
  exact PySem.W.make_core (PySem.W.makes_of X hm) (PySem.W.looks_findIn X hi) (fun self => PySem.W.bind_fn X self hf) (.inl rfl) h
/-- C() where there is no __init__ but object's -/
theorem make_map0 {R : Result → Shared → Prop} (X : K.In s.heap) (hm : PySem.W.makesIn K C = true)
    (hi : PySem.W.findIn K (.ref C) "__init__" = some (some (.builtin "object.__init__")))
    (hb : ∀ self, PySem.W.Looks (model prog w) s.heap (bindSpecial (.builtin "object.__init__") self) (.builtin "object.__init__", [self]))
    (h : codeAny (model prog w) (A.under (.builtin "type.__call__" ⟨[.ref C], []⟩)) (.call (.builtin "object.__init__") ⟨[.ref (s.heap.objs.size + 1)], []⟩) (PySem.W.InitBack (s.heap.objs.size + 1) R)
      { s with heap := (s.heap.push PySem.W.emptyDict).push (PySem.W.instObj C s.heap.objs.size) }) :
    codeAny (model prog w) A (.call (.ref C) ⟨[], []⟩) R s := by
  obtain ⟨hh, g, d, t, os⟩ := s
  exact PySem.W.make_core (PySem.W.makes_of X hm) (PySem.W.looks_findIn X hi) hb (.inr ⟨rfl, rfl⟩) h
end

/-! ### the attributes as a list of pairs -/
def putF (f : Str) (v : V) : List (Str × V) → List (Str × V)
  | [] => [(f, v)]
  | (g, x) :: r => if g = f then (g, v) :: r else (g, x) :: putF f v r
theorem lookup_putF (f g : Str) (v : V) : ∀ fs : List (Str × V), (putF f v fs).lookup g = if g = f then some v else fs.lookup g
  | [] => by
    show List.lookup g [(f, v)] = _
    by_cases h : g = f
    · have hb : (g == f) = true := beq_iff_eq.mpr h
      simp only [List.lookup, hb, if_pos h]
    · have hb : (g == f) = false := beq_eq_false_iff_ne.mpr h
      simp only [List.lookup, hb, if_neg h]
  | (k, x) :: r => by
    have ih := lookup_putF f g v r
    rw [show putF f v ((k, x) :: r) = (if k = f then (k, v) :: r else (k, x) :: putF f v r) from rfl]
    by_cases hk : k = f
    · rw [if_pos hk]
      by_cases h : g = k
      · have hb : (g == k) = true := beq_iff_eq.mpr h
        simp only [List.lookup, hb, if_pos (h.trans hk)]
      · have hb : (g == k) = false := beq_eq_false_iff_ne.mpr h
        simp only [List.lookup, hb, if_neg (fun e : g = f => h (e.trans hk.symm))]
    · rw [if_neg hk]
      by_cases h : g = k
      · have hb : (g == k) = true := beq_iff_eq.mpr h
        simp only [List.lookup, hb, if_neg (fun e : g = f => hk (h.symm.trans e))]
      · have hb : (g == k) = false := beq_eq_false_iff_ne.mpr h
        simp only [List.lookup, hb]
        exact ih
theorem keys_putF (f : Str) (v : V) : ∀ fs : List (Str × V), f ∈ (putF f v fs).map (·.1) ∧ ∀ g, g ∈ fs.map (·.1) → g ∈ (putF f v fs).map (·.1)
  | [] => ⟨by simp [putF], fun g h => by simp at h⟩
  | (k, x) :: r => by
    obtain ⟨i1, i2⟩ := keys_putF f v r
    rw [show putF f v ((k, x) :: r) = (if k = f then (k, v) :: r else (k, x) :: putF f v r) from rfl]
    by_cases hk : k = f
    · rw [if_pos hk]
      subst hk
      exact ⟨by simp, fun g h => by simpa using h⟩
    · rw [if_neg hk]
      refine ⟨?_, fun g h => ?_⟩
      · rw [List.map_cons]
        exact List.mem_cons_of_mem _ i1
      · rw [List.map_cons] at h ⊢
        rcases List.mem_cons.mp h with e | e
        · exact List.mem_cons.mpr (.inl e)
        · exact List.mem_cons_of_mem _ (i2 g e)
theorem length_putF (f : Str) (v : V) : ∀ fs : List (Str × V), (putF f v fs).length ≤ fs.length + 1
  | [] => by simp [putF]
  | (k, x) :: r => by
    have ih := length_putF f v r
    rw [show putF f v ((k, x) :: r) = (if k = f then (k, v) :: r else (k, x) :: putF f v r) from rfl]
    by_cases hk : k = f
    · rw [if_pos hk, List.length_cons, List.length_cons]; omega
    · rw [if_neg hk, List.length_cons, List.length_cons]; omega

theorem RelO.some_of {v : V} {o : Option Value} (r : RelO (some v) o) : ∃ u, o = some u ∧ RelV v u := by
  cases o with
  | none => exact (show False from r).elim
  | some u => exact ⟨u, rfl, r⟩
theorem RelO.none_of {o : Option Value} (r : RelO none o) : o = none := by
  cases o with
  | none => rfl
  | some u => exact (show False from r).elim
theorem handed_of {v : V} {u : Value} (r : RelV v u) : PySem.W.handedIn u = true := by
  cases v with
  | non => cases (show u = Value.none from r); rfl
  | bl b => cases (show u = Value.bool b from r); rfl
  | int i => obtain ⟨t, e⟩ := (show ∃ t, u = Value.int i t from r); cases e; rfl
  | str x => obtain ⟨t, e⟩ := (show ∃ t, u = Value.str x t from r); cases e; rfl
  | byt b => obtain ⟨t, e⟩ := (show ∃ t, u = Value.bytes b t from r); cases e; rfl
  | flt b => obtain ⟨t, e⟩ := (show ∃ t, u = Value.float b t from r); cases e; rfl
  | ref a => cases (show u = Value.ref a from r); rfl
  | ty n => cases (show u = Value.type n from r); rfl

section
variable {P : Program} {w : World} {H H' : Hp} {h h' : Heap} {a C dx : Addr} {fs fs' : List (Str × V)}
theorem ins_get (hok : HOk P w H h) (e : H a = some (.ins C dx fs)) : ∃ mA, ObjM h a dx C mA ∧ (∀ f, RelO (fs.lookup f) (mA f)) ∧ PySem.Within mA (fs.map (·.1)) ∧ fs.length ≤ 1000 ∧ H dx = some (.own a) := by
  obtain ⟨d, z, ne, ob, mA, n, r, q⟩ := (show ObjOk P w H h a (.ins C dx fs) from hok a _ e)
  exact ⟨mA, ⟨ob, n, ne⟩, r, q, z, d⟩
end

/-! ### what of the text a class must have -/
structure Cls (K : PySem.W.Frag) (C : Addr) : Prop where
  pg : PySem.W.plainGet K C Str.empty = true
  hd : PySem.W.hasDictIn K C = true
  po : PySem.W.plainOver K C = true
  sa : PySem.W.findIn K (.ref C) "__setattr__" = some (some (.builtin "object.__setattr__"))
theorem Cls.get {K : PySem.W.Frag} {C : Addr} (c : Cls K C) (f : Str) : PySem.W.plainGet K C f = true := c.pg
/-- no class of it has the name -/
def NoAttr (K : PySem.W.Frag) (C : Addr) (f : Str) : Prop := PySem.W.findIn K (.ref C) f = some none
theorem NoAttr.taker {K : PySem.W.Frag} {C : Addr} {f : Str} (n : NoAttr K C f) : PySem.W.takerIn K C f = some none := by
  unfold PySem.W.takerIn
  rw [show PySem.W.findIn K (.ref C) f = some none from n]
  rfl
/-- a constant of the class -/
structure Con (K : PySem.W.Frag) (C : Addr) (f : Str) (v : V) (u : Value) : Prop where
  at_ : PySem.W.findIn K (.ref C) f = some (some u)
  rel : RelV v u
  get : PySem.W.specialIn K u "__get__" = some none
  cp : PySem.W.copiedNames.contains f = false
/-- a method: a plain def of the class or of one above it -/
structure Meth (K : PySem.W.Frag) (C : Addr) (m : Str) (f : Addr) : Prop where
  at_ : PySem.W.findIn K (.ref C) m = some (some (.ref f))
  fn : PySem.W.isFn K (.ref f) = true
  kp : PySem.W.keepIn K (.ref f) = true

section
variable {X : Cx} {pins : List (Addr × Obj)} {σ : St} {H : Hp} {s : Shared} {a C dx : Addr} {fs : List (Str × V)} {f : Str} {v : V} {A : Around} {E : Value → Shared → Prop}

theorem getattr_ok {b : Bool} {Q : Value → Shared → Prop} (I : Inv X pins σ H s) (e : H a = some (.ins C dx fs)) (c : Cls X.K C) (n : NoAttr X.K C f) (l : fs.lookup f = some v)
    (h : ∀ u s', Inv X pins σ H s' → RelV v u → Q u s') : wpAny (model X.prog X.w) A (getAttr (.ref a) f b) Q E s := by
  obtain ⟨mA, O, r, _, _, _⟩ := ins_get I.hok e
  obtain ⟨u, hu, ru⟩ := RelO.some_of (v := v) (o := mA f) (by rw [← l]; exact r f)
  exact get_map I.kIn O (c.get f) c.hd n hu (handed_of ru) (h u _ (I.tok _) ru)

theorem getcon_ok {b : Bool} {u : Value} {Q : Value → Shared → Prop} (I : Inv X pins σ H s) (e : H a = some (.ins C dx fs)) (c : Cls X.K C) (k : Con X.K C f v u) (l : fs.lookup f = none)
    (h : ∀ s', Inv X pins σ H s' → Q u s') : wpAny (model X.prog X.w) A (getAttr (.ref a) f b) Q E s := by
  obtain ⟨mA, O, r, _, _, _⟩ := ins_get I.hok e
  have hn : mA f = none := RelO.none_of (by rw [← l]; exact r f)
  exact get_const I.kIn O (c.get f) c.hd k.at_ k.get k.cp hn (handed_of k.rel) (h _ (I.tok _))

theorem getmeth_ok {m : Str} {g : Addr} {pl : Sem Bool} {Q : Value × List Value → Shared → Prop} (I : Inv X pins σ H s) (e : H a = some (.ins C dx fs)) (c : Cls X.K C) (k : Meth X.K C m g) (l : fs.lookup m = none)
    (h : Q (.ref g, [.ref a]) s) : wpAny (model X.prog X.w) A (getMethod (.ref a) m pl) Q E s := by
  obtain ⟨mA, O, r, _, _, _⟩ := ins_get I.hok e
  have hn : mA m = none := RelO.none_of (by rw [← l]; exact r m)
  exact get_meth I.kIn O (c.get m) k.at_ k.fn hn h

theorem setattr_ok {y : V} {u : Value} {Q : Unit → Shared → Prop} (I : Inv X pins σ H s) (e : H a = some (.ins C dx fs)) (c : Cls X.K C) (n : NoAttr X.K C f) (hl : fs.length < 1000) (ry : RelV y u)
    (h : ∀ s', Inv X pins σ (upd H a (.ins C dx (putF f y fs))) s' → Q () s') : wpAny (model X.prog X.w) A (setAttr (.ref a) f u) Q E s := by
  obtain ⟨mA, O, r, wi, _, ho⟩ := ins_get I.hok e
  have hz : (fs.map (·.1)).length ≤ sizeLine := by rw [List.length_map, sizeLine_eq]; omega
  refine set_map I.kIn O c.sa c.po n.taker c.hd wi hz fun h' O' sb => h _ ?_
  have hd : ∃ o, h'.get? dx = some o := let ⟨o, _, _, e', _⟩ := O'.ns; ⟨o, e'⟩
  refine I.write (x := a) (e := dx) (by rw [e]; exact True.intro) (.inr ho) (fun b q hb z => (sb.2 b hb).trans z) hd ?_
  refine ⟨by rw [upd_ne O.ne]; exact ho, ?_, O.ne, O'.obj, _, O'.ns, fun g => ?_, fun g hg => ?_⟩
  · have := length_putF f y fs; omega
  · show RelO ((putF f y fs).lookup g) (if g = f then some u else mA g)
    rw [lookup_putF]
    by_cases q : g = f
    · rw [if_pos q, if_pos q]; exact ry
    · rw [if_neg q, if_neg q]; exact r g
  · by_cases q : g = f
    · rw [q]; exact (keys_putF f y fs).1
    · refine (keys_putF f y fs).2 g (wi g fun z => hg ?_)
      show (if g = f then some u else mA g) = none
      rw [if_neg q]; exact z

/-- a new instance, tracked, without attributes -/
theorem Inv.made (I : Inv X pins σ H s) : Inv X pins σ (upd (upd H s.heap.objs.size (.own (s.heap.objs.size + 1))) (s.heap.objs.size + 1) (.ins C s.heap.objs.size []))
    { s with heap := (s.heap.push PySem.W.emptyDict).push (PySem.W.instObj C s.heap.objs.size) } := by
  have e1 : (s.heap.push PySem.W.emptyDict).get? s.heap.objs.size = some PySem.W.emptyDict := Heap.get?_push_size s.heap rfl
  have e2 : ((s.heap.push PySem.W.emptyDict).push (PySem.W.instObj C s.heap.objs.size)).get? (s.heap.objs.size + 1) = some (PySem.W.instObj C s.heap.objs.size) := by
    have := Heap.get?_push_size (s.heap.push PySem.W.emptyDict) (o := PySem.W.instObj C s.heap.objs.size) rfl
    rwa [Heap.size_push] at this
  have e3 : (s.heap.push PySem.W.emptyDict).Ns s.heap.objs.size (fun _ => none) := ⟨PySem.W.emptyDict, #[], _, e1, rfl, (fun e he => absurd he (by simp)), fun _ => rfl⟩
  have I1 := I.laid (a := s.heap.objs.size) (o := .own (s.heap.objs.size + 1)) (h' := s.heap.push PySem.W.emptyDict) (t' := s.toks) (fun b u q => Heap.get?_push_of_some _ q) (Nat.le_refl _) ⟨_, e1⟩
  refine I1.laid (a := s.heap.objs.size + 1) (o := .ins C s.heap.objs.size []) (t' := s.toks) (fun b u q => Heap.get?_push_of_some _ q) (Nat.le_of_eq (Heap.size_push _ _)) ?_
  have ne : s.heap.objs.size ≠ s.heap.objs.size + 1 := Nat.ne_of_lt (Nat.lt_succ_self _)
  refine ⟨by rw [upd_ne ne, upd_same], Nat.zero_le _, ne, e2, fun _ => none, (Heap.Ns1.of_empty e3).at fun o q => Heap.get?_push_of_some _ q, fun _ => True.intro, fun y hy => absurd rfl hy⟩

/-- e.f where nothing but the object is asked: through attributeBase (super) and the last hold -/
theorem attr_of {prog : Program} {w : World} {env : Env} {e : Expr} {f : Str} {pos : Pos} {s : Shared} {Q : Value → Shared → Prop} (hb : attributeBase e f env (eval e env) = eval e env)
    (h : wpAny (model prog w) A (eval e env) (fun o s₁ => wpAny (model prog w) A (getAttr o f true) Q E s₁) E s) : wpAny (model prog w) A (eval (.Attribute e f pos) env) Q E s :=
  Attribute_any_ h (by rw [arm_eval_Attribute, hb])
end

/-! ### readings and rules -/
/-- e.f, an attribute of the instance -/
def tFld (K : PySem.W.Frag) (ta : TE) (f : Str) : TE := fun σ H Q => ta σ H fun x H1 => ∃ a C dx fs v, x = .ref a ∧ H1 a = some (.ins C dx fs) ∧ Cls K C ∧ NoAttr K C f ∧ fs.lookup f = some v ∧ Q v H1
/-- e.f, a constant of the class -/
def tCon (K : PySem.W.Frag) (ta : TE) (f : Str) : TE := fun σ H Q => ta σ H fun x H1 => ∃ a C dx fs v u, x = .ref a ∧ H1 a = some (.ins C dx fs) ∧ Cls K C ∧ Con K C f v u ∧ fs.lookup f = none ∧ Q v H1
/-- e.f = value -/
def sFld (K : PySem.W.Frag) (ta tv : TE) (f : Str) : TS := fun D σ H => tv σ H fun y H1 => ta σ H1 fun x H2 => ∃ a C dx fs, x = .ref a ∧ H2 a = some (.ins C dx fs) ∧ Cls K C ∧ NoAttr K C f ∧ fs.length < 1000 ∧
  D.nx σ (upd H2 a (.ins C dx (putF f y fs)))
/-- an augmented operator on two values -/
def InOp (X : Cx) (op : Operator) (rd : V → V → Hp → VK → Prop) : Prop :=
  ∀ (pins : List (Addr × Obj)) (s : Shared) (σ : St) (H : Hp) (x y : V) (u v : Value) (Q : VK), Inv X pins σ H s → RelV x u → RelV y v → rd x y H Q → wpAny (model X.prog X.w) X.A (inplaceOp op u v) (EP X pins σ Q) X.xe s
/-- e.f op= value -/
def sFldAug (K : PySem.W.Frag) (ta tv : TE) (rd : V → V → Hp → VK → Prop) (f : Str) : TS := fun D σ H => ta σ H fun x H1 => ∃ a C dx fs v, x = .ref a ∧ H1 a = some (.ins C dx fs) ∧ Cls K C ∧ NoAttr K C f ∧ fs.lookup f = some v ∧
  tv σ H1 fun y H2 => rd v y H2 fun z H3 => ∃ dx' fs', H3 a = some (.ins C dx' fs') ∧ fs'.length < 1000 ∧ D.nx σ (upd H3 a (.ins C dx' (putF f z fs')))

section
variable {X : Cx} {o e value : Expr} {f : Str} {pos pos' tpos : Pos} {ta tv : TE}
theorem pe_fld (he : PE X e ta) (hb : attributeBase e f X.env (eval e X.env) = eval e X.env) : PE X (.Attribute e f pos) (tFld X.K ta f) := by
  intro pins s σ H Q I h
  refine attr_of hb (thn (he pins s σ H _ I h) fun u s1 ⟨x, H1, I1, rx, a, C, dx, fs, v, ex, ea, c, n, l, q⟩ => ?_)
  subst ex
  obtain rfl : u = Value.ref a := rx
  exact getattr_ok I1 ea c n l fun u' s2 I2 ru => ⟨v, H1, I2, ru, q⟩
theorem pe_con (he : PE X e ta) (hb : attributeBase e f X.env (eval e X.env) = eval e X.env) : PE X (.Attribute e f pos) (tCon X.K ta f) := by
  intro pins s σ H Q I h
  refine attr_of hb (thn (he pins s σ H _ I h) fun u s1 ⟨x, H1, I1, rx, a, C, dx, fs, v, u0, ex, ea, c, k, l, q⟩ => ?_)
  subst ex
  obtain rfl : u = Value.ref a := rx
  exact getcon_ok I1 ea c k l fun s2 I2 => ⟨v, H1, I2, k.rel, q⟩
theorem ps_fld (ha : PE X o ta) (hv : PE X value tv) (hs : swapsWith value (some (.Attribute o f pos')) pos.line X.env = pure false) : PS X (.Assign [.Attribute o f pos'] value pos) (sFld X.K ta tv f) := by
  intro pins s σ H D I h
  refine plainObj_wpAny_Assign_Attribute (thn (hv pins s σ H _ I h) fun u s1 ⟨y, H1, I1, ry, q⟩ => thn (ha pins s1 σ H1 _ I1 q) fun ov s2 ⟨x, H2, I2, rx, a, C, dx, fs, ex, ea, c, n, l, q2⟩ => ?_) hs
  subst ex
  obtain rfl : ov = Value.ref a := rx
  exact setattr_ok I2 ea c n l ry fun s3 I3 => ⟨σ, _, I3, q2⟩
theorem ps_fldaug {op : Operator} {rd : V → V → Hp → VK → Prop} (ha : PE X o ta) (hv : PE X value tv) (hop : InOp X op rd) : PS X (.AugAssign (.Attribute o f tpos) op value pos) (sFldAug X.K ta tv rd f) := by
  intro pins s σ H D I h
  refine wpAny_AugAssign_AttributeAny (thn (ha pins s σ H _ I h) fun ov s1 ⟨x, H1, I1, rx, a, C, dx, fs, v, ex, ea, c, n, l, q⟩ => ?_)
  subst ex
  obtain rfl : ov = Value.ref a := rx
  refine getattr_ok I1 ea c n l fun u s2 I2 ru => thn (hv pins s2 σ H1 _ I2 q) fun w3 s3 ⟨y, H2, I3, ry, q3⟩ => thn (hop pins s3 σ H2 v y u w3 _ I3 ru ry q3) fun w4 s4 ⟨z, H3, I4, rz, dx', fs', ea', l', q4⟩ => ?_
  exact setattr_ok I4 ea' c n l' rz fun s5 I5 => ⟨σ, _, I5, q4⟩
def rAdd : V → V → Hp → VK → Prop := fun x y H Q => ∃ i j, x = .int i ∧ y = .int j ∧ Q (.int (i + j)) H
def rSub : V → V → Hp → VK → Prop := fun x y H Q => ∃ i j, x = .int i ∧ y = .int j ∧ Q (.int (i - j)) H
theorem in_add : InOp X .Add rAdd := by
  rintro pins s σ H x y u v Q I rx ry ⟨i, j, rfl, rfl, q⟩
  obtain ⟨t, rfl⟩ := (show ∃ t, u = Value.int i t from rx)
  obtain ⟨t', rfl⟩ := (show ∃ t', v = Value.int j t' from ry)
  exact PyProof.Rows.iadd_int ⟨.int (i + j), H, I.tok _, ⟨_, rfl⟩, q⟩
theorem in_sub : InOp X .Sub rSub := by
  rintro pins s σ H x y u v Q I rx ry ⟨i, j, rfl, rfl, q⟩
  obtain ⟨t, rfl⟩ := (show ∃ t, u = Value.int i t from rx)
  obtain ⟨t', rfl⟩ := (show ∃ t', v = Value.int j t' from ry)
  exact PyProof.Rows.isub_int ⟨.int (i - j), H, I.tok _, ⟨_, rfl⟩, q⟩

/-- what is between an instance and its method: the tree of a method call -/
theorem methcall_of {pl : Sem Bool} {m : Str} {apos : Pos} {args : List Expr} {pins : List (Addr × Obj)} {s : Shared} {σ : St} {H : Hp} {Q : Value → Shared → Prop} {te : TE} (he : PE X e te) (I : Inv X pins σ H s)
    (h : te σ H fun x H1 => ∃ a C dx fs g, x = .ref a ∧ H1 a = some (.ins C dx fs) ∧ Cls X.K C ∧ Meth X.K C m g ∧ fs.lookup m = none ∧
      ∀ s1, Inv X pins σ H1 s1 → wpAny (model X.prog X.w) X.A (callWith pos (.ref g) [.ref a] (backTo pos (starEach args X.env)) (backToKw pos (keywordEach [] X.env))) Q X.xe s1)
    (ht : eval (.Call (.Attribute e m apos) args [] pos) X.env = (do
      let ov ← eval e X.env
      standAt apos.atName
      let (f, first) ← holding [ov] (getMethod ov m pl)
      callWith pos f first (backTo pos (starEach args X.env)) (backToKw pos (keywordEach [] X.env)))) :
    wpAny (model X.prog X.w) X.A (eval (.Call (.Attribute e m apos) args [] pos) X.env) Q X.xe s := by
  refine PySem.W.methodCall_KW (pl := pl) (thn (he pins s σ H _ I h) fun u s1 ⟨x, H1, I1, rx, a, C, dx, fs, g, ex, ea, c, k, l, q⟩ => ?_) ht
  subst ex
  obtain rfl : u = Value.ref a := rx
  exact getmeth_ok I1 ea c k l (q s1 I1)
end

/-! ### isinstance -/
section
variable {X : Cx} {pins : List (Addr × Obj)} {σ : St} {H : Hp} {s : Shared} {A : Around} {E : Value → Shared → Prop} {Q : Value → Shared → Prop} {c : Value} {b : Bool}
/-- the type of a value, as the fragment's deciders take it; for an instance its class -/
inductive TyOf (K : PySem.W.Frag) (H : Hp) : V → Value → Prop where
  | non : TyOf K H .non (.type "NoneType")
  | bl (x : Bool) : TyOf K H (.bl x) (.type "bool")
  | int (i : Int) : TyOf K H (.int i) (.type "int")
  | str (x : Str) : TyOf K H (.str x) (.type "str")
  | flt (x : UInt64) : TyOf K H (.flt x) (.type "float")
  | lst {a : Addr} {xs : List V} (e : H a = some (.lst xs)) : TyOf K H (.ref a) (.type "list")
  | frz {a : Addr} {o : Obj} {xs : List V} (e : H a = some (.frz o (.lst xs))) : TyOf K H (.ref a) (.type "list")
  | tup {a : Addr} {xs : List V} (e : H a = some (.tup xs)) : TyOf K H (.ref a) (.type "tuple")
  | dK {a : Addr} {kvs : List (Key × V)} (e : H a = some (.dK kvs)) : TyOf K H (.ref a) (.type "dict")
  | dT {a : Addr} {kvs : List (List Key × V)} (e : H a = some (.dT kvs)) : TyOf K H (.ref a) (.type "dict")
  | ins {a C dx : Addr} {fs : List (Str × V)} (e : H a = some (.ins C dx fs)) (cl : Cls K C) (ha : PySem.W.findIn K (.ref C) "__class__" = some (some (.builtin "object.__class__")))
      (hn : PySem.W.specialIn K (.builtin "object.__class__") "__get__" = some (some (.builtin "getset_descriptor.__get__"))) (htk : PySem.W.takesIn K (.builtin "object.__class__") = some true)
      (hm : PySem.W.mroIn K C (.type "object") = some true) : TyOf K H (.ref a) (.ref C)
/-- isinstance(x, c) for one class c, a built-in or an own one: kitOne's answer -/
theorem isinst_ok {x : V} {u t : Value} (I : Inv X pins σ H s) (rx : RelV x u) (ty : TyOf X.K H x t) (e : PySem.W.kitOne X.K t c = some b) (h : ∀ tk, Q (.bool b) { s with toks := tk }) :
    wpAny (model X.prog X.w) A (call (.builtin "isinstance") [u, c]) Q E s := by
  cases ty with
  | non => cases (show u = Value.none from rx); exact PySem.W.kia_one PySem.W.kitx_none I.kIn True.intro e (fun z => nomatch z) h
  | bl y => cases (show u = Value.bool y from rx); exact PySem.W.kia_one PySem.W.kitx_bool I.kIn True.intro e (fun z => nomatch z) h
  | int i => obtain ⟨t, q⟩ := (show ∃ t, u = Value.int i t from rx); cases q; exact PySem.W.kia_one PySem.W.kitx_int I.kIn True.intro e (fun z => nomatch z) h
  | str y => obtain ⟨t, q⟩ := (show ∃ t, u = Value.str y t from rx); cases q; exact PySem.W.kia_one PySem.W.kitx_str I.kIn True.intro e (fun z => nomatch z) h
  | flt y => obtain ⟨t, q⟩ := (show ∃ t, u = Value.float y t from rx); cases q; exact PySem.W.kia_one PySem.W.kitx_float I.kIn True.intro e (fun z => nomatch z) h
  | @lst a xs ea =>
    cases (show u = Value.ref a from rx)
    obtain ⟨_, _, n, _, h1⟩ := (show ObjOk X.prog X.w H s.heap a (.lst xs) from I.hok a _ ea)
    exact PySem.W.kia_one PySem.W.kitx_list I.kIn ⟨_, h1, rfl⟩ e (fun z => nomatch z) h
  | @frz a ob xs ea =>
    cases (show u = Value.ref a from rx)
    obtain ⟨_, _, _, n, _, h1⟩ := (show ObjOk X.prog X.w H s.heap a (.frz ob (.lst xs)) from I.hok a _ ea)
    exact PySem.W.kia_one PySem.W.kitx_list I.kIn ⟨_, h1, rfl⟩ e (fun z => nomatch z) h
  | @tup a xs ea =>
    cases (show u = Value.ref a from rx)
    obtain ⟨_, _, _, p⟩ := (show ObjOk X.prog X.w H s.heap a (.tup xs) from I.hok a _ ea)
    obtain ⟨o, h1, h2, _⟩ := p
    exact PySem.W.kia_one PySem.W.kitx_tuple I.kIn ⟨o, h1, h2⟩ e (fun z => nomatch z) h
  | @dK a kvs ea =>
    cases (show u = Value.ref a from rx)
    obtain ⟨_, _, vs, _, p⟩ := (show ObjOk X.prog X.w H s.heap a (.dK kvs) from I.hok a _ ea)
    obtain ⟨o, es, ep, h1, h2, _⟩ := p
    exact PySem.W.kia_one PySem.W.kitx_dict I.kIn ⟨o, h1, h2.1⟩ e (fun z => nomatch z) h
  | @dT a kvs ea =>
    cases (show u = Value.ref a from rx)
    obtain ⟨_, _, xs, _, o, es, ep, h1, h2, _⟩ := (show ObjOk X.prog X.w H s.heap a (.dT kvs) from I.hok a _ ea)
    exact PySem.W.kia_one PySem.W.kitx_dict I.kIn ⟨o, h1, h2.1⟩ e (fun z => nomatch z) h
  | @ins a C dx fs ea cl ha hn htk hm =>
    cases (show u = Value.ref a from rx)
    obtain ⟨mA, O, _⟩ := ins_get I.hok ea
    obtain ⟨od, J, _⟩ := O.look
    exact PySem.W.kia_one (PySem.W.kitx_own (cl.get _) cl.hd ha hn htk hm) I.kIn J e (fun z => nomatch z) h
end
end L2

namespace L2
open PySem PySem.Spec PyProof.Rows

/-! ### room -/
structure Room (k : Nat) (A : Around) : Prop where
  hd : A.handled = none
  dp : A.depth + 3 * k + 5 < recursionLimit
  un : A.units + 16 * k + 200 < cLine
  gd : A.guards = some []
theorem Room.mono {j k : Nat} {A : Around} (r : Room k A) (h : j ≤ k) : Room j A := ⟨r.hd, by have := r.dp; omega, by have := r.un; omega, r.gd⟩
theorem Room.deeper {k : Nat} {A : Around} (r : Room (k + 1) A) (env : Env) : Room k (A.deeper env) :=
  ⟨r.hd, by have := r.dp; show A.depth + 1 + 3 * k + 5 < _; omega, by have := r.un; show A.units + 3 + 16 * k + 200 < _; omega, r.gd⟩
theorem Room.in1 {k : Nat} {A : Around} (r : Room (k + 1) A) : Room k A.in1 :=
  ⟨r.hd, by have := r.dp; show A.depth + 3 * k + 5 < _; omega, by have := r.un; show A.units + 1 + 16 * k + 200 < _; omega, r.gd⟩
theorem make_depth {A : Around} {C : Addr} {us : List Value} {kw : List (Str × Value)} : (A.under (.builtin "type.__call__" ⟨.ref C :: us, kw⟩)).depth = A.depth + 1 := by
  first | rfl | simp [Around.under, Code.weight, Code.isCreation, Code.isGuard, Code.isCaller, Code.frames, Code.isFrame, guardIds]
theorem make_units {A : Around} {C : Addr} {us : List Value} {kw : List (Str × Value)} : (A.under (.builtin "type.__call__" ⟨.ref C :: us, kw⟩)).units = A.units + 1 := by
  first | rfl | simp [Around.under, Code.cUnits, Code.frames, Code.isFrame]
theorem Room.make {k : Nat} {A : Around} (r : Room (k + 1) A) (C : Addr) (us : List Value) (kw : List (Str × Value)) : Room k (A.under (.builtin "type.__call__" ⟨.ref C :: us, kw⟩)) :=
  ⟨r.hd, by have := r.dp; rw [make_depth]; omega, by have := r.un; rw [make_units]; omega, r.gd⟩
theorem Room.depth {k : Nat} {A : Around} (r : Room k A) : A.depth < recursionLimit := by have := r.dp; omega
theorem Room.units {k : Nat} {A : Around} (r : Room k A) : A.units + 64 < cLine := by have := r.un; omega
theorem Room.units0 {k : Nat} {A : Around} (r : Room k A) : A.units < cLine := by have := r.un; omega

/-! ### argument lists and displays -/
def tNil : TA := fun _ H Q => Q [] H
def tCons (ta : TE) (tr : TA) : TA := fun σ H Q => ta σ H fun x H1 => tr σ H1 fun xs H2 => Q (x :: xs) H2
section
variable {X : Cx} {e : Expr} {es : List Expr} {te : TE} {t : TA} {pos : Pos}
theorem pa_nil : PA X [] tNil := fun _ _ _ _ H Q I h => Calls.spliced_nil ⟨[], H, I, .nil, h⟩
theorem pa_cons (ha : PE X e te) (hr : PA X es t) (hs : starEach (e :: es) X.env = (false, eval e X.env) :: starEach es X.env := by rfl) : PA X (e :: es) (tCons te t) := by
  intro pos pins s σ H Q I h
  rw [hs]
  show wpAny _ _ (spliced ((false, eval e X.env) :: backTo pos (starEach es X.env))) _ _ s
  refine Calls.spliced_cons (thn (ha pins s σ H _ I h) fun u s1 ⟨x, H1, I1, r1, q1⟩ => ?_)
  exact thn (hr pos pins s1 σ H1 _ I1 q1) fun us s2 ⟨xs, H2, I2, r2, q2⟩ => ⟨x :: xs, H2, I2, .cons r1 r2, q2⟩

/-- a tuple, a list of written items -/
def tTup (t : TA) : TE := fun σ H Q => t σ H fun xs H1 => xs.length ≤ sizeLine ∧ ∀ p, H1 p = none → Q (.ref p) (upd H1 p (.tup xs))
def tLst (t : TA) : TE := fun σ H Q => t σ H fun xs H1 => xs.length ≤ sizeLine ∧ ∀ p, H1 p = none → Q (.ref p) (upd H1 p (.lst xs))
theorem pe_tup {x1} (h : PA X es t) : PE X (.Tuple es x1 pos) (tTup t) := by
  intro pins s σ H Q I hq
  refine wpAny_Tuple_spliced (thn (h pos pins s σ H _ I hq) fun us s1 ⟨xs, H1, I1, r, z, q⟩ => ⟨by rw [← r.length]; exact z, ?_⟩)
  have hf : H1 s1.heap.objs.size = none := I1.hok.fresh (Nat.le_refl _)
  refine ⟨.ref s1.heap.objs.size, upd H1 s1.heap.objs.size (.tup xs), I1.laid (t' := s1.toks) (fun b u e => Heap.get?_push_of_some _ e) (Nat.le_refl _) ?_, rfl, q _ hf⟩
  exact ⟨z, us, r, ⟨_, Heap.get?_push_size _ rfl, rfl, _, rfl⟩⟩
theorem pe_lst (h : PA X es t) : PE X (.List es pos) (tLst t) := by
  intro pins s σ H Q I hq
  refine wpAny_List_spliced (thn (h pos pins s σ H _ I hq) fun us s1 ⟨xs, H1, I1, r, z, q⟩ => ⟨by rw [← r.length]; exact z, ?_⟩)
  have hf : H1 s1.heap.objs.size = none := I1.hok.fresh (Nat.le_refl _)
  refine ⟨.ref s1.heap.objs.size, upd H1 s1.heap.objs.size (.lst xs), I1.laid (t' := s1.toks) (fun b u e => Heap.get?_push_of_some _ e) (Nat.le_refl _) ?_, rfl, q _ hf⟩
  exact ⟨z, us, 0, r, Heap.get?_push_size _ rfl⟩
end

/-! ### what a def promises -/
/-- a def's promise: the bound arguments in the parameters' order, the heap, the wanted end, the wanted exception -/
abbrev Sp := List V → Hp → VK → XK → Prop
/-- how an exception lies behind a call (file 08 gives it): the callers' frames, abstract heap and state ahead of the call, the wish, the exception, the state -/
abbrev CXT := List Env → Hp → Shared → XK → Value → Shared → Prop

/-- the state at a call -/
structure Env0 (P : Program) (w : World) (K : PySem.W.Frag) (mg : Str → Option Value) (base : Heap) (A : Around) (outer : List Env) (s : Shared) (H : Hp) : Prop where
  frames : A.frames = some outer
  mod : Mod K mg base
  bs : ∀ b o, base.get? b = some o → s.heap.get? b = some o ∧ H b = none
  bsz : base.objs.size ≤ s.heap.objs.size
  funs : s.heap.FunFrames base outer
  frf : ∀ b ∈ frs outer, H b = none
  hok : HOk P w H s.heap
  bare : AllBare s.gens
/-- a call's end -/
def CE (outer : List Env) (P : Program) (w : World) (H : Hp) (s : Shared) (Q : VK) (u : Value) (s' : Shared) : Prop :=
  ∃ v H', s'.os = s.os ∧ AllBare s'.gens ∧ Un (frs outer) [] H H' s.heap s'.heap ∧ HOk P w H' s'.heap ∧ RelV v u ∧ Q v H'
def CR (CX : CXT) (outer : List Env) (P : Program) (w : World) (H : Hp) (s : Shared) (Q : VK) (E : XK) (r : Result) (s' : Shared) : Prop :=
  match r with
  | .ok (.ret u) => CE outer P w H s Q u s'
  | .ok _ => False
  | .error e => CX outer H s E e s'
structure FnOk (P : Program) (w : World) (K : PySem.W.Frag) (mg : Str → Option Value) (base : Heap) (CX : CXT) (k : Nat) (f : Addr) (fd : FuncData) (ps : List Str) (sp : Sp) : Prop where
  len : ∀ vs H Q E, sp vs H Q E → vs.length = ps.length
  run : ∀ (A : Around) (outer : List Env) (s : Shared) (H : Hp) (args : Args) (us : List Value) (vs : List V) (Q : VK) (E : XK), Room k A → Env0 P w K mg base A outer s H → BindsTo s fd args (ps.zip us) → Vals vs us → sp vs H Q E →
    codeAny (model P w) A (.call (.ref f) args) (CR CX outer P w H s Q E) s
theorem FnOk.mono {P : Program} {w : World} {K : PySem.W.Frag} {mg : Str → Option Value} {base : Heap} {CX : CXT} {j k : Nat} {f : Addr} {fd : FuncData} {ps : List Str} {sp : Sp} (F : FnOk P w K mg base CX j f fd ps sp) (h : j ≤ k) :
    FnOk P w K mg base CX k f fd ps sp := ⟨F.len, fun A outer s H args us vs Q E hr => F.run A outer s H args us vs Q E (hr.mono h)⟩
/-- a weaker promise -/
theorem FnOk.imp {P : Program} {w : World} {K : PySem.W.Frag} {mg : Str → Option Value} {base : Heap} {CX : CXT} {k : Nat} {f : Addr} {fd : FuncData} {ps : List Str} {sp sp' : Sp} (F : FnOk P w K mg base CX k f fd ps sp)
    (h : ∀ vs H Q E, sp' vs H Q E → sp vs H Q E) : FnOk P w K mg base CX k f fd ps sp' :=
  ⟨fun vs H Q E q => F.len vs H Q E (h _ _ _ _ q), fun A outer s H args us vs Q E hr he hb hv hs => F.run A outer s H args us vs Q E hr he hb hv (h _ _ _ _ hs)⟩

theorem Env0.make {P : Program} {w : World} {K : PySem.W.Frag} {mg : Str → Option Value} {base : Heap} {A : Around} {outer : List Env} {s : Shared} {H : Hp} (e : Env0 P w K mg base A outer s H) (C : Addr) (us : List Value) (kw : List (Str × Value)) :
    Env0 P w K mg base (A.under (.builtin "type.__call__" ⟨.ref C :: us, kw⟩)) outer s H := ⟨by first | exact e.frames | (simpa [Around.under, Code.envs, Code.isFrame, pushEnvs] using e.frames), e.mod, e.bs, e.bsz, e.funs, e.frf, e.hok, e.bare⟩
theorem Env0.in1 {P : Program} {w : World} {K : PySem.W.Frag} {mg : Str → Option Value} {base : Heap} {A : Around} {outer : List Env} {s : Shared} {H : Hp} (e : Env0 P w K mg base A outer s H) :
    Env0 P w K mg base A.in1 outer s H := ⟨e.frames, e.mod, e.bs, e.bsz, e.funs, e.frf, e.hok, e.bare⟩

section
variable {X : Cx} {pins : List (Addr × Obj)} {σ : St} {H : Hp} {s s' : Shared}
/-- from a body: what a callee wants -/
theorem Inv.env0 (I : Inv X pins σ H s) : Env0 X.prog X.w X.K X.mg X.base X.A X.stack s H :=
  ⟨I.ok.frames, I.ok.mod, I.bs, Nat.le_trans I.ok.bsz I.sz, I.stack, I.stkFree, I.hok, I.bare⟩
/-- behind a call -/
theorem Inv.after {Q : VK} {u : Value} (I : Inv X pins σ H s) (h : CE X.stack X.prog X.w H s Q u s') : EP X pins σ Q u s' := by
  obtain ⟨v, H', os, bare, un, hok, r, q⟩ := h
  obtain ⟨hh, g, d, t, os'⟩ := s'
  obtain rfl : os' = s.os := os
  exact ⟨v, H', I.call (h' := hh) (g' := g) (d' := d) (t' := t) (ch := []) un hok bare (fun b z => absurd z (by simp)), r, q⟩
end

/-! ### calls -/
/-- f(..): the written arguments, then the defaults dvs; E: what is wanted of an exception -/
def tCall (sp : Sp) (dvs : List V) (E : XK) (t : TA) : TE := fun σ H Q => t σ H fun vs H1 => sp (vs ++ dvs) H1 Q E
/-- o.m(..) of an instance of the class at C -/
def tMeth (C : Addr) (m : Str) (sp : Sp) (dvs : List V) (E : XK) (ta : TE) (t : TA) : TE := fun σ H Q => ta σ H fun x H1 => ∃ a dx fs, x = .ref a ∧ H1 a = some (.ins C dx fs) ∧ fs.lookup m = none ∧
  t σ H1 fun vs H2 => sp (x :: (vs ++ dvs)) H2 Q E
/-- C(..): a new instance and its dict, then __init__ -/
def tMake (C : Addr) (sp : Sp) (dvs : List V) (E : XK) (t : TA) : TE := fun σ H Q => t σ H fun vs H1 => ∀ x dx, H1 x = none → H1 dx = none → dx ≠ x →
  sp (.ref x :: (vs ++ dvs)) (upd (upd H1 dx (.own x)) x (.ins C dx [])) (fun v H2 => v = .non ∧ Q (.ref x) H2) E

/-- how the parameters are bound: us the positional arguments, kw the keywords' values by name, ds the defaults that fill up -/
def Binds (K : PySem.W.Frag) (fd : FuncData) (ps : List Str) (ds : List Value) : Prop :=
  ∀ (s : Shared) (us : List Value), K.In s.heap → (us ++ ds).length = ps.length → BindsTo s fd ⟨us, []⟩ (ps.zip (us ++ ds))
/-- every parameter is given -/
theorem Binds.all {K : PySem.W.Frag} {fd : FuncData} {ps : List Str} (h : ∀ us : List Value, us.length = ps.length → bindArgs fd ⟨us, []⟩ = pure (ps.zip us)) : Binds K fd ps [] := fun s us _ hl => by
  rw [List.append_nil] at hl ⊢
  exact .of_eq (h us hl)

/-- an exception of a callee reaches what this body wants of exceptions -/
def Passes (CX : CXT) (X : Cx) (E : XK) : Prop := ∀ (pins : List (Addr × Obj)) (σ : St) (H : Hp) (s : Shared) (e : Value) (s' : Shared), Inv X pins σ H s → CX X.stack H s E e s' → X.xe e s'

section
variable {X : Cx} {CX : CXT} {k : Nat} {f C : Addr} {fd : FuncData} {ps : List Str} {sp : Sp} {dvs : List V} {ds : List Value} {E : XK} {x m : Str} {p pos apos : Pos} {e o : Expr} {es : List Expr} {ta : TE} {t : TA}

/-- the callee runs -/
theorem run_fn {pins : List (Addr × Obj)} {σ : St} {H : Hp} {s : Shared} {Q : VK} {us : List Value} {vs : List V} (F : FnOk X.prog X.w X.K X.mg X.base CX k f fd ps sp) (hr : Room k X.A) (hb : Binds X.K fd ps ds) (hd : Vals dvs ds) (hx : Passes CX X E)
    (I : Inv X pins σ H s) (r : Vals vs us) (h : sp (vs ++ dvs) H Q E) : wpAny (model X.prog X.w) X.A (call (.ref f) us) (EP X pins σ Q) X.xe s := by
  have r2 : Vals (vs ++ dvs) (us ++ ds) := r.append hd
  have hl : (us ++ ds).length = ps.length := by rw [← r2.length]; exact F.len _ _ _ _ h
  refine wpAny_call (codeAny_mono (F.run X.A X.stack s H ⟨us, []⟩ (us ++ ds) (vs ++ dvs) Q E hr I.env0 (hb s us I.kIn hl) r2 h) fun r s' hq => ?_)
  cases r with
  | error e => exact hx pins σ H s e s' I hq
  | ok fl =>
    cases fl with
    | ret u => exact I.after hq
    | next => exact False.elim hq
    | brk => exact False.elim hq
    | cont => exact False.elim hq

theorem pe_call (F : FnOk X.prog X.w X.K X.mg X.base CX k f fd ps sp) (hr : Room k X.A) (hg : Gl X x) (hm : X.mg x = some (.ref f)) (hk : PySem.W.keepIn X.K (.ref f) = true) (hb : Binds X.K fd ps ds) (hd : Vals dvs ds) (hx : Passes CX X E)
    (ha : PA X (e :: es) t) (hdb : (x == ("__debug__" : Str)) = false := by decide) (he : starEach (e :: es) X.env = (false, eval e X.env) :: starEach es X.env := by rfl) (hpl : (backTo pos (starEach es X.env)).any (·.1) = false := by rfl) :
    PE X (.Call (.Name x p) (e :: es) [] pos) (tCall sp dvs E t) := by
  intro pins s σ H Q I h
  refine wpAny_Call_Name_kw (ld_glob I hg hm ?_ hdb)
  refine PySem.W.callWith_K (h₀ := X.base) I.ok.mod.kin hk (thn (ha pos pins s σ H _ I h) fun us s1 ⟨vs, H1, I1, r, q⟩ => ⟨I1.kIn, ?_⟩) he hpl
  exact run_fn F hr hb hd hx I1 r q
theorem pe_call0 (F : FnOk X.prog X.w X.K X.mg X.base CX k f fd ps sp) (hr : Room k X.A) (hg : Gl X x) (hm : X.mg x = some (.ref f)) (hk : PySem.W.keepIn X.K (.ref f) = true) (hb : Binds X.K fd ps ds) (hd : Vals dvs ds) (hx : Passes CX X E)
    (hdb : (x == ("__debug__" : Str)) = false := by decide) : PE X (.Call (.Name x p) [] [] pos) (tCall sp dvs E tNil) := by
  intro pins s σ H Q I h
  refine wpAny_Call_Name_kw (ld_glob I hg hm ?_ hdb)
  exact PySem.W.callWith_K0 I.kIn hk (run_fn (us := []) F hr hb hd hx I .nil h)

/-- o.m(e, ..) -/
theorem pe_meth {pl : Sem Bool} (he : PE X o ta) (c : Cls X.K C) (hm : Meth X.K C m f) (F : FnOk X.prog X.w X.K X.mg X.base CX k f fd ps sp) (hr : Room k X.A) (hb : Binds X.K fd ps ds) (hd : Vals dvs ds) (hx : Passes CX X E) (ha : PA X (e :: es) t)
    (hst : starEach (e :: es) X.env = (false, eval e X.env) :: starEach es X.env := by rfl) (hpl : (backTo pos (starEach es X.env)).any (·.1) = false := by rfl)
    (ht : eval (.Call (.Attribute o m apos) (e :: es) [] pos) X.env = (do
      let ov ← eval o X.env
      standAt apos.atName
      let (f, first) ← holding [ov] (getMethod ov m pl)
      callWith pos f first (backTo pos (starEach (e :: es) X.env)) (backToKw pos (keywordEach [] X.env))) := by rfl) :
    PE X (.Call (.Attribute o m apos) (e :: es) [] pos) (tMeth C m sp dvs E ta t) := by
  intro pins s σ H Q I h
  refine PySem.W.methodCall_KW (pl := pl) (thn (he pins s σ H _ I h) fun u s1 ⟨x, H1, I1, rx, a, dx, fs, ex, ea, l, q⟩ => ?_) ht
  subst ex
  obtain rfl : u = Value.ref a := rx
  refine getmeth_ok I1 ea c hm l ?_
  refine PySem.W.callWith_K (first := [.ref a]) (h₀ := X.base) I.ok.mod.kin hm.kp (thn (ha pos pins s1 σ H1 _ I1 q) fun us s2 ⟨vs, H2, I2, r, q2⟩ => ⟨I2.kIn, ?_⟩) hst hpl
  exact run_fn (us := .ref a :: us) (vs := .ref a :: vs) F hr hb hd hx I2 (.cons rfl r) q2
/-- o.m() -/
theorem pe_meth0 {pl : Sem Bool} (he : PE X o ta) (c : Cls X.K C) (hm : Meth X.K C m f) (F : FnOk X.prog X.w X.K X.mg X.base CX k f fd ps sp) (hr : Room k X.A) (hb : Binds X.K fd ps ds) (hd : Vals dvs ds) (hx : Passes CX X E)
    (ht : eval (.Call (.Attribute o m apos) [] [] pos) X.env = (do
      let ov ← eval o X.env
      standAt apos.atName
      let (f, first) ← holding [ov] (getMethod ov m pl)
      callWith pos f first (backTo pos (starEach [] X.env)) (backToKw pos (keywordEach [] X.env))) := by rfl) :
    PE X (.Call (.Attribute o m apos) [] [] pos) (tMeth C m sp dvs E ta tNil) := by
  intro pins s σ H Q I h
  refine PySem.W.methodCall_KW (pl := pl) (thn (he pins s σ H _ I h) fun u s1 ⟨x, H1, I1, rx, a, dx, fs, ex, ea, l, q⟩ => ?_) ht
  subst ex
  obtain rfl : u = Value.ref a := rx
  refine getmeth_ok I1 ea c hm l ?_
  exact PySem.W.callWith_K0 (first := [.ref a]) I1.kIn hm.kp (run_fn (us := [.ref a]) (vs := [.ref a]) F hr hb hd hx I1 (.cons rfl .nil) q)

/-- what a class must have to be made -/
structure Mk (K : PySem.W.Frag) (C f : Addr) : Prop where
  makes : PySem.W.makesIn K C = true
  init : PySem.W.findIn K (.ref C) "__init__" = some (some (.ref f))
  fn : PySem.W.isFn K (.ref f) = true
  kp : PySem.W.keepIn K (.ref C) = true

theorem run_make {pins : List (Addr × Obj)} {σ : St} {H : Hp} {s : Shared} {Q : VK} {us : List Value} {vs : List V} (M : Mk X.K C f) (F : FnOk X.prog X.w X.K X.mg X.base CX k f fd ps sp) (hr : Room (k + 1) X.A) (hb : Binds X.K fd ps ds) (hd : Vals dvs ds)
    (hx : Passes CX X E) (I : Inv X pins σ H s) (r : Vals vs us)
    (h : ∀ x dx, H x = none → H dx = none → dx ≠ x → sp (.ref x :: (vs ++ dvs)) (upd (upd H dx (.own x)) x (.ins C dx [])) (fun v H2 => v = .non ∧ Q (.ref x) H2) E) :
    wpAny (model X.prog X.w) X.A (call (.ref C) us) (EP X pins σ Q) X.xe s := by
  have hq := h (s.heap.objs.size + 1) s.heap.objs.size (I.hok.fresh (Nat.le_succ _)) (I.hok.fresh (Nat.le_refl _)) (Nat.ne_of_lt (Nat.lt_succ_self _))
  have I2 := Inv.made (C := C) I
  have r2 : Vals (V.ref (s.heap.objs.size + 1) :: (vs ++ dvs)) (Value.ref (s.heap.objs.size + 1) :: (us ++ ds)) := .cons rfl (r.append hd)
  have hl : (Value.ref (s.heap.objs.size + 1) :: us ++ ds).length = ps.length := by
    have e := r2.length
    rw [F.len _ _ _ _ hq] at e
    exact e.symm
  refine wpAny_call (make_map (f := f) I.kIn M.makes M.init (beq_iff_eq.mp M.fn) (codeAny_mono (F.run _ X.stack _ _ ⟨Value.ref (s.heap.objs.size + 1) :: us, []⟩ (Value.ref (s.heap.objs.size + 1) :: (us ++ ds)) _ _ E (hr.make C us [])
    (I2.env0.make C us []) (hb _ (Value.ref (s.heap.objs.size + 1) :: us) I2.kIn hl) r2 hq) fun r s' hq' => ?_))
  cases r with
  | error e => exact hx pins σ _ _ e s' I2 hq'
  | ok fl =>
    cases fl with
    | ret u =>
      obtain ⟨v, H', I3, rv, ev, q3⟩ := I2.after hq'
      subst ev
      exact ⟨rv, ⟨V.ref (s.heap.objs.size + 1), H', I3, rfl, q3⟩⟩
    | next => exact False.elim hq'
    | brk => exact False.elim hq'
    | cont => exact False.elim hq'
theorem pe_make (M : Mk X.K C f) (F : FnOk X.prog X.w X.K X.mg X.base CX k f fd ps sp) (hr : Room (k + 1) X.A) (hg : Gl X x) (hm : X.mg x = some (.ref C)) (hb : Binds X.K fd ps ds) (hd : Vals dvs ds) (hx : Passes CX X E)
    (ha : PA X (e :: es) t) (hdb : (x == ("__debug__" : Str)) = false := by decide) (he : starEach (e :: es) X.env = (false, eval e X.env) :: starEach es X.env := by rfl) (hpl : (backTo pos (starEach es X.env)).any (·.1) = false := by rfl) :
    PE X (.Call (.Name x p) (e :: es) [] pos) (tMake C sp dvs E t) := by
  intro pins s σ H Q I h
  refine wpAny_Call_Name_kw (ld_glob I hg hm ?_ hdb)
  refine PySem.W.callWith_K (h₀ := X.base) I.ok.mod.kin M.kp (thn (ha pos pins s σ H _ I h) fun us s1 ⟨vs, H1, I1, r, q⟩ => ⟨I1.kIn, ?_⟩) he hpl
  exact run_make M F hr hb hd hx I1 r q
theorem pe_make0 (M : Mk X.K C f) (F : FnOk X.prog X.w X.K X.mg X.base CX k f fd ps sp) (hr : Room (k + 1) X.A) (hg : Gl X x) (hm : X.mg x = some (.ref C)) (hb : Binds X.K fd ps ds) (hd : Vals dvs ds) (hx : Passes CX X E)
    (hdb : (x == ("__debug__" : Str)) = false := by decide) : PE X (.Call (.Name x p) [] [] pos) (tMake C sp dvs E tNil) := by
  intro pins s σ H Q I h
  refine wpAny_Call_Name_kw (ld_glob I hg hm ?_ hdb)
  exact PySem.W.callWith_K0 I.kIn M.kp (run_make (us := []) M F hr hb hd hx I .nil h)
end

/-! ### keywords -/
/-- the values of the keywords, from the left -/
def PK (X : Cx) (kws : List Keyword) (t : TA) : Prop :=
  ∀ (pos : Pos) (pins : List (Addr × Obj)) (s : Shared) (σ : St) (H : Hp) (Q : List V → Hp → Prop), Inv X pins σ H s → t σ H Q → wpAny (model X.prog X.w) X.A (evalAll ((backToKw pos (keywordEach kws X.env)).map (·.2))) (AP X pins σ Q) X.xe s
section
variable {X : Cx} {CX : CXT} {k : Nat} {f C : Addr} {fd : FuncData} {ps ks : List Str} {sp : Sp} {E : XK} {x m : Str} {p pos apos kpos : Pos} {e o : Expr} {es : List Expr} {kws : List Keyword} {te ta : TE} {t tk : TA} {nm : Option Str}
theorem pk_nil : PK X [] tNil := fun _ _ _ _ H Q I h => wpAny_evalAll_nil ⟨[], H, I, .nil, h⟩
theorem pk_cons (ha : PE X e te) (hr : PK X kws t) : PK X (⟨nm, e, kpos⟩ :: kws) (tCons te t) := by
  intro pos pins s σ H Q I h
  show wpAny _ _ (evalAll ((do let v ← eval e X.env; standAt pos; pure v) :: (backToKw pos (keywordEach kws X.env)).map (·.2))) _ _ s
  refine wpAny_evalAll_cons (wpAny_bind (thn (ha pins s σ H _ I h) fun u s1 ⟨x, H1, I1, r1, q1⟩ => wpAny_bind (wpAny_standAt (wpAny_pure ?_))))
  exact thn (hr pos pins s1 σ H1 _ I1 q1) fun us s2 ⟨xs, H2, I2, r2, q2⟩ => ⟨x :: xs, H2, I2, .cons r1 r2, q2⟩

/-- how a call with keywords binds: g puts the positional values us and the keywords' values ws (names ks) in the parameters' order, defaults among them -/
structure KBinds (K : PySem.W.Frag) (fd : FuncData) (ps ks : List Str) (g : List Value → List Value → List Value) (gV : List V → List V → List V) : Prop where
  to : ∀ (s : Shared) (us ws : List Value), K.In s.heap → (g us ws).length = ps.length → BindsTo s fd ⟨us, ks.zip ws⟩ (ps.zip (g us ws))
  rel : ∀ {vs : List V} {us : List Value} {zs : List V} {ws : List Value}, Vals vs us → Vals zs ws → Vals (gV vs zs) (g us ws)
def tCallK (sp : Sp) (gV : List V → List V → List V) (E : XK) (t tk : TA) : TE := fun σ H Q => t σ H fun vs H1 => tk σ H1 fun zs H2 => sp (gV vs zs) H2 Q E
variable {g : List Value → List Value → List Value} {gV : List V → List V → List V}
theorem run_fnk {pins : List (Addr × Obj)} {σ : St} {H : Hp} {s : Shared} {Q : VK} {us ws : List Value} {vs zs : List V} (F : FnOk X.prog X.w X.K X.mg X.base CX k f fd ps sp) (hr : Room k X.A) (hb : KBinds X.K fd ps ks g gV) (hx : Passes CX X E)
    (I : Inv X pins σ H s) (r : Vals vs us) (rz : Vals zs ws) (h : sp (gV vs zs) H Q E) : wpAny (model X.prog X.w) X.A (call (.ref f) us (ks.zip ws)) (EP X pins σ Q) X.xe s := by
  have r2 := hb.rel r rz
  have hl : (g us ws).length = ps.length := by rw [← r2.length]; exact F.len _ _ _ _ h
  refine wpAny_call (codeAny_mono (F.run X.A X.stack s H ⟨us, ks.zip ws⟩ (g us ws) (gV vs zs) Q E hr I.env0 (hb.to s us ws I.kIn hl) r2 h) fun r s' hq => ?_)
  cases r with
  | error e => exact hx pins σ H s e s' I hq
  | ok fl =>
    cases fl with
    | ret u => exact I.after hq
    | next => exact False.elim hq
    | brk => exact False.elim hq
    | cont => exact False.elim hq
/-- f(e, .., k = v, ..) -/
theorem pe_callK (F : FnOk X.prog X.w X.K X.mg X.base CX k f fd ps sp) (hr : Room k X.A) (hg : Gl X x) (hm : X.mg x = some (.ref f)) (hk : PySem.W.keepIn X.K (.ref f) = true) (hb : KBinds X.K fd ps ks g gV) (hx : Passes CX X E)
    (ha : PA X (e :: es) t) (hkw : PK X kws tk) (hall : (backToKw pos (keywordEach kws X.env)).all (·.1.isSome) = true := by rfl) (hks : (backToKw pos (keywordEach kws X.env)).filterMap (·.1) = ks := by rfl)
    (hdb : (x == ("__debug__" : Str)) = false := by decide) (he : starEach (e :: es) X.env = (false, eval e X.env) :: starEach es X.env := by rfl)
    (hpl : ((backTo pos (starEach (e :: es) X.env)).any (·.1) || (backToKw pos (keywordEach kws X.env)).any (·.1.isNone)) = false := by rfl) :
    PE X (.Call (.Name x p) (e :: es) kws pos) (tCallK sp gV E t tk) := by
  intro pins s σ H Q I h
  refine wpAny_Call_Name_kw (ld_glob I hg hm ?_ hdb)
  refine PySem.W.callWith_KW (h₀ := X.base) I.ok.mod.kin hk hall (thn (ha pos pins s σ H _ I h) fun us s1 ⟨vs, H1, I1, r, q⟩ => ?_) hpl he
  refine thn (hkw pos pins s1 σ H1 _ I1 q) fun ws s2 ⟨zs, H2, I2, rz, q2⟩ => ⟨I2.kIn, ?_⟩
  rw [hks]
  exact run_fnk F hr hb hx I2 r rz q2
end

/-! ### a def's body keeps its promise -/
/-- names: the parameters first -/
structure FnScope (N P : List Str) (sc : Scope) : Prop where
  kind : sc.kind = .function
  co : sc.isCoroutine = false
  gen : sc.isGenerator = false
  nd : N.Nodup
  pre : N.take P.length = P
  par : ∀ x ∈ P, sc.names.lookup x = some .local ∨ sc.names.lookup x = some .cell
  nofree : ∀ y ∈ sc.names, y.2 ≠ .free

theorem bindL_out {kindOf : Str → Option NameKind} {x : Str} : ∀ {binds : List (Str × Value)} {m : Str → Option Value}, (∀ v, (x, v) ∉ binds) → bindL kindOf binds m x = m x
  | [], _, _ => rfl
  | (n, v) :: r, m, h => by
    unfold bindL
    rw [bindL_out fun w hw => h w (List.mem_cons_of_mem _ hw)]
    split
    · have : x ≠ n := by rintro rfl; exact h v List.mem_cons_self
      simp [this]
    · rfl
theorem bindC_out {kindOf : Str → Option NameKind} {x : Str} : ∀ {binds : List (Str × Value)} {m : Str → Option Value}, (∀ v, (x, v) ∉ binds) → bindC kindOf binds m x = m x
  | [], _, _ => rfl
  | (n, v) :: r, m, h => by
    unfold bindC
    rw [bindC_out fun w hw => h w (List.mem_cons_of_mem _ hw)]
    split
    · rfl
    · have : x ≠ n := by rintro rfl; exact h v List.mem_cons_self
      simp [this]
theorem bindL_get {kindOf : Str → Option NameKind} {x : Str} {v : Value} : ∀ {P : List Str} {vs : List Value} {i : Nat} {m : Str → Option Value}, P.Nodup → P[i]? = some x → vs[i]? = some v → kindOf x = some .local →
    bindL kindOf (P.zip vs) m x = some v
  | [], _, _, _, _, h, _, _ => by simp at h
  | _ :: _, [], _, _, _, _, h, _ => by simp at h
  | p :: P, w :: vs, 0, m, nd, h1, h2, hk => by
    simp at h1 h2; subst h1; subst h2
    show bindL kindOf ((p, w) :: P.zip vs) m p = _
    unfold bindL
    rw [bindL_out fun v hv => (List.nodup_cons.mp nd).1 (List.of_mem_zip hv).1, if_pos hk]
    simp
  | p :: P, w :: vs, i + 1, m, nd, h1, h2, hk => by
    show bindL kindOf ((p, w) :: P.zip vs) m x = _
    unfold bindL
    exact bindL_get (i := i) (List.nodup_cons.mp nd).2 (by simpa using h1) (by simpa using h2) hk
theorem bindC_get {kindOf : Str → Option NameKind} {x : Str} {v : Value} : ∀ {P : List Str} {vs : List Value} {i : Nat} {m : Str → Option Value}, P.Nodup → P[i]? = some x → vs[i]? = some v → kindOf x ≠ some .local →
    bindC kindOf (P.zip vs) m x = some v
  | [], _, _, _, _, h, _, _ => by simp at h
  | _ :: _, [], _, _, _, _, h, _ => by simp at h
  | p :: P, w :: vs, 0, m, nd, h1, h2, hk => by
    simp at h1 h2; subst h1; subst h2
    show bindC kindOf ((p, w) :: P.zip vs) m p = _
    unfold bindC
    rw [bindC_out fun v hv => (List.nodup_cons.mp nd).1 (List.of_mem_zip hv).1, if_neg hk]
    simp
  | p :: P, w :: vs, i + 1, m, nd, h1, h2, hk => by
    show bindC kindOf ((p, w) :: P.zip vs) m x = _
    unfold bindC
    exact bindC_get (i := i) (List.nodup_cons.mp nd).2 (by simpa using h1) (by simpa using h2) hk

/-- the names' values at the entry -/
def start (N : List Str) (vs : List V) : St := vs.map some ++ List.replicate (N.length - vs.length) none

/-- the context of a def's body, at its entry; an exception leaves the frame, then lies as CX says -/
def cxOf (CX : CXT) (P : Program) (w : World) (K : PySem.W.Frag) (mg : Str → Option Value) (base : Heap) (N : List Str) (qual : Str) (scope : Scope) (f : Addr) (cd : Value) (A : Around) (outer : List Env) (s : Shared) (H : Hp) (E : XK) : Cx where
  prog := P
  w := w
  K := K
  mg := mg
  base := base
  A := A.deeper (envOfC qual scope s.heap.objs.size f cd)
  N := N
  s₀ := s
  H₀ := H
  env := envOfC qual scope s.heap.objs.size f cd
  outer := outer
  stack := envOfC qual scope s.heap.objs.size f cd :: outer
  ex := []
  calm := true
  fn := fun _ => true
  pn := []
  xe := fun e s' => wpAny (model P w) (A.deeper (envOfC qual scope s.heap.objs.size f cd)) (leaving (envOfC qual scope s.heap.objs.size f cd) e) (fun _ s'' => CX outer H s E e s'') (fun e' s'' => CX outer H s E e' s'') s'

theorem cell_has {sc : Scope} {n : Nat} {x : Str} (h : sc.names.lookup x = some .cell) : ∃ c, (cellsFrom n sc.names []).lookup x = some c := by
  have q := PySem.W.cellsFrom_some sc.names n [] (.inl h)
  exact Option.isSome_iff_exists.mp q

theorem inv_start {CX : CXT} {P : Program} {w : World} {K : PySem.W.Frag} {mg : Str → Option Value} {base : Heap} {N ps : List Str} {qual : Str} {scope : Scope} {f : Addr} {cd : Value} {A : Around} {outer : List Env} {s s1 : Shared} {H : Hp} {E : XK} {us : List Value} {vs : List V}
    (S : FnScope N ps scope) (hd : A.handled = none) (e0 : Env0 P w K mg base A outer s H) (hl : vs.length = ps.length) (r : Vals vs us)
    (x : InCallC s s.heap.objs.size (bindL (envOfC qual scope s.heap.objs.size f cd).kindOf (ps.zip us) fun _ => none) (cellsFrom (s.heap.objs.size + 1) scope.names []) (bindC (envOfC qual scope s.heap.objs.size f cd).kindOf (ps.zip us) fun _ => none) s1) :
    Inv (cxOf CX P w K mg base N qual scope f cd A outer s H E) [] (start N vs) H s1 := by
  have hpl : ps.length ≤ N.length := by have := congrArg List.length S.pre; rw [List.length_take] at this; omega
  obtain ⟨h1, tk, rfl, hk⟩ := x.done
  have noA : ∀ b : Addr, b ∉ (cxOf CX P w K mg base N qual scope f cd A outer s H E).ex := fun b z => absurd (show b ∈ ([] : List Addr) from z) (by simp)
  refine ⟨⟨e0.mod, S.kind, rfl, rfl, Nat.le_refl _, fun y z c h1 h2 => ?_, fun y hy => ?_, fun y c _ h => ?_, fun _ => hd, Around.frames_deeper e0.frames, .inr ⟨rfl, rfl⟩, fun b z => absurd z (noA b), e0.bs, e0.bsz, fun b _ _ => noA b, fun b z => absurd z (noA b), e0.funs, e0.frf⟩,
    rfl, e0.bare, Un.kept hk, ⟨_, x.toInCall.ns, fun i y v h1 h2 h3 => ?_⟩, fun y c h => ⟨_, x.cell y c h⟩, e0.hok.fresh (Nat.le_refl _), fun y c h => ?_, fun p hp => absurd (show p ∈ ([] : List (Addr × Obj)) from hp) (by simp), e0.hok.kept hk, ?_⟩
  · exact name_of_addr x.apart (PySem.mem_of_lookup h1) (PySem.mem_of_lookup h2)
  · have hy : scope.names.lookup y = some .cell ∨ scope.names.lookup y = some .free := hy
    rcases hy with hy | hy
    · exact cell_has hy
    · exact absurd rfl (S.nofree _ (PySem.mem_of_lookup hy))
  · exact Nat.le_of_lt (x.above y c (PySem.mem_of_lookup h))
  · have hi : i < vs.length := by
      unfold start at h2
      by_cases hi : i < vs.length
      · exact hi
      · rw [List.getElem?_append_right (by simpa using hi)] at h2
        rw [List.getElem?_replicate] at h2
        split at h2 <;> cases h2
    have ha : vs[i]? = some v := by
      unfold start at h2
      rw [List.getElem?_append_left (by simpa using hi), List.getElem?_map] at h2
      cases e : vs[i]? with
      | none => rw [e] at h2; cases h2
      | some a => rw [e] at h2; cases h2; rfl
    obtain ⟨u, hu, rv⟩ := r.get ha
    have hp : ps[i]? = some y := by
      rw [← S.pre, List.getElem?_take_of_lt (by omega)]; exact h1
    have ndP : ps.Nodup := by rw [← S.pre]; exact S.nd.sublist (List.take_sublist _ _)
    refine ⟨u, rv, ?_⟩
    rcases S.par y (List.mem_of_getElem? hp) with k | k
    · exact .inl ⟨k, bindL_get ndP hp hu k⟩
    · obtain ⟨c, e⟩ := cell_has (n := s.heap.objs.size + 1) k
      refine .inr ⟨.inl k, c, e, ?_⟩
      have q := x.cell y c e
      rw [bindC_get ndP hp hu (by show scope.names.lookup y ≠ _; rw [k]; decide)] at q
      exact q
  · exact e0.hok.fresh (Nat.le_of_lt (x.above y c (PySem.mem_of_lookup h)))
  · unfold start
    show _ = N.length
    rw [List.length_append, List.length_map, List.length_replicate]
    omega

/-- THE RULE: a def (or a method) of the text, by its body. The body's reading t is chosen for each entry; it is run at the parameters' values -/
theorem fn_of {CX : CXT} {P : Program} {w : World} {K : PySem.W.Frag} {mg : Str → Option Value} {base : Heap} {k : Nat} {f : Addr} {name qual : Str} {params : Arguments} {body : List Stmt} {scope : Scope} {dV kV doc pm cdv ct oc : Value} {an od : Option Addr}
    {osl : Array (Option Value)} {N ps : List Str} {sp : Sp} (lk : K.lookup f = some ⟨oc, od, .func (PySem.W.fnOf name qual params body scope dV kV doc pm an cdv ct), osl⟩) (hcd : PySem.W.codeIn K cdv qual = true) (S : FnScope N ps scope)
    (len : ∀ vs H Q E, sp vs H Q E → vs.length = ps.length)
    (hbody : ∀ (A : Around) (outer : List Env) (s : Shared) (H : Hp) (vs : List V) (Q : VK) (E : XK), Room k (A.deeper (envOfC qual scope s.heap.objs.size f cdv)) → sp vs H Q E →
      ∃ t, PSs (cxOf CX P w K mg base N qual scope f cdv A outer s H E) body t ∧ t { nx := fun _ H' => Q .non H', rt := Q } (start N vs) H) :
    FnOk P w K mg base CX (k + 1) f (PySem.W.fnOf name qual params body scope dV kV doc pm an cdv ct) ps sp := by
  refine ⟨len, fun A outer s H args us vs Q E hr e0 hb r hsp => ?_⟩
  have hl := len _ _ _ _ hsp
  have KX : K.In s.heap := e0.mod.kin.keeps fun b o e => (e0.bs b o e).1
  have lim : s.heap.NoLimit := e0.mod.nolimit.keeps fun b o e => (e0.bs b o e).1
  have hkind : ∀ y ∈ ps.zip us, scope.names.lookup y.1 = some .local ∨ (scope.names.lookup y.1 = some .cell ∧ ((cellsFrom (s.heap.objs.size + 1) scope.names []).lookup y.1).isSome = true) := fun ⟨n, v⟩ hy => by
    rcases S.par n (List.of_mem_zip hy).1 with q | q
    · exact .inl q
    · exact .inr ⟨q, PySem.W.cellsFrom_some _ _ _ (.inl q)⟩
  refine codeAny_call_function hr.depth (KX _ _ lk) rfl S.co S.gen rfl (PySem.W.codeRec_of KX hcd) (hb _ _ _ _ ?_)
  refine wpAny_newFunctionEnv_cells S.kind hkind fun env he s1 x => ?_
  subst he
  refine ⟨lim.keeps x.toInCall.keep, codeAny_func ?_⟩
  obtain ⟨t, ht, hq⟩ := hbody A outer s H vs Q E (hr.deeper _) hsp
  have I : Inv (cxOf CX P w K mg base N qual scope f cdv A outer s H E) [] (start N vs) H s1 := inv_start S hr.hd e0 hl r x
  refine wpAny_mono (ht [] s1 (start N vs) H _ I hq) (fun fl s' hs => ?_) fun e s' hs => hs
  have fin : ∀ {σ' : St} {H' : Hp} {v : V} {u : Value}, Inv (cxOf CX P w K mg base N qual scope f cdv A outer s H E) [] σ' H' s' → RelV v u → Q v H' → CE outer P w H s Q u s' :=
    fun {σ' H' v u} J rv q => ⟨v, H', J.os, J.bare, J.base, J.hok, rv, q⟩
  cases fl with
  | ret u =>
    obtain ⟨v, σ', H', J, rv, q⟩ := hs
    exact fin J rv q
  | next =>
    obtain ⟨σ', H', J, q⟩ := hs
    exact fin (v := V.non) (u := Value.none) J rfl q
  | brk =>
    obtain ⟨_, _, _, q⟩ := hs
    exact False.elim q
  | cont =>
    obtain ⟨_, _, _, q⟩ := hs
    exact False.elim q
end L2

namespace L2
open PySem PySem.Spec PyProof.Rows
section
variable {X : Cx} {x : Str} {p pos : Pos} {e : Expr} {es : List Expr} {t : TA} {id T : String} {r : List V → Hp → VK → Prop}

def tCB (r : List V → Hp → VK → Prop) (t : TA) : TE := fun σ H Q => t σ H fun vs H1 => r vs H1 Q
/-- f(e, ..), f a built-in function -/
theorem pe_callB (hc : CallR X (.builtin id) r) (hg : Gl X x) (hm : X.mg x = none) (hv : bootBuiltins x = some (.builtin id)) (ha : PA X (e :: es) t) (hn : x ≠ "__name__" := by decide) (hdb : (x == ("__debug__" : Str)) = false := by decide)
    (he : starEach (e :: es) X.env = (false, eval e X.env) :: starEach es X.env := by rfl) (hpl : (backTo pos (starEach es X.env)).any (·.1) = false := by rfl) : PE X (.Call (.Name x p) (e :: es) [] pos) (tCB r t) := by
  intro pins s σ H Q I h
  refine wpAny_Call_Name_kw (ld_blt I hg hm hv ?_ hn hdb)
  exact PyProof.Rows.callWith_builtin1 (thn (ha pos pins s σ H _ I h) fun us s1 ⟨vs, H1, I1, r1, q1⟩ => hc pins s1 σ H1 vs us Q I1 r1 q1) he hpl
/-- T(e, ..), T a built-in type -/
theorem pe_callTy (hc : CallR X (.type T) r) (hg : Gl X x) (hm : X.mg x = none) (hv : bootBuiltins x = some (.type T)) (ha : PA X (e :: es) t) (hn : x ≠ "__name__" := by decide) (hdb : (x == ("__debug__" : Str)) = false := by decide)
    (he : starEach (e :: es) X.env = (false, eval e X.env) :: starEach es X.env := by rfl) (hpl : (backTo pos (starEach es X.env)).any (·.1) = false := by rfl) : PE X (.Call (.Name x p) (e :: es) [] pos) (tCB r t) := by
  intro pins s σ H Q I h
  refine wpAny_Call_Name_kw (ld_blt I hg hm hv ?_ hn hdb)
  exact PyProof.Rows.callWith_type1 (thn (ha pos pins s σ H _ I h) fun us s1 ⟨vs, H1, I1, r1, q1⟩ => hc pins s1 σ H1 vs us Q I1 r1 q1) he hpl
/-- T() -/
theorem pe_callTy0 (hc : CallR X (.type T) r) (hg : Gl X x) (hm : X.mg x = none) (hv : bootBuiltins x = some (.type T)) (hn : x ≠ "__name__" := by decide) (hdb : (x == ("__debug__" : Str)) = false := by decide) :
    PE X (.Call (.Name x p) [] [] pos) (tCB r tNil) := by
  intro pins s σ H Q I h
  refine wpAny_Call_Name_kw (ld_blt I hg hm hv ?_ hn hdb)
  exact PyProof.Rows.callWith_type0 (hc pins s σ H [] [] Q I .nil h)
end
end L2

namespace HT
open PySem PyProof.Rows

/-- t < u of tuples of ints -/
def lexLt : List Int → List Int → Bool
  | [], [] => false
  | [], _ :: _ => true
  | _ :: _, [] => false
  | x :: xs, y :: ys => if x = y then lexLt xs ys else decide (x < y)
theorem lexLt_cons (x y : Int) (xs ys : List Int) : lexLt (x :: xs) (y :: ys) = if x = y then lexLt xs ys else decide (x < y) := rfl
theorem lexLt_nil_nil : lexLt [] [] = false := rfl
theorem lexLt_nil_cons (y : Int) (ys : List Int) : lexLt [] (y :: ys) = true := rfl
theorem lexLt_cons_nil (x : Int) (xs : List Int) : lexLt (x :: xs) [] = false := rfl

theorem eqAt_int (A : Around) (s : Shared) (a : Int) (t : Tok) (c : Int) (u : Tok) : ∃ e, SeqAt.EqAt A s (.int a t) (.int c u) e ∧ (e = true ↔ a = c) :=
  ⟨(a == c), SeqAt.EqAt.int_int a t c u, by simp⟩
theorem rcLt_int (A : Around) (s : Shared) (a : Int) (t : Tok) (c : Int) (u : Tok) (prog : Program) (w : World) (E : Value → Shared → Prop) (Q : Value → Shared → Prop) (h : Q (.bool (decide (a < c))) s) :
    wpAny (model prog w) A (richCompare .Lt (.int a t) (.int c u)) Q E s :=
  (PyProof.Rows.lt_int h : wpAny (model prog w) A (compareOp .Lt (.int a t) (.int c u)) Q E s)

section
open PySem.SeqAt
open PySem.AutoSeq1 (wpAny_loadPart')
open PySem.MeetsSeq PySem.MeetsSeq2 PySem.MeetsSeq3

theorem tuple_lt_ints (l b : Addr) (items items2 : Array Value) (n n2 : Nat) (dd dd2 : Option Addr) (sl sl2 : Array (Option Value)) (ns ms : List Int) (hi : IntsAre items.toList ns) (hj : IntsAre items2.toList ms) :
    Meets (Builtin.«tuple.__lt__» ⟨[.ref l, .ref b], []⟩)
      (fun _ R s => s.heap.get? l = some { cls := .type "tuple", dict := dd, data := .seq items n, slots := sl } ∧ s.heap.get? b = some { cls := .type "tuple", dict := dd2, data := .seq items2 n2, slots := sl2 } ∧
        R (.ok (.ret (.bool (lexLt ns ms)))) s) :=
  .of_wp fun prog w A R s h => by
    obtain ⟨hp, g, d, tk, os⟩ := s; obtain ⟨hl, hb, h⟩ := h
    have f2 := AutoSeq1.sub_tuple_tuple
    have z1 : items.size = ns.length := by rw [← hi.length]; simp
    have z2 : items2.size = ms.length := by rw [← hj.length]; simp
    wp_walk using wpAny_loadPart' hl, wpAny_loadPart' hb, wpAny_forIn_list _ (fun rest b s' => b.1 = none ∧ s' = ⟨hp, g, d, tk, os⟩ ∧ ∃ (vs ws : List Value) (ns' ms' : List Int), rest = vs.zip ws ∧
      IntsAre vs ns' ∧ IntsAre ws ms' ∧ ns'.length + items2.size = ms'.length + items.size ∧ R (.ok (.ret (.bool (lexLt ns' ms')))) ⟨hp, g, d, tk, os⟩) _
    case turn =>
      rintro ⟨y, x⟩ rest b s' ⟨hb', rfl, vs, ws, ns', ms', hz, hvi, hwi, hlen, hR⟩
      cases hvi with
      | nil => rw [List.zip_nil_left] at hz; cases hz
      | cons a t hvi' =>
        cases hwi with
        | nil => rw [List.zip_nil_right] at hz; cases hz
        | cons c u hwi' =>
          rw [List.zip_cons_cons] at hz
          injection hz with hyx hrest
          injection hyx with hy hx
          subst hy hx
          rw [lexLt_cons] at hR
          simp only [List.length_cons] at hlen
          obtain ⟨e, he, hiff⟩ := eqAt_int A.in1 ⟨hp, g, d, tk, os⟩ a t c u
          refine wpAny_bind (he prog w _ _ ?_)
          cases e with
          | true =>
            rw [if_pos (hiff.mp rfl)] at hR
            wp_walk
            exact ⟨rfl, rfl, _, _, _, _, hrest, hvi', hwi', by omega, hR⟩
          | false =>
            rw [if_neg (fun q => absurd (hiff.mpr q) Bool.false_ne_true)] at hR
            have hri := rcLt_int A.in1 ⟨hp, g, d, tk, os⟩ a t c u prog w
            wp_walk using hri
            exact ⟨_, rfl, by simpa using hR⟩
    case fin =>
      rintro ⟨b1, b2⟩ s' ⟨hb', rfl, vs, ws, ns', ms', hz, hvi, hwi, hlen, hR⟩
      simp only at hb'
      subst hb'
      have hv : lexLt ns' ms' = decide (items.size < items2.size) := by
        cases hvi with
        | nil =>
          cases hwi with
          | nil =>
            simp only [List.length_nil] at hlen
            rw [lexLt_nil_nil]
            exact (decide_eq_false (by omega)).symm
          | cons c u hw =>
            simp only [List.length_nil, List.length_cons] at hlen
            rw [lexLt_nil_cons]
            exact (decide_eq_true (by omega)).symm
        | cons a t hv =>
          cases hwi with
          | nil =>
            simp only [List.length_nil, List.length_cons] at hlen
            rw [lexLt_cons_nil]
            exact (decide_eq_false (by omega)).symm
          | cons c u hw =>
            rw [List.zip_cons_cons] at hz
            cases hz
      rw [hv] at hR
      wp_walk
      exact ⟨_, rfl, by simpa [Builtin.Tuple.tupleCompareSizes] using hR⟩
    case h =>
      exact ⟨rfl, rfl, items.toList, items2.toList, ns, ms, rfl, hi, hj, by omega, h⟩
end

section
variable {prog : Program} {w : World} {A : Around} {E : Value → Shared → Prop} {s : Shared}

theorem lt_tupInts {l b : Addr} {items items2 : Array Value} {ns ms : List Int} {Q : Value → Shared → Prop} (hl : IsTup s.heap l items) (hb : IsTup s.heap b items2) (hi : IntsAre items.toList ns) (hj : IntsAre items2.toList ms)
    (hu : A.units < cLine) (h : Q (.bool (lexLt ns ms)) s) : wpAny (model prog w) A (compareOp .Lt (.ref l) (.ref b)) Q E s := by
  obtain ⟨⟨cls, dd, data, sl⟩, ho, hc, n, hd⟩ := id hl
  obtain ⟨⟨cls2, dd2, data2, sl2⟩, ho2, hc2, n2, hd2⟩ := id hb
  simp only at hc hd hc2 hd2
  subst hc hd hc2 hd2
  exact richCompare_meets_room (op := .Lt) ⟨_, ho, rfl⟩ ⟨_, ho2, rfl⟩ PySem.F.slot_tuple_lt PySem.F.entry_tuple_lt (PySem.F.args_tuple_lt_2 _ _) (tuple_lt_ints l b items items2 n n2 dd dd2 sl sl2 ns ms hi hj)
    ⟨ho, ho2, show Value.bool (lexLt ns ms) ≠ Value.notImplemented ∧ Q (.bool (lexLt ns ms)) s from ⟨(fun x => nomatch x), h⟩⟩ hu

/-- t + u, t not empty -/
theorem cat_tup {t b : Addr} {vs ws : List Value} {Q : Value → Shared → Prop} (ht : IsTup s.heap t vs.toArray) (hb : IsTup s.heap b ws.toArray) (hv : vs ≠ [])
    (h1 : ws = [] → Q (.ref t) s) (h2 : ws ≠ [] → Q (.ref s.heap.objs.size) { s with heap := s.heap.push { cls := .type "tuple", data := .seq (vs ++ ws).toArray } })
    (hsz : vs.length + ws.length ≤ sizeLine) : wpAny (model prog w) A (binaryOp .Add (.ref t) (.ref b)) Q E s := by
  obtain ⟨⟨cls, dd, data, sl⟩, ho, hc, n, hd⟩ := id ht
  obtain ⟨⟨cls2, dd2, data2, sl2⟩, ho2, hc2, n2, hd2⟩ := id hb
  simp only at hc hd hc2 hd2
  subst hc hd hc2 hd2
  have e : vs.toArray ++ ws.toArray = (vs ++ ws).toArray := by simp
  by_cases hw : ws = []
  · exact concat_meets ⟨_, ho, rfl⟩ ⟨_, ho2, rfl⟩ noFill_tuple_add seq_tuple_add PySem.F.slot_tuple_add PySem.F.entry_tuple_add (PySem.F.args_tuple_add_2 _ _)
      (tuple_addW1 t b vs.toArray ws.toArray n n2 dd dd2 sl sl2 (by simpa using hv) (by simp [hw])) ⟨ho, ho2, h1 hw⟩
  · refine concat_meets ⟨_, ho, rfl⟩ ⟨_, ho2, rfl⟩ noFill_tuple_add seq_tuple_add PySem.F.slot_tuple_add PySem.F.entry_tuple_add (PySem.F.args_tuple_add_2 _ _)
      (tuple_addW2 t b vs.toArray ws.toArray n n2 dd dd2 sl sl2 (by simpa using hv) (by simpa using hw) (by rw [List.size_toArray, List.size_toArray]; exact hsz)) ⟨ho, ho2, ?_⟩
    rw [e]
    exact h2 hw

/-! ### t[a:b], not the whole -/
/-- a slice's bound as a place among n (d where it is left out) -/
def sIx (n d : Nat) : Option Int → Nat
  | none => d
  | some v => if v < 0 then (v + (n : Int)).toNat else min v.toNat n
theorem sIx_none (n d : Nat) : sIx n d none = d := rfl
theorem sIx_nat (n d k : Nat) : sIx n d (some (k : Int)) = min k n := by
  show (if (k : Int) < 0 then ((k : Int) + (n : Int)).toNat else min (k : Int).toNat n) = min k n
  rw [if_neg (by omega), Int.toNat_natCast]
theorem sIx_le (n d : Nat) (hd : d ≤ n) (o : Option Int) : sIx n d o ≤ n := by
  cases o with
  | none => exact hd
  | some v =>
    show (if v < 0 then (v + (n : Int)).toNat else min v.toNat n) ≤ n
    by_cases hv : v < 0
    · rw [if_pos hv]; omega
    · rw [if_neg hv]; exact Nat.min_le_right _ _
theorem clip_eq (v : Int) (n d : Nat) : (if v < 0 then max (v + (n : Int)) 0 else min v (n : Int)) = ((sIx n d (some v) : Nat) : Int) := by
  show (if v < 0 then max (v + (n : Int)) 0 else min v (n : Int)) = (((if v < 0 then (v + (n : Int)).toNat else min v.toNat n) : Nat) : Int)
  by_cases hv : v < 0
  · simp only [if_pos hv]; omega
  · simp only [if_neg hv]; omega
theorem adjust_gen (lo hi : Option Int) (n : Nat) : Builtin.Slice.sliceAdjust lo hi 1 (n : Int) = (((sIx n 0 lo : Nat) : Int), ((sIx n n hi : Nat) : Int)) := by
  have h1 : ¬ ((1 : Int) < 0) := by omega
  unfold Builtin.Slice.sliceAdjust
  simp only [h1, if_false]
  refine Prod.ext ?_ ?_
  · cases lo with
    | none => rfl
    | some v => exact clip_eq v n 0
  · cases hi with
    | none => rfl
    | some v => exact clip_eq v n n
theorem places_gen (i j : Nat) : Builtin.Slice.slicePlaces (i : Int) (j : Int) 1 = j - i := by
  unfold Builtin.Slice.slicePlaces
  have h1 : (1 : Int) > 0 := by omega
  simp only [h1, if_true, Int.ediv_one]
  split <;> omega
theorem slicePart_ {v : Value} {o : Option Int} {Q : Option Int → Shared → Prop} (p : IsPart v o) (h : Q o s) : wpAny (model prog w) A (Builtin.Slice.slicePartIndex v) Q E s := by
  cases p with
  | none => exact slicePart_none h
  | int i t => exact slicePart_int h
theorem sliceApplied_gen {sl : Addr} {vl vu : Value} {lo hi : Option Int} {n : Nat} {Q : Int × Int × Nat → Shared → Prop} (hs : s.heap.IsSliceOf sl vl vu .none) (pl : IsPart vl lo) (pu : IsPart vu hi)
    (h : Q (((sIx n 0 lo : Nat) : Int), 1, sIx n n hi - sIx n 0 lo) s) : wpAny (model prog w) A (Builtin.Slice.sliceApplied (.ref sl) (pure (n : Int))) Q E s := by
  obtain ⟨os, hos, hcs, hds⟩ := id hs
  unfold Builtin.Slice.sliceApplied Builtin.Slice.sliceFields
  refine wpAny_bind (wpAny_bind (wpAny_field hos hds (x := vl) rfl (wpAny_bind (wpAny_field hos hds (x := vu) rfl (wpAny_bind (wpAny_field hos hds (x := .none) rfl (wpAny_pure ?_)))))))
  refine wpAny_bind (slicePart_none ?_)
  show wpAny _ _ (if ((1 : Int) == 0) = true then _ else _) _ _ s
  rw [if_neg (by decide)]
  refine wpAny_bind (slicePart_ pl (wpAny_bind (slicePart_ pu (wpAny_bind (wpAny_pure ?_)))))
  show wpAny _ _ (match Builtin.Slice.sliceAdjust lo hi 1 (n : Int) with | (lo, hi) => pure (lo, (1 : Int), Builtin.Slice.slicePlaces lo hi 1)) _ _ s
  rw [adjust_gen lo hi n]
  show wpAny _ _ (pure (((sIx n 0 lo : Nat) : Int), (1 : Int), Builtin.Slice.slicePlaces ((sIx n 0 lo : Nat) : Int) ((sIx n n hi : Nat) : Int) 1)) _ _ s
  rw [places_gen]
  exact wpAny_pure h
theorem pick_gen (xs : Array Value) (i k : Nat) : ((List.range k).filterMap fun (m : Nat) => xs[((i : Int) + (m : Int) * 1).toNat]?).toArray = ((xs.toList.drop i).take k).toArray := by
  have e : (fun (m : Nat) => xs[((i : Int) + (m : Int) * 1).toNat]?) = fun m => xs[i + m]? := by
    funext m
    have : ((i : Int) + (m : Int) * 1).toNat = i + m := by omega
    rw [this]
  rw [e]
  have := pick_run xs i k
  rw [List.filterMap_map] at this
  have e2 : ((fun x => xs[x]?) ∘ fun x => i + x) = fun m => xs[i + m]? := rfl
  rw [e2] at this
  rw [this]

theorem getItem_tuple_cut {t sl : Addr} {items : Array Value} {vl vu : Value} {lo hi : Option Int} {Q : Value → Shared → Prop} (ht : IsTup s.heap t items) (hs : s.heap.IsSliceOf sl vl vu .none) (pl : IsPart vl lo) (pu : IsPart vu hi)
    (hw : ¬ (sIx items.size 0 lo = 0 ∧ sIx items.size items.size hi = items.size))
    (h : Q (.ref s.heap.objs.size) { s with heap := s.heap.push { cls := .type "tuple", data := .seq ((items.toList.drop (sIx items.size 0 lo)).take (sIx items.size items.size hi - sIx items.size 0 lo)).toArray } })
    (hsz : items.size ≤ sizeLine) : wpAny (model prog w) A (getItem (.ref t) (.ref sl)) Q E s := by
  have htake : sizeOk (.seq ((items.toList.drop (sIx items.size 0 lo)).take (sIx items.size items.size hi - sIx items.size 0 lo)).toArray) := by
    show ((items.toList.drop (sIx items.size 0 lo)).take (sIx items.size items.size hi - sIx items.size 0 lo)).toArray.size ≤ sizeLine
    rw [List.size_toArray, List.length_take, List.length_drop, Array.length_toList]
    omega
  have hj : sIx items.size items.size hi ≤ items.size := sIx_le _ _ (Nat.le_refl _) hi
  obtain ⟨os, hos, hcs, hds⟩ := id hs
  have hTs : s.TypeIs (.ref sl) "slice" := ⟨os, hos, hcs⟩
  unfold getItem
  try with_reducible refine wpAny_holding ?_
  first | refine wpAny_bind (wpAny_pure ?_) | skip
  refine wpAny_bind (wpAny_sequenceKey ht.typeIs (by decide) ?_)
  refine wpAny_bind (wpAny_callSpecial?_slot (name := Str.ofString "__getitem__") ht.typeIs PyProof.Rows.slot_tuple_getitem
    (wpAny_call_entry PyProof.Rows.slot_tuple_getitem ht.typeIs entry_tuple_getitem ?_ (args_tuple_getitem _ _)))
  show wpAny _ _ (Builtin.Tuple.tupleItemsOf (.ref t) >>= _) _ _ s
  refine wpAny_bind (tupleItemsOf_ ht ?_)
  refine wpAny_bind (wpAny_typeOf hTs ?_)
  rw [if_pos (by decide)]
  refine wpAny_bind (sliceApplied_gen hs pl pu ?_)
  have hno : ¬ ((((sIx items.size 0 lo : Nat) : Int) == 0 && (1 : Int) == 1 && (sIx items.size items.size hi - sIx items.size 0 lo) == items.size) = true) := by
    intro q
    rw [Bool.and_eq_true, Bool.and_eq_true] at q
    have q1 : ((sIx items.size 0 lo : Nat) : Int) = 0 := eq_of_beq q.1.1
    have q2 : sIx items.size items.size hi - sIx items.size 0 lo = items.size := eq_of_beq q.2
    exact hw ⟨by omega, by omega⟩
  show wpAny _ _ (if (((sIx items.size 0 lo : Nat) : Int) == 0 && (1 : Int) == 1 && (sIx items.size items.size hi - sIx items.size 0 lo) == items.size) = true then _ else _) _ _ s
  rw [if_neg hno, pick_gen]
  first
    | exact wpAny_bind (m := Builtin.Tuple.tupleExact _) (wpAny_newObj_type (wpAny_pure ⟨_, rfl, wpAny_pure h⟩) htake)
    | exact wpAny_bind (m := Builtin.Tuple.tupleExact _) (wpAny_newObj_type (wpAny_bind (wpAny_pure (wpAny_pure ⟨_, rfl, wpAny_pure h⟩))) htake)
    | exact wpAny_bind (wpAny_bind (m := Builtin.Tuple.tupleExact _) (wpAny_newObj_type (wpAny_pure (wpAny_pure ⟨_, rfl, wpAny_pure h⟩)) htake))
    | exact wpAny_bind (wpAny_bind (m := Builtin.Tuple.tupleExact _) (wpAny_newObj_type (wpAny_pure ⟨_, rfl, wpAny_pure h⟩) htake))
end
end HT

namespace L2
open PySem PySem.Spec PyProof.Rows

/-! ### the parts of a slice -/
abbrev TO := St → Hp → (Option Int → Hp → Prop) → Prop
/-- a slice's part (left out, or an int) -/
def PO (X : Cx) (e : Option Expr) (t : TO) : Prop :=
  ∀ (pins : List (Addr × Obj)) (s : Shared) (σ : St) (H : Hp) (Q : Option Int → Hp → Prop), Inv X pins σ H s → t σ H Q →
    wpAny (model X.prog X.w) X.A (evalPart e X.env) (fun u s' => ∃ o H', Inv X pins σ H' s' ∧ IsPart u o ∧ Q o H') X.xe s
def tNoPart : TO := fun _ H Q => Q none H
def tPart (t : TE) : TO := fun σ H Q => t σ H fun x H1 => ∃ i, x = .int i ∧ Q (some i) H1

theorem intsAre_of {ns : List Int} : ∀ {us : List Value}, Vals (ns.map V.int) us → IntsAre us ns := by
  induction ns with
  | nil => intro us r; rw [List.map_nil] at r; cases r; exact .nil
  | cons n ns ih =>
    intro us r
    rw [List.map_cons] at r
    cases r with
    | cons r1 r2 =>
      obtain ⟨t, e⟩ := r1
      subst e
      exact .cons n t (ih r2)

section
variable {X : Cx} {e : Expr} {te : TE} {lo hi : Option Expr} {tl th : TO} {pos p2 : Pos}

theorem po_none : PO X none tNoPart := by
  intro pins s σ H Q I h
  rw [evalPart_none]
  exact wpAny_pure ⟨none, H, I, .none, h⟩
theorem po_some (h : PE X e te) : PO X (some e) (tPart te) := by
  intro pins s σ H Q I hw
  rw [evalPart_some]
  refine thn (h pins s σ H _ I hw) fun u s1 ⟨x, H1, I1, r1, q1⟩ => ?_
  obtain ⟨i, rfl, q⟩ := q1
  obtain ⟨t, rfl⟩ := r1
  exact ⟨some i, H1, I1, .int i t, q⟩

/-- what a slice of a value is, by values: the slice object stands at sl -/
def SlR (X : Cx) (r : V → Option Int → Option Int → Hp → VK → Prop) : Prop :=
  ∀ (pins : List (Addr × Obj)) (s : Shared) (σ : St) (H : Hp) (x : V) (v vl vu : Value) (lo hi : Option Int) (sl : Addr) (Q : VK), Inv X pins σ H s → RelV x v → s.heap.IsSliceOf sl vl vu .none → IsPart vl lo → IsPart vu hi → r x lo hi H Q →
    ∃ T id, typeLookup (.type T) "__getitem__" = pure (some (.builtin id)) ∧ s.TypeIs v T ∧ wpAny (model X.prog X.w) X.A (getItem v (.ref sl)) (EP X pins σ Q) X.xe s
theorem SlR.or {r r' : V → Option Int → Option Int → Hp → VK → Prop} (h : SlR X r) (h' : SlR X r') : SlR X (fun x lo hi H Q => r x lo hi H Q ∨ r' x lo hi H Q) := by
  intro pins s σ H x v vl vu lo hi sl Q I rx hs pl pu q
  rcases q with q | q
  · exact h pins s σ H x v vl vu lo hi sl Q I rx hs pl pu q
  · exact h' pins s σ H x v vl vu lo hi sl Q I rx hs pl pu q
def tSl (r : V → Option Int → Option Int → Hp → VK → Prop) (te : TE) (tl th : TO) : TE := fun σ H Q => te σ H fun x H1 => tl σ H1 fun l H2 => th σ H2 fun u H3 => r x l u H3 Q
/-- a[lo:hi], any a -/
theorem pe_slice {r : V → Option Int → Option Int → Hp → VK → Prop} (hr : SlR X r) (he : PE X e te) (hl : PO X lo tl) (hu : PO X hi th) : PE X (.Subscript e (.Slice lo hi none p2) pos) (tSl r te tl th) := by
  intro pins s σ H Q I h
  refine Subscript_ (thn (he pins s σ H _ I h) fun v s1 ⟨x, H1, I1, r1, q1⟩ => ?_)
  refine wpAny_Slice (thn (hl pins s1 σ H1 _ I1 q1) fun vl s2 ⟨l, H2, I2, pl, q2⟩ => thn (hu pins s2 σ H2 _ I2 q2) fun vu s3 ⟨u, H3, I3, pu, q3⟩ => ?_)
  rw [evalPart_none]
  refine wpAny_pure ?_
  have I4 : Inv X pins σ H3 { s3 with heap := s3.heap.push { cls := .type "slice", data := .fields #[vl, vu, .none] } } := I3.kept (t' := s3.toks) fun b ob q => Heap.get?_push_of_some _ q
  obtain ⟨T, id, hT, ht, hg⟩ := hr pins { s3 with heap := s3.heap.push { cls := .type "slice", data := .fields #[vl, vu, .none] } } σ H3 x v vl vu l u s3.heap.objs.size Q I4 r1 (Heap.IsSliceOf.new ..) pl pu q3
  show wpAny (model X.prog X.w) X.A (subscriptTail e (.Slice lo hi none p2) v (.ref s3.heap.objs.size)) (EP X pins σ Q) X.xe { s3 with heap := s3.heap.push { cls := .type "slice", data := .fields #[vl, vu, .none] } }
  exact tail_any (ops := [.ref s3.heap.objs.size, v]) ht hT hg (by with_unfolding_all rfl)

/-- the items of xs[lo:hi] -/
def cutV (xs : List V) (lo hi : Option Int) : List V := (xs.drop (HT.sIx xs.length 0 lo)).take (HT.sIx xs.length xs.length hi - HT.sIx xs.length 0 lo)
theorem cutV_length (xs : List V) (lo hi : Option Int) : (cutV xs lo hi).length ≤ xs.length := by
  unfold cutV
  rw [List.length_take, List.length_drop]
  omega
/-- t[lo:hi], not the whole of it (the whole would be t itself) -/
def rSlT (K : PySem.W.Frag) : V → Option Int → Option Int → Hp → VK → Prop := fun x lo hi H Q => ∃ a xs, x = .ref a ∧ SqT K H a xs ∧
  ¬ (HT.sIx xs.length 0 lo = 0 ∧ HT.sIx xs.length xs.length hi = xs.length) ∧ ∀ p, H p = none → Q (.ref p) (upd H p (.tup (cutV xs lo hi)))
theorem sl_tup : SlR X (rSlT X.K) := by
  intro pins s σ H x v vl vu lo hi sl Q I rx hs pl pu h
  obtain ⟨a, xs, rfl, hx, hw, q⟩ := h
  cases rx
  obtain ⟨its, r, ht, hz⟩ := I.tuple hx
  have hlen : its.toArray.size = xs.length := by rw [List.size_toArray]; exact r.length.symm
  refine ⟨"tuple", _, PyProof.Rows.slot_tuple_getitem.lookup, ht.typeIs, ?_⟩
  refine HT.getItem_tuple_cut ht hs pl pu (by rw [hlen]; exact hw) ?_ (by rw [hlen]; exact hz)
  rw [hlen]
  refine ⟨.ref s.heap.objs.size, _, I.laid (t' := s.toks) (o := .tup (cutV xs lo hi)) (fun b ob q => Heap.get?_push_of_some _ q) (Nat.le_refl _) ?_, rfl, q _ (I.hok.fresh (Nat.le_refl _))⟩
  exact ⟨Nat.le_trans (cutV_length xs lo hi) hz, _, (r.drop (HT.sIx xs.length 0 lo)).take (HT.sIx xs.length xs.length hi - HT.sIx xs.length 0 lo), IsTup.new _ _⟩

/-! ### t < u, t + u -/
def rLtT (K : PySem.W.Frag) : R2 := fun x y H Q => ∃ a b ns ms, x = .ref a ∧ y = .ref b ∧ SqT K H a (ns.map V.int) ∧ SqT K H b (ms.map V.int) ∧ Q (.bl (HT.lexLt ns ms)) H
theorem op_ltT (hu : X.A.units < cLine) : OpR X (compareOp .Lt) (rLtT X.K) := by
  intro pins s σ H x y v u Q I rx ry h
  obtain ⟨a, b, ns, ms, rfl, rfl, ha, hb, q⟩ := h
  cases rx
  cases ry
  obtain ⟨its, r1, p1, _⟩ := I.tuple ha
  obtain ⟨its2, r2, p2, _⟩ := I.tuple hb
  have i1 : IntsAre its.toArray.toList ns := intsAre_of r1
  have i2 : IntsAre its2.toArray.toList ms := intsAre_of r2
  exact HT.lt_tupInts p1 p2 i1 i2 hu ⟨.bl (HT.lexLt ns ms), H, I, rfl, q⟩
/-- t + u, t not empty: u empty gives t itself -/
def rCatT (K : PySem.W.Frag) : R2 := fun x y H Q => ∃ a b xs ys, x = .ref a ∧ y = .ref b ∧ SqT K H a xs ∧ SqT K H b ys ∧ xs ≠ [] ∧ xs.length + ys.length ≤ sizeLine ∧
  (ys = [] → Q (.ref a) H) ∧ (ys ≠ [] → ∀ p, H p = none → Q (.ref p) (upd H p (.tup (xs ++ ys))))
theorem Vals.nil_iff {xs : List V} {us : List Value} (r : Vals xs us) : us = [] ↔ xs = [] := by
  cases r with
  | nil => simp
  | cons _ _ => simp
theorem op_catT : OpR X (binaryOp .Add) (rCatT X.K) := by
  intro pins s σ H x y v u Q I rx ry h
  obtain ⟨a, b, xs, ys, rfl, rfl, ha, hb, hx, hz, q1, q2⟩ := h
  cases rx
  cases ry
  obtain ⟨its, r1, p1, _⟩ := I.tuple ha
  obtain ⟨its2, r2, p2, _⟩ := I.tuple hb
  refine HT.cat_tup p1 p2 (fun z => hx (r1.nil_iff.mp z)) (fun z => ⟨.ref a, H, I, rfl, q1 (r2.nil_iff.mp z)⟩) (fun z => ?_) (by rw [← r1.length, ← r2.length]; exact hz)
  refine ⟨.ref s.heap.objs.size, _, I.laid (t' := s.toks) (o := .tup (xs ++ ys)) (fun b ob q => Heap.get?_push_of_some _ q) (Nat.le_refl _) ?_, rfl, q2 (fun w => z (r2.nil_iff.mpr w)) _ (I.hok.fresh (Nat.le_refl _))⟩
  exact ⟨by rw [List.length_append]; exact hz, _, r1.append r2, IsTup.new _ _⟩
/-- tuple(t) -/
theorem call_tupleT : CallR X (.type "tuple") (fun xs H Q => ∃ a ys, xs = [.ref a] ∧ SqT X.K H a ys ∧ Q (.ref a) H) := by
  intro pins s σ H xs us Q I r h
  obtain ⟨a, ys, rfl, ha, q⟩ := h
  obtain ⟨u, rfl, ru⟩ := vals1 r
  cases ru
  obtain ⟨its, _, p1, _⟩ := I.tuple ha
  exact call_tuple_same (items := its.toArray) p1 ⟨.ref a, H, I, rfl, q⟩
end
end L2

namespace L2
open PySem PySem.Spec PyProof.Rows

/-! ### places -/
/-- the place that an index of any sign means -/
def ixN (n : Nat) (i : Int) : Option Nat := if 0 ≤ i then (if i < n then some i.toNat else none) else if -(n : Int) ≤ i then some (i + n).toNat else none
def atI {α : Type} (xs : List α) (i : Int) : Option α := (ixN xs.length i).bind fun j => xs[j]?
theorem ixN_seq {n : Nat} {i : Int} {j : Nat} (h : ixN n i = some j) : seqIndex? i n = some j ∧ j < n ∧ -(n : Int) ≤ i ∧ i < n := by
  unfold ixN at h
  by_cases h0 : 0 ≤ i
  · rw [if_pos h0] at h
    by_cases h1 : i < n
    · rw [if_pos h1] at h
      have e : i.toNat = j := Option.some.inj h
      exact ⟨by rw [seqIndex_of h0 h1, e], by omega, by omega, h1⟩
    · rw [if_neg h1] at h; cases h
  · rw [if_neg h0] at h
    by_cases h1 : -(n : Int) ≤ i
    · rw [if_pos h1] at h
      have e : (i + n).toNat = j := Option.some.inj h
      exact ⟨by rw [seqIndex_neg (by omega) h1, e], by omega, h1, by omega⟩
    · rw [if_neg h1] at h; cases h
theorem atI_get {α : Type} {xs : List α} {i : Int} {v : α} (h : atI xs i = some v) : ∃ j, seqIndex? i xs.length = some j ∧ xs[j]? = some v ∧ j < xs.length ∧ -(xs.length : Int) ≤ i ∧ i < xs.length := by
  unfold atI at h
  cases e : ixN xs.length i with
  | none => rw [e] at h; cases h
  | some j =>
    rw [e] at h
    obtain ⟨h1, h2, h3, h4⟩ := ixN_seq e
    exact ⟨j, h1, h, h2, h3, h4⟩
theorem atI_nat {α : Type} {xs : List α} {j : Nat} {v : α} (h : xs[j]? = some v) : atI xs (j : Int) = some v := by
  have hj : j < xs.length := (List.getElem?_eq_some_iff.mp h).1
  have e : ixN xs.length (j : Int) = some j := by
    unfold ixN
    rw [if_pos (by omega), if_pos (by omega)]; simp
  unfold atI; rw [e]; exact h
theorem atI_last {α : Type} (xs : List α) (v : α) : atI (xs ++ [v]) (-1) = some v := by
  have hl : (xs ++ [v]).length = xs.length + 1 := by simp
  have e : ixN (xs ++ [v]).length (-1) = some xs.length := by
    unfold ixN
    rw [hl, if_neg (by decide), if_pos (by omega)]
    congr 1
    omega
  unfold atI
  rw [e]
  show (xs ++ [v])[xs.length]? = some v
  simp

/-! ### what may be subscripted -/
/-- what stands as an index of a plain subscript -/
def PlainIx (b : Expr) : Prop := ∀ o i, subscripted b false o i = operate [o, i] (getItem o i)
/-- a subscript by values -/
def IxR (X : Cx) (r : R2) : Prop :=
  ∀ (value slice : Expr) (pins : List (Addr × Obj)) (s : Shared) (σ : St) (H : Hp) (x y : V) (v u : Value) (Q : VK), Inv X pins σ H s → RelV x v → RelV y u → r x y H Q →
    subscripted slice false v u = operate [v, u] (getItem v u) → wpAny (model X.prog X.w) X.A (subscriptTail value slice v u) (EP X pins σ Q) X.xe s
/-- a call of a builtin's method by values: the receiver, the arguments -/
def MtR (X : Cx) (id : String) (r : V → List V → Hp → VK → Prop) : Prop :=
  ∀ (pins : List (Addr × Obj)) (s : Shared) (σ : St) (H : Hp) (x : V) (xs : List V) (v : Value) (us : List Value) (Q : VK), Inv X pins σ H s → RelV x v → Vals xs us → r x xs H Q →
    wpAny (model X.prog X.w) X.A (call (.builtin id) (v :: us)) (EP X pins σ Q) X.xe s
section
variable {X : Cx} {a b : Expr} {ta tb : TE} {pos : Pos}
theorem IxR.or {r r' : R2} (h : IxR X r) (h' : IxR X r') : IxR X (fun x y H Q => r x y H Q ∨ r' x y H Q) := by
  intro value slice pins s σ H x y v u Q I rx ry q hs
  rcases q with q | q
  · exact h value slice pins s σ H x y v u Q I rx ry q hs
  · exact h' value slice pins s σ H x y v u Q I rx ry q hs
theorem MtR.or {id : String} {r r' : V → List V → Hp → VK → Prop} (h : MtR X id r) (h' : MtR X id r') : MtR X id (fun x xs H Q => r x xs H Q ∨ r' x xs H Q) := by
  intro pins s σ H x xs v us Q I rx rs q
  rcases q with q | q
  · exact h pins s σ H x xs v us Q I rx rs q
  · exact h' pins s σ H x xs v us Q I rx rs q
/-- a[b] -/
theorem pe_ix {r : R2} (hr : IxR X r) (ha : PE X a ta) (hb : PE X b tb) (hs : PlainIx b) : PE X (.Subscript a b pos) (tOp r ta tb) := by
  intro pins s σ H Q I h
  exact Subscript_ (binT ha hb I h fun v u s2 x y H2 I2 rx ry q => hr a b pins s2 σ H2 x y v u Q I2 rx ry q (hs _ _))

def rIxL (K : PySem.W.Frag) : R2 := fun x y H Q => ∃ p xs i v, x = .ref p ∧ y = .int i ∧ SqL K H p xs ∧ atI xs i = some v ∧ Q v H
def rIxT (K : PySem.W.Frag) : R2 := fun x y H Q => ∃ p xs i v, x = .ref p ∧ y = .int i ∧ SqT K H p xs ∧ atI xs i = some v ∧ Q v H
def rIxS : R2 := fun x y H Q => ∃ z i c, x = .str z ∧ y = .int i ∧ z.length ≤ sizeLine ∧ atI z.cps.toList i = some c ∧ Q (.str ⟨#[c]⟩) H
theorem ix_list : IxR X (rIxL X.K) := by
  intro value slice pins s σ H x y v u Q I rx ry h hs
  obtain ⟨p, xs, i, z, rfl, rfl, hq, he, q⟩ := h
  cases rx
  obtain ⟨t, rfl⟩ := ry
  obtain ⟨its, r, pl, hz⟩ := I.list hq
  obtain ⟨j, h1, h2, h3, h4, h5⟩ := atI_get he
  obtain ⟨w, ew, rw'⟩ := r.get h2
  have hl := r.length
  have hn := line63
  have fin : EP X pins σ Q w s := ⟨z, H, I, rw', q⟩
  by_cases h0 : 0 ≤ i
  · have hj : i.toNat = j := by
      rw [seqIndex_of h0 h5] at h1
      exact Option.some.inj h1
    exact item_listR pl.isList h0 (by omega) (by rw [hj]; simpa using ew) fin hs
  · have hj : (i + (its.toArray.size : Int)).toNat = j := by
      rw [seqIndex_neg (by omega) h4] at h1
      rw [List.size_toArray, ← hl]
      exact Option.some.inj h1
    exact subscriptTail_builtinR (x := w) pl.isList.typeIs slot_list_getitem.lookup
      (wpAny_getItem_list_neg (Q := fun r s' => r = w ∧ EP X pins σ Q r s') pl.isList (by omega) (by rw [List.size_toArray] <;> omega) (by omega) (by rw [hj]; simpa using ew) ⟨rfl, fin⟩) hs
theorem ix_tup : IxR X (rIxT X.K) := by
  intro value slice pins s σ H x y v u Q I rx ry h hs
  obtain ⟨p, xs, i, z, rfl, rfl, hq, he, q⟩ := h
  cases rx
  obtain ⟨t, rfl⟩ := ry
  obtain ⟨its, r, pl, hz⟩ := I.tuple hq
  obtain ⟨j, h1, h2, h3, h4, h5⟩ := atI_get he
  obtain ⟨w, ew, rw'⟩ := r.get h2
  have hl := r.length
  have hn := line63
  have fin : EP X pins σ Q w s := ⟨z, H, I, rw', q⟩
  exact subscriptTail_builtinR (x := w) pl.typeIs slot_tuple_getitem.lookup
    (getItem_tuple (j := j) (Q := fun r s' => r = w ∧ EP X pins σ Q r s') pl (by omega) (by omega) (by rw [List.size_toArray, ← hl]; exact h1) (by simpa using ew) ⟨rfl, fin⟩) hs
theorem ix_str : IxR X rIxS := by
  intro value slice pins s σ H x y v u Q I rx ry h hs
  obtain ⟨z, i, c, rfl, rfl, hz, he, q⟩ := h
  obtain ⟨t, rfl⟩ := rx
  obtain ⟨t', rfl⟩ := ry
  obtain ⟨j, h1, h2, h3, h4, h5⟩ := atI_get he
  have hl : z.cps.toList.length = z.length := by simp [Str.length]
  rw [hl] at h1 h4 h5
  have hn := line63
  exact tail_any (typeIs_str s z t) slot_str_getitem.lookup (getItem_str (c := c) (by
    have e1 : decide (i < -(2 ^ 63 : Int)) = false := decide_eq_false (by omega)
    have e2 : decide (i ≥ 2 ^ 63) = false := decide_eq_false (by omega)
    rw [e1, e2, Bool.or_false]) (by rw [h1]; simpa using h2) ⟨.str ⟨#[c]⟩, H, I.tok _, ⟨_, rfl⟩, q⟩) hs
/-- list, tuple or str -/
def rIx (K : PySem.W.Frag) : R2 := fun x y H Q => rIxL K x y H Q ∨ rIxT K x y H Q ∨ rIxS x y H Q
theorem ix_seq : IxR X (rIx X.K) := ix_list.or (ix_tup.or ix_str)

/-! ### xs[i] = v, any sign -/
/-- the list's object behind a store -/
theorem mapSeq_set (its : List Value) (n j : Nat) (u : Value) : Obj.mapSeq (·.setIfInBounds j u) { cls := .type "list", data := .seq its.toArray n } = { cls := .type "list", data := .seq (its.set j u).toArray n } := by
  simp [Obj.mapSeq]
theorem Inv.lst {pins : List (Addr × Obj)} {σ : St} {H : Hp} {s : Shared} {p : Addr} {xs : List V} (I : Inv X pins σ H s) (h : H p = some (.lst xs)) :
    ∃ (its : List Value) (n : Nat), Vals xs its ∧ s.heap.get? p = some { cls := .type "list", data := .seq its.toArray n } ∧ xs.length ≤ sizeLine := by
  obtain ⟨z, its, n, r, e⟩ := I.hok p _ h
  exact ⟨its, n, r, e, z⟩
/-- the list at p is written by an update of its object -/
theorem Inv.lstUpd {pins : List (Addr × Obj)} {σ : St} {H : Hp} {s : Shared} {p : Addr} {xs ys : List V} {its its' : List Value} {n n' : Nat} {f : Obj → Obj} (I : Inv X pins σ H s) (h : H p = some (.lst xs))
    (ho : s.heap.get? p = some { cls := .type "list", data := .seq its.toArray n }) (hf : f { cls := .type "list", data := .seq its.toArray n } = { cls := .type "list", data := .seq its'.toArray n' }) (r : Vals ys its') (hz : ys.length ≤ sizeLine) (t : Nat) :
    Inv X pins σ (upd H p (.lst ys)) { s with heap := s.heap.update p f, toks := t } := by
  have e : (s.heap.update p f).get? p = some { cls := .type "list", data := .seq its'.toArray n' } := by
    rw [Heap.get?_update_self f ho (by rw [hf] <;> rfl), hf]
  refine I.write (x := p) (e := p) (by rw [h]; trivial) (.inl rfl) (fun b u hb q => (Heap.get?_update_other _ _ (Ne.symm hb)).trans q) ⟨_, e⟩ ?_
  exact ⟨hz, its', n', r, e⟩
def rSetL : V → V → V → Hp → (Hp → Prop) → Prop := fun o i v H Q => ∃ p xs k j, o = .ref p ∧ i = .int k ∧ H p = some (.lst xs) ∧ ixN xs.length k = some j ∧ Q (upd H p (.lst (xs.set j v)))
theorem set_list : PSet X rSetL := by
  intro pins s σ H o i v ov iv u Q I ro ri rv h
  obtain ⟨p, xs, k, j, rfl, rfl, hp, hj, q⟩ := h
  cases ro
  obtain ⟨t, rfl⟩ := ri
  obtain ⟨its, n, r, ho, hz⟩ := I.lst hp
  obtain ⟨h1, h2, h3, h4⟩ := ixN_seq hj
  have hl := r.length
  have hn := line63
  have I' : Inv X pins σ (upd H p (.lst (xs.set j v))) { s with heap := s.heap.update p (Obj.mapSeq (·.setIfInBounds j u)) } :=
    I.lstUpd hp ho (mapSeq_set its n j u) (r.set rv j) (by rw [List.length_set]; exact hz) s.toks
  by_cases h0 : 0 ≤ k
  · have hk : k.toNat = j := by
      rw [seqIndex_of h0 h4] at h1
      exact Option.some.inj h1
    exact PySem.W.ki_setAt ho h0 (by omega) (by rw [List.size_toArray, ← hl]; exact h4) (by rw [hk]; exact ⟨_, I', q⟩)
  · have hk : (k + (its.toArray.size : Int)).toNat = j := by
      rw [seqIndex_neg (by omega) h3] at h1
      rw [List.size_toArray, ← hl]
      exact Option.some.inj h1
    exact PySem.W.ki_setBack ho (by omega) (by rw [List.size_toArray, ← hl]; exact h3) (by omega) (by rw [hk]; exact ⟨_, I', q⟩)

/-! ### slices -/
theorem slice_bounds (lo hi : Option Int) (n : Nat) : (sliceBounds lo hi none n).1 = ((HT.sIx n 0 lo : Nat) : Int) ∧ (sliceBounds lo hi none n).2.1 = ((HT.sIx n n hi : Nat) : Int) ∧ (sliceBounds lo hi none n).2.2 = 1 := by
  refine ⟨?_, ?_, rfl⟩
  · cases lo with
    | none => simp [sliceBounds, HT.sIx]
    | some i =>
      simp only [sliceBounds, HT.sIx, Option.getD_none, show (1 : Int) > 0 by decide, if_true]
      by_cases h : i < 0
      · simp only [h, if_true] <;> omega
      · simp only [h, if_false] <;> omega
  · cases hi with
    | none => simp [sliceBounds, HT.sIx]
    | some i =>
      simp only [sliceBounds, HT.sIx, Option.getD_none, show (1 : Int) > 0 by decide, if_true]
      by_cases h : i < 0
      · simp only [h, if_true] <;> omega
      · simp only [h, if_false] <;> omega
theorem slicePick_cut (its : List Value) (lo hi : Option Int) : slicePick its.toArray lo hi none = ((its.drop (HT.sIx its.length 0 lo)).take (HT.sIx its.length its.length hi - HT.sIx its.length 0 lo)).toArray := by
  obtain ⟨h1, h2, h3⟩ := slice_bounds lo hi its.toArray.size
  unfold slicePick
  rw [h1, h2, h3]
  simp only [sliceRange_one, pick_run, List.size_toArray] <;> rfl
/-- xs[lo:hi] of a list: a new list -/
def rSlL (K : PySem.W.Frag) : V → Option Int → Option Int → Hp → VK → Prop := fun x lo hi H Q => ∃ a xs, x = .ref a ∧ SqL K H a xs ∧ ∀ p, H p = none → Q (.ref p) (upd H p (.lst (cutV xs lo hi)))
theorem sl_list : SlR X (rSlL X.K) := by
  intro pins s σ H x v vl vu lo hi sl Q I rx hs pl pu h
  obtain ⟨a, xs, rfl, hx, q⟩ := h
  cases rx
  obtain ⟨its, r, ht, hz⟩ := I.list hx
  have hlen := r.length
  refine ⟨"list", _, slot_list_getitem.lookup, ht.isList.typeIs, ?_⟩
  refine wpAny_getItem_list_slice ht.isList hs pl pu .none (by simp) ?_ (by rw [List.size_toArray] <;> omega)
  rw [slicePick_cut, ← hlen]
  refine ⟨.ref s.heap.objs.size, _, I.laid (t' := s.toks) (o := .lst (cutV xs lo hi)) (fun b ob q => Heap.get?_push_of_some _ q) (Nat.le_refl _) ?_, rfl, q _ (I.hok.fresh (Nat.le_refl _))⟩
  exact ⟨Nat.le_trans (cutV_length xs lo hi) hz, _, 0, (r.drop (HT.sIx xs.length 0 lo)).take (HT.sIx xs.length xs.length hi - HT.sIx xs.length 0 lo), Heap.get?_push_size _ rfl⟩

/-! ### in, not in: flat items -/
def flatV : V → Bool
  | .non => true
  | .bl _ => true
  | .int _ => true
  | .str _ => true
  | _ => false
/-- == of flat values -/
def eqV : V → V → Bool
  | .non, .non => true
  | .bl a, .bl b => a == b
  | .bl a, .int b => (if a then 1 else 0) == b
  | .int a, .bl b => a == (if b then 1 else 0)
  | .int a, .int b => a == b
  | .str a, .str b => a == b
  | _, _ => false
theorem eqAt_V {A : Around} {s : Shared} {y x : V} {u v : Value} (ry : RelV y u) (rx : RelV x v) (fy : flatV y = true) (fx : flatV x = true) : SeqAt.EqAt A s u v (eqV y x) := by
  cases y with
  | non =>
    cases ry
    cases x with
    | non => cases rx; exact SeqAt.EqAt.same _
    | bl b => cases rx; exact SeqAt.EqAt.none_bool b
    | int b => obtain ⟨t, rfl⟩ := rx; exact SeqAt.EqAt.none_int b t
    | str b => obtain ⟨t, rfl⟩ := rx; exact SeqAt.EqAt.none_str b t
    | _ => exact absurd (show false = true from fx) Bool.false_ne_true
  | bl a =>
    cases ry
    cases x with
    | non => cases rx; exact SeqAt.EqAt.bool_none a
    | bl b => cases rx; exact SeqAt.EqAt.bool_bool a b
    | int b => obtain ⟨t, rfl⟩ := rx; exact SeqAt.EqAt.bool_int a b t
    | str b => obtain ⟨t, rfl⟩ := rx; exact SeqAt.EqAt.bool_str a b t
    | _ => exact absurd (show false = true from fx) Bool.false_ne_true
  | int a =>
    obtain ⟨t', rfl⟩ := ry
    cases x with
    | non => cases rx; exact SeqAt.EqAt.int_none a t'
    | bl b => cases rx; exact SeqAt.EqAt.int_bool a t' b
    | int b => obtain ⟨t, rfl⟩ := rx; exact SeqAt.EqAt.int_int a t' b t
    | str b => obtain ⟨t, rfl⟩ := rx; exact SeqAt.EqAt.int_str a t' b t
    | _ => exact absurd (show false = true from fx) Bool.false_ne_true
  | str a =>
    obtain ⟨t', rfl⟩ := ry
    cases x with
    | non => cases rx; exact SeqAt.EqAt.str_none a t'
    | bl b => cases rx; exact SeqAt.EqAt.str_bool a t' b
    | int b => obtain ⟨t, rfl⟩ := rx; exact SeqAt.EqAt.str_int a t' b t
    | str b => obtain ⟨t, rfl⟩ := rx; exact SeqAt.EqAt.str_str a t' b t
    | _ => exact absurd (show false = true from fx) Bool.false_ne_true
  | _ => exact absurd (show false = true from fy) Bool.false_ne_true
/-- the items' answers, read off the values (a value's own answer does not lean on its token) -/
def eqU (x : V) (u : Value) : Bool := match u with
  | .none => eqV .non x
  | .bool b => eqV (.bl b) x
  | .int i _ => eqV (.int i) x
  | .str z _ => eqV (.str z) x
  | _ => false
theorem eqU_of {x y : V} {u : Value} (r : RelV y u) (f : flatV y = true) : eqU x u = eqV y x := by
  cases y with
  | non => cases r; rfl
  | bl b => cases r; rfl
  | int i => obtain ⟨t, rfl⟩ := r; rfl
  | str z => obtain ⟨t, rfl⟩ := r; rfl
  | _ => exact absurd (show false = true from f) Bool.false_ne_true
theorem any_eqU {x : V} : ∀ {xs : List V} {us : List Value}, Vals xs us → xs.all flatV = true → us.any (eqU x) = xs.any fun y => eqV y x
  | _, _, .nil, _ => rfl
  | y :: xs, u :: us, .cons r t, f => by
    rw [List.all_cons, Bool.and_eq_true] at f
    rw [List.any_cons, List.any_cons, eqU_of r f.1, any_eqU t f.2]
theorem mem_eqAt {A : Around} {s : Shared} {x : V} {v : Value} (rx : RelV x v) (fx : flatV x = true) : ∀ {xs : List V} {us : List Value}, Vals xs us → xs.all flatV = true → ∀ u ∈ us, SeqAt.EqAt A s u v (eqU x u)
  | _, _, .nil, _ => fun u hu => by cases hu
  | y :: xs, u :: us, .cons r t, f => fun u' hu => by
    rw [List.all_cons, Bool.and_eq_true] at f
    rcases List.mem_cons.mp hu with rfl | hu
    · rw [eqU_of r f.1]; exact eqAt_V r rx f.1 fx
    · exact mem_eqAt rx fx t f.2 u' hu
def inV (x : V) (xs : List V) : Bool := xs.any fun y => eqV y x
/-- x in a list or tuple of flat items -/
def rIn (K : PySem.W.Frag) (neg : Bool) : R2 := fun x y H Q => ∃ p xs, y = .ref p ∧ (SqL K H p xs ∨ SqT K H p xs) ∧ flatV x = true ∧ xs.all flatV = true ∧ Q (.bl (if neg then !inV x xs else inV x xs)) H
theorem op_in_seq : OpR X (compareOp .In) (rIn X.K false) := by
  intro pins s σ H x y v u Q I rx ry h
  obtain ⟨p, xs, rfl, hq, fx, fs, q⟩ := h
  cases ry
  rcases hq with hq | hq
  · obtain ⟨its, r, pl, hz⟩ := I.list hq
    refine SeqAt.in_listAt (eqU x) pl.isList (fun w hw => mem_eqAt rx fx r fs w (by simpa using hw)) ⟨.bl _, H, I, rfl, ?_⟩
    rw [show its.toArray.any (eqU x) = its.any (eqU x) by simp, any_eqU r fs]
    exact q
  · obtain ⟨its, r, pl, hz⟩ := I.tuple hq
    refine SeqAt.in_tupleAt (eqU x) pl (fun w hw => mem_eqAt rx fx r fs w (by simpa using hw)) ⟨.bl _, H, I, rfl, ?_⟩
    rw [show its.toArray.any (eqU x) = its.any (eqU x) by simp, any_eqU r fs]
    exact q
theorem op_notIn_seq : OpR X (compareOp .NotIn) (rIn X.K true) := by
  intro pins s σ H x y v u Q I rx ry h
  obtain ⟨p, xs, rfl, hq, fx, fs, q⟩ := h
  cases ry
  rcases hq with hq | hq
  · obtain ⟨its, r, pl, hz⟩ := I.list hq
    refine SeqAt.notIn_listAt (eqU x) pl.isList (fun w hw => mem_eqAt rx fx r fs w (by simpa using hw)) ⟨.bl _, H, I, rfl, ?_⟩
    rw [show its.toArray.any (eqU x) = its.any (eqU x) by simp, any_eqU r fs]
    exact q
  · obtain ⟨its, r, pl, hz⟩ := I.tuple hq
    refine SeqAt.notIn_tupleAt (eqU x) pl (fun w hw => mem_eqAt rx fx r fs w (by simpa using hw)) ⟨.bl _, H, I, rfl, ?_⟩
    rw [show its.toArray.any (eqU x) = its.any (eqU x) by simp, any_eqU r fs]
    exact q
theorem op_notIn_str : OpR X (compareOp .NotIn) (fun x y H Q => ∃ i j, x = .str i ∧ y = .str j ∧ Q (.bl (!(!(Builtin.Str.occurrences j i 0 j.length 1).isEmpty))) H) := by
  intro pins s σ H x y v u Q I rx ry h
  obtain ⟨i, j, rfl, rfl, q⟩ := h
  obtain ⟨t, rfl⟩ := rx
  obtain ⟨t', rfl⟩ := ry
  exact notIn_str ⟨.bl _, H, I, rfl, q⟩

/-! ### len, list(x), tuple(x) of any list or tuple that is read -/
theorem call_len_seq : CallR X (.builtin "len") (fun xs H Q => ∃ p ys, xs = [.ref p] ∧ (SqL X.K H p ys ∨ SqT X.K H p ys) ∧ Q (.int ys.length) H) := by
  intro pins s σ H xs us Q I r h
  obtain ⟨p, ys, rfl, hq, q⟩ := h
  obtain ⟨u, rfl, rx⟩ := vals1 r
  cases rx
  have hn := line63
  rcases hq with hq | hq
  · obtain ⟨its, r', pl, hz⟩ := I.list hq
    have hlen := r'.length
    exact Calls.call_len_list pl.isList (by simp only [List.size_toArray] <;> omega) ⟨.int ys.length, H, I.tok _, ⟨s.toks + 1, by rw [List.size_toArray, hlen]⟩, q⟩
  · obtain ⟨its, r', pl, hz⟩ := I.tuple hq
    have hlen := r'.length
    exact len_tuple pl (by simp only [List.size_toArray] <;> omega) ⟨.int ys.length, H, I.tok _, ⟨s.toks + 1, by rw [List.size_toArray, hlen]⟩, q⟩
theorem call_len_str : CallR X (.builtin "len") (fun xs H Q => ∃ z, xs = [.str z] ∧ z.length ≤ sizeLine ∧ Q (.int z.length) H) := by
  intro pins s σ H xs us Q I r h
  obtain ⟨z, rfl, hz, q⟩ := h
  obtain ⟨u, rfl, t, rfl⟩ := vals1 r
  have hn := line63
  exact len_str (by omega) ⟨.int z.length, H, I.tok _, ⟨_, rfl⟩, q⟩
theorem CallR.or {f : Value} {r r' : List V → Hp → VK → Prop} (h : CallR X f r) (h' : CallR X f r') : CallR X f (fun xs H Q => r xs H Q ∨ r' xs H Q) := by
  intro pins s σ H xs us Q I rs q
  rcases q with q | q
  · exact h pins s σ H xs us Q I rs q
  · exact h' pins s σ H xs us Q I rs q
theorem call_list_of : CallR X (.type "list") (fun xs H Q => ∃ p ys, xs = [.ref p] ∧ (SqL X.K H p ys ∨ SqT X.K H p ys) ∧ ∀ l, H l = none → Q (.ref l) (upd H l (.lst ys))) := by
  intro pins s σ H xs us Q I r h
  obtain ⟨p, ys, rfl, hq, q⟩ := h
  obtain ⟨u, rfl, rx⟩ := vals1 r
  cases rx
  have fin : ∀ (its : List Value), Vals ys its → ys.length ≤ sizeLine → ∀ (h' : Heap) (c' : Nat), (∀ b o', s.heap.get? b = some o' → h'.get? b = some o') →
      h'.get? s.heap.objs.size = some { cls := .type "list", dict := none, data := .seq its.toArray c', slots := #[] } → EP X pins σ Q (.ref s.heap.objs.size) { s with heap := h' } := fun its r' hz h' c' kp e =>
    ⟨.ref s.heap.objs.size, _, I.laid (t' := s.toks) kp (Nat.le_refl _) (show ObjOk X.prog X.w _ h' _ (.lst ys) from ⟨hz, its, c', r', e⟩), rfl, q _ (I.hok.fresh (Nat.le_refl _))⟩
  rcases hq with hq | hq
  · obtain ⟨its, r', pl, hz⟩ := I.list hq
    have hlen := r'.length
    obtain ⟨o, ho, hc, n, hd⟩ := pl.isList
    exact call_list_seq p (.inl rfl) ho hc hd (fun h' c' kp e => fin its r' hz h' c' kp e) (by simp only [List.size_toArray] <;> omega)
  · obtain ⟨its, r', pl, hz⟩ := I.tuple hq
    have hlen := r'.length
    obtain ⟨o, ho, hc, n, hd⟩ := pl
    exact call_list_seq p (.inr rfl) ho hc hd (fun h' c' kp e => fin its r' hz h' c' kp e) (by simp only [List.size_toArray] <;> omega)
theorem call_tuple_of : CallR X (.type "tuple") (fun xs H Q => ∃ p ys, xs = [.ref p] ∧ ((SqL X.K H p ys ∧ ∀ l, H l = none → Q (.ref l) (upd H l (.tup ys))) ∨ (SqT X.K H p ys ∧ Q (.ref p) H))) := by
  intro pins s σ H xs us Q I r h
  obtain ⟨p, ys, rfl, h⟩ := h
  obtain ⟨u, rfl, rx⟩ := vals1 r
  cases rx
  rcases h with ⟨hq, q⟩ | ⟨hq, q⟩
  · obtain ⟨its, r', pl, hz⟩ := I.list hq
    have hlen := r'.length
    refine call_tuple_list pl.isList (fun h' kp => ?_) (by simp only [List.size_toArray] <;> omega)
    have I1 : Inv X pins σ H { s with heap := h' } := I.kept (t' := s.toks) kp
    have I2 : Inv X pins σ (upd H h'.objs.size (.tup ys)) { s with heap := h'.push { cls := .type "tuple", data := .seq its.toArray } } :=
      I1.laid (t' := s.toks) (fun b o e => Heap.get?_push_of_some _ e) (Nat.le_refl _) (show ObjOk X.prog X.w _ _ _ (.tup ys) from ⟨hz, its, r', IsTup.new _ _⟩)
    exact ⟨.ref h'.objs.size, _, I2, rfl, q _ (I1.hok.fresh (Nat.le_refl _))⟩
  · obtain ⟨its, r', pl, hz⟩ := I.tuple hq
    exact call_tuple_same pl ⟨.ref p, H, I, rfl, q⟩

/-! ### the call of a builtin's method: o.m(..) -/
/-- the value is of that builtin type -/
def tyV (K : PySem.W.Frag) (T : String) (x : V) (H : Hp) : Prop := match x with
  | .str _ => T = "str"
  | .int _ => T = "int"
  | .ref p => (T = "list" ∧ ∃ xs, SqL K H p xs) ∨ (T = "tuple" ∧ ∃ o, K.lookup p = some o ∧ o.cls = .type "tuple" ∧ o.dict = none) ∨
      (T = "dict" ∧ ((∃ kvs, H p = some (.dK kvs)) ∨ ∃ kvs, H p = some (.dT kvs))) ∨ (T = "set" ∧ ∃ S n, H p = some (.set S n))
  | _ => False
theorem tyV_is {pins : List (Addr × Obj)} {σ : St} {H : Hp} {s : Shared} {T : String} {x : V} {v : Value} (I : Inv X pins σ H s) (r : RelV x v) (ty : tyV X.K T x H) :
    s.TypeIs v T ∧ ∀ a, v = .ref a → ∃ ob, s.heap.get? a = some ob ∧ ob.dict = none := by
  cases x with
  | str z =>
    obtain ⟨t, rfl⟩ := r
    cases (show T = "str" from ty)
    exact ⟨typeIs_str s z t, fun _ e => nomatch e⟩
  | int i =>
    obtain ⟨t, rfl⟩ := r
    cases (show T = "int" from ty)
    exact ⟨typeIs_int s i t, fun _ e => nomatch e⟩
  | ref p =>
    cases r
    rcases ty with ⟨rfl, xs, hq⟩ | ⟨rfl, o, hk, hc, hd⟩ | ⟨rfl, hk⟩ | ⟨rfl, S, n, hk⟩
    · obtain ⟨its, _, pl, _⟩ := I.list hq
      refine ⟨pl.isList.typeIs, fun a e => ?_⟩
      cases e
      obtain ⟨o, n, e, c, hd, _⟩ := pl
      exact ⟨o, e, hd⟩
    · refine ⟨⟨o, I.kIn p o hk, hc⟩, fun a e => ?_⟩
      cases e
      exact ⟨o, I.kIn _ o hk, hd⟩
    · have z : ∃ o, s.heap.get? p = some o ∧ o.ExactDict := by
        rcases hk with ⟨kvs, hk⟩ | ⟨kvs, hk⟩
        · obtain ⟨_, _, _, _, o, _, _, e, ex, _⟩ := I.hok p _ hk
          exact ⟨o, e, ex⟩
        · obtain ⟨_, _, _, _, o, _, _, e, ex, _⟩ := I.hok p _ hk
          exact ⟨o, e, ex⟩
      obtain ⟨o, e, ex⟩ := z
      refine ⟨⟨o, e, ex.1⟩, fun a e2 => ?_⟩
      cases e2
      exact ⟨o, e, ex.2.1⟩
    · obtain ⟨o, _, _, _, e, ex, _⟩ := I.hok p _ hk
      refine ⟨⟨o, e, ex.1⟩, fun a e2 => ?_⟩
      cases e2
      exact ⟨o, e, ex.2.1⟩
  | _ => exact False.elim ty
def tBM0 (K : PySem.W.Frag) (T : String) (r : V → List V → Hp → VK → Prop) (to : TE) : TE := fun σ H Q => to σ H fun x H1 => tyV K T x H1 ∧ r x [] H1 Q
def tBM (K : PySem.W.Frag) (T : String) (r : V → List V → Hp → VK → Prop) (to : TE) (t : TA) : TE := fun σ H Q => to σ H fun x H1 => tyV K T x H1 ∧ t σ H1 fun xs H2 => r x xs H2 Q
variable {o e : Expr} {es : List Expr} {to : TE} {t : TA} {name : Str} {apos cpos : Pos} {T id : String} {r : V → List V → Hp → VK → Prop}
theorem pe_bm0 (pa : PlainAttrs T) (slot : Slot T name id) (hty : typeOf (.builtin id) = pure (.type "method_descriptor")) (hm : MtR X id r) (ho : PE X o to)
    (hbase : attributeBase o name X.env (eval o X.env) = eval o X.env := by rfl) (hline : (apos.endLine == cpos.line) = true := by rfl) : PE X (.Call (.Attribute o name apos) [] [] cpos) (tBM0 X.K T r to) := by
  intro pins s σ H Q I h
  refine wpAny_Call_method0_late hbase hline (thn (ho pins s σ H _ I h) fun v s1 ⟨x, H1, I1, r1, ty, q1⟩ => ?_)
  obtain ⟨h1, h2⟩ := tyV_is I1 r1 ty
  exact ⟨T, id, pa, slot, hty, h1, h2, Calls.callWith_builtin rfl (PySem.evalArgs_none (hm pins s1 σ H1 x [] v [] Q I1 r1 .nil q1))⟩
theorem pe_bm (pa : PlainAttrs T) (slot : Slot T name id) (hty : typeOf (.builtin id) = pure (.type "method_descriptor")) (hm : MtR X id r) (ho : PE X o to) (ha : PA X (e :: es) t)
    (hbase : attributeBase o name X.env (eval o X.env) = eval o X.env := by rfl)
    (hfew : ((backTo cpos (starEach (e :: es) X.env)).all (fun x => !x.1) && (backToKw cpos (keywordEach [] X.env)).all (fun x => x.1.isSome)
      && decide ((e :: es).length + ([] : List Keyword).length + (if ([] : List Keyword).isEmpty then 0 else 1) < 30)) = true := by rfl)
    (hline : (apos.endLine == cpos.line) = true := by rfl) (hs : starEach (e :: es) X.env = (false, eval e X.env) :: starEach es X.env := by rfl) (hplain : (backTo cpos (starEach es X.env)).any (·.1) = false := by rfl) :
    PE X (.Call (.Attribute o name apos) (e :: es) [] cpos) (tBM X.K T r to t) := by
  intro pins s σ H Q I h
  refine wpAny_Call_method_late hbase hfew hline rfl (thn (ho pins s σ H _ I h) fun v s1 ⟨x, H1, I1, r1, ty, q1⟩ => ?_)
  obtain ⟨h1, h2⟩ := tyV_is I1 r1 ty
  refine ⟨T, id, pa, slot, hty, h1, h2, ?_⟩
  have hA := ha cpos pins s1 σ H1 _ I1 q1
  rw [hs] at hA ⊢
  refine Calls.callWith_builtin (by show (false || (backTo cpos (starEach es X.env)).any (·.1)) = false; rw [hplain] <;> rfl) (Calls.evalArgs_plain ?_)
  exact thn hA fun us s2 ⟨vs, H2, I2, r2, q2⟩ => hm pins s2 σ H2 x vs v us Q I2 r1 r2 q2
/- xs.append(e), list.index on a module's tuple .. are MtR facts of 06m -/
end
end L2

namespace L2
open PySem PySem.Spec PyProof.Rows

def MtM (X : Cx) (id : String) (r : V → List V → Hp → VK → Prop) : Prop :=
  ∀ (pins : List (Addr × Obj)) (s : Shared) (σ : St) (H : Hp) (x : V) (xs : List V) (v : Value) (us : List Value) (Q : VK), Inv X pins σ H s → RelV x v → Vals xs us → r x xs H Q →
    wpAny (model X.prog X.w) X.A (call (.builtin id) (v :: us)) (EP X pins σ Q) X.xe s

/-! ### lists of values -/
theorem Vals.one : ∀ {x : V} {us : List Value}, Vals [x] us → ∃ u, us = [u] ∧ RelV x u
  | _, _, .cons r .nil => ⟨_, rfl, r⟩
theorem Vals.two : ∀ {x y : V} {us : List Value}, Vals [x, y] us → ∃ u v, us = [u, v] ∧ RelV x u ∧ RelV y v
  | _, _, _, .cons r (.cons q .nil) => ⟨_, _, rfl, r, q⟩
theorem Vals.zero : ∀ {us : List Value}, Vals [] us → us = []
  | _, .nil => rfl
theorem Vals.dropLast {xs : List V} {us : List Value} (h : Vals xs us) : Vals xs.dropLast us.dropLast := by
  induction h with
  | nil => exact .nil
  | cons r t ih =>
    cases t with
    | nil => exact .nil
    | cons q t' => exact .cons r ih
theorem Vals.eraseIdx : ∀ {xs : List V} {us : List Value} (i : Nat), Vals xs us → Vals (xs.eraseIdx i) (us.eraseIdx i)
  | _, _, _, .nil => .nil
  | _, _, 0, .cons _ t => t
  | _, _, i + 1, .cons r t => .cons r (Vals.eraseIdx i t)
theorem Vals.reverse {xs : List V} {us : List Value} (h : Vals xs us) : Vals xs.reverse us.reverse := by
  induction h with
  | nil => exact .nil
  | cons r t ih => rw [List.reverse_cons, List.reverse_cons]; exact Vals.append ih (.cons r .nil)
theorem Vals.rep {xs : List V} {us : List Value} (h : Vals xs us) : ∀ k : Nat, Vals (List.replicate k xs).flatten (List.replicate k us).flatten
  | 0 => .nil
  | k + 1 => by
    rw [List.replicate_succ, List.replicate_succ, List.flatten_cons, List.flatten_cons]
    exact Vals.append h (Vals.rep h k)
theorem erase_last {α : Type} (l : List α) : l.eraseIdx (l.length - 1) = l.dropLast := by
  induction l with
  | nil => rfl
  | cons a r ih =>
    cases r with
    | nil => rfl
    | cons b r =>
      have e : (a :: b :: r).length - 1 = ((b :: r).length - 1) + 1 := by
        have h1 : (a :: b :: r).length = r.length + 2 := rfl
        have h2 : (b :: r).length = r.length + 1 := rfl
        omega
      rw [e, List.eraseIdx_cons_succ, ih]
      all_goals rfl
theorem len_erase {α : Type} : ∀ (l : List α) (i : Nat), (l.eraseIdx i).length ≤ l.length
  | [], _ => Nat.le_refl _
  | _ :: _, 0 => Nat.le_succ _
  | _ :: r, i + 1 => Nat.succ_le_succ (len_erase r i)
theorem foldl_rep (its : List Value) : ∀ (k : Nat) (acc : List Value),
    List.foldl (fun x1 x2 => x1 ++ x2) acc.toArray (List.replicate k its.toArray) = (acc ++ (List.replicate k its).flatten).toArray
  | 0, acc => by simp
  | k + 1, acc => by
    have e : acc.toArray ++ its.toArray = (acc ++ its).toArray := by simp
    have e2 : (acc ++ its) ++ (List.replicate k its).flatten = acc ++ (List.replicate (k + 1) its).flatten := by
      rw [List.replicate_succ, List.flatten_cons, List.append_assoc]
    rw [← e2, ← foldl_rep its k (acc ++ its), ← e, List.replicate_succ, List.foldl_cons]

section
variable {X : Cx} {pins : List (Addr × Obj)} {σ : St} {H : Hp} {s : Shared} {l b : Addr} {xs ys zs : List V}

/-! ### the two steps: a tracked list is rewritten, a new list is laid -/
theorem Inv.lset {its its' : List Value} {n : Nat} {f : Array Value → Array Value} {t' : Nat} (I : Inv X pins σ H s) (hH : H l = some (.lst xs))
    (e : s.heap.get? l = some { cls := .type "list", data := .seq its.toArray n }) (hf : f its.toArray = its'.toArray) (hv : Vals ys its') (hz : ys.length ≤ sizeLine) :
    Inv X pins σ (upd H l (.lst ys)) { s with heap := s.heap.update l (Obj.mapSeq f), toks := t' } := by
  have q := PySem.IsL.update e f
  rw [hf] at q
  refine I.write (x := l) (e := l) (by rw [hH]; exact trivial) (.inl rfl) (fun b' u hb hu => (Heap.get?_update_other s.heap (Obj.mapSeq f) (Ne.symm hb)).trans hu) ⟨_, q⟩ ?_
  exact ⟨hz, its', _, hv, q⟩
theorem Inv.lnew {its : List Value} {t' : Nat} (I : Inv X pins σ H s) (hv : Vals ys its) (hz : ys.length ≤ sizeLine) :
    Inv X pins σ (upd H s.heap.objs.size (.lst ys)) { s with heap := s.heap.push { cls := .type "list", data := .seq its.toArray }, toks := t' } :=
  I.laid (fun _ _ q => Heap.get?_push_of_some _ q) (Nat.le_refl _) ⟨hz, its, 0, hv, Heap.get?_push_size _ rfl⟩
theorem Inv.fresh (I : Inv X pins σ H s) : H s.heap.objs.size = none := I.hok.fresh (Nat.le_refl _)
theorem Inv.lstM (I : Inv X pins σ H s) (hH : H l = some (.lst xs)) : xs.length ≤ sizeLine ∧ ∃ (its : List Value) (n : Nat), Vals xs its ∧ xs.length = its.length ∧ s.heap.get? l = some { cls := .type "list", data := .seq its.toArray n } := by
  obtain ⟨z, its, n, r, e⟩ := I.hok l _ hH
  exact ⟨z, its, n, r, r.length, e⟩

theorem notLongL {n : Nat} (h : n ≤ sizeLine) : Builtin.List.listTooLong n = false := by
  unfold Builtin.List.listTooLong
  exact decide_eq_false (by omega)
end

section
variable {X : Cx}

/-! ### methods -/
def rAppend : V → List V → Hp → VK → Prop := fun x vs H Q => ∃ l xs y, x = .ref l ∧ vs = [y] ∧ H l = some (.lst xs) ∧ xs.length < sizeLine ∧ Q .non (upd H l (.lst (xs ++ [y])))
theorem mt_append : MtM X "list.append" rAppend := by
  intro pins s σ H x vs v us Q I rx rv h
  obtain ⟨l, xs, y, rfl, rfl, hH, hz, q⟩ := h
  cases rx
  obtain ⟨u, rfl, ru⟩ := rv.one
  obtain ⟨z, its, n, r, hl, e⟩ := I.lstM hH
  refine call_meets F.slot_list_append ⟨_, e, rfl⟩ F.entry_list_append (F.args_list_append_2 _ _) (PySem.list_append l its.toArray n u (by rw [List.size_toArray]; omega)) ⟨e, ?_⟩
  refine ⟨.non, _, I.lset (its' := its ++ [u]) hH e (by simp) (r.append (.cons ru .nil)) ?_, rfl, q⟩
  rw [List.length_append, List.length_singleton]
  omega

def rExtend : V → List V → Hp → VK → Prop := fun x vs H Q => ∃ l b xs zs, x = .ref l ∧ vs = [.ref b] ∧ H l = some (.lst xs) ∧ H b = some (.lst zs) ∧ xs.length + zs.length ≤ sizeLine ∧ Q .non (upd H l (.lst (xs ++ zs)))
theorem mt_extend : MtM X "list.extend" rExtend := by
  intro pins s σ H x vs v us Q I rx rv h
  obtain ⟨l, b, xs, zs, rfl, rfl, hH, hB, hz, q⟩ := h
  cases rx
  obtain ⟨u, rfl, ru⟩ := rv.one
  cases ru
  obtain ⟨z, its, n, r, hl, e⟩ := I.lstM hH
  obtain ⟨z2, its2, n2, r2, hl2, e2⟩ := I.lstM hB
  have hsz : its.toArray.size + its2.toArray.size ≤ sizeLine := by rw [List.size_toArray, List.size_toArray]; omega
  have hlong : ¬ (!its.toArray.isEmpty && Builtin.List.listTooLong (its.toArray.size + its2.toArray.size)) = true := by
    rw [notLongL hsz, Bool.and_false]
    exact Bool.false_ne_true
  refine call_meets F.slot_list_extend ⟨_, e, rfl⟩ F.entry_list_extend (F.args_list_extend_2 _ _)
    (AutoSeq1.list_extend_list_list_0 l its.toArray n b its2.toArray n2 hlong (by rw [List.size_toArray]; omega) (by omega)) ⟨e, e2, ?_⟩
  refine ⟨.non, _, I.lset (its' := its ++ its2) hH e (by simp) (r.append r2) ?_, rfl, q⟩
  rw [List.length_append]
  omega

def rPop : V → List V → Hp → VK → Prop := fun x vs H Q => ∃ l xs y, x = .ref l ∧ vs = [] ∧ H l = some (.lst xs) ∧ xs[xs.length - 1]? = some y ∧ Q y (upd H l (.lst xs.dropLast))
theorem mt_pop : MtM X "list.pop" rPop := by
  intro pins s σ H x vs v us Q I rx rv h
  obtain ⟨l, xs, y, rfl, rfl, hH, hy, q⟩ := h
  cases rx
  have hus := rv.zero
  subst hus
  obtain ⟨z, its, n, r, hl, e⟩ := I.lstM hH
  obtain ⟨u, hu, ru⟩ := r.get hy
  have hy' : its.toArray[its.toArray.size - 1]? = some u := by
    show its.toArray[its.length - 1]? = some u
    rw [← Array.getElem?_toList, ← hl]
    exact hu
  refine call_meets F.slot_list_pop ⟨_, e, rfl⟩ F.entry_list_pop (F.args_list_pop_1 _) (MeetsSeq.list_pop_last l its.toArray n u hy' (by rw [List.size_toArray]; omega)) ⟨e, ?_⟩
  refine ⟨y, _, I.lset (its' := its.dropLast) hH e ?_ r.dropLast ?_, ru, q⟩
  · show its.toArray.eraseIdxIfInBounds (its.toArray.size - 1) = its.dropLast.toArray
    rw [List.size_toArray, List.eraseIdxIfInBounds_toArray, erase_last]
  · rw [List.length_dropLast]
    omega

def rPopAt : V → List V → Hp → VK → Prop := fun x vs H Q => ∃ l xs i k y, x = .ref l ∧ vs = [.int i] ∧ H l = some (.lst xs) ∧ -(2 ^ 63) ≤ i ∧ i < 2 ^ 63 ∧ seqIndex? i xs.length = some k ∧ xs[k]? = some y ∧ Q y (upd H l (.lst (xs.eraseIdx k)))
theorem mt_popAt : MtM X "list.pop" rPopAt := by
  intro pins s σ H x vs v us Q I rx rv h
  obtain ⟨l, xs, i, k, y, rfl, rfl, hH, h1, h2, hk, hy, q⟩ := h
  cases rx
  obtain ⟨u, rfl, ru⟩ := rv.one
  obtain ⟨t, rfl⟩ := ru
  obtain ⟨z, its, n, r, hl, e⟩ := I.lstM hH
  obtain ⟨w, hw, rw'⟩ := r.get hy
  refine call_meets F.slot_list_pop ⟨_, e, rfl⟩ F.entry_list_pop (F.args_list_pop_2 _ _)
    (MeetsSeq.list_pop_at l its.toArray n i t k w (fitsIndex_both h1 h2) (by rw [List.size_toArray, ← hl]; exact hk) (by rw [← Array.getElem?_toList]; exact hw) (by rw [List.size_toArray]; omega)) ⟨e, ?_⟩
  refine ⟨y, _, I.lset (its' := its.eraseIdx k) hH e ?_ (r.eraseIdx k) ?_, rw', q⟩
  · show its.toArray.eraseIdxIfInBounds k = (its.eraseIdx k).toArray
    rw [List.eraseIdxIfInBounds_toArray]
  · have := len_erase xs k
    omega

def rReverse : V → List V → Hp → VK → Prop := fun x vs H Q => ∃ l xs, x = .ref l ∧ vs = [] ∧ H l = some (.lst xs) ∧ Q .non (upd H l (.lst xs.reverse))
theorem mt_reverse : MtM X "list.reverse" rReverse := by
  intro pins s σ H x vs v us Q I rx rv h
  obtain ⟨l, xs, rfl, rfl, hH, q⟩ := h
  cases rx
  have hus := rv.zero
  subst hus
  obtain ⟨z, its, n, r, hl, e⟩ := I.lstM hH
  refine call_meets F.slot_list_reverse ⟨_, e, rfl⟩ F.entry_list_reverse (F.args_list_reverse_1 _) (AutoSeq1.list_reverse_list_0 l its.toArray n (by rw [List.size_toArray]; omega)) ⟨e, ?_⟩
  refine ⟨.non, _, I.lset (its' := its.reverse) hH e (by simp) r.reverse ?_, rfl, q⟩
  rw [List.length_reverse]
  omega

def rClear : V → List V → Hp → VK → Prop := fun x vs H Q => ∃ l xs, x = .ref l ∧ vs = [] ∧ H l = some (.lst xs) ∧ Q .non (upd H l (.lst []))
theorem mt_clear : MtM X "list.clear" rClear := by
  intro pins s σ H x vs v us Q I rx rv h
  obtain ⟨l, xs, rfl, rfl, hH, q⟩ := h
  cases rx
  have hus := rv.zero
  subst hus
  obtain ⟨z, its, n, r, hl, e⟩ := I.lstM hH
  refine call_meets F.slot_list_clear ⟨_, e, rfl⟩ F.entry_list_clear (F.args_list_clear_1 _) (AutoSeq1.list_clear_list_0 l its.toArray n (by rw [List.size_toArray]; omega)) ⟨e, ?_⟩
  exact ⟨.non, _, I.lset (its' := []) (ys := []) hH e rfl .nil (Nat.zero_le _), rfl, q⟩

/-! ### list + list, list += list, list * int -/
def rCat : R2 := fun x y H Q => ∃ l b xs zs, x = .ref l ∧ y = .ref b ∧ H l = some (.lst xs) ∧ H b = some (.lst zs) ∧ xs.length + zs.length ≤ sizeLine ∧ ∀ p, H p = none → Q (.ref p) (upd H p (.lst (xs ++ zs)))
theorem op_cat : OpR X (binaryOp .Add) rCat := by
  intro pins s σ H x y v u Q I rx ry h
  obtain ⟨l, b, xs, zs, rfl, rfl, hH, hB, hz, q⟩ := h
  cases rx
  cases ry
  obtain ⟨z, its, n, r, hl, e⟩ := I.lstM hH
  obtain ⟨z2, its2, n2, r2, hl2, e2⟩ := I.lstM hB
  refine PySem.P.add_list e e2 ?_ (by rw [List.size_toArray, List.size_toArray]; omega)
  have ea : its.toArray ++ its2.toArray = (its ++ its2).toArray := by simp
  rw [ea]
  exact ⟨.ref _, _, I.lnew (t' := s.toks) (r.append r2) (by rw [List.length_append]; omega), rfl, q _ I.fresh⟩
/-- a list times an int (a negative one is nothing) -/
def rRep : R2 := fun x y H Q => ∃ l k xs, x = .ref l ∧ y = .int k ∧ H l = some (.lst xs) ∧ -(2 ^ 63) ≤ k ∧ k < 2 ^ 63 ∧ xs.length * k.toNat ≤ sizeLine ∧
  ∀ p, H p = none → Q (.ref p) (upd H p (.lst (List.replicate k.toNat xs).flatten))
theorem len_rep {α : Type} (xs : List α) (k : Nat) : (List.replicate k xs).flatten.length = k * xs.length := by
  induction k with
  | zero => simp
  | succ k ih => rw [List.replicate_succ, List.flatten_cons, List.length_append, ih, Nat.succ_mul, Nat.add_comm]
theorem op_rep : OpR X (binaryOp .Mult) rRep := by
  intro pins s σ H x y v u Q I rx ry h
  obtain ⟨l, k, xs, rfl, rfl, hH, h1, h2, hz, q⟩ := h
  cases rx
  obtain ⟨t, rfl⟩ := ry
  obtain ⟨z, its, n, r, hl, e⟩ := I.lstM hH
  have hlen : its.toArray.size * k.toNat ≤ sizeLine := by rw [List.size_toArray, ← hl]; exact hz
  have hcap : ¬ its.toArray.size * k.toNat > (2 ^ 63 - 1) / 8 := by
    have : (sizeLine : Nat) ≤ (2 ^ 63 - 1) / 8 := by decide
    omega
  have hfit : ¬ (!Builtin.List.listFitsIndex k) = true := by
    rw [fitsIndex_both h1 h2]
    exact Bool.false_ne_true
  have hlong : ¬ Builtin.List.listTooLong (its.toArray.size * k.toNat) = true := by
    rw [notLongL hlen]
    exact Bool.false_ne_true
  have hnew : List.foldl (fun x1 x2 => x1 ++ x2) #[] (List.replicate (if its.toArray.isEmpty = true then 0 else k.toNat) its.toArray) = (List.replicate k.toNat its).flatten.toArray := by
    have f0 : ∀ m : Nat, List.foldl (fun x1 x2 => x1 ++ x2) #[] (List.replicate m its.toArray) = (List.replicate m its).flatten.toArray := fun m => by
      have := foldl_rep its m []
      rw [List.nil_append] at this
      exact this
    rw [f0]
    cases its with
    | nil => simp
    | cons a r' => rw [if_neg (by simp)]
  refine wpAny_binaryOp_repeat_ref (T := "list") (U := "int") (by decide) ⟨_, e, rfl⟩ (fun s' => typeIs_int s' k t) noFill_list_mul F.fills_int_mul F.slot_int_rmul repeat_list F.slot_int_index.lookup
    (call_meets F.slot_int_rmul (typeIs_int s k t) F.entry_int_rmul (F.args_int_rmul_2 _ _) (int___rmul___int_list k t l its.toArray n)
      ⟨e, rfl, ⟨_, e, rfl⟩, call_meets F.slot_list_mul ⟨_, e, rfl⟩ F.entry_list_mul (F.args_list_mul_2 _ _) (AutoListH.list___mul___list_int_3 l its.toArray n k t hfit hcap hlong) ⟨e, ?_⟩⟩)
  rw [hnew]
  exact ⟨.ref _, _, I.lnew (t' := s.toks) (r.rep k.toNat) (by rw [len_rep, Nat.mul_comm]; exact hz), rfl, q _ I.fresh⟩

/-! ### del xs[i] -/
theorem del_list {pins : List (Addr × Obj)} {s : Shared} {σ : St} {H : Hp} {l : Addr} {xs : List V} {i : Int} {t : Tok} {k : Nat} {Q : Unit → Shared → Prop} (I : Inv X pins σ H s) (hH : H l = some (.lst xs))
    (h1 : -(2 ^ 63) ≤ i) (h2 : i < 2 ^ 63) (hk : seqIndex? i xs.length = some k) (h : ∀ s', Inv X pins σ (upd H l (.lst (xs.eraseIdx k))) s' → Q () s') :
    wpAny (model X.prog X.w) X.A (delItem (.ref l) (.int i t)) Q X.xe s := by
  obtain ⟨z, its, n, r, hl, e⟩ := I.lstM hH
  refine PySem.P.delItem_list (k := k) e (fitsIndex_both h1 h2) (by rw [List.size_toArray, ← hl]; exact hk) (h _ ?_) (by rw [List.size_toArray]; omega)
  refine I.lset (its' := its.eraseIdx k) (t' := s.toks) hH e ?_ (r.eraseIdx k) ?_
  · show its.toArray.eraseIdxIfInBounds k = (its.eraseIdx k).toArray
    rw [List.eraseIdxIfInBounds_toArray]
  · have := len_erase xs k
    omega
end

/-! ### xs[a:b] = ys -/
section
variable {prog : Program} {w : World} {A : Around} {E : Value → Shared → Prop} {s : Shared}
theorem splice_eq (its its2 : List Value) (a c : Nat) : its.toArray.extract 0 a ++ its2.toArray ++ its.toArray.extract c its.toArray.size = (its.take a ++ its2 ++ its.drop c).toArray := by
  apply Array.toList_inj.mp
  first
    | (simp
       exact List.take_of_length_le (by simp))
    | simp [List.take_of_length_le]
    | simp
theorem bounds_run {a c n : Nat} (hac : a ≤ c) (hc : c ≤ n) : sliceBounds (some (a : Int)) (some (c : Int)) none n = ((a : Int), (c : Int), 1) := by
  simp only [sliceBounds, Option.getD_none]
  have h1 : ¬ ((a : Int) < 0) := by omega
  have h2 : ¬ ((c : Int) < 0) := by omega
  simp only [h1, h2, if_false, show (1 : Int) > 0 by decide, if_true]
  congr 1
  · omega
  · congr 1; omega
set_option maxRecDepth 100000 in
/-- list.__setitem__ with a slice of step one and another list -/
theorem setItem_slice {l b sl : Addr} {items new : Array Value} {n n2 : Nat} {vl vu : Value} {a c : Nat} {Q : Unit → Shared → Prop}
    (e : s.heap.get? l = some { cls := .type "list", data := .seq items n }) (e2 : s.heap.get? b = some { cls := .type "list", data := .seq new n2 }) (hne : l ≠ b)
    (hs : s.heap.IsSliceOf sl vl vu .none) (pl : IsPart vl (some (a : Int))) (pu : IsPart vu (some (c : Int))) (hac : a ≤ c) (hc : c ≤ items.size)
    (hsz : items.size + new.size ≤ sizeLine) (h : Q () { s with heap := s.heap.update l (Obj.mapSeq fun xs => xs.extract 0 a ++ new ++ xs.extract c xs.size) }) :
    wpAny (model prog w) A (setItem (.ref l) (.ref sl) (.ref b)) Q E s := by
  have hl : s.heap.IsList l items := PySem.IsL.isList e
  have hb : s.heap.IsList b new := PySem.IsL.isList e2
  obtain ⟨os, hos, hcs, hds⟩ := id hs
  have hTs : s.TypeIs (.ref sl) "slice" := ⟨os, hos, hcs⟩
  have hstep : ¬ ((rawPart none == rawInt 0) = true) := Bool.false_ne_true
  have hsame : Builtin.List.listSameRef (.ref l) (.ref b) = false := by
    unfold Builtin.List.listSameRef
    exact beq_eq_false_iff_ne.mpr hne
  have hmax : (max (a : Int) (c : Int)).toNat = c := by omega
  have hz' : ((fun xs : Array Value => xs.extract 0 a ++ new ++ xs.extract c xs.size) items).size ≤ sizeLine + 1 := by
    simp only [Array.size_append, Array.size_extract]
    omega
  unfold setItem
  try with_reducible refine wpAny_holding ?_
  first | refine wpAny_bind (wpAny_pure ?_) | skip
  refine wpAny_bind (wpAny_sequenceKey hl.typeIs (by decide) ?_)
  refine wpAny_bind (wpAny_callSpecial?_slot (name := Str.ofString "__setitem__") hl.typeIs slot_list_setitem
    (wpAny_call_entry slot_list_setitem hl.typeIs entry_list_setitem ?_ (args_list_setitem _ _ _)))
  show wpAny _ _ (Builtin.List.listSubscript? (.ref sl) >>= _) _ _ s
  refine wpAny_bind ?_
  unfold Builtin.List.listSubscript?
  refine wpAny_bind (wpAny_specialOf hTs slice_no_index ?_)
  simp only [Option.isNone_none, if_true]
  refine wpAny_pure ?_
  show wpAny _ _ (typeOf (.ref sl) >>= _) _ _ s
  refine wpAny_bind (wpAny_typeOf hTs ?_)
  first
    | rw [if_neg (by decide)]
    | refine PySem.W.KFB.if_not (by decide) ?_
  rw [listSliceParts_eq]
  refine wpAny_bind (wpAny_bind (wpAny_field hos hds (x := .none) rfl (wpAny_bind (wpAny_listPart .none ?_))))
  rw [if_neg hstep]
  refine wpAny_bind (wpAny_field hos hds (x := vl) rfl (wpAny_bind (wpAny_listPart pl ?_)))
  refine wpAny_bind (wpAny_field hos hds (x := vu) rfl (wpAny_bind (wpAny_listPart pu (wpAny_pure ?_))))
  first
    | simp only [hsame, Bool.false_eq_true, if_false]
    | refine PySem.W.KFB.if_not hsame ?_
    | (dsimp only
       rw [if_neg (by rw [hsame]; exact Bool.false_ne_true)])
  refine wpAny_bind (m := Builtin.List.listAllItems (.ref b) "must assign iterable to extended slice") ?_
  unfold Builtin.List.listAllItems
  refine wpAny_bind (wpAny_typeOf hb.typeIs ?_)
  first
    | refine PySem.W.KFB.if_so (by decide) ?_
    | rw [if_pos (by decide)]
    | simp only [beq_self_eq_true, Bool.true_or, if_true]
  unfold Builtin.List.listItems
  refine wpAny_bind (wpAny_seqItems e2 rfl (wpAny_pure ?_))
  refine wpAny_bind (wpAny_bind (wpAny_seqItems e rfl (wpAny_pure ?_)))
  refine wpAny_bind (wpAny_of_eq ((sliceIndices_raw (some (a : Int)) (some (c : Int)) none items.size (by simp)).trans (congrArg (pure : Int × Int × Int → Sem (Int × Int × Int)) (bounds_run hac hc))) ?_)
  show wpAny _ _ (if ((1 : Int) == 1) = true then _ else _) _ _ s
  rw [if_pos (by decide)]
  refine wpAny_bind (wpAny_rule ?_)
  first
    | simp only [notLongL hsz, Bool.false_eq_true, if_false]
    | refine PySem.W.KFB.if_not (notLongL hsz) ?_
  first | refine wpAny_bind (wpAny_pure ?_) | skip
  show wpAny _ _ (updateSeq l (fun xs => xs.extract 0 ((a : Int)).toNat ++ new ++ xs.extract (max (a : Int) (c : Int)).toNat xs.size) >>= _) _ _ s
  rw [hmax, Int.toNat_natCast]
  refine wpAny_bind (wpAny_updateSeq (hz := Nat.le_trans (Nat.le_add_right _ _) hsz) (_hz' := hz') e rfl ?_)
  refine wpAny_bind (wpAny_letGo ?_)
  first
    | exact wpAny_bind (wpAny_pure (wpAny_pure ⟨.none, rfl, wpAny_pure h⟩))
    | exact wpAny_pure ⟨.none, rfl, wpAny_pure h⟩
end

section
variable {X : Cx}
/-- xs[a:c] = ys of another list, at the value level: sl is the slice object that was just made -/
theorem set_slice {pins : List (Addr × Obj)} {s : Shared} {σ : St} {H : Hp} {l b sl : Addr} {xs ys : List V} {a c : Int} {vl vu : Value} {Q : Unit → Shared → Prop} (I : Inv X pins σ H s)
    (hH : H l = some (.lst xs)) (hB : H b = some (.lst ys)) (hne : l ≠ b) (hs : s.heap.IsSliceOf sl vl vu .none) (ra : RelV (.int a) vl) (rc : RelV (.int c) vu) (h0 : 0 ≤ a) (hac : a ≤ c) (hc : c ≤ xs.length)
    (hz : xs.length + ys.length ≤ sizeLine) (h : ∀ s', Inv X pins σ (upd H l (.lst (xs.take a.toNat ++ ys ++ xs.drop c.toNat))) s' → Q () s') :
    wpAny (model X.prog X.w) X.A (setItem (.ref l) (.ref sl) (.ref b)) Q X.xe s := by
  obtain ⟨ta, rfl⟩ := ra
  obtain ⟨tc, rfl⟩ := rc
  obtain ⟨z, its, n, r, hl, e⟩ := I.lstM hH
  obtain ⟨z2, its2, n2, r2, hl2, e2⟩ := I.lstM hB
  obtain ⟨a', rfl⟩ := Int.eq_ofNat_of_zero_le h0
  obtain ⟨c', rfl⟩ := Int.eq_ofNat_of_zero_le (Int.le_trans h0 hac)
  simp only [Int.toNat_natCast] at h
  refine setItem_slice (a := a') (c := c') e e2 hne hs (.int _ _) (.int _ _) (by omega) (by rw [List.size_toArray]; omega) (by rw [List.size_toArray, List.size_toArray]; omega) (h _ ?_)
  refine I.lset (its' := its.take a' ++ its2 ++ its.drop c') (t' := s.toks) hH e ?_ (Vals.append (Vals.append (r.take _) r2) (r.drop _)) ?_
  · exact splice_eq its its2 a' c'
  · rw [List.length_append, List.length_append, List.length_take, List.length_drop]
    omega
end
end L2

namespace L2
open PySem PySem.Spec PyProof.Rows

/-! ### lists of pairs as tables -/
section
variable {κ : Type} [DecidableEq κ]
def valV (kvs : List (κ × V)) (k : κ) : Option V := (kvs.find? fun kv => decide (kv.1 = k)).map (·.2)
/-- in its place, or at the end -/
def putK (kvs : List (κ × V)) (k : κ) (v : V) : List (κ × V) :=
  if (kvs.any fun kv => decide (kv.1 = k)) = true then kvs.map (fun kv => if kv.1 = k then (kv.1, v) else kv) else kvs ++ [(k, v)]
def dropK (kvs : List (κ × V)) (k : κ) : List (κ × V) := kvs.filter fun kv => decide (kv.1 ≠ k)

theorem valV_nil {k : κ} : valV ([] : List (κ × V)) k = none := rfl
theorem valV_pos {p : κ × V} {r : List (κ × V)} {k : κ} (e : p.1 = k) : valV (p :: r) k = some p.2 := by simp [valV, List.find?_cons, e]
theorem valV_neg {p : κ × V} {r : List (κ × V)} {k : κ} (e : ¬ p.1 = k) : valV (p :: r) k = valV r k := by simp [valV, List.find?_cons, e]
theorem valV_any (k : κ) : ∀ kvs : List (κ × V), (kvs.any fun kv => decide (kv.1 = k)) = (valV kvs k).isSome
  | [] => rfl
  | p :: r => by
    rw [List.any_cons]
    by_cases e : p.1 = k
    · simp only [valV_pos e, decide_eq_true e, Bool.true_or, Option.isSome_some]
    · rw [valV_neg e, decide_eq_false e, Bool.false_or]; exact valV_any k r
theorem valV_map (k j : κ) (y : V) : ∀ kvs : List (κ × V), valV (kvs.map fun kv => if kv.1 = k then (kv.1, y) else kv) j = (valV kvs j).map fun x => if j = k then y else x
  | [] => rfl
  | p :: r => by
    have ih := valV_map k j y r
    rw [List.map_cons]
    by_cases h : p.1 = k
    · rw [if_pos h]
      by_cases e : p.1 = j
      · rw [valV_pos (p := (p.1, y)) e, valV_pos e, Option.map_some, if_pos (e.symm.trans h)]
      · rw [valV_neg (p := (p.1, y)) e, valV_neg e, ih]
    · rw [if_neg h]
      by_cases e : p.1 = j
      · rw [valV_pos (p := p) e, valV_pos e, Option.map_some, if_neg (fun z => h (e.trans z))]
      · rw [valV_neg (p := p) e, valV_neg e, ih]
theorem valV_snoc (k j : κ) (y : V) : ∀ kvs : List (κ × V), valV kvs k = none → valV (kvs ++ [(k, y)]) j = if j = k then some y else valV kvs j
  | [], _ => by
    by_cases e : k = j
    · rw [if_pos e.symm]; exact valV_pos (p := (k, y)) e
    · rw [if_neg (fun z => e z.symm)]; exact valV_neg (p := (k, y)) e
  | p :: r, hn => by
    rw [List.cons_append]
    have hk : ¬ p.1 = k := fun z => by rw [valV_pos z] at hn; cases hn
    rw [valV_neg hk] at hn
    have ih := valV_snoc k j y r hn
    by_cases e : p.1 = j
    · rw [valV_pos e, valV_pos e, if_neg (fun z => hk (e.trans z))]
    · rw [valV_neg e, valV_neg e, ih]
theorem valV_put (kvs : List (κ × V)) (k j : κ) (y : V) : valV (putK kvs k y) j = if j = k then some y else valV kvs j := by
  unfold putK
  by_cases a : (kvs.any fun kv => decide (kv.1 = k)) = true
  · rw [if_pos a, valV_map]
    rw [valV_any] at a
    by_cases e : j = k
    · obtain ⟨x, hx⟩ := Option.isSome_iff_exists.mp a
      rw [if_pos e, e, hx, Option.map_some, if_pos rfl]
    · rw [if_neg e]
      cases valV kvs j with
      | none => rfl
      | some x => rw [Option.map_some, if_neg e]
  · rw [if_neg a]
    refine valV_snoc k j y kvs ?_
    rw [valV_any] at a
    cases q : valV kvs k with
    | none => rfl
    | some x => rw [q] at a; exact (a rfl).elim
theorem length_putK (kvs : List (κ × V)) (k : κ) (v : V) : (putK kvs k v).length ≤ kvs.length + 1 := by
  unfold putK
  split
  · rw [List.length_map]; omega
  · rw [List.length_append, List.length_cons, List.length_nil]; omega
theorem putK_new {kvs : List (κ × V)} {k : κ} (v : V) (h : valV kvs k = none) : putK kvs k v = kvs ++ [(k, v)] := by
  unfold putK
  rw [valV_any, h]
  exact if_neg (by decide)

theorem RelO.isSome_eq {o : Option V} {u : Option Value} (r : RelO o u) : o.isSome = u.isSome := by
  cases o with
  | none => cases u with
    | none => rfl
    | some _ => exact (show False from r).elim
  | some _ => cases u with
    | none => exact (show False from r).elim
    | some _ => rfl
theorem RelO.getD {o : Option V} {u : Option Value} {d : V} {d' : Value} (r : RelO o u) (rd : RelV d d') : RelV (o.getD d) (u.getD d') := by
  cases o with
  | none => cases u with
    | none => exact rd
    | some _ => exact (show False from r).elim
  | some _ => cases u with
    | none => exact (show False from r).elim
    | some _ => exact r

/-- raw tables of the same keys -/
theorem KV.val {kvs : List (κ × V)} {vs : List (κ × Value)} (r : KV kvs vs) (k : κ) : RelO (valV kvs k) (valueAt vs k) := by
  unfold KV at r
  induction r with
  | nil => exact True.intro
  | @cons p q ps qs h t ih =>
    obtain ⟨h1, h2⟩ := h
    by_cases e : p.1 = k
    · have e' : q.1 = k := h1.symm.trans e
      have b : valueAt (q :: qs) k = some q.2 := by simp [valueAt, List.find?_cons, e']
      rw [valV_pos e, b]; exact h2
    · have e' : ¬ q.1 = k := fun z => e (h1.trans z)
      have b : valueAt (q :: qs) k = valueAt qs k := by simp [valueAt, List.find?_cons, e']
      rw [valV_neg e, b]; exact ih
theorem KV.any {kvs : List (κ × V)} {vs : List (κ × Value)} (r : KV kvs vs) (k : κ) : (kvs.any fun kv => decide (kv.1 = k)) = vs.any fun kv => decide (kv.1 = k) := by
  unfold KV at r
  induction r with
  | nil => rfl
  | cons h t ih => rw [List.any_cons, List.any_cons, ih, h.1]
theorem KV.repl {kvs : List (κ × V)} {vs : List (κ × Value)} (r : KV kvs vs) (k : κ) {y : V} {u : Value} (ry : RelV y u) :
    KV (kvs.map fun kv => if kv.1 = k then (kv.1, y) else kv) (vs.map fun kv => if kv.1 = k then (kv.1, u) else kv) := by
  unfold KV at r ⊢
  induction r with
  | nil => exact .nil
  | @cons p q ps qs h t ih =>
    rw [List.map_cons, List.map_cons]
    refine .cons ?_ ih
    obtain ⟨h1, h2⟩ := h
    by_cases e : p.1 = k
    · rw [if_pos e, if_pos (h1.symm.trans e)]; exact ⟨h1, ry⟩
    · rw [if_neg e, if_neg (fun z => e (h1.trans z))]; exact ⟨h1, h2⟩
theorem KV.put {kvs : List (κ × V)} {vs : List (κ × Value)} (r : KV kvs vs) (k : κ) {y : V} {u : Value} (ry : RelV y u) : KV (putK kvs k y) (stored vs k u) := by
  unfold putK stored
  rw [r.any k]
  by_cases e : (vs.any fun kv => decide (kv.1 = k)) = true
  · rw [if_pos e, if_pos e]; exact r.repl k ry
  · rw [if_neg e, if_neg e]; exact Paired.snoc r ⟨rfl, ry⟩
theorem KV.drop {kvs : List (κ × V)} {vs : List (κ × Value)} (r : KV kvs vs) (k : κ) : KV (dropK kvs k) (without vs k) := by
  unfold KV at r ⊢
  unfold dropK without
  induction r with
  | nil => exact .nil
  | @cons p q ps qs h t ih =>
    obtain ⟨h1, h2⟩ := h
    rw [List.filter_cons, List.filter_cons]
    by_cases e : p.1 = k
    · have a : ¬ decide (p.1 ≠ k) = true := by simp [e]
      have b : ¬ decide (q.1 ≠ k) = true := by simp [h1.symm.trans e]
      rw [if_neg a, if_neg b]; exact ih
    · have e' : ¬ q.1 = k := fun z => e (h1.trans z)
      have a : decide (p.1 ≠ k) = true := by simp [e]
      have b : decide (q.1 ≠ k) = true := by simp [e']
      rw [if_pos a, if_pos b]; exact .cons ⟨h1, h2⟩ ih
theorem KV.keys {kvs : List (κ × V)} {vs : List (κ × Value)} (r : KV kvs vs) : kvs.map (·.1) = vs.map (·.1) := by
  unfold KV at r
  induction r with
  | nil => rfl
  | cons h t ih => rw [List.map_cons, List.map_cons, ih, h.1]
theorem KV.length {kvs : List (κ × V)} {vs : List (κ × Value)} (r : KV kvs vs) : kvs.length = vs.length := Paired.length r
theorem dropK_le (kvs : List (κ × V)) (k : κ) : (dropK kvs k).length ≤ kvs.length := List.length_filter_le _ _
end


/-! ### a tracked dict, its keys ints and texts or tuples of these -/
theorem kV_is {P : Program} {w : World} {k : Key} {u : Value} (r : RelV (kV k) u) : (mixKind P w).is k u = true := by
  cases k with
  | inl i => obtain ⟨t, e⟩ := (show ∃ t, u = Value.int i t from r); subst e; exact mixKind_int P w i t
  | inr x => obtain ⟨t, e⟩ := (show ∃ t, u = Value.str x t from r); subst e; exact mixKind_str P w x t
theorem kV_inj {a b : Key} (e : kV a = kV b) : a = b := by
  cases a with
  | inl i => cases b with
    | inl j => have e' : V.int i = V.int j := e; injection e' with e'; rw [e']
    | inr y => exact nomatch (show V.int i = V.str y from e)
  | inr x => cases b with
    | inl j => exact nomatch (show V.str x = V.int j from e)
    | inr y => have e' : V.str x = V.str y := e; injection e' with e'; rw [e']
theorem kVs_inj : ∀ {a b : List Key}, a.map kV = b.map kV → a = b
  | [], [], _ => rfl
  | [], _ :: _, e => by simp at e
  | _ :: _, [], e => by simp at e
  | x :: xs, y :: ys, e => by
    rw [List.map_cons, List.map_cons] at e
    injection e with e1 e2
    rw [kV_inj e1, kVs_inj e2]
theorem items_are {P : Program} {w : World} : ∀ {ks : List Key} {us : List Value}, Vals (ks.map kV) us → ItemsAre (mixKind P w) ks us
  | [], _, r => by rw [List.map_nil] at r; cases r; exact .nil
  | k :: ks, _, r => by
    rw [List.map_cons] at r
    cases r with
    | cons h t => exact .cons (kV_is h) (items_are t)

/-- raw entries of a dict with tuple keys -/
abbrev KT (H : Hp) : List (List Key × V) → List (List Key × Addr × Value) → Prop := Paired fun p q => p.1 = q.1 ∧ H q.2.1 = some (.tup (p.1.map kV)) ∧ RelV p.2 q.2.2
theorem KT.val {H : Hp} {kvs : List (List Key × V)} {xs : List (List Key × Addr × Value)} (r : KT H kvs xs) (k : List Key) : RelO (valV kvs k) ((atKey xs k).map (·.2)) := by
  induction r with
  | nil => exact True.intro
  | @cons p q ps qs h t ih =>
    obtain ⟨h1, _, h2⟩ := h
    by_cases e : p.1 = k
    · have e' : q.1 = k := h1.symm.trans e
      have b : atKey (q :: qs) k = some q.2 := by simp [atKey, List.find?_cons, e']
      rw [valV_pos e, b]; exact h2
    · have e' : ¬ q.1 = k := fun z => e (h1.trans z)
      have b : atKey (q :: qs) k = atKey qs k := by simp [atKey, List.find?_cons, e']
      rw [valV_neg e, b]; exact ih
theorem KT.repl {H : Hp} {kvs : List (List Key × V)} {xs : List (List Key × Addr × Value)} (r : KT H kvs xs) (k : List Key) {y : V} {u : Value} (ry : RelV y u) :
    KT H (kvs.map fun kv => if kv.1 = k then (kv.1, y) else kv) (xs.map (putAt k u)) := by
  induction r with
  | nil => exact .nil
  | @cons p q ps qs h t ih =>
    rw [List.map_cons, List.map_cons]
    refine .cons ?_ ih
    obtain ⟨h1, h2, h3⟩ := h
    unfold putAt
    by_cases e : p.1 = k
    · rw [if_pos e, if_pos (h1.symm.trans e)]; exact ⟨h1, h2, ry⟩
    · rw [if_neg e, if_neg (fun z => e (h1.trans z))]; exact ⟨h1, h2, h3⟩
theorem KT.put {H : Hp} {kvs : List (List Key × V)} {xs : List (List Key × Addr × Value)} (r : KT H kvs xs) (k : List Key) {b : Addr} {y : V} {u : Value} (hb : H b = some (.tup (k.map kV))) (ry : RelV y u) :
    KT H (putK kvs k y) (storedH xs k b u) := by
  have e : (kvs.any fun kv => decide (kv.1 = k)) = (atKey xs k).isSome := by
    rw [valV_any, (r.val k).isSome_eq, Option.isSome_map]
  unfold putK storedH
  rw [e]
  by_cases q : (atKey xs k).isSome = true
  · rw [if_pos q, if_pos q]; exact r.repl k ry
  · rw [if_neg q, if_neg q]; exact Paired.snoc r ⟨rfl, hb, ry⟩
theorem KT.keeps {H H' : Hp} {kvs : List (List Key × V)} {xs : List (List Key × Addr × Value)} (r : KT H kvs xs) (ht : ∀ b ys, H b = some (.tup ys) → H' b = some (.tup ys)) : KT H' kvs xs :=
  Paired.mapP r fun _ _ z => ⟨z.1, ht _ _ z.2.1, z.2.2⟩

section
variable {P : Program} {w : World} {H : Hp} {h : Heap} {a : Addr}
theorem rd_of {u : HO} (ok : HOk P w H h) (e : Rd H a u) : ObjOk P w H h a u := e.ok ok
theorem dk_rd {kvs : List (Key × V)} (ok : HOk P w H h) (e : Rd H a (.dK kvs)) : kvs.length ≤ sizeLine ∧ (a == sysModules) = false ∧ ∃ vs, KV kvs vs ∧ h.DictOf (mixKind P w) a vs :=
  show ObjOk P w H h a (.dK kvs) from rd_of ok e
theorem dk_of {kvs : List (Key × V)} (ok : HOk P w H h) (e : H a = some (.dK kvs)) : kvs.length ≤ sizeLine ∧ (a == sysModules) = false ∧ ∃ vs, KV kvs vs ∧ h.DictOf (mixKind P w) a vs := dk_rd ok (.inl e)
/-- a tracked tuple of ints and texts is a key -/
theorem key_of {ks : List Key} (ok : HOk P w H h) (e : H a = some (.tup (ks.map kV))) : (tupleKind (mixKind P w)).is h ks a := by
  obtain ⟨_, its, r, o, h1, h2, n, h3⟩ := (show ObjOk P w H h a (.tup (ks.map kV)) from ok a _ e)
  exact ⟨o, its.toArray, n, h1, h2, h3, by simpa using items_are r⟩
theorem dt_rd {kvs : List (List Key × V)} (ok : HOk P w H h) (e : Rd H a (.dT kvs)) : kvs.length ≤ sizeLine ∧ (a == sysModules) = false ∧
    ∃ xs, KT H kvs xs ∧ h.DictOfH (tupleKind (mixKind P w)) a xs := by
  obtain ⟨z, y, xs, r, o, es, ep, h1, h2, h3, h4, h5⟩ := (show ObjOk P w H h a (.dT kvs) from rd_of ok e)
  refine ⟨z, y, xs, r, o, es, ep, h1, h2, h3, h4, fun x hx => ?_, h5⟩
  have all : ∀ {l : List (List Key × V)} {m : List (List Key × Addr × Value)}, KT H l m → ∀ x ∈ m, (tupleKind (mixKind P w)).is h x.1 x.2.1 := by
    intro l m q
    induction q with
    | nil => intro x hx; exact nomatch hx
    | @cons p q ps qs hq t ih =>
      intro x hx
      rcases List.mem_cons.mp hx with e | hx
      · subst e
        exact key_of ok (by rw [← hq.1]; exact hq.2.1)
      · exact ih x hx
  exact all r x hx
theorem dt_of {kvs : List (List Key × V)} (ok : HOk P w H h) (e : H a = some (.dT kvs)) : kvs.length ≤ sizeLine ∧ (a == sysModules) = false ∧
    ∃ xs, KT H kvs xs ∧ h.DictOfH (tupleKind (mixKind P w)) a xs := dt_rd ok (.inl e)
end

/-- what the dict at a holds at the key y -/
def DGet (H : Hp) (a : Addr) (y : V) (r : Option V) : Prop :=
  (∃ kvs k, Rd H a (.dK kvs) ∧ y = kV k ∧ r = valV kvs k) ∨ ∃ kvs k b, Rd H a (.dT kvs) ∧ y = .ref b ∧ H b = some (.tup (k.map kV)) ∧ r = valV kvs k
/-- the heap behind a[y] = v -/
def DPut (H : Hp) (a : Addr) (y v : V) (H' : Hp) : Prop :=
  (∃ kvs k, H a = some (.dK kvs) ∧ y = kV k ∧ kvs.length < sizeLine ∧ H' = upd H a (.dK (putK kvs k v))) ∨
  ∃ kvs k b, H a = some (.dT kvs) ∧ y = .ref b ∧ H b = some (.tup (k.map kV)) ∧ kvs.length < sizeLine ∧ H' = upd H a (.dT (putK kvs k v))
theorem DGet.k {H : Hp} {a : Addr} {kvs : List (Key × V)} {k : Key} (e : H a = some (.dK kvs)) : DGet H a (kV k) (valV kvs k) := .inl ⟨kvs, k, .inl e, rfl, rfl⟩
theorem DGet.t {H : Hp} {a b : Addr} {kvs : List (List Key × V)} {k : List Key} (e : H a = some (.dT kvs)) (eb : H b = some (.tup (k.map kV))) : DGet H a (.ref b) (valV kvs k) := .inr ⟨kvs, k, b, .inl e, rfl, eb, rfl⟩
theorem DPut.k {H : Hp} {a : Addr} {kvs : List (Key × V)} {k : Key} {v : V} (e : H a = some (.dK kvs)) (hl : kvs.length < sizeLine) : DPut H a (kV k) v (upd H a (.dK (putK kvs k v))) := .inl ⟨kvs, k, e, rfl, hl, rfl⟩
theorem DPut.t {H : Hp} {a b : Addr} {kvs : List (List Key × V)} {k : List Key} {v : V} (e : H a = some (.dT kvs)) (eb : H b = some (.tup (k.map kV))) (hl : kvs.length < sizeLine) :
    DPut H a (.ref b) v (upd H a (.dT (putK kvs k v))) := .inr ⟨kvs, k, b, e, rfl, eb, hl, rfl⟩


section
variable {X : Cx} {pins : List (Addr × Obj)} {σ : St} {H : Hp} {s : Shared} {a : Addr} {y v : V} {u r : Value} {o : Option V} {A : Around} {E : Value → Shared → Prop}

theorem Inv.big (I : Inv X pins σ H s) : sysModules < s.heap.objs.size := by
  have h : mainGlobals < s.heap.objs.size := (I.mod.glob.keeps I.bk).lt
  exact Nat.lt_trans (by decide) h

/-- d[y], there -/
theorem d_getItem {Q : Value → Shared → Prop} (hu : A.units + 1 < cLine) (I : Inv X pins σ H s) (g : DGet H a y (some v)) (ry : RelV y u) (h : ∀ w' s', Inv X pins σ H s' → RelV v w' → Q w' s') :
    wpAny (model X.prog X.w) A (getItem (.ref a) u) Q E s := by
  rcases g with ⟨kvs, k, e, ey, l⟩ | ⟨kvs, k, b, e, ey, eb, l⟩
  · subst ey
    obtain ⟨z, hd, vs, rel, dd⟩ := dk_rd I.hok e
    obtain ⟨w', hw, rw'⟩ := RelO.some_of (v := v) (o := valueAt vs k) (by rw [l]; exact rel.val k)
    exact wpAny_getItem_of (kV_is ry) dd.mapOf hw (h w' _ (I.tok _) rw')
  · subst ey
    cases (show u = Value.ref b from ry)
    obtain ⟨z, hd, xs, rel, dd⟩ := dt_rd I.hok e
    obtain ⟨w', hw, rw'⟩ := RelO.some_of (v := v) (o := (atKey xs k).map (·.2)) (by rw [l]; exact rel.val k)
    obtain ⟨p, hp, hp2⟩ := Option.map_eq_some_iff.mp hw
    refine wpAny_getItem_heap (tupleKind_room_in1 hu) (key_of I.hok eb) dd hp ?_
    rw [hp2]
    exact h w' _ (I.tok _) rw'
/-- y in d -/
theorem d_in {Q : Value → Shared → Prop} (hu : A.units + 1 < cLine) (I : Inv X pins σ H s) (g : DGet H a y o) (ry : RelV y u) (h : ∀ s', Inv X pins σ H s' → Q (.bool o.isSome) s') :
    wpAny (model X.prog X.w) A (compareOp .In u (.ref a)) Q E s := by
  rcases g with ⟨kvs, k, e, ey, l⟩ | ⟨kvs, k, b, e, ey, eb, l⟩
  · subst ey
    obtain ⟨z, hd, vs, rel, dd⟩ := dk_rd I.hok e
    refine wpAny_in_of (kV_is ry) hd dd.mapOf ?_
    rw [← (rel.val k).isSome_eq, ← l]
    exact h _ (I.tok _)
  · subst ey
    cases (show u = Value.ref b from ry)
    obtain ⟨z, hd, xs, rel, dd⟩ := dt_rd I.hok e
    refine wpAny_in_heap (tupleKind_room_in1 hu) (key_of I.hok eb) hd dd ?_
    have q := (rel.val k).isSome_eq
    rw [Option.isSome_map] at q
    rw [← q, ← l]
    exact h _ (I.tok _)
theorem d_notIn {Q : Value → Shared → Prop} (hu : A.units + 1 < cLine) (I : Inv X pins σ H s) (g : DGet H a y o) (ry : RelV y u) (h : ∀ s', Inv X pins σ H s' → Q (.bool (!o.isSome)) s') :
    wpAny (model X.prog X.w) A (compareOp .NotIn u (.ref a)) Q E s := by
  rcases g with ⟨kvs, k, e, ey, l⟩ | ⟨kvs, k, b, e, ey, eb, l⟩
  · subst ey
    obtain ⟨z, hd, vs, rel, dd⟩ := dk_rd I.hok e
    refine wpAny_notIn_of (kV_is ry) hd dd.mapOf ?_
    rw [← (rel.val k).isSome_eq, ← l]
    exact h _ (I.tok _)
  · subst ey
    cases (show u = Value.ref b from ry)
    obtain ⟨z, hd, xs, rel, dd⟩ := dt_rd I.hok e
    refine wpAny_notIn_heap (tupleKind_room_in1 hu) (key_of I.hok eb) hd dd ?_
    have q := (rel.val k).isSome_eq
    rw [Option.isSome_map] at q
    rw [← q, ← l]
    exact h _ (I.tok _)
/-- a dict's object is replaced -/
theorem d_write {h' : Heap} {t' : Nat} {ob : HO} (I : Inv X pins σ H s) (mu : Mut (H a)) (hs : Heap.SameBut a s.heap h') (he : ∃ q, h'.get? a = some q) (new : ObjOk X.prog X.w (upd H a ob) h' a ob) :
    Inv X pins σ (upd H a ob) { s with heap := h', toks := t' } :=
  I.write (x := a) (e := a) mu (.inl rfl) (fun b q hb z => (hs.2 b hb).trans z) he new
theorem dk_new {P : Program} {w : World} {H' : Hp} {h' : Heap} {kvs : List (Key × V)} {vs : List (Key × Value)} (z : kvs.length ≤ sizeLine) (hd : (a == sysModules) = false) (rel : KV kvs vs) (dd : h'.DictOf (mixKind P w) a vs) :
    ObjOk P w H' h' a (.dK kvs) := ⟨z, hd, vs, rel, dd⟩
/-- d[y] = v -/
theorem d_setItem {H' : Hp} {Q : Unit → Shared → Prop} (hu : A.units + 1 < cLine) (I : Inv X pins σ H s) (g : DPut H a y v H') (ry : RelV y u) (rv : RelV v r) (h : ∀ s', Inv X pins σ H' s' → Q () s') :
    wpAny (model X.prog X.w) A (setItem (.ref a) u r) Q E s := by
  rcases g with ⟨kvs, k, e, ey, l, eH⟩ | ⟨kvs, k, b, e, ey, eb, l, eH⟩
  · subst ey eH
    obtain ⟨z, hd, vs, rel, dd⟩ := dk_of I.hok e
    have hz : vs.length ≤ sizeLine := by rw [← rel.length]; exact z
    have hl : (putK kvs k v).length ≤ sizeLine := by have := length_putK kvs k v; omega
    refine wpAny_setItem_pairs (hsz := hz) (kV_is ry) dd fun h' dd' hs => h _ ?_
    have he : ∃ q, h'.get? a = some q := let ⟨q, _, _, hq, _⟩ := dd'; ⟨q, hq⟩
    exact d_write I (by rw [e]; exact True.intro) hs he (dk_new hl hd (rel.put k rv) dd')
  · subst ey eH
    cases (show u = Value.ref b from ry)
    obtain ⟨z, hd, xs, rel, dd⟩ := dt_of I.hok e
    have hz : xs.length ≤ sizeLine := by rw [← Paired.length rel]; exact z
    have hl : (putK kvs k v).length ≤ sizeLine := by have := length_putK kvs k v; omega
    refine wpAny_setItem_heap (hsz := hz) (tupleKind_room_in1 hu) (key_of I.hok eb) dd fun h' dd' hs => h _ ?_
    obtain ⟨q, es, ep, hq, h2, h3, h4, _, h5⟩ := dd'
    refine d_write I (by rw [e]; exact True.intro) hs ⟨q, hq⟩ ⟨hl, hd, _, (rel.put k eb rv).keeps fun c ys ec => ?_, q, es, ep, hq, h2, h3, h4, h5⟩
    rw [upd_ne (ne_of ec e (fun z => nomatch z))]
    exact ec
end

section
variable {X : Cx} {pins : List (Addr × Obj)} {σ : St} {H : Hp} {s : Shared} {a : Addr} {kvs : List (Key × V)} {k : Key} {u : Value} {A : Around} {E : Value → Shared → Prop}
/-- del d[k] -/
theorem d_delItem {Q : Unit → Shared → Prop} (I : Inv X pins σ H s) (e : H a = some (.dK kvs)) (ry : RelV (kV k) u) (l : (valV kvs k).isSome = true) (h : ∀ s', Inv X pins σ (upd H a (.dK (dropK kvs k))) s' → Q () s') :
    wpAny (model X.prog X.w) A (delItem (.ref a) u) Q E s := by
  obtain ⟨z, hd, vs, rel, dd⟩ := dk_of I.hok e
  refine wpAny_delItem_slot dd.typeIs (by decide) PySem.F.slot_dict_delitem
    (call_meetsIn PySem.F.slot_dict_delitem dd.typeIs PySem.F.entry_dict_delitem (PySem.F.args_dict_delitem_2 _ _) (meets_dict_delitem_pairs (mixKind X.prog X.w) a (kV_is ry)) ⟨vs, dd, by rw [← rel.length]; exact z, by rw [← (rel.val k).isSome_eq]; exact l, fun h' dd' hs => h _ ?_⟩)
  have he : ∃ q, h'.get? a = some q := let ⟨q, _, _, hq, _⟩ := dd'; ⟨q, hq⟩
  exact d_write I (by rw [e]; exact True.intro) hs he (dk_new (Nat.le_trans (dropK_le kvs k) z) hd (rel.drop k) dd')
/-- d.pop(k[, x]), there -/
theorem d_pop {v : V} {more : List Value} {Q : Value → Shared → Prop} (I : Inv X pins σ H s) (e : H a = some (.dK kvs)) (ry : RelV (kV k) u) (l : valV kvs k = some v) (hm : more = [] ∨ ∃ x, more = [x])
    (h : ∀ w' s', Inv X pins σ (upd H a (.dK (dropK kvs k))) s' → RelV v w' → Q w' s') : wpAny (model X.prog X.w) A (call (.builtin "dict.pop") (.ref a :: u :: more)) Q E s := by
  obtain ⟨z, hd, vs, rel, dd⟩ := dk_of I.hok e
  obtain ⟨w', hw, rw'⟩ := RelO.some_of (v := v) (o := valueAt vs k) (by rw [← l]; exact rel.val k)
  have hp : (keyPart u).isSome = true := by
    cases k with
    | inl i => obtain ⟨t, q⟩ := (show ∃ t, u = Value.int i t from ry); subst q; rfl
    | inr x => obtain ⟨t, q⟩ := (show ∃ t, u = Value.str x t from ry); subst q; rfl
  have ha : argsOk "dict.pop" ⟨.ref a :: u :: more, []⟩ := by
    rcases hm with q | ⟨x, q⟩
    · subst q; exact PySem.F.args_dict_pop_2 _ _
    · subst q; exact PySem.F.args_dict_pop_3 _ _ _
  refine call_meetsIn PySem.F.slot_dict_pop dd.typeIs PySem.F.entry_dict_pop ha (meets_dict_pop_there (mixKind X.prog X.w) a (kV_is ry) more hm hp)
    ⟨vs, w', dd, by rw [← rel.length]; exact z, hw, fun h' dd' hs => h w' _ ?_ rw'⟩
  have he : ∃ q, h'.get? a = some q := let ⟨q, _, _, hq, _⟩ := dd'; ⟨q, hq⟩
  exact d_write I (by rw [e]; exact True.intro) hs he (dk_new (Nat.le_trans (dropK_le kvs k) z) hd (rel.drop k) dd')
/-- d.pop(k, x), not there -/
theorem d_popD {r : Value} {Q : Value → Shared → Prop} (I : Inv X pins σ H s) (e : H a = some (.dK kvs)) (ry : RelV (kV k) u) (l : valV kvs k = none) (h : ∀ s', Inv X pins σ H s' → Q r s') :
    wpAny (model X.prog X.w) A (call (.builtin "dict.pop") [.ref a, u, r]) Q E s := by
  obtain ⟨z, hd, vs, rel, dd⟩ := dk_of I.hok e
  have hn : valueAt vs k = none := RelO.none_of (by rw [← l]; exact rel.val k)
  have hp : (keyPart u).isSome = true := by
    cases k with
    | inl i => obtain ⟨t, q⟩ := (show ∃ t, u = Value.int i t from ry); subst q; rfl
    | inr x => obtain ⟨t, q⟩ := (show ∃ t, u = Value.str x t from ry); subst q; rfl
  exact call_meetsIn PySem.F.slot_dict_pop dd.typeIs PySem.F.entry_dict_pop (PySem.F.args_dict_pop_3 _ _ _) (meets_dict_pop_default (mixKind X.prog X.w) a (kV_is ry) hd hp r) ⟨vs, dd, hn, h _ (I.tok _)⟩
/-- d.clear() -/
theorem d_clear {Q : Value → Shared → Prop} (I : Inv X pins σ H s) (e : H a = some (.dK kvs)) (h : ∀ s', Inv X pins σ (upd H a (.dK [])) s' → Q .none s') : wpAny (model X.prog X.w) A (call (.builtin "dict.clear") [.ref a]) Q E s := by
  obtain ⟨z, hd, vs, rel, dd⟩ := dk_of I.hok e
  refine call_meetsIn PySem.F.slot_dict_clear dd.typeIs PySem.F.entry_dict_clear (PySem.F.args_dict_clear_1 _) (meets_dict_clear (mixKind X.prog X.w) a) ⟨vs, dd, by rw [← rel.length]; exact z, fun h' dd' hs => h _ ?_⟩
  have he : ∃ q, h'.get? a = some q := let ⟨q, _, _, hq, _⟩ := dd'; ⟨q, hq⟩
  exact d_write (t' := s.toks) I (by rw [e]; exact True.intro) hs he (dk_new (Nat.zero_le _) hd .nil dd')
/-- len(d) -/
theorem d_len {Q : Value → Shared → Prop} (I : Inv X pins σ H s) (e : Rd H a (.dK kvs)) (h : ∀ t s', Inv X pins σ H s' → Q (.int kvs.length t) s') : wpAny (model X.prog X.w) A (call (.builtin "len") [.ref a]) Q E s := by
  obtain ⟨z, hd, vs, rel, dd⟩ := dk_rd I.hok e
  refine call_len_dict hd dd (by rw [← rel.length]; rw [sizeLine_eq] at z; omega) ?_
  rw [← rel.length]
  exact h _ _ (I.tok _)
/-- if d -/
theorem d_truth {Q : Bool → Shared → Prop} (I : Inv X pins σ H s) (e : Rd H a (.dK kvs)) (h : ∀ s', Inv X pins σ H s' → Q (!kvs.isEmpty) s') : wpAny (model X.prog X.w) A (truthy (.ref a)) Q E s := by
  obtain ⟨z, hd, vs, rel, dd⟩ := dk_rd I.hok e
  refine wpAny_truthy_dict hd dd (by rw [← rel.length]; rw [sizeLine_eq] at z; omega) ?_
  have q : kvs.isEmpty = vs.isEmpty := by cases rel <;> rfl
  rw [← q]
  exact h _ (I.tok _)
end


/-! ### readings and rules -/
/-- the element of a subscription, not a slice -/
def NoSl (i : Expr) : Prop := ∀ ov iv, subscripted i false ov iv = operate [ov, iv] (getItem ov iv)
theorem subD_of {prog : Program} {w : World} {A : Around} {E : Value → Shared → Prop} {s : Shared} {env : Env} {value slice : Expr} {pos : Pos} {T id : String} {Q : Value → Shared → Prop}
    (hl : typeLookup (.type T) "__getitem__" = pure (some (.builtin id))) (hs : NoSl slice)
    (h : wpAny (model prog w) A (eval value env) (fun o s₁ => wpAny (model prog w) A (eval slice env) (fun i s₂ => s₂.TypeIs o T ∧ wpAny (model prog w) A (getItem o i) Q E s₂) E s₁) E s) :
    wpAny (model prog w) A (eval (.Subscript value slice pos) env) Q E s := by
  refine Subscript_ (wpAny_mono h (fun o s₁ h₁ => wpAny_mono h₁ (fun i s₂ h₂ => ?_) fun _ _ x => x) fun _ _ x => x)
  obtain ⟨hT, h₂⟩ := h₂
  unfold subscriptTail
  refine wpAny_bind ?_
  rw [getitemInPython_of_ne hT.not_modules]
  refine wpAny_bind (wpAny_specialOf hT hl ?_)
  have fin : wpAny (model prog w) A (subscripted slice false o i) (fun r s₃ => wpAny (model prog w) A (letTemporaryGo value o r >>= fun _ => pure r) Q E s₃) E s₂ := by
    rw [hs o i]
    exact wpAny_operating (wpAny_mono h₂ (fun r s₃ h₃ => wpAny_bind (wpAny_letTemporaryGo (wpAny_pure h₃))) fun _ _ x => x)
  first
    | exact wpAny_pure (wpAny_bind fin)
    | exact wpAny_bind (wpAny_pure (wpAny_bind fin))
    | exact wpAny_bind fin

theorem dict_typeIs {X : Cx} {pins : List (Addr × Obj)} {σ : St} {H : Hp} {s : Shared} {a : Addr} {y : V} {o : Option V} (I : Inv X pins σ H s) (g : DGet H a y o) : s.TypeIs (.ref a) "dict" := by
  rcases g with ⟨kvs, k, e, _, _⟩ | ⟨kvs, k, b, e, _, _, _⟩
  · obtain ⟨_, _, vs, _, dd⟩ := dk_rd I.hok e
    exact dd.typeIs
  · obtain ⟨_, _, xs, _, dd⟩ := dt_rd I.hok e
    exact dd.typeIs
theorem dict_noDict {X : Cx} {pins : List (Addr × Obj)} {σ : St} {H : Hp} {s : Shared} {a : Addr} {y : V} {o : Option V} (I : Inv X pins σ H s) (g : DGet H a y o) :
    ∀ b, Value.ref a = .ref b → ∃ ob, s.heap.get? b = some ob ∧ ob.dict = none := fun b q => by
  cases q
  rcases g with ⟨kvs, k, e, _, _⟩ | ⟨kvs, k, b, e, _, _, _⟩
  · obtain ⟨_, _, vs, _, ob, _, _, h1, h2, _⟩ := dk_rd I.hok e
    exact ⟨ob, h1, h2.2.1⟩
  · obtain ⟨_, _, xs, _, ob, _, _, h1, h2, _⟩ := dt_rd I.hok e
    exact ⟨ob, h1, h2.2.1⟩

/-- d[y] -/
def tDGet (td ty : TE) : TE := fun σ H Q => td σ H fun x H1 => ty σ H1 fun y H2 => ∃ a v, x = .ref a ∧ DGet H2 a y (some v) ∧ Q v H2
/-- y in d, y not in d -/
def tDIn (ty td : TE) : TE := fun σ H Q => ty σ H fun y H1 => td σ H1 fun x H2 => ∃ a o, x = .ref a ∧ DGet H2 a y o ∧ Q (.bl o.isSome) H2
def tDNotIn (ty td : TE) : TE := fun σ H Q => ty σ H fun y H1 => td σ H1 fun x H2 => ∃ a o, x = .ref a ∧ DGet H2 a y o ∧ Q (.bl (!o.isSome)) H2
/-- d[y] = v -/
def sDPut (td ty tv : TE) : TS := fun D σ H => tv σ H fun v H1 => td σ H1 fun x H2 => ty σ H2 fun y H3 => ∃ a H4, x = .ref a ∧ DPut H3 a y v H4 ∧ D.nx σ H4
/-- d[y] op= v -/
def sDAug (td ty tv : TE) (rd : V → V → Hp → VK → Prop) : TS := fun D σ H => td σ H fun x H1 => ty σ H1 fun y H2 => ∃ a v, x = .ref a ∧ DGet H2 a y (some v) ∧
  tv σ H2 fun y2 H3 => rd v y2 H3 fun z H4 => ∃ H5, DPut H4 a y z H5 ∧ D.nx σ H5
/-- del d[y] -/
def sDDel (td ty : TE) : TS := fun D σ H => td σ H fun x H1 => ty σ H1 fun y H2 => ∃ a kvs k, x = .ref a ∧ H2 a = some (.dK kvs) ∧ y = kV k ∧ (valV kvs k).isSome = true ∧ D.nx σ (upd H2 a (.dK (dropK kvs k)))

section
variable {X : Cx} {o i e value : Expr} {pos pos' tpos : Pos} {td ty tv : TE}
theorem pe_dget (hu : X.A.units + 1 < cLine) (ho : PE X o td) (hi : PE X i ty) (hs : NoSl i) : PE X (.Subscript o i pos) (tDGet td ty) := by
  intro pins s σ H Q I h
  refine subD_of PySem.F.slot_dict_getitem.lookup hs (thn (ho pins s σ H _ I h) fun u s1 ⟨x, H1, I1, rx, q1⟩ => thn (hi pins s1 σ H1 _ I1 q1) fun iv s2 ⟨y, H2, I2, ry, a, v, ex, g, q2⟩ => ?_)
  subst ex
  obtain rfl : u = Value.ref a := rx
  exact ⟨dict_typeIs I2 g, d_getItem hu I2 g ry fun w' s3 I3 rw' => ⟨v, H2, I3, rw', q2⟩⟩
theorem pc_din (hu : X.A.units + 1 < cLine) (hi : PE X i ty) (ho : PE X o td) : PC X .In i o (tDIn ty td) := by
  intro pins s σ H Q I h
  refine thn (hi pins s σ H _ I h) fun iv s1 ⟨y, H1, I1, ry, q1⟩ => thn (ho pins s1 σ H1 _ I1 q1) fun u s2 ⟨x, H2, I2, rx, a, ov, ex, g, q2⟩ => ?_
  subst ex
  obtain rfl : u = Value.ref a := rx
  exact d_in hu I2 g ry fun s3 I3 => ⟨.bl ov.isSome, H2, I3, rfl, q2⟩
theorem pc_dnotin (hu : X.A.units + 1 < cLine) (hi : PE X i ty) (ho : PE X o td) : PC X .NotIn i o (tDNotIn ty td) := by
  intro pins s σ H Q I h
  refine thn (hi pins s σ H _ I h) fun iv s1 ⟨y, H1, I1, ry, q1⟩ => thn (ho pins s1 σ H1 _ I1 q1) fun u s2 ⟨x, H2, I2, rx, a, ov, ex, g, q2⟩ => ?_
  subst ex
  obtain rfl : u = Value.ref a := rx
  exact d_notIn hu I2 g ry fun s3 I3 => ⟨.bl (!ov.isSome), H2, I3, rfl, q2⟩
theorem ps_dput (hu : X.A.units + 1 < cLine) (ho : PE X o td) (hi : PE X i ty) (hv : PE X value tv) (hs : swapsWith value (some (.Subscript o i pos')) pos.line X.env = pure false) :
    PS X (.Assign [.Subscript o i pos'] value pos) (sDPut td ty tv) := by
  intro pins s σ H D I h
  refine wpAny_Assign_Subscript (thn (hv pins s σ H _ I h) fun r s1 ⟨v, H1, I1, rv, q1⟩ => thn (ho pins s1 σ H1 _ I1 q1) fun u s2 ⟨x, H2, I2, rx, q2⟩ => thn (hi pins s2 σ H2 _ I2 q2) fun iv s3 ⟨y, H3, I3, ry, a, H4, ex, g, q3⟩ => ?_) hs
  subst ex
  obtain rfl : u = Value.ref a := rx
  exact d_setItem hu I3 g ry rv fun s4 I4 => ⟨σ, H4, I4, q3⟩
theorem ps_daug {op : Operator} {rd : V → V → Hp → VK → Prop} (hu : X.A.units + 1 < cLine) (ho : PE X o td) (hi : PE X i ty) (hv : PE X value tv) (hop : InOp X op rd)
    (ha : ∀ ov iv new, augStore i ov iv new = (do holding [new, ov, iv] (setItem ov iv new); release [new, ov, iv] []; pure .next)) : PS X (.AugAssign (.Subscript o i tpos) op value pos) (sDAug td ty tv rd) := by
  intro pins s σ H D I h
  refine wpAny_AugAssign_SubscriptAny (thn (ho pins s σ H _ I h) fun u s1 ⟨x, H1, I1, rx, q1⟩ => thn (hi pins s1 σ H1 _ I1 q1) fun iv s2 ⟨y, H2, I2, ry, a, v, ex, g, q2⟩ => ?_) ha
  subst ex
  obtain rfl : u = Value.ref a := rx
  refine d_getItem hu I2 g ry fun w' s3 I3 rw' => thn (hv pins s3 σ H2 _ I3 q2) fun w2 s4 ⟨y2, H3, I4, ry2, q3⟩ => thn (hop pins s4 σ H3 v y2 w' w2 _ I4 rw' ry2 q3) fun w3 s5 ⟨z, H4, I5, rz, H5, g5, q4⟩ => ?_
  exact d_setItem hu I5 g5 ry rz fun s6 I6 => ⟨σ, H5, I6, q4⟩
theorem ps_ddel (ho : PE X o td) (hi : PE X i ty) : PS X (.Delete [.Subscript o i tpos] pos) (sDDel td ty) := by
  intro pins s σ H D I h
  refine wpAny_Delete (wpAny_deleteEach_cons (wpAny_delete_Subscript (thn (ho pins s σ H _ I h) fun u s1 ⟨x, H1, I1, rx, q1⟩ => thn (hi pins s1 σ H1 _ I1 q1) fun iv s2 ⟨y, H2, I2, ry, a, kvs, k, ex, e, ey, l, q2⟩ => ?_)))
  subst ex ey
  obtain rfl : u = Value.ref a := rx
  exact d_delItem I2 e ry l fun s3 I3 => wpAny_deleteEach_nil ⟨σ, _, I3, q2⟩
end


/-! ### displays -/
theorem dk_empty {P : Program} {w : World} {H : Hp} (h : Heap) (hb : sysModules < h.objs.size) : ObjOk P w H (h.push { cls := .type "dict", data := .dict #[] }) h.objs.size (.dK []) :=
  ⟨Nat.zero_le _, beq_eq_false_iff_ne.mpr (Ne.symm (Nat.ne_of_lt hb)), [], .nil, Heap.DictOf.new h⟩
theorem dt_empty {P : Program} {w : World} {H : Hp} (h : Heap) (hb : sysModules < h.objs.size) : ObjOk P w H (h.push { cls := .type "dict", data := .dict #[] }) h.objs.size (.dT []) :=
  ⟨Nat.zero_le _, beq_eq_false_iff_ne.mpr (Ne.symm (Nat.ne_of_lt hb)), [], .nil, _, #[], 0, Heap.get?_push_size _ rfl, ⟨rfl, rfl, rfl⟩, rfl, rfl, List.nodup_nil⟩
/-- {}, to be a dict of the kind that is wanted -/
def tDNewK : TE := fun _ H Q => ∀ p, H p = none → Q (.ref p) (upd H p (.dK []))
def tDNewT : TE := fun _ H Q => ∀ p, H p = none → Q (.ref p) (upd H p (.dT []))
section
variable {X : Cx} {pos : Pos}
theorem pe_dnewK : PE X (.Dict [] [] pos) tDNewK := fun pins s σ H Q I h =>
  wpAny_Dict_empty ⟨.ref s.heap.objs.size, _, I.laid (a := s.heap.objs.size) (o := .dK []) (t' := s.toks) (fun _ _ q => Heap.get?_push_of_some _ q) (Nat.le_refl _) (dk_empty s.heap I.big), rfl, h _ (I.hok.fresh (Nat.le_refl _))⟩
theorem pe_dnewT : PE X (.Dict [] [] pos) tDNewT := fun pins s σ H Q I h =>
  wpAny_Dict_empty ⟨.ref s.heap.objs.size, _, I.laid (a := s.heap.objs.size) (o := .dT []) (t' := s.toks) (fun _ _ q => Heap.get?_push_of_some _ q) (Nat.le_refl _) (dt_empty s.heap I.big), rfl, h _ (I.hok.fresh (Nat.le_refl _))⟩
end

/-- the pairs of a display, from the left -/
def tPairs : List (TE × TE) → St → Hp → (List (V × V) → Hp → Prop) → Prop
  | [], _, H, Q => Q [] H
  | (tk, tv) :: r, σ, H, Q => tk σ H fun x H1 => tv σ H1 fun y H2 => tPairs r σ H2 fun ps H3 => Q ((x, y) :: ps) H3
abbrev VV : List (V × V) → List (Value × Value) → Prop := Paired fun p q => RelV p.1 q.1 ∧ RelV p.2 q.2
def PPs (X : Cx) (pos : Pos) (keys : List (Option Expr)) (values : List Expr) (trs : List (TE × TE)) : Prop :=
  ∀ (pins : List (Addr × Obj)) (s : Shared) (σ : St) (H : Hp) (Q : List (V × V) → Hp → Prop), Inv X pins σ H s → tPairs trs σ H Q →
    wpAny (model X.prog X.w) X.A (evalPairs (pairTrees keys values X.env pos)) (fun vs s' => ∃ ps H', Inv X pins σ H' s' ∧ VV ps vs ∧ Q ps H') X.xe s
theorem pps_nil {X : Cx} {pos : Pos} : PPs X pos [] [] [] := fun pins s σ H Q I h => pairTrees_nil_walk ⟨[], H, I, .nil, h⟩
theorem pps_cons {X : Cx} {pos : Pos} {k v : Expr} {ks : List (Option Expr)} {vs : List Expr} {tk tv : TE} {trs : List (TE × TE)} (hk : PE X k tk) (hv : PE X v tv) (hr : PPs X pos ks vs trs) :
    PPs X pos (some k :: ks) (v :: vs) ((tk, tv) :: trs) := fun pins s σ H Q I h =>
  pairTrees_cons_walk (thn (hk pins s σ H _ I h) fun u s1 ⟨x, H1, I1, rx, q1⟩ => thn (hv pins s1 σ H1 _ I1 q1) fun w2 s2 ⟨y, H2, I2, ry, q2⟩ =>
    thn (hr pins s2 σ H2 _ I2 q2) fun ws s3 ⟨ps, H3, I3, rel, q3⟩ => ⟨(x, y) :: ps, H3, I3, .cons ⟨rx, ry⟩ rel, q3⟩)

def mergeK (kvs more : List (Key × V)) : List (Key × V) := more.foldl (fun acc kv => putK acc kv.1 kv.2) kvs
theorem KV.merge : ∀ {more : List (Key × V)} {rs : List (Key × Value)} {kvs : List (Key × V)} {vs : List (Key × Value)}, KV more rs → KV kvs vs → KV (mergeK kvs more) (merged vs rs) := by
  intro more rs kvs vs r
  unfold KV at r
  induction r generalizing kvs vs with
  | nil => intro q; exact q
  | @cons p q ps qs h t ih =>
    intro r0
    have e : KV (putK kvs p.1 p.2) (stored vs q.1 q.2) := by
      have := r0.put p.1 h.2
      rw [← h.1]; exact this
    exact ih e
theorem length_mergeK : ∀ (more kvs : List (Key × V)), (mergeK kvs more).length ≤ kvs.length + more.length
  | [], kvs => by show kvs.length ≤ kvs.length + 0; omega
  | p :: r, kvs => by
    have h1 := length_mergeK r (putK kvs p.1 p.2)
    have h2 := length_putK kvs p.1 p.2
    show (mergeK (putK kvs p.1 p.2) r).length ≤ _
    rw [List.length_cons]; omega
theorem carries_of {P : Program} {w : World} : ∀ {kvs : List (Key × V)} {ws : List (Value × Value)}, VV (kvs.map fun kv => (kV kv.1, kv.2)) ws → ∃ rs, Carries (mixKind P w) ws rs ∧ KV kvs rs
  | [], _, r => by rw [List.map_nil] at r; cases r; exact ⟨[], True.intro, .nil⟩
  | p :: kvs, _, r => by
    rw [List.map_cons] at r
    cases r with
    | @cons a b as bs h t =>
      obtain ⟨rs, c, q⟩ := carries_of (P := P) (w := w) t
      obtain ⟨b1, b2⟩ := b
      exact ⟨(p.1, b2) :: rs, ⟨kV_is h.1, rfl, c⟩, .cons ⟨rfl, h.2⟩ q⟩
/-- {k: v, ..} with keys ints and texts; the new dict stands empty while the pairs are made -/
def tDisp (trs : List (TE × TE)) : TE := fun σ H Q => ∀ p, H p = none → tPairs trs σ (upd H p (.dK [])) fun ps H2 => H2 p = some (.dK []) ∧ ∃ kvs : List (Key × V), ps = kvs.map (fun kv => (kV kv.1, kv.2)) ∧ kvs.length ≤ 15 ∧ Q (.ref p) (upd H2 p (.dK (mergeK [] kvs)))
theorem pe_disp {X : Cx} {pos : Pos} {keys : List (Option Expr)} {values : List Expr} {trs : List (TE × TE)} (h : PPs X pos keys values trs) (hall : keys.all (·.isSome) = true) (hl : keys.length = values.length) (h0 : keys ≠ [])
    (h15 : keys.length ≤ 15) : PE X (.Dict keys values pos) (tDisp trs) := by
  intro pins s σ H Q I q
  have hn := I.hok.fresh (Nat.le_refl s.heap.objs.size)
  have I1 := I.laid (a := s.heap.objs.size) (o := .dK []) (h' := s.heap.push { cls := .type "dict", data := .dict #[] }) (t' := s.toks) (fun _ _ q => Heap.get?_push_of_some _ q) (Nat.le_refl _) (dk_empty s.heap I.big)
  refine wpAny_Dict_walk (knd := mixKind X.prog X.w) hall hl h0 h15 (thn (h pins _ σ _ _ I1 (q _ hn)) fun ws s2 ⟨ps, H2, I2, rel, e, kvs, ep, lk, q2⟩ => ?_)
  subst ep
  obtain ⟨rs, c, rk⟩ := carries_of (P := X.prog) (w := X.w) rel
  obtain ⟨z, hd, vs0, r0, dd⟩ := dk_of I2.hok e
  cases r0
  refine ⟨rs, c, dd, fun h' dd' hs => ⟨.ref s.heap.objs.size, _, ?_, rfl, q2⟩⟩
  have hz : (mergeK [] kvs).length ≤ sizeLine := by
    have h1 := length_mergeK kvs []
    rw [List.length_nil] at h1
    rw [sizeLine_eq]; omega
  have he : ∃ q, h'.get? s.heap.objs.size = some q := let ⟨q, _, _, hq, _⟩ := dd'; ⟨q, hq⟩
  exact d_write I2 (by rw [e]; exact True.intro) hs he (dk_new hz hd (rk.merge .nil) dd')


/-! ### methods -/
/-- a method call o.m(e) of a built-in, with one argument: what must be seen of the text -/
structure M1 (X : Cx) (o : Expr) (m : Str) (apos : Pos) (e : Expr) (cpos : Pos) : Prop where
  base : attributeBase o m X.env (eval o X.env) = eval o X.env
  few : ((backTo cpos (starEach [e] X.env)).all (fun x => !x.1) && (backToKw cpos (keywordEach [] X.env)).all (fun x => x.1.isSome)
    && decide (([e] : List Expr).length + ([] : List Keyword).length + (if ([] : List Keyword).isEmpty then 0 else 1) < 30)) = true
  line : (apos.endLine == cpos.line) = true
  trees : backTo cpos (starEach [e] X.env) = [(false, eval e X.env)]
structure M2 (X : Cx) (o : Expr) (m : Str) (apos : Pos) (e f : Expr) (cpos : Pos) : Prop where
  base : attributeBase o m X.env (eval o X.env) = eval o X.env
  few : ((backTo cpos (starEach [e, f] X.env)).all (fun x => !x.1) && (backToKw cpos (keywordEach [] X.env)).all (fun x => x.1.isSome)
    && decide (([e, f] : List Expr).length + ([] : List Keyword).length + (if ([] : List Keyword).isEmpty then 0 else 1) < 30)) = true
  line : (apos.endLine == cpos.line) = true
  trees : backTo cpos (starEach [e, f] X.env) = [(false, eval e X.env), (false, eval f X.env)]

/-- a is a dict, whatever its keys -/
def IsD (H : Hp) (a : Addr) : Prop := (∃ kvs, Rd H a (.dK kvs)) ∨ ∃ kvs, Rd H a (.dT kvs)
theorem isD_at {X : Cx} {pins : List (Addr × Obj)} {σ : St} {H : Hp} {s : Shared} {a : Addr} (I : Inv X pins σ H s) (d : IsD H a) :
    s.TypeIs (.ref a) "dict" ∧ (∀ b, Value.ref a = .ref b → ∃ ob, s.heap.get? b = some ob ∧ ob.dict = none) ∧ (a == sysModules) = false := by
  rcases d with ⟨kvs, e⟩ | ⟨kvs, e⟩
  · obtain ⟨_, hd, vs, _, dd⟩ := dk_rd I.hok e
    refine ⟨dd.typeIs, fun b q => ?_, hd⟩
    cases q
    obtain ⟨ob, _, _, h1, h2, _⟩ := dd
    exact ⟨ob, h1, h2.2.1⟩
  · obtain ⟨_, hd, xs, _, dd⟩ := dt_rd I.hok e
    refine ⟨dd.typeIs, fun b q => ?_, hd⟩
    cases q
    obtain ⟨ob, _, _, h1, h2, _⟩ := dd
    exact ⟨ob, h1, h2.2.1⟩

section
variable {X : Cx} {pins : List (Addr × Obj)} {σ : St} {H : Hp} {s : Shared} {a : Addr} {y d : V} {u r : Value} {o : Option V} {A : Around} {E : Value → Shared → Prop}
/-- d.get(y) -/
theorem d_get1 {Q : Value → Shared → Prop} (hu : A.units + 1 < cLine) (I : Inv X pins σ H s) (g : DGet H a y o) (ry : RelV y u) (h : ∀ w' s', Inv X pins σ H s' → RelV (o.getD .non) w' → Q w' s') :
    wpAny (model X.prog X.w) A (call (.builtin "dict.get") [.ref a, u]) Q E s := by
  rcases g with ⟨kvs, k, e, ey, l⟩ | ⟨kvs, k, b, e, ey, eb, l⟩
  · subst ey
    obtain ⟨z, hd, vs, rel, dd⟩ := dk_rd I.hok e
    refine call_meetsIn PySem.F.slot_dict_get dd.typeIs PySem.F.entry_dict_get (PySem.F.args_dict_get_2 _ _) (meets_dict_get (mixKind X.prog X.w) a (kV_is ry) hd) ⟨_, dd.mapOf, h _ _ (I.tok _) ?_⟩
    rw [l]
    exact (rel.val k).getD rfl
  · subst ey
    cases (show u = Value.ref b from ry)
    obtain ⟨z, hd, xs, rel, dd⟩ := dt_rd I.hok e
    refine call_meetsIn PySem.F.slot_dict_get dd.typeIs PySem.F.entry_dict_get (PySem.F.args_dict_get_2 _ _) (meetsH_dict_get (tupleKind (mixKind X.prog X.w)) a b hd) ⟨tupleKind_room_in1 hu, k, xs, key_of I.hok eb, dd, h _ _ (I.tok _) ?_⟩
    rw [l]
    exact (rel.val k).getD rfl
/-- d.get(y, x) -/
theorem d_get2 {Q : Value → Shared → Prop} (hu : A.units + 1 < cLine) (I : Inv X pins σ H s) (g : DGet H a y o) (ry : RelV y u) (rd : RelV d r) (h : ∀ w' s', Inv X pins σ H s' → RelV (o.getD d) w' → Q w' s') :
    wpAny (model X.prog X.w) A (call (.builtin "dict.get") [.ref a, u, r]) Q E s := by
  rcases g with ⟨kvs, k, e, ey, l⟩ | ⟨kvs, k, b, e, ey, eb, l⟩
  · subst ey
    obtain ⟨z, hd, vs, rel, dd⟩ := dk_rd I.hok e
    refine call_meetsIn PySem.F.slot_dict_get dd.typeIs PySem.F.entry_dict_get (PySem.F.args_dict_get_3 _ _ _) (meets_dict_get_default (mixKind X.prog X.w) a (kV_is ry) hd r) ⟨_, dd.mapOf, h _ _ (I.tok _) ?_⟩
    rw [l]
    exact (rel.val k).getD rd
  · subst ey
    cases (show u = Value.ref b from ry)
    obtain ⟨z, hd, xs, rel, dd⟩ := dt_rd I.hok e
    refine call_meetsIn PySem.F.slot_dict_get dd.typeIs PySem.F.entry_dict_get (PySem.F.args_dict_get_3 _ _ _) (meetsH_dict_get_default (tupleKind (mixKind X.prog X.w)) a b hd r) ⟨tupleKind_room_in1 hu, k, xs, key_of I.hok eb, dd, h _ _ (I.tok _) ?_⟩
    rw [l]
    exact (rel.val k).getD rd
end

def tDGet1 (td ty : TE) : TE := fun σ H Q => td σ H fun x H1 => ∃ a, x = .ref a ∧ IsD H1 a ∧ ty σ H1 fun y H2 => ∃ o, DGet H2 a y o ∧ Q (o.getD .non) H2
def tDGet2 (td ty tx : TE) : TE := fun σ H Q => td σ H fun x H1 => ∃ a, x = .ref a ∧ IsD H1 a ∧ ty σ H1 fun y H2 => tx σ H2 fun z H3 => ∃ o, DGet H3 a y o ∧ Q (o.getD z) H3
/-- d.pop(k): there; d.pop(k, x): there or not -/
def tDPop1 (td ty : TE) : TE := fun σ H Q => td σ H fun x H1 => ∃ a, x = .ref a ∧ IsD H1 a ∧ ty σ H1 fun y H2 => ∃ kvs k v, H2 a = some (.dK kvs) ∧ y = kV k ∧ valV kvs k = some v ∧ Q v (upd H2 a (.dK (dropK kvs k)))
def tDPop2 (td ty tx : TE) : TE := fun σ H Q => td σ H fun x H1 => ∃ a, x = .ref a ∧ IsD H1 a ∧ ty σ H1 fun y H2 => tx σ H2 fun z H3 => ∃ kvs k, H3 a = some (.dK kvs) ∧ y = kV k ∧
  (∀ v, valV kvs k = some v → Q v (upd H3 a (.dK (dropK kvs k)))) ∧ (valV kvs k = none → Q z H3)
section
variable {X : Cx} {o e f : Expr} {apos cpos : Pos} {td ty tx : TE}
theorem pe_dget1 (hu : X.A.units + 1 < cLine) (ho : PE X o td) (he : PE X e ty) (m : M1 X o "get" apos e cpos) : PE X (.Call (.Attribute o "get" apos) [e] [] cpos) (tDGet1 td ty) := by
  intro pins s σ H Q I h
  refine wpAny_Call_method m.base m.few m.line PySem.F.plainAttrs_dict PySem.F.slot_dict_get PySem.F.type_dict_get (thn (ho pins s σ H _ I h) fun u s1 ⟨x, H1, I1, rx, a, ex, d, q1⟩ => ?_)
  subst ex
  obtain rfl : u = Value.ref a := rx
  obtain ⟨t1, t2, _⟩ := isD_at I1 d
  refine ⟨t1, t2, ?_⟩
  rw [m.trees]
  refine Calls.callWith_builtin rfl (Calls.evalArgs_plain (Calls.spliced_cons (thn (he pins s1 σ H1 _ I1 q1) fun iv s2 ⟨y, H2, I2, ry, ov, g, q2⟩ => Calls.spliced_nil ?_)))
  exact d_get1 hu I2 g ry fun w' s3 I3 rw' => ⟨_, H2, I3, rw', q2⟩
theorem pe_dget2 (hu : X.A.units + 1 < cLine) (ho : PE X o td) (he : PE X e ty) (hf : PE X f tx) (m : M2 X o "get" apos e f cpos) : PE X (.Call (.Attribute o "get" apos) [e, f] [] cpos) (tDGet2 td ty tx) := by
  intro pins s σ H Q I h
  refine wpAny_Call_method m.base m.few m.line PySem.F.plainAttrs_dict PySem.F.slot_dict_get PySem.F.type_dict_get (thn (ho pins s σ H _ I h) fun u s1 ⟨x, H1, I1, rx, a, ex, d, q1⟩ => ?_)
  subst ex
  obtain rfl : u = Value.ref a := rx
  obtain ⟨t1, t2, _⟩ := isD_at I1 d
  refine ⟨t1, t2, ?_⟩
  rw [m.trees]
  refine Calls.callWith_builtin rfl (Calls.evalArgs_plain (Calls.spliced_cons (thn (he pins s1 σ H1 _ I1 q1) fun iv s2 ⟨y, H2, I2, ry, q2⟩ =>
    Calls.spliced_cons (thn (hf pins s2 σ H2 _ I2 q2) fun fv s3 ⟨z, H3, I3, rz, ov, g, q3⟩ => Calls.spliced_nil ?_))))
  exact d_get2 hu I3 g ry rz fun w' s4 I4 rw' => ⟨_, H3, I4, rw', q3⟩
theorem pe_dpop1 (ho : PE X o td) (he : PE X e ty) (m : M1 X o "pop" apos e cpos) : PE X (.Call (.Attribute o "pop" apos) [e] [] cpos) (tDPop1 td ty) := by
  intro pins s σ H Q I h
  refine wpAny_Call_method m.base m.few m.line PySem.F.plainAttrs_dict PySem.F.slot_dict_pop PySem.F.type_dict_pop (thn (ho pins s σ H _ I h) fun u s1 ⟨x, H1, I1, rx, a, ex, d, q1⟩ => ?_)
  subst ex
  obtain rfl : u = Value.ref a := rx
  obtain ⟨t1, t2, _⟩ := isD_at I1 d
  refine ⟨t1, t2, ?_⟩
  rw [m.trees]
  refine Calls.callWith_builtin rfl (Calls.evalArgs_plain (Calls.spliced_cons (thn (he pins s1 σ H1 _ I1 q1) fun iv s2 ⟨y, H2, I2, ry, kvs, k, v, ea, ey, l, q2⟩ => Calls.spliced_nil ?_)))
  subst ey
  exact d_pop I2 ea ry l (.inl rfl) fun w' s3 I3 rw' => ⟨v, _, I3, rw', q2⟩
theorem pe_dpop2 (ho : PE X o td) (he : PE X e ty) (hf : PE X f tx) (m : M2 X o "pop" apos e f cpos) : PE X (.Call (.Attribute o "pop" apos) [e, f] [] cpos) (tDPop2 td ty tx) := by
  intro pins s σ H Q I h
  refine wpAny_Call_method m.base m.few m.line PySem.F.plainAttrs_dict PySem.F.slot_dict_pop PySem.F.type_dict_pop (thn (ho pins s σ H _ I h) fun u s1 ⟨x, H1, I1, rx, a, ex, d, q1⟩ => ?_)
  subst ex
  obtain rfl : u = Value.ref a := rx
  obtain ⟨t1, t2, _⟩ := isD_at I1 d
  refine ⟨t1, t2, ?_⟩
  rw [m.trees]
  refine Calls.callWith_builtin rfl (Calls.evalArgs_plain (Calls.spliced_cons (thn (he pins s1 σ H1 _ I1 q1) fun iv s2 ⟨y, H2, I2, ry, q2⟩ =>
    Calls.spliced_cons (thn (hf pins s2 σ H2 _ I2 q2) fun fv s3 ⟨z, H3, I3, rz, kvs, k, ea, ey, q3, q4⟩ => Calls.spliced_nil ?_))))
  subst ey
  cases l : valV kvs k with
  | some v => exact d_pop I3 ea ry l (.inr ⟨fv, rfl⟩) fun w' s4 I4 rw' => ⟨v, _, I4, rw', q3 v l⟩
  | none => exact d_popD I3 ea ry l fun s4 I4 => ⟨z, H3, I4, rz, q4 l⟩
end

/-! ### dict(d): a copy -/
section
variable {X : Cx} {pins : List (Addr × Obj)} {σ : St} {H : Hp} {s : Shared} {a : Addr} {kvs : List (Key × V)} {A : Around} {E : Value → Shared → Prop}
theorem d_copyOf {Q : Value → Shared → Prop} (I : Inv X pins σ H s) (e : Rd H a (.dK kvs)) (h : ∀ p s', H p = none → Inv X pins σ (upd H p (.dK kvs)) s' → Q (.ref p) s') : wpAny (model X.prog X.w) A (call (.type "dict") [.ref a]) Q E s := by
  obtain ⟨z, hd, vs, rel, dd⟩ := dk_rd I.hok e
  refine kt_call_dict hd dd (by rw [← rel.length]; exact z) fun h' dd' hs => ?_
  refine h _ _ (I.hok.fresh (Nat.le_refl _)) (I.laid (a := s.heap.objs.size) (o := .dK kvs) (t' := s.toks) (fun b q hq => ?_) (Nat.le_refl _) (dk_new z (beq_eq_false_iff_ne.mpr (Ne.symm (Nat.ne_of_lt I.big))) rel dd'))
  exact (hs.2 b (Nat.ne_of_lt (Heap.lt_size hq))).trans (Heap.get?_push_of_some _ hq)
end


section
variable {X : Cx} {pins : List (Addr × Obj)} {σ : St} {H : Hp} {s : Shared} {a : Addr} {y : V} {u : Value} {A : Around} {E : Value → Shared → Prop}
/-- d[y], not there: a KeyError -/
theorem d_missing {Q : Value → Shared → Prop} (hu : A.units + 1 < cLine) (hh : A.handled = none) (I : Inv X pins σ H s) (g : DGet H a y none) (ry : RelV y u)
    (h : ∀ h' e t', Heap.NewExc s.heap h' e "KeyError" → E (.ref e) { s with heap := h', toks := t' }) : wpAny (model X.prog X.w) A (getItem (.ref a) u) Q E s := by
  rcases g with ⟨kvs, k, e, ey, l⟩ | ⟨kvs, k, b, e, ey, eb, l⟩
  · subst ey
    obtain ⟨z, hd, vs, rel, dd⟩ := dk_rd I.hok e
    have hn : valueAt vs k = none := RelO.none_of (by rw [l]; exact rel.val k)
    exact wpAny_getItem_missing_of (kV_is ry) hd hh dd.mapOf hn fun h' ex ne => h h' ex _ ne
  · subst ey
    cases (show u = Value.ref b from ry)
    obtain ⟨z, hd, xs, rel, dd⟩ := dt_rd I.hok e
    have hn : (atKey xs k).map (·.2) = none := RelO.none_of (by rw [l]; exact rel.val k)
    exact wpAny_getItem_missing_heap (tupleKind_room_in1 hu) (key_of I.hok eb) hd hh dd (Option.map_eq_none_iff.mp hn) fun h' ex ne => h h' ex _ ne
end
end L2

namespace Att
open PySem PySem.W PySem.Calls PyProof.Rows

/-! ### the script -/
theorem ints_of_wellAll {P : Params} {h : Heap} : ∀ (ns : List Int) (vs : List Value), WellAll P h vs (ns.map WData.int) → IntsAre vs ns := by
  intro ns
  induction ns with
  | nil =>
    intro vs w
    rw [List.map_nil] at w
    cases w
    exact .nil
  | cons n ns ih =>
    intro vs w
    rw [List.map_cons] at w
    cases w with
    | cons a b =>
      cases a
      exact .cons _ _ (ih _ b)

theorem script_of {l : OpenLaw} {n : Nat} (hn : l.most = some n) {P : Params} {h : Heap} {args : List WData} {vals : List Value}
    (hpre : l.row.toRowW.claim.pre args = true) (hwl : WellAll P h vals args) :
    ∃ a vs ns, vals = [Value.ref a] ∧ args = [WData.list (ns.map WData.int)] ∧ h.get? a = some { cls := .type "list", data := .seq vs.toArray } ∧ IntsAre vs ns ∧ ns.length ≤ n := by
  have hsh : WShape.hasAll [] args [.list .int] = true := (pre_splitW hpre).1
  have hc : l.pre.holds [] { args := args } = true := (pre_splitW hpre).2
  obtain ⟨d, r, rfl, h1, h2⟩ := hasAllW_cons hsh
  obtain rfl := hasAllW_nil h2
  obtain ⟨xs, rfl, h3⟩ := hasW_list h1
  obtain ⟨ns, rfl⟩ := items_int h3
  have hlen : ns.length ≤ n := by
    unfold OpenLaw.pre at hc
    have h4 : (WTm.not (.lt (.lit (.int (n : Int))) (.len (.arg 0)))).holds [] { args := [.list (ns.map .int)] } = true := by
      have h4 := (holds_andW hc).1
      rw [hn] at h4
      exact h4
    have h5 := condW_of h4 (w_not (w_lt w_lit (w_len_list (w_arg rfl))))
    rw [List.length_map] at h5
    refine Nat.le_of_not_lt fun q => ?_
    have q' : (n : Int) < ((ns.length : Nat) : Int) := by omega
    first
      | (rw [decide_eq_true q'] at h5; exact absurd h5 (by decide))
      | (simp at h5; omega)
  cases hwl with
  | cons w1 w2 =>
    cases w2
    cases w1 with
    | list ho hall => exact ⟨_, _, ns, rfl, rfl, ho, ints_of_wellAll ns _ hall, hlen⟩

theorem post_true (l : OpenLaw) (args : List WData) : l.row.toRowW.claim.post args (.bool true) args = true :=
  postW_of (r := l.row.toRowW) (X := (true == true))
    (show WShape.has [] (.bool true) .bool = true by first | rfl | decide | simp [WShape.has, WShape.arms, WShape.armsAll])
    (show (WTm.eq .res (.lit (.bool true))).value [] { args := args, res := some (.bool true), after := args } = some (.bool (true == true)) from w_eq_bool (w_res rfl) w_lit) rfl

/-! ### the attachment: holds_open's last premise (the goal 'hc' behind k_head) from a wpAny of the law's body -/
theorem attach {l : OpenLaw} {n : Nat} {q : Program} {loose : List Str} {XP : (Str → Option Value) → Heap → Prop} {YP : World → Heap → Prop} {d : DefRec} {x : Str}
    (hn : l.most = some n) (hdf : d.params.defaults = [])
    (hbind : ∀ pm cd doc v : Value, bindArgs (docDef d.name d.params d.body d.scope pm cd doc) ⟨[v], []⟩ = pure [(x, v)])
    (hx : d.scope.names.lookup x = some .local ∨ d.scope.names.lookup x = some .cell)
    (hk : d.scope.kind = .function) (hco : d.scope.isCoroutine = false) (hgen : d.scope.isGenerator = false)
    (body : ∀ (w : World) (s₀ s₁ s : Shared) (mg mb : Str → Option Value) (fa : Addr) (o : Obj) (pm cd doc : Value) (a : Addr) (vs : List Value) (ns : List Int),
      Ground q loose [] XP w s₀ mg mb s₁.heap → YP w s₁.heap →
      s₁.heap.get? fa = some o → o.data = .func (docDef d.name d.params d.body d.scope pm cd doc) → s₁.heap.CodeRec cd d.name → mg d.name = some (.ref fa) →
      s₁.heap.get? a = some { cls := .type "list", data := .seq vs.toArray } → IntsAre vs ns → ns.length ≤ n →
      s.gens = #[] → s.os = s₁.os →
      Fr s₁.heap s₁.heap.objs.size s.heap (bindL (envOfC d.name d.scope s₁.heap.objs.size fa cd).kindOf [(x, .ref a)] fun _ => none) →
      Cl s₁.heap.objs.size (cellsFrom (s₁.heap.objs.size + 1) d.scope.names []) s.heap (bindC (envOfC d.name d.scope s₁.heap.objs.size fa cd).kindOf [(x, .ref a)] fun _ => none) →
      wpAny (model l.prog w) (callerA.deeper (envOfC d.name d.scope s₁.heap.objs.size fa cd)) (execs d.body (envOfC d.name d.scope s₁.heap.objs.size fa cd))
        (fun f s' => f = .ret (.bool true) ∧ OldK s₁.heap s'.heap ∧ s'.os = s₁.os ∧ AllBare s'.gens) (fun _ _ => False) s) :
    WalkO q loose XP YP l.row.toRowW d [] (fun f vs => PySem.call f vs) := by
  intro w s₀ s₁ mg mb G Y fa o pm cd doc dV kV ho hd hcd hD hmg hg args vals as hpre hlay hrd hwl hlo
  obtain rfl : dV = .none := Dflts.none hD hdf
  obtain rfl : kV = .none := Dflts.noKw hD
  obtain ⟨a, vs, ns, rfl, rfl, hobj, hints, hlen⟩ := script_of hn hpre hwl
  refine enter_call ?_
  refine call_cells_ret (o := o) (by rw [depth_caller]; decide) ho (fd_plain hd) G.T.nolimit hcd (hbind pm cd doc (.ref a)) (fun y hy => ?_) (fun h₁ tk F X => ?_) hco hgen hk
  · obtain rfl : y = (x, Value.ref a) := List.mem_singleton.mp hy
    rcases hx with e | e
    · exact .inl e
    · exact .inr ⟨e, cellsFrom_some _ _ _ (.inl e)⟩
  · refine wpAny_mono (body w s₀ s₁ { s₁ with heap := h₁, toks := tk } mg mb fa o pm cd doc a vs ns G Y ho (fd_plain hd) hcd hmg hobj hints hlen hg rfl F X) (fun f s' hq => ?_) (fun _ _ hq => hq)
    obtain ⟨rfl, h2, h3, h4⟩ := hq
    exact ⟨.inl ⟨.bool true, .bool true, [], rfl, fun _ => rfl, .bool true, post_true l _, fun _ => ⟨List.Pairwise.nil, fun _ hm => (nomatch hm)⟩⟩, h2, h3, h4⟩

/-- the same from a codeAny of the CALL (for a layer whose function contracts speak of calls) -/
theorem attach_call {l : OpenLaw} {n : Nat} {q : Program} {loose : List Str} {XP : (Str → Option Value) → Heap → Prop} {YP : World → Heap → Prop} {d : DefRec}
    (hn : l.most = some n) (hdf : d.params.defaults = [])
    (call : ∀ (w : World) (s₀ s₁ : Shared) (mg mb : Str → Option Value) (fa : Addr) (o : Obj) (pm cd doc : Value) (a : Addr) (vs : List Value) (ns : List Int),
      Ground q loose [] XP w s₀ mg mb s₁.heap → YP w s₁.heap →
      s₁.heap.get? fa = some o → o.data = .func (docDef d.name d.params d.body d.scope pm cd doc) → s₁.heap.CodeRec cd d.name → mg d.name = some (.ref fa) →
      s₁.heap.get? a = some { cls := .type "list", data := .seq vs.toArray } → IntsAre vs ns → ns.length ≤ n → s₁.gens = #[] →
      codeAny (model l.prog w) callerA (.call (.ref fa) ⟨[.ref a], []⟩) (fun r s' => r = .ok (.ret (.bool true)) ∧ OldK s₁.heap s'.heap ∧ s'.os = s₁.os ∧ AllBare s'.gens) s₁) :
    WalkO q loose XP YP l.row.toRowW d [] (fun f vs => PySem.call f vs) := by
  intro w s₀ s₁ mg mb G Y fa o pm cd doc dV kV ho hd hcd hD hmg hg args vals as hpre hlay hrd hwl hlo
  obtain rfl : dV = .none := Dflts.none hD hdf
  obtain rfl : kV = .none := Dflts.noKw hD
  obtain ⟨a, vs, ns, rfl, rfl, hobj, hints, hlen⟩ := script_of hn hpre hwl
  refine enter_call (codeAny_mono (call w s₀ s₁ mg mb fa o pm cd doc a vs ns G Y ho (fd_plain hd) hcd hmg hobj hints hlen hg) fun r s' hq => ?_)
  obtain ⟨rfl, h2, h3, h4⟩ := hq
  exact ⟨.inl ⟨.bool true, .bool true, [], rfl, fun _ => rfl, .bool true, post_true l _, fun _ => ⟨List.Pairwise.nil, fun _ hm => (nomatch hm)⟩⟩, h2, h3, h4⟩

/-- the same where the top left finished generators (o_head chose holds_openN): nothing may have changed at all and no generator may be left -/
theorem attachN {l : OpenLaw} {n : Nat} {q : Program} {loose : List Str} {XP : (Str → Option Value) → Heap → Prop} {YP : World → Heap → Prop} {d : DefRec} {x : Str}
    (hn : l.most = some n) (hdf : d.params.defaults = [])
    (hbind : ∀ pm cd doc v : Value, bindArgs (docDef d.name d.params d.body d.scope pm cd doc) ⟨[v], []⟩ = pure [(x, v)])
    (hx : d.scope.names.lookup x = some .local ∨ d.scope.names.lookup x = some .cell)
    (hk : d.scope.kind = .function) (hco : d.scope.isCoroutine = false) (hgen : d.scope.isGenerator = false)
    (body : ∀ (w : World) (s₀ s₁ s : Shared) (mg mb : Str → Option Value) (fa : Addr) (o : Obj) (pm cd doc : Value) (a : Addr) (vs : List Value) (ns : List Int),
      Ground q loose [] XP w s₀ mg mb s₁.heap → YP w s₁.heap →
      s₁.heap.get? fa = some o → o.data = .func (docDef d.name d.params d.body d.scope pm cd doc) → s₁.heap.CodeRec cd d.name → mg d.name = some (.ref fa) →
      s₁.heap.get? a = some { cls := .type "list", data := .seq vs.toArray } → IntsAre vs ns → ns.length ≤ n →
      s.gens = #[] → s.os = s₁.os →
      Fr s₁.heap s₁.heap.objs.size s.heap (bindL (envOfC d.name d.scope s₁.heap.objs.size fa cd).kindOf [(x, .ref a)] fun _ => none) →
      Cl s₁.heap.objs.size (cellsFrom (s₁.heap.objs.size + 1) d.scope.names []) s.heap (bindC (envOfC d.name d.scope s₁.heap.objs.size fa cd).kindOf [(x, .ref a)] fun _ => none) →
      wpAny (model l.prog w) (callerA.deeper (envOfC d.name d.scope s₁.heap.objs.size fa cd)) (execs d.body (envOfC d.name d.scope s₁.heap.objs.size fa cd))
        (fun f s' => f = .ret (.bool true) ∧ (∀ b o, s₁.heap.get? b = some o → s'.heap.get? b = some o) ∧ s'.os = s₁.os ∧ s'.gens = #[]) (fun _ _ => False) s) :
    WalkN q loose XP YP l.row.toRowW d [] (fun f vs => PySem.call f vs) := by
  intro w s₀ s₁ mg mb G Y fa o pm cd doc dV kV ho hd hcd hD hmg hg args vals as hpre hlay hrd hwl hlo
  obtain rfl : dV = .none := Dflts.none hD hdf
  obtain rfl : kV = .none := Dflts.noKw hD
  obtain ⟨a, vs, ns, rfl, rfl, hobj, hints, hlen⟩ := script_of hn hpre hwl
  refine enter_callW ?_
  refine call_cells_ret (o := o) (by rw [depth_caller]; decide) ho (fd_plain hd) G.T.nolimit hcd (hbind pm cd doc (.ref a)) (fun y hy => ?_) (fun h₁ tk F X => ?_) hco hgen hk
  · obtain rfl : y = (x, Value.ref a) := List.mem_singleton.mp hy
    rcases hx with e | e
    · exact .inl e
    · exact .inr ⟨e, cellsFrom_some _ _ _ (.inl e)⟩
  · refine wpAny_mono (body w s₀ s₁ { s₁ with heap := h₁, toks := tk } mg mb fa o pm cd doc a vs ns G Y ho (fd_plain hd) hcd hmg hobj hints hlen hg rfl F X) (fun f s' hq => ?_) (fun _ _ hq => hq)
    obtain ⟨rfl, h2, h3, h4⟩ := hq
    exact ⟨.inl ⟨.bool true, .bool true, [], rfl, fun _ => rfl, .bool true, post_true l _, fun _ => ⟨List.Pairwise.nil, fun _ hm => (nomatch hm)⟩⟩, h2, h3, h4⟩

/-! ### rules over ANY heap (no ledger) from facts about the written part K: the library's own take a ledger (News) for what they write -/
section
variable {prog : Program} {w : World} {A : Around} {E : Value → Shared → Prop} {s : Shared} {K : Frag}

/-- a def of the module, or a method (qual 'C.m'), entered: the frame is the next address; cells behind it -/
theorem call_fn {R : Result → Shared → Prop} {name qual : Str} {params : Arguments} {body : List Stmt} {scope : Scope} {dV kV doc pm cdv ct oc : Value} {an od : Option Addr} {osl : Array (Option Value)} {f : Addr} {args : Args} {binds : List (Str × Value)}
    (X : K.In s.heap) (hlim : s.heap.NoLimit) (ho : K.lookup f = some ⟨oc, od, .func (fnOf name qual params body scope dV kV doc pm an cdv ct), osl⟩) (hcd : codeIn K cdv qual = true) (hroom : A.depth < recursionLimit)
    (hbind : BindsTo s (fnOf name qual params body scope dV kV doc pm an cdv ct) args binds)
    (hkind : (binds.all fun y => scope.names.lookup y.1 == some .local || scope.names.lookup y.1 == some .cell) = true)
    (h : ∀ s₁, InCallC s s.heap.objs.size (bindL (envOfC qual scope s.heap.objs.size f cdv).kindOf binds fun _ => none) (cellsFrom (s.heap.objs.size + 1) scope.names [])
        (bindC (envOfC qual scope s.heap.objs.size f cdv).kindOf binds fun _ => none) s₁ →
      wpAny (model prog w) (A.deeper (envOfC qual scope s.heap.objs.size f cdv)) (execs body (envOfC qual scope s.heap.objs.size f cdv))
        (fun fl s' => R (.ok (.ret (match fl with | .ret v => v | _ => .none))) s')
        (fun e s' => wpAny (model prog w) (A.deeper (envOfC qual scope s.heap.objs.size f cdv)) (leaving (envOfC qual scope s.heap.objs.size f cdv) e) (fun _ s'' => R (.error e) s'') (fun e' s'' => R (.error e') s'') s') s₁)
    (hco : scope.isCoroutine = false) (hgen : scope.isGenerator = false) (hk : scope.kind = .function) : codeAny (model prog w) A (.call (.ref f) args) R s := by
  refine codeAny_call_function hroom (X _ _ ho) rfl hco hgen rfl (codeRec_of X hcd) (hbind _ _ _ _ ?_)
  refine wpAny_newFunctionEnv_cells hk (kindsX hkind _) fun env he s₁ x => ?_
  subst he
  exact ⟨hlim.keeps x.toInCall.keep, codeAny_func (h s₁ x)⟩

/-- C(..): dict at size, instance at size + 1, then __init__ -/
theorem make_obj {R : Result → Shared → Prop} {C fI : Addr} {rest : List Value} {kw : List (Str × Value)}
    (X : K.In s.heap) (hm : makesIn K C = true) (hi : findIn K (.ref C) "__init__" = some (some (.ref fI))) (hf : isFn K (.ref fI) = true)
    (h : codeAny (model prog w) (A.under (.builtin "type.__call__" ⟨.ref C :: rest, kw⟩)) (.call (.ref fI) ⟨.ref (s.heap.objs.size + 1) :: rest, kw⟩) (InitBack (s.heap.objs.size + 1) R)
      { s with heap := (s.heap.push emptyDict).push (instObj C s.heap.objs.size) }) : codeAny (model prog w) A (.call (.ref C) ⟨rest, kw⟩) R s := by
  obtain ⟨hh, g, d, t, os⟩ := s
  exact make_core (makes_of X hm) (looks_findIn X hi) (fun self => bind_fn X self (beq_iff_eq.mp hf)) (.inl rfl) h

/-- x.name where the instance's dict holds the name and the class does not -/
theorem get_field {x C : Addr} {ox : Obj} {es : List DictEntry} {n : Nat} {name : Str} {expr : Bool} {v : Value} {Q : Value → Shared → Prop}
    (X : K.In s.heap) (I : PySem.W.InstAt s.heap x ox C (some (dictOf es n))) (hg : plainGet K C name = true) (hh : hasDictIn K C = true) (ha : findIn K (.ref C) name = some none)
    (hl : getL name es = some (some v)) (hv : handedIn v = true) (h : Q v { s with toks := s.toks + 1 }) : wpAny (model prog w) A (getAttr (.ref x) name expr) Q E s :=
  get_value X I (plainGet_of hg).1 (findObj_own hh ha rfl hl) hv h

/-- x.m(..): the method found in the class -/
theorem get_method {x C f : Addr} {ox : Obj} {es : List DictEntry} {n : Nat} {name : Str} {pl : Sem Bool} {Q : Value × List Value → Shared → Prop}
    (X : K.In s.heap) (I : PySem.W.InstAt s.heap x ox C (some (dictOf es n))) (hg : plainGet K C name = true) (hf : findIn K (.ref C) name = some (some (.ref f))) (ht : isFn K (.ref f) = true)
    (hl : getL name es = some none) (h : Q (.ref f, [.ref x]) s) : wpAny (model prog w) A (getMethod (.ref x) name pl) Q E s :=
  method_fn X I (plainGet_of hg).1 (plainGet_of hg).2 hf (beq_iff_eq.mp ht) (by show (lookIn name (dictOf es n)).map _ = _; rw [lookIn_dict, hl]; rfl) h

/-! the whole heap as the ledger: makes every rule that writes through a ledger a rule over any heap -/
def noObjs (h : Heap) : Heap := { h with objs := #[] }
theorem noObjs_get (h : Heap) (b : Addr) : (noObjs h).get? b = none := by
  cases e : (noObjs h).get? b with
  | none => rfl
  | some o => exact absurd (Heap.lt_size e) (Nat.not_lt_zero _)
def ledger (h : Heap) (L d : Addr) : List (Addr × Obj) := (List.range h.objs.size).filterMap fun a => if a = L ∨ a = d then none else (h.get? a).map fun o => (a, o)
theorem mem_ledger {h : Heap} {L d a : Addr} {o : Obj} : (a, o) ∈ ledger h L d ↔ a ≠ L ∧ a ≠ d ∧ h.get? a = some o := by
  unfold ledger
  rw [List.mem_filterMap]
  constructor
  · rintro ⟨b, _, e⟩
    split at e
    · cases e
    · rename_i hb
      obtain ⟨o', ho, e'⟩ := Option.map_eq_some_iff.mp e
      cases e'
      exact ⟨fun q => hb (.inl q), fun q => hb (.inr q), ho⟩
  · rintro ⟨n1, n2, ho⟩
    refine ⟨a, List.mem_range.mpr (Heap.lt_size ho), ?_⟩
    rw [if_neg (show ¬ (a = L ∨ a = d) from fun q => q.elim n1 n2), ho] <;> rfl
theorem news_ledger {h : Heap} {L d : Addr} {od : Obj} (hne : d ≠ L) (ho : h.get? d = some od) : News (noObjs h) L h ([] ++ (d, od) :: ledger h L d) := by
  rintro ⟨a, o⟩ hp
  rcases List.mem_cons.mp hp with e | hp
  · cases e
    exact ⟨ho, hne, noObjs_get _ _⟩
  · obtain ⟨n1, n2, e⟩ := mem_ledger.mp hp
    exact ⟨e, n1, noObjs_get _ _⟩
theorem fr_all {h : Heap} {L : Addr} {m : Str → Option Value} (n : h.Ns L m) : Fr (noObjs h) L h m :=
  ⟨n, fun b o e => (by rw [noObjs_get] at e; cases e), Nat.zero_le _⟩
/-- Upd of the head entry (for append_K, setItem_K ..) -/
theorem upd_ledger {h : Heap} {L d : Addr} {o o' : Obj} : Upd d o o' ((d, o) :: ledger h L d) ((d, o') :: ledger h L d) :=
  .head fun ⟨_, _⟩ hp => (mem_ledger.mp hp).2.1

/-- x.name = v over any heap: L is any namespace of the heap (the frame's, say): its map stays, its object is not told; all else but the dict stays -/
theorem set_field {x C dx L : Addr} {ox : Obj} {m : Str → Option Value} {es es' : List DictEntry} {n n' : Nat} {name : Str} {v : Value} {Q : Unit → Shared → Prop}
    (X : K.In s.heap) (I : PySem.W.InstAt s.heap x ox C (some (dictOf es n))) (hd : ox.dict = some dx) (hL : s.heap.Ns L m) (hne : dx ≠ L)
    (hs : findIn K (.ref C) "__setattr__" = some (some (.builtin "object.__setattr__"))) (hp : plainOver K C = true) (ht : takerIn K C name = some none) (hh : hasDictIn K C = true) (hl : (getL name es).isSome = true)
    (e : (putL name (PyData.keyHash w.params name) (.str name (s.toks + 1)) v es, putN name es n) = (es', n')) (hz : es'.length ≤ 1000)
    (h : ∀ h' : Heap, h'.Ns L m → h'.get? dx = some (dictOf es' n') → (∀ b o, b ≠ dx → b ≠ L → s.heap.get? b = some o → h'.get? b = some o) → Q () { s with heap := h', toks := s.toks + 2 }) :
    wpAny (model prog w) A (setAttr (.ref x) name v) Q E s := by
  obtain ⟨e1, e2⟩ := Prod.mk.inj e
  have hdx : s.heap.get? dx = some (dictOf es n) := by
    have := I.dict
    rw [hd] at this
    exact this
  refine set_plain X I hs (osa_dict (s := { s with toks := s.toks + 1 }) (h₀ := noObjs s.heap) (L := L) (m := m) (od := dictOf es n) (od' := dictOf es' n') (es := es') (n := n') (pre := []) (post := ledger s.heap L dx)
    (fr_all hL) (news_ledger hne hdx) X I hd hp ht hh hl (fun _ q => nomatch q) (fun ⟨_, _⟩ q => (mem_ledger.mp q).2.1) (by rw [putName_dict, e1, e2]) rfl hz fun h' F' N' => ?_)
  exact h h' F'.ns (N'.get (List.Mem.head _)) fun b o n1 n2 ho => N'.get (List.Mem.tail _ (mem_ledger.mpr ⟨n2, n1, ho⟩))
end
end Att

namespace L2
open PySem PySem.Spec PyProof.Rows

theorem vals_ints : ∀ {vs : List Value} {ns : List Int}, IntsAre vs ns → Vals (ns.map V.int) vs
  | _, _, .nil => .nil
  | _, _, .cons n t h => .cons ⟨t, rfl⟩ (vals_ints h)

/-- nothing is tracked but the script, known to the object (or it is an object of the module) -/
def Only (H : Hp) : Prop := ∀ b, H b = none ∨ ∃ o xs, H b = some (.frz o (.lst xs))

/-- THE HEAD: the law's promise, at the heap behind the top. F, the promise of the law's def, may use that base is part of the heap (so K.In base, base.Ns mainGlobals mg stand in Mod) -/
theorem law_call {P : Program} {w : World} {K : PySem.W.Frag} {mg mb : Str → Option Value} {CX : CXT} {k : Nat} {fa a : Addr} {fd : FuncData} {x : Str} {sp : Sp} {s₁ : Shared} {vs : List Value} {ns : List Int}
    (KX : K.In s₁.heap) (hns : s₁.heap.Ns mainGlobals mg) (hb : s₁.heap.Ns builtinsNs mb) (hbb : ∀ x : Str, x ≠ "__name__" → mb x = bootBuiltins x) (hlim : s₁.heap.NoLimit) (hg : s₁.gens = #[])
    (ha : s₁.heap.get? a = some { cls := .type "list", data := .seq vs.toArray }) (hi : IntsAre vs ns) (hl : ns.length ≤ sizeLine) (hr : Room k callerA)
    (F : ∀ base : Heap, K.In base → base.Ns mainGlobals mg → FnOk P w K mg base CX k fa fd [x] sp) (hbind : ∀ (s : Shared) (u : Value), BindsTo s fd ⟨[u], []⟩ [(x, u)])
    (hsp : ∀ H : Hp, Only H → SqL K H a (ns.map V.int) → sp [.ref a] H (fun v _ => v = .bl true) fun _ _ _ => False)
    (hCX : ∀ H e s', CX [] H s₁ (fun _ _ _ => False) e s' → False) :
    codeAny (model P w) callerA (.call (.ref fa) ⟨[.ref a], []⟩) (fun r s' => r = .ok (.ret (.bool true)) ∧ OldK s₁.heap s'.heap ∧ s'.os = s₁.os ∧ AllBare s'.gens) s₁ := by
  have rv := vals_ints hi
  have lenV := hi.length
  -- from an abstract heap in which nothing but the script may be tracked
  have core : ∀ H : Hp, Only H → SqL K H a (ns.map V.int) → HOk P w H s₁.heap → (∀ b, H b ≠ none → b = a) → (H a ≠ none → K.lookup a = none) →
      codeAny (model P w) callerA (.call (.ref fa) ⟨[.ref a], []⟩) (fun r s' => r = .ok (.ret (.bool true)) ∧ OldK s₁.heap s'.heap ∧ s'.os = s₁.os ∧ AllBare s'.gens) s₁ := by
    intro H hO hS hok hA hK
    have base_of : ∀ {b : Addr} {o : Obj}, s₁.heap.get? b = some o → H b = none → (hidT s₁.heap H).get? b = some o := fun e n => hidT_get e n
    have noA : ∀ {b : Addr} {o : Obj} {es : Array DictEntry} {ep : Nat}, s₁.heap.get? b = some o → o.data = .dict es ep → H b = none := fun {b o es ep} e d => by
      cases q : H b with
      | none => rfl
      | some u =>
        have e' : b = a := hA b (by rw [q]; simp)
        subst e'
        rw [ha] at e; cases e
        have d' : Data.seq vs.toArray _ = Data.dict es ep := d
        cases d'
    have nsK : ∀ {b : Addr} {m : Str → Option Value}, s₁.heap.Ns b m → (hidT s₁.heap H).Ns b m := fun {b m} ⟨o, es, ep, e, d, r⟩ => ⟨o, es, ep, base_of e (noA e d), d, r⟩
    have hKb : K.In (hidT s₁.heap H) := fun b o e => base_of (KX b o e) (by
      cases q : H b with
      | none => rfl
      | some u =>
        have e' : b = a := hA b (by rw [q]; simp)
        subst e'
        rw [hK (by rw [q]; simp)] at e; cases e)
    have hM : Mod K mg (hidT s₁.heap H) := ⟨hKb, nsK hns, ⟨mb, nsK hb, hbb⟩, let ⟨mc, h1, h2⟩ := hlim; ⟨mc, nsK h1, h2⟩⟩
    have e0 : Env0 P w K mg (hidT s₁.heap H) callerA [] s₁ H := ⟨rfl, hM, fun b o e => of_hidT e, Nat.le_of_eq (hidT_size _ _), trivial, fun b hb => absurd (show b ∈ ([] : List Addr) from hb) (by simp), hok, .of_eq hg⟩
    refine codeAny_mono ((F _ hKb (nsK hns)).run callerA [] s₁ H ⟨[.ref a], []⟩ [.ref a] [.ref a] _ _ hr e0 (hbind s₁ (.ref a)) (.cons rfl .nil) (hsp H hO hS)) fun r s' h => ?_
    cases r with
    | error e => exact (hCX H e s' h).elim
    | ok fl =>
      cases fl with
      | next => exact False.elim h
      | brk => exact False.elim h
      | cont => exact False.elim h
      | ret u =>
        obtain ⟨v, H', os, bare, un, hok', r', q⟩ := h
        have q' : v = .bl true := q
        subst q'
        obtain rfl : u = Value.bool true := r'
        refine ⟨rfl, OldK.of_keep fun b o e => ?_, os, bare⟩
        cases q : H b with
        | none => exact un.keep b o e q (by intro z; exact absurd (show b ∈ ([] : List Addr) from z) (by simp)) (by simp)
        | some u =>
          rcases hO b with z | ⟨ob, xs, z⟩
          · rw [q] at z; cases z
          · have z2 := un.frzs b ob _ z
            obtain ⟨e1, _⟩ := hok b _ z
            obtain ⟨e2, _⟩ := hok' b _ z2
            rw [e] at e1; cases e1
            exact e2
  cases hk : K.lookup a with
  | some o =>
    -- the script is one of the module's own objects
    have e := KX a o hk
    rw [ha] at e
    cases e
    refine core (fun _ => none) (fun _ => .inl rfl) (.inr ⟨_, vs.toArray, _, hk, rfl, rfl, rfl, by rw [List.size_toArray, lenV]; exact hl, by simpa using rv⟩) (fun b u z => by have z' : (none : Option HO) = some u := z; cases z') (fun b z => absurd rfl z) fun z => absurd rfl z
  | none =>
    refine core (fun b => if b = a then some (.frz { cls := .type "list", data := .seq vs.toArray } (.lst (ns.map V.int))) else none) (fun b => ?_) (.inl (.inr ⟨{ cls := .type "list", data := .seq vs.toArray }, if_pos rfl⟩)) (fun b u z => ?_) (fun b z => ?_) fun _ => hk
    · by_cases hb : b = a
      · exact .inr ⟨_, _, if_pos hb⟩
      · exact .inl (if_neg hb)
    · by_cases hb : b = a
      · have z' := (if_pos hb).symm.trans z
        cases z'
        subst hb
        exact ⟨ha, by rw [List.length_map]; exact hl, vs, _, rv, ha⟩
      · have z' := (if_neg hb).symm.trans z
        cases z'
    · by_cases hb : b = a
      · exact hb
      · exact absurd (if_neg hb) z
end L2

namespace L2
open PySem PySem.Spec PyProof.Rows

abbrev KOf {K : PySem.W.Frag} {h : Heap} (_ : K.In h) : PySem.W.Frag := K

/-- the goal that k_head leaves (case hc), from the law's promise. F gives the function object fd (K's own) once, then the promise over every base -/
theorem walk_of {l : PySem.W.OpenLaw} {n k : Nat} {q : Program} {loose : List Str} {XP : (Str → Option Value) → Heap → Prop} {YP : World → Heap → Prop} {d : DefRec} {K : Params → PySem.W.Frag} {CX : World → CXT} {sp : World → Sp} {x : Str}
    (hn : l.most = some n) (hn2 : n ≤ sizeLine) (hdf : d.params.defaults = []) (hr : Room k callerA)
    (hY : ∀ (w : World) (h : Heap), YP w h → (K w.params).In h)
    (F : ∀ (w : World) (mg : Str → Option Value) (fa : Addr) (h : Heap), (K w.params).In h → h.Ns mainGlobals mg → mg d.name = some (.ref fa) →
      ∃ fd : FuncData, (∀ (s : Shared) (u : Value), BindsTo s fd ⟨[u], []⟩ [(x, u)]) ∧
        ∀ base : Heap, (K w.params).In base → base.Ns mainGlobals mg → FnOk l.prog w (K w.params) mg base (CX w) k fa fd [x] (sp w))
    (hsp : ∀ (w : World) (H : Hp) (a : Addr) (ns : List Int), ns.length ≤ n → Only H → SqL (K w.params) H a (ns.map V.int) → sp w [.ref a] H (fun v _ => v = .bl true) fun _ _ _ => False)
    (hCX : ∀ (w : World) (H : Hp) (s : Shared) (e : Value) (s' : Shared), CX w [] H s (fun _ _ _ => False) e s' → False) :
    PySem.W.WalkO q loose XP YP l.row.toRowW d [] (fun f vs => PySem.call f vs) := by
  refine Att.attach_call hn hdf fun w s₀ s₁ mg mb fa o pm cd doc a vs ns G Y ho hd hcd hmg hobj hints hlen hg => ?_
  have KX := hY w _ Y
  obtain ⟨fd, hb, hF⟩ := F w mg fa _ KX G.T.g hmg
  exact law_call KX G.T.g G.T.b G.T.builtins G.T.nolimit hg hobj hints (Nat.le_trans hlen hn2) hr hF hb (fun H hO hS => hsp w H a ns hlen hO hS) fun H e s' => hCX w H s₁ e s'
/-- the same where the promise hangs on the written part alone: (sp := My.sp_law), no hole under a binder -/
theorem walk_ofK {l : PySem.W.OpenLaw} {n k : Nat} {q : Program} {loose : List Str} {XP : (Str → Option Value) → Heap → Prop} {YP : World → Heap → Prop} {d : DefRec} {K : Params → PySem.W.Frag} {CX : CXT} {sp : PySem.W.Frag → Sp} {x : Str}
    (hn : l.most = some n) (hn2 : n ≤ sizeLine) (hdf : d.params.defaults = []) (hr : Room k callerA)
    (hY : ∀ (w : World) (h : Heap), YP w h → (K w.params).In h)
    (F : ∀ (w : World) (mg : Str → Option Value) (fa : Addr) (h : Heap), (K w.params).In h → h.Ns mainGlobals mg → mg d.name = some (.ref fa) →
      ∃ fd : FuncData, (∀ (s : Shared) (u : Value), BindsTo s fd ⟨[u], []⟩ [(x, u)]) ∧
        ∀ base : Heap, (K w.params).In base → base.Ns mainGlobals mg → FnOk l.prog w (K w.params) mg base CX k fa fd [x] (sp (K w.params)))
    (hsp : ∀ (K : PySem.W.Frag) (H : Hp) (a : Addr) (ns : List Int), ns.length ≤ n → Only H → SqL K H a (ns.map V.int) → sp K [.ref a] H (fun v _ => v = .bl true) fun _ _ _ => False)
    (hCX : ∀ (H : Hp) (s : Shared) (e : Value) (s' : Shared), CX [] H s (fun _ _ _ => False) e s' → False) :
    PySem.W.WalkO q loose XP YP l.row.toRowW d [] (fun f vs => PySem.call f vs) :=
  walk_of (K := K) (CX := fun _ => CX) (sp := fun w => sp (K w.params)) hn hn2 hdf hr hY F (fun w H a ns h1 h2 h3 => hsp (K w.params) H a ns h1 h2 h3) fun _ H s e s' => hCX H s e s'
end L2

/- THE LAST THEOREM (shape; LID, My.* are yours):
   My.Adr: a structure of the addresses that your layer names (classes, functions); My.Txt K t: a structure (Prop) of the equations over K;
   My.txt_mk : {K} {implicit addresses ..} (e1 : nsIn K mainGlobals "law" = some (some (.ref f))) (e2 : K.lookup f = some ⟨oc, od, .func (fnOf "law" "law" params body scope dV kV doc pm an cdv ct), sl⟩) (e3 : codeIn K cdv "law" = true) .. : ∃ t, My.Txt K t

set_option maxRecDepth 100000 in
set_option maxHeartbeats 0 in
theorem PySem.Challenge.cw_LID_holds : PySem.Challenge.rw_LID.Holds := by
  w_on; o_law; k_head; (case hw => w_witness2)
  k_fill
  refine L2.walk_of (l := PySem.Challenge.rw_LID) (n := 63) (k := 40) (x := "script") (CX := fun w => ..) (sp := fun _ => My.sp_law) rfl (by decide) rfl ⟨rfl, by decide, by decide⟩ (fun w h Y => PySem.W.kIn_of Y) ?F ?S ?C
  case F =>
    intro w mg fa h KX G hmg
    have T : ∃ t, My.Txt (L2.KOf KX) t := by
      dsimp only [L2.KOf]                          -- K must stand as «<heap const> w.params» for k_is
      refine' My.txt_mk ?e1 ?e2 ?e3 ..
      (case e1 => PySem.W.k_is)                    -- in the order: a name -> its address -> its object -> its parts
      (case e2 => PySem.W.k_is)
      ..
    obtain ⟨t, T⟩ := T
    have e0 := hmg.symm.trans (PySem.W.mg_of KX G T.law)
    cases e0                                       -- fa is the law's own address
    exact ⟨_, fun s u => .of_eq rfl, fun base kb nb => My.law_fn T kb nb⟩     -- if «.of_eq rfl» comes too early: refine' ⟨_, ?b, fun base kb nb => My.law_fn T kb nb⟩; exact fun s u => .of_eq rfl
  case S => exact fun w H a ns hl hO hS => ..
  case C => exact ..
(the tactic k_is has no namespace: write k_is) -/

/-! SHORT WORDS over the layer: a def of the text, its body, what a loop and a test want. -/
namespace L2
open PySem PySem.Spec PyProof.Rows

/-! ### the text by places -/
/-- the j-th statement of a class's body -/
def inClass (s : Stmt) (j : Nat) : Stmt := match s with
  | .ClassDef _ _ _ body _ _ _ _ _ _ _ => body.getD j (.Pass ⟨0, 0, 0, 0⟩)
  | _ => .Pass ⟨0, 0, 0, 0⟩
def defArgs (s : Stmt) : Arguments := match s with
  | .FunctionDef _ a _ _ _ _ _ _ _ _ => a
  | _ => { posonlyargs := [], args := [], vararg := none, kwonlyargs := [], kw_defaults := [], kwarg := none, defaults := [] }
def defBody (s : Stmt) : List Stmt := match s with
  | .FunctionDef _ _ b _ _ _ _ _ _ _ => b
  | _ => []
def defScope (s : Stmt) : Scope := match s with
  | .FunctionDef _ _ _ _ _ _ sc _ _ _ => sc
  | _ => { kind := .function, names := [], isGenerator := false, isCoroutine := false }

/-! ### no exception leaves a def -/
abbrev CX0 : CXT := fun _ _ _ _ _ _ => False
abbrev E0 : XK := fun _ _ _ => False
theorem pass0 {X : Cx} : Passes CX0 X E0 := fun _ _ _ _ _ _ _ h => h.elim

/-! ### a def (or method) of the text as it stands behind the top -/
structure Fun (K : PySem.W.Frag) (x qual : Str) (st : Stmt) (f : Addr) (fd : FuncData) : Prop where
  ex : ∃ (oc : Value) (od : Option Addr) (kV doc pm : Value) (an : Option Addr) (cdv ct : Value) (osl : Array (Option Value)),
    fd = PySem.W.fnOf x qual (defArgs st) (defBody st) (defScope st) .none kV doc pm an cdv ct ∧ K.lookup f = some ⟨oc, od, .func fd, osl⟩ ∧ PySem.W.codeIn K cdv qual = true
  kp : PySem.W.keepIn K (.ref f) = true
section
variable {P : Program} {w : World} {K : PySem.W.Frag} {mg : Str → Option Value} {base : Heap}
/-- THE RULE for a def: its body as a term of rules, and the reading of that term -/
theorem Fun.ok {x qual : Str} {st : Stmt} {f : Addr} {fd : FuncData} {N ps : List Str} {k : Nat} {sp : Sp} (F : Fun K x qual st f fd) (S : FnScope N ps (defScope st)) (len : ∀ vs H Q E, sp vs H Q E → vs.length = ps.length)
    (hbody : ∀ (cdv : Value) (A : Around) (outer : List Env) (s : Shared) (H : Hp) (vs : List V) (Q : VK) (E : XK), Room k (A.deeper (envOfC qual (defScope st) s.heap.objs.size f cdv)) → sp vs H Q E →
      ∃ t, PSs (cxOf CX0 P w K mg base N qual (defScope st) f cdv A outer s H E).nox (defBody st) t ∧ t { nx := fun _ H' => Q .non H', rt := Q } (start N vs) H) : FnOk P w K mg base CX0 (k + 1) f fd ps sp := by
  obtain ⟨oc, od, kV, doc, pm, an, cdv, ct, osl, rfl, lk, hcd⟩ := F.ex
  refine fn_of lk hcd S len fun A outer s H vs Q E hr hsp => ?_
  obtain ⟨t, h, q⟩ := hbody cdv A outer s H vs Q E hr hsp
  exact ⟨t, h.nox, q⟩
/-- how its arguments bind (no defaults): h is «fun _ _ _ _ _ _ us hl => match us, hl with | [_, _], _ => rfl», one _ a parameter -/
theorem Fun.binds {x qual : Str} {st : Stmt} {f : Addr} {fd : FuncData} {ps : List Str} (F : Fun K x qual st f fd)
    (h : ∀ (kV doc pm : Value) (an : Option Addr) (cdv ct : Value) (us : List Value), us.length = ps.length → bindArgs (PySem.W.fnOf x qual (defArgs st) (defBody st) (defScope st) .none kV doc pm an cdv ct) ⟨us, []⟩ = pure (ps.zip us)) : Binds K fd ps [] := by
  obtain ⟨oc, od, kV, doc, pm, an, cdv, ct, osl, rfl, lk, hcd⟩ := F.ex
  exact .all (h kV doc pm an cdv ct)
theorem fun_mk {x qual : Str} {st : Stmt} {f : Addr} {oc : Value} {od an : Option Addr} {osl : Array (Option Value)} {kV doc pm cdv ct : Value} (l : K.lookup f = some ⟨oc, od, .func (PySem.W.fnOf x qual (defArgs st) (defBody st) (defScope st) .none kV doc pm an cdv ct), osl⟩)
    (c : PySem.W.codeIn K cdv qual = true) (k : PySem.W.keepIn K (.ref f) = true) : Fun K x qual st f (PySem.W.fnOf x qual (defArgs st) (defBody st) (defScope st) .none kV doc pm an cdv ct) := ⟨⟨oc, od, kV, doc, pm, an, cdv, ct, osl, rfl, l, c⟩, k⟩
end
theorem hu_of {A : Around} {k : Nat} (hr : Room k A) : A.units + 1 < cLine := Nat.lt_of_le_of_lt (Nat.add_le_add_left (by decide : 1 ≤ 64) _) hr.units
theorem small1000 {n : Nat} (h : n ≤ 1000) : n < sizeLine := Nat.lt_of_le_of_lt h (by decide)

/-! ### expressions in short: the name that stands in the i-th slot -/
section
variable {X : Cx}
theorem pv (i : Nat) {x : Str} {pos : Pos} (hN : X.N[i]? = some x := by rfl) (hv : Vis X.env.scope x := by first | exact Or.inl rfl | exact Or.inr (Or.inl rfl) | exact Or.inr (Or.inr rfl)) (hd : (x == ("__debug__" : Str)) = false := by decide)
    (hcd : (x == ("__classdict__" : Str)) = false := by decide) : PE X (.Name x pos) (tVar i) := pe_var hN hv hd hcd
/-- len of a dict -/
theorem call_lenD : CallR X (.builtin "len") (fun xs H Q => ∃ a kvs, xs = [V.ref a] ∧ H a = some (.dK kvs) ∧ Q (.int kvs.length) H) := by
  intro pins s σ H xs us Q I r h
  obtain ⟨a, kvs, rfl, ha, q⟩ := h
  obtain ⟨u, rfl, ru⟩ := vals1 r
  cases ru
  exact d_len I (.inl ha) fun t s' I' => ⟨.int kvs.length, H, I', ⟨t, rfl⟩, q⟩
end

/-! ### tests -/
theorem iteF {A B : Prop} (h : B) : if false = true then A else B := by
  rw [if_neg Bool.false_ne_true]
  exact h
theorem iteT {A B : Prop} (h : A) : if true = true then A else B := by
  rw [if_pos rfl]
  exact h
theorem ite2 {c A B : Prop} [Decidable c] (h1 : c → A) (h2 : ¬ c → B) : if c then A else B := by
  by_cases h : c
  · rw [if_pos h]
    exact h1 h
  · rw [if_neg h]
    exact h2 h
theorem iteNS {c A B : Prop} [Decidable c] (hc : c) (h : B) : if (!decide c) = true then A else B := by
  rw [decide_eq_true hc]
  exact iteF h

/-! ### heaps -/
/-- all that was tracked is as it was -/
def Same (H H' : Hp) : Prop := ∀ b o, H b = some o → H' b = some o
theorem Same.refl (H : Hp) : Same H H := fun _ _ h => h
theorem Same.trans {H H1 H2 : Hp} (a : Same H H1) (b : Same H1 H2) : Same H H2 := fun c o h => b c o (a c o h)
theorem Same.free {H H' : Hp} (e : Same H H') {l : Addr} (h : H' l = Option.none) : H l = Option.none := by
  cases q : H l with
  | none => rfl
  | some o =>
    rw [e l o q] at h
    cases h
theorem Same.seq {K : PySem.W.Frag} {H H' : Hp} {a : Addr} {xs : List V} (e : Same H H') (h : SqL K H a xs) : SqL K H' a xs := by
  rcases h with (h | ⟨o, h⟩) | h
  · exact .inl (.inl (e _ _ h))
  · exact .inl (.inr ⟨o, e _ _ h⟩)
  · exact .inr h

/-! ### a dict's pairs: keys that differ -/
section
variable {κ : Type} [DecidableEq κ]
theorem valV_not {kvs : List (κ × V)} {k : κ} (h : valV kvs k = none) : ¬ k ∈ kvs.map (·.1) := by
  intro m
  obtain ⟨p, hp, e⟩ := List.mem_map.mp m
  have q : (kvs.any fun kv => decide (kv.1 = k)) = true := List.any_eq_true.mpr ⟨p, hp, decide_eq_true e⟩
  rw [valV_any, h] at q
  exact absurd q (by simp)
theorem valV_in {kvs : List (κ × V)} {k : κ} {v : V} (h : valV kvs k = some v) : k ∈ kvs.map (·.1) := by
  have q : (kvs.any fun kv => decide (kv.1 = k)) = true := by
    rw [valV_any, h]
    all_goals rfl
  obtain ⟨p, hp, e⟩ := List.any_eq_true.mp q
  exact List.mem_map.mpr ⟨p, hp, of_decide_eq_true e⟩
theorem nd_snoc : ∀ {l : List κ} {k : κ}, l.Nodup → ¬ k ∈ l → (l ++ [k]).Nodup
  | [], k, _, _ => by simp
  | a :: r, k, h, hk => by
    obtain ⟨h1, h2⟩ := List.nodup_cons.mp h
    show (a :: (r ++ [k])).Nodup
    refine List.nodup_cons.mpr ⟨fun m => ?_, nd_snoc h2 fun m => hk (List.mem_cons.mpr (Or.inr m))⟩
    rcases List.mem_append.mp m with q | q
    · exact h1 q
    · exact hk (List.mem_cons.mpr (Or.inl (List.mem_singleton.mp q).symm))
theorem nd_putK {kvs : List (κ × V)} {k : κ} (v : V) (hn : (kvs.map (·.1)).Nodup) (h : valV kvs k = none) : ((putK kvs k v).map (·.1)).Nodup := by
  rw [putK_new v h, List.map_append]
  exact nd_snoc hn (valV_not h)
theorem dropK_pos {p : κ × V} {r : List (κ × V)} {k : κ} (e : p.1 = k) : dropK (p :: r) k = dropK r k := by
  unfold dropK
  rw [List.filter_cons, if_neg (by simp [e])]
theorem dropK_neg {p : κ × V} {r : List (κ × V)} {k : κ} (e : ¬ p.1 = k) : dropK (p :: r) k = p :: dropK r k := by
  unfold dropK
  rw [List.filter_cons, if_pos (by simp [e])]
theorem dropK_no : ∀ {kvs : List (κ × V)} {k : κ}, ¬ k ∈ kvs.map (·.1) → dropK kvs k = kvs
  | [], _, _ => rfl
  | p :: r, k, h => by
    have h' : ¬ k ∈ r.map (·.1) := fun m => by
      obtain ⟨q, hq, e⟩ := List.mem_map.mp m
      exact h (List.mem_map.mpr ⟨q, List.mem_cons.mpr (Or.inr hq), e⟩)
    rw [dropK_neg fun e => h (List.mem_map.mpr ⟨p, List.mem_cons.mpr (Or.inl rfl), e⟩), dropK_no h']
theorem dropK_mem {kvs : List (κ × V)} {k : κ} {p : κ × V} (h : p ∈ dropK kvs k) : p ∈ kvs := (List.mem_filter.mp h).1
theorem nd_dropK : ∀ {kvs : List (κ × V)} {k : κ}, (kvs.map (·.1)).Nodup → ((dropK kvs k).map (·.1)).Nodup
  | [], _, _ => List.nodup_nil
  | p :: r, k, h => by
    have h : (p.1 :: r.map (·.1)).Nodup := h
    obtain ⟨h1, h2⟩ := List.nodup_cons.mp h
    by_cases e : p.1 = k
    · rw [dropK_pos e]
      exact nd_dropK h2
    · rw [dropK_neg e]
      show (p.1 :: (dropK r k).map (·.1)).Nodup
      refine List.nodup_cons.mpr ⟨fun m => h1 ?_, nd_dropK h2⟩
      obtain ⟨q, hq, eq⟩ := List.mem_map.mp m
      exact List.mem_map.mpr ⟨q, dropK_mem hq, eq⟩
theorem dropK_len : ∀ {kvs : List (κ × V)} {k : κ}, (kvs.map (·.1)).Nodup → k ∈ kvs.map (·.1) → (dropK kvs k).length + 1 = kvs.length
  | [], _, _, m => by simp at m
  | p :: r, k, h, m => by
    have h : (p.1 :: r.map (·.1)).Nodup := h
    have m : k = p.1 ∨ k ∈ r.map (·.1) := List.mem_cons.mp m
    obtain ⟨h1, h2⟩ := List.nodup_cons.mp h
    by_cases e : p.1 = k
    · subst e
      rw [dropK_pos rfl, dropK_no h1]
      all_goals rfl
    · have m' : k ∈ r.map (·.1) := m.resolve_left fun z => e z.symm
      have q := dropK_len h2 m'
      rw [dropK_neg e, List.length_cons, List.length_cons]
      omega
end
end L2

namespace L2
open PySem PySem.Spec PyProof.Rows

/-! ### comprehensions -/
theorem codeAny_compLoop_any {prog : Program} {w : World} {A : Around} {elt iter tg : Expr} {ifs : List Expr} {scope : Scope} {pos : Pos} {it acc : Value} {env : Env} {s : Shared} {R : Result → Shared → Prop} (I : Nat → Shared → Prop)
    (turn : ∀ n s, I n s → wpAny (model prog w) A (pyNext it) (fun r s₁ => match r with
      | none => R (.ok .next) s₁
      | some v => wpAny (model prog w) A (letOwnedTupleGo tg it v) (fun _ s₁' => wpAny (model prog w) A (assign tg env v) (fun _ s₂ =>
          wpAny (model prog w) A (forIn ifs true fun c r => if r = true then do let ok ← isTrue c env (eval c env); pure (ForInStep.yield ok) else pure (ForInStep.yield r)) (fun ok s₃ =>
            if ok = true then wpAny (model prog w) A (eval elt env) (fun x s₄ =>
              wpAny (model prog w) A (call (.builtin "list.append") [acc, x]) (fun _ s₅ => ∃ m, m < n ∧ I m s₅) (fun _ _ => False) s₄) (fun _ _ => False) s₃
            else ∃ m, m < n ∧ I m s₃) (fun _ _ => False) s₂)
          (fun _ _ => False) s₁') (fun _ _ => False) s₁) (fun _ _ => False) s)
    (n : Nat) (h : I n s) : codeAny (model prog w) A (.compLoop (.ListComp elt [⟨tg, iter, ifs, 0⟩] scope pos) 0 it acc env) R s := by
  refine codeAny_loop rfl I (fun n s hI => ?_) n h
  show wpAny _ A ((compTurn (.ListComp elt [⟨tg, iter, ifs, 0⟩] scope pos) 0 it acc env).onRaise (fun x => do noteFrame x env; theTreesLotGoes x)) _ _ s
  refine wpAny_noted ?_
  rw [compTurn_list]
  refine wpAny_bind (wpAny_standAt (wpAny_bind (wpAny_mono (turn n s hI) (fun r s₁ h₁ => ?_) fun _ _ h' => h'.elim)))
  cases r with
  | none => exact wpAny_pure h₁
  | some v =>
    refine wpAny_bind (wpAny_mono h₁ (fun _ s₁' h₁' => ?_) fun _ _ h' => h'.elim)
    refine wpAny_bind (wpAny_mono h₁' (fun _ s₂ h₂ => wpAny_bind (wpAny_mono h₂ (fun ok s₃ h₃ => ?_) fun _ _ h' => h'.elim)) fun _ _ h' => h'.elim)
    cases ok with
    | false => exact wpAny_pure ⟨rfl, h₃⟩
    | true =>
      exact wpAny_bind (wpAny_bind (wpAny_mono h₃ (fun x s₄ h₄ => wpAny_bind (wpAny_mono h₄ (fun _ s₅ h₅ => wpAny_pure (wpAny_pure ⟨rfl, h₅⟩)) fun _ _ h' => h'.elim)) fun _ _ h' => h'.elim))

/-- the cells that a block takes along -/
def clGo (env : Env) : List (Str × NameKind) → List (Str × Addr) → List (Str × Addr)
  | [], cs => cs
  | (n, k) :: r, cs => clGo env r (if k == .free then (match env.cells.lookup n with | some c => (n, c) :: cs | none => cs) else cs)
def clOf (sc : Scope) (env : Env) : List (Str × Addr) := clGo env sc.names []
theorem clGo_mem {env : Env} : ∀ {ns : List (Str × NameKind)} {cs : List (Str × Addr)}, (∀ p ∈ cs, env.cells.lookup p.1 = some p.2) → ∀ p ∈ clGo env ns cs, env.cells.lookup p.1 = some p.2
  | [], _, h => h
  | (n, k) :: r, cs, h => by
    unfold clGo
    refine clGo_mem ?_
    by_cases hk : (k == .free) = true
    · rw [if_pos hk]
      cases e : env.cells.lookup n with
      | none => exact h
      | some c =>
        intro p hp
        rcases List.mem_cons.mp hp with rfl | hp
        · exact e
        · exact h p hp
    · rw [if_neg hk]; exact h
theorem clGo_sub {env : Env} : ∀ {ns : List (Str × NameKind)} {cs : List (Str × Addr)} {p : Str × Addr}, p ∈ cs → p ∈ clGo env ns cs
  | [], _, _, h => h
  | (n, k) :: r, cs, p, h => by
    unfold clGo
    refine clGo_sub ?_
    by_cases hk : (k == .free) = true
    · rw [if_pos hk]
      cases env.cells.lookup n with
      | none => exact h
      | some c => exact List.mem_cons_of_mem _ h
    · rw [if_neg hk]; exact h
theorem clGo_has {env : Env} {x : Str} {c : Addr} (e : env.cells.lookup x = some c) : ∀ {ns : List (Str × NameKind)} {cs : List (Str × Addr)}, (x, NameKind.free) ∈ ns → (x, c) ∈ clGo env ns cs
  | [], _, h => by cases h
  | (n, k) :: r, cs, h => by
    unfold clGo
    rcases List.mem_cons.mp h with h | h
    · injection h with h1 h2
      subst h1 h2
      refine clGo_sub ?_
      rw [if_pos (by rfl), e]
      exact List.mem_cons_self
    · exact clGo_has e h
theorem lookup_of_mem : ∀ {l : List (Str × Addr)} {x : Str} {c : Addr}, (x, c) ∈ l → ∃ d, l.lookup x = some d
  | [], _, _, h => by cases h
  | (n, d) :: r, x, c, h => by
    rw [List.lookup_cons]
    cases e : x == n with
    | true => exact ⟨d, rfl⟩
    | false =>
      rcases List.mem_cons.mp h with h | h
      · injection h with h1 h2
        subst h1
        simp at e
      · exact lookup_of_mem h
theorem clOf_look {sc : Scope} {env : Env} {x : Str} {c : Addr} (e : (clOf sc env).lookup x = some c) : env.cells.lookup x = some c :=
  clGo_mem (cs := []) (fun p hp => by cases hp) (x, c) (PySem.mem_of_lookup e)
theorem clOf_has {sc : Scope} {env : Env} {x : Str} {c : Addr} (h : (x, NameKind.free) ∈ sc.names) (e : env.cells.lookup x = some c) : (clOf sc env).lookup x = some c := by
  obtain ⟨d, hd⟩ := lookup_of_mem (clGo_has (cs := []) e h)
  have := clOf_look (sc := sc) hd
  rw [e] at this
  cases this
  exact hd
theorem closureFor_of {sc : Scope} {env : Env} (h : ∀ y ∈ sc.names, y.2 = .free → ∃ c, env.cells.lookup y.1 = some c) : closureFor sc env = pure (clOf sc env) := by
  unfold clOf closureFor
  generalize sc.names = ns at h
  suffices hh : ∀ cs : List (Str × Addr), (forIn ns cs (fun (x : Str × NameKind) (r : List (Str × Addr)) =>
        (match x with
          | (name, kind) => if (kind == NameKind.free) = true then (cellOf env name >>= fun c => pure (ForInStep.yield ((name, c) :: r))) else pure (ForInStep.yield r) : Sem (ForInStep (List (Str × Addr))))) >>= fun r => pure r : Sem (List (Str × Addr))) = pure (clGo env ns cs) from hh []
  induction ns with
  | nil => intro cs; rfl
  | cons p r ih =>
    intro cs
    obtain ⟨n, k⟩ := p
    rw [List.forIn_cons]
    unfold clGo
    have ih' := ih fun y hy => h y (List.mem_cons_of_mem _ hy)
    by_cases hk : (k == .free) = true
    · obtain ⟨c, hc⟩ := h (n, k) List.mem_cons_self (by simpa using hk)
      have hc : env.cells.lookup n = some c := hc
      have h1 : cellOf env n = pure c := by unfold cellOf; rw [hc]
      simp only [hk, if_true, h1, hc, pure_bind]
      exact ih' _
    · simp only [hk, if_false, pure_bind]
      exact ih' _

/-- the context of a comprehension's block -/
def cxComp (X : Cx) (N' : List Str) (sc : Scope) (C : Addr) (s₀ : Shared) (H₀ : Hp) (fp : List Addr) : Cx where
  prog := X.prog
  w := X.w
  K := X.K
  mg := X.mg
  base := X.base
  A := X.A
  N := N'
  s₀ := s₀
  H₀ := H₀
  env := compEnvC sc (clOf sc X.env) C X.env
  outer := X.stack
  stack := X.stack
  ex := fp
  fn := fun _ => false
  calm := X.calm
  pn := []
  xe := fun _ _ => False

theorem lookup_relabel_free {env : Env} : ∀ {names : List (Str × NameKind)} {x : Str}, names.lookup x = some .free →
    (names.map fun (n, k) => if (k == NameKind.free && env.scope.kind == .function && env.kindOf n == some .cell) then (n, NameKind.cell) else (n, k)).lookup x = some .cell ∨
    (names.map fun (n, k) => if (k == NameKind.free && env.scope.kind == .function && env.kindOf n == some .cell) then (n, NameKind.cell) else (n, k)).lookup x = some .free
  | [], _, h => by simp at h
  | (n, k) :: r, x, h => by
    have ih := @lookup_relabel_free env r x
    show List.lookup x ((if (k == NameKind.free && env.scope.kind == .function && env.kindOf n == some .cell) = true then (n, NameKind.cell) else (n, k)) :: _) = _ ∨ List.lookup x ((if (k == NameKind.free && env.scope.kind == .function && env.kindOf n == some .cell) = true then (n, NameKind.cell) else (n, k)) :: _) = _
    cases hx : x == n with
    | true =>
      simp only [List.lookup_cons, hx] at h
      cases h
      by_cases hc : (NameKind.free == NameKind.free && env.scope.kind == .function && env.kindOf n == some .cell) = true
      · rw [if_pos hc]; left; simp [List.lookup_cons, hx]
      · rw [if_neg hc]; right; simp [List.lookup_cons, hx]
    | false =>
      simp only [List.lookup_cons, hx] at h
      by_cases hc : (k == NameKind.free && env.scope.kind == .function && env.kindOf n == some .cell) = true
      · rw [if_pos hc]; simp only [List.lookup_cons, hx]; exact ih h
      · rw [if_neg hc]; simp only [List.lookup_cons, hx]; exact ih h
theorem mem_relabel {env : Env} {x : Str} {k : NameKind} (hk : k = .cell ∨ k = .free) : ∀ {names : List (Str × NameKind)}, (∀ y ∈ names, y.2 ≠ .cell) →
    (names.map fun (n, k) => if (k == NameKind.free && env.scope.kind == .function && env.kindOf n == some .cell) then (n, NameKind.cell) else (n, k)).lookup x = some k → (x, NameKind.free) ∈ names
  | [], _, h => by simp at h
  | (n, j) :: r, hc, h => by
    have hr : ∀ y ∈ r, y.2 ≠ .cell := fun y hy => hc y (List.mem_cons_of_mem _ hy)
    have h : List.lookup x ((if (j == NameKind.free && env.scope.kind == .function && env.kindOf n == some .cell) = true then (n, NameKind.cell) else (n, j)) :: _) = _ := h
    by_cases hj : (j == NameKind.free && env.scope.kind == .function && env.kindOf n == some .cell) = true
    · rw [if_pos hj, List.lookup_cons] at h
      have hj' : j = .free := by
        simp only [Bool.and_eq_true, beq_iff_eq] at hj
        exact hj.1.1
      cases hx : x == n with
      | true =>
        rw [eq_of_beq hx, ← hj']
        exact List.mem_cons_self
      | false =>
        rw [hx] at h
        exact List.mem_cons_of_mem _ (mem_relabel hk hr h)
    · rw [if_neg hj, List.lookup_cons] at h
      cases hx : x == n with
      | true =>
        rw [hx] at h
        have h' : j = k := Option.some.inj h
        have hjc : j ≠ .cell := hc (n, j) List.mem_cons_self
        rcases hk with e | e
        · exact absurd (h'.trans e) hjc
        · rw [eq_of_beq hx]
          have : j = .free := h'.trans e
          rw [this]
          exact List.mem_cons_self
      | false =>
        rw [hx] at h
        exact List.mem_cons_of_mem _ (mem_relabel hk hr h)

/-- the names that a block knows from around it: at each place of N' the place among the outer names, or none (its own) -/
def CapOk (X : Cx) (sc : Scope) : List (Option Nat) → List Str → Prop
  | [], [] => True
  | none :: r, _ :: n => CapOk X sc r n
  | some i :: r, x :: n => (X.N[i]? = some x ∧ sc.names.lookup x = some .free) ∧ CapOk X sc r n
  | _, _ => False
def capSt (cap : List (Option Nat)) (σ : St) : St := cap.map fun o => o.bind fun i => (σ[i]?).join
theorem CapOk.at {X : Cx} {sc : Scope} : ∀ {cap : List (Option Nat)} {N' : List Str}, CapOk X sc cap N' → ∀ (j i : Nat) (x : Str), cap[j]? = some (some i) → N'[j]? = some x → X.N[i]? = some x ∧ sc.names.lookup x = some .free
  | [], [], _, j, i, x, h, _ => by simp at h
  | none :: r, y :: n, c, 0, i, x, h, _ => by simp at h
  | none :: r, y :: n, c, j + 1, i, x, h, h2 => CapOk.at (cap := r) c j i x (by simpa using h) (by simpa using h2)
  | some k :: r, y :: n, c, 0, i, x, h, h2 => by
    simp at h h2
    subst h h2
    exact c.1
  | some k :: r, y :: n, c, j + 1, i, x, h, h2 => CapOk.at (cap := r) c.2 j i x (by simpa using h) (by simpa using h2)
theorem CapOk.len {X : Cx} {sc : Scope} : ∀ {cap : List (Option Nat)} {N' : List Str}, CapOk X sc cap N' → cap.length = N'.length
  | [], [], _ => rfl
  | none :: r, y :: n, c => by simpa using CapOk.len (cap := r) (N' := n) c
  | some k :: r, y :: n, c => by simpa using CapOk.len (cap := r) (N' := n) c.2
theorem capSt_get {cap : List (Option Nat)} {σ : St} {j : Nat} {v : V} (h : (capSt cap σ)[j]? = some (some v)) : ∃ i, cap[j]? = some (some i) ∧ σ[i]? = some (some v) := by
  unfold capSt at h
  rw [List.getElem?_map] at h
  cases e : cap[j]? with
  | none => rw [e] at h; cases h
  | some o =>
    rw [e] at h
    cases o with
    | none => simp at h
    | some i =>
      refine ⟨i, rfl, ?_⟩
      simp only [Option.map_some, Option.bind_some, Option.some.injEq] at h
      cases q : σ[i]? with
      | none => rw [q] at h; simp at h
      | some z => rw [q] at h; simp at h; rw [h]

/-- tests behind if: none, or one -/
def PTs (X : Cx) (ifs : List Expr) (t : TT) : Prop :=
  ∀ (pins : List (Addr × Obj)) (s : Shared) (σ : St) (H : Hp) (Q : Bool → Hp → Prop), Inv X pins σ H s → t σ H Q →
    wpAny (model X.prog X.w) X.A (forIn ifs true fun c r => if r = true then do let ok ← isTrue c X.env (eval c X.env); pure (ForInStep.yield ok) else pure (ForInStep.yield r)) (TP X pins σ Q) X.xe s
theorem pts_nil {X : Cx} : PTs X [] (fun _ H Q => Q true H) := fun _ _ _ H _ I h => wpAny_tests_nil ⟨H, I, h⟩
theorem pts_one {X : Cx} {c : Expr} {t : TT} (h : PT X c t) : PTs X [c] t := fun pins s σ H Q I hw => wpAny_tests_one (h pins s σ H Q I hw)

/-- the list that comes, turn by turn. W: turn, measure, the items so far, the heap (in it the list stands at acc) -/
def CompW (cap : List (Option Nat)) (g : TG) (tt : TT) (te : TE) (J : It) (σ : St) (acc : Addr) (H0 : Hp) (Q : Hp → Prop) : Prop :=
  ∃ W : Nat → Nat → List V → Hp → Prop, (∃ m, W 0 m [] (upd H0 acc (.lst []))) ∧ ∀ i m ys H, W i m ys H →
    (J.stop i H ∧ Q H) ∨ (J.go i H ∧ ∀ x H', J.yld i H x H' → g x (capSt cap σ) H' fun σ2 H2 => tt σ2 H2 fun b H3 =>
      if b = true then te σ2 H3 fun v H4 => H4 acc = some (.lst ys) ∧ ys.length < sizeLine ∧ ∃ m', m' < m ∧ W (i + 1) m' (ys ++ [v]) (upd H4 acc (.lst (ys ++ [v])))
      else ∃ m', m' < m ∧ W (i + 1) m' ys H3)
def tComp (cap : List (Option Nat)) (wi : TI) (g : TG) (tt : TT) (te : TE) : TE := fun σ H Q => wi σ H fun J H1 => ∀ acc, H1 acc = none → CompW cap g tt te J σ acc H1 fun H2 => Q (.ref acc) H2
def tSetComp (i : Nat) (cap : List (Option Nat)) (wi : TI) (g : TG) (tt : TT) (te : TE) : TS := fun D σ H => wi σ H fun J H1 => ∀ acc, H1 acc = none → CompW cap g tt te J σ acc H1 fun H2 => D.nx (σ.set i (some (.ref acc))) H2

/-- what the text says of a block: its scope beside the outer one -/
structure BlockOk (X : Cx) (sc : Scope) : Prop where
  cell : ∀ y ∈ sc.names, y.2 ≠ .cell
  kind : sc.kind = .function
  names : ∀ y ∈ sc.names, y.2 = .local → sc.names.lookup y.1 = some .local
  free : ∀ y ∈ sc.names, y.2 = .free → X.env.kindOf y.1 = some .cell ∨ X.env.kindOf y.1 = some .free

section
variable {X : Cx} {elt tg iter : Expr} {ifs : List Expr} {sc : Scope} {pos : Pos} {wi : TI} {g : TG} {tt : TT} {te : TE} {N' : List Str} {cap : List (Option Nat)}

theorem Inv.closure {pins : List (Addr × Obj)} {σ : St} {H : Hp} {s : Shared} (I : Inv X pins σ H s) (B : BlockOk X sc) : closureFor sc X.env = pure (clOf sc X.env) :=
  closureFor_of fun y hy e => I.ok.has y.1 (B.free y hy e)

/-- the block's entry -/
theorem inv_block {pins : List (Addr × Obj)} {σ : St} {H : Hp} {s : Shared} {h₁ : Heap} {t' : Nat} {fp : List Addr} {acc C : Addr} {s₀ : Shared} {m : Str → Option Value}
    (I : Inv X pins σ H s) (B : BlockOk X sc) (cp : CapOk X sc cap N') (hf : ∀ b ∈ fp, FpOk X pins H b) (hfo : ∀ b ∈ fp, b < s.heap.objs.size) (hacc : acc = s.heap.objs.size) (ho : s₀.os = s.os) (hgen : s₀.gens = s.gens)
    (h0 : s₀.heap = s.heap.push { cls := .type "list", data := .seq #[] }) (hC : C = s₀.heap.objs.size)
    (hns : h₁.Ns C m) (hsb : ∀ b o, s₀.heap.get? b = some o → h₁.get? b = some o) :
    Inv (cxComp X N' sc C s₀ (upd H acc (.lst [])) fp) [] (capSt cap σ) (upd H acc (.lst [])) { s₀ with heap := h₁, toks := t' } := by
  have hfr : H acc = none := I.hok.fresh (Nat.le_of_eq hacc.symm)
  have up0 : ∀ b o, s.heap.get? b = some o → s₀.heap.get? b = some o := fun b o e => by rw [h0]; exact Heap.get?_push_of_some _ e
  have sz0 : s₀.heap.objs.size = s.heap.objs.size + 1 := by rw [h0, Heap.size_push]
  have I0 : Inv X pins σ (upd H acc (.lst [])) { s with heap := s₀.heap, toks := s.toks } := I.laid up0 (Nat.le_of_eq hacc.symm) ⟨Nat.zero_le _, [], 0, .nil, by rw [h0, hacc]; exact Heap.get?_push_size _ rfl⟩
  have CX' : ∀ b, b < s.heap.objs.size → b ≠ C := fun b hb => Nat.ne_of_lt (by rw [hC, sz0]; exact Nat.lt_succ_of_lt hb)
  have CA : ∀ b, b < s.heap.objs.size → b ≠ acc := fun b hb => Nat.ne_of_lt (by rw [hacc]; exact hb)
  have cellLt : ∀ x c, X.env.cells.lookup x = some c → c < s.heap.objs.size := fun x c e => by
    obtain ⟨v, o, q, _⟩ := I.cell x c e
    exact Heap.lt_size q
  refine ⟨⟨I.ok.mod, B.kind, I.ok.glob, I.ok.blt, Nat.le_of_eq hC.symm, fun x y c h1 h2 => I.ok.inj x y c (clOf_look h1) (clOf_look h2), fun x hx => ?_, fun x c h => Bool.noConfusion h, I.ok.hd, I.ok.frames, .inl rfl, fun b hb => ⟨CX' b (hfo b hb), fun x c e => (hf b hb).2.2.2.2.1 x c (clOf_look e)⟩,
      fun b o e => ?_, ?_, fun b o e hb => ?_, fun b hb hz => ?_, I0.stack, I0.stkFree⟩,
    rfl, ?_, Un.kept hsb, ⟨m, hns, fun j x v h1 h2 h3 => ?_⟩, fun x c e => ?_, ?_, fun x c e => ?_, fun p hp => absurd (show p ∈ ([] : List (Addr × Obj)) from hp) (by simp), I0.hok.kept hsb, ?_⟩
  · have hm : (x, NameKind.free) ∈ sc.names := by
      rcases hx with hx | hx
      · exact mem_relabel (env := X.env) (.inl rfl) B.cell hx
      · exact mem_relabel (env := X.env) (.inr rfl) B.cell hx
    obtain ⟨c, hc⟩ := I.ok.has x (B.free _ hm rfl)
    exact ⟨c, clOf_has hm hc⟩
  · obtain ⟨e1, e2⟩ := I.bs b o e
    exact ⟨up0 b o e1, by show upd H acc (.lst []) b = none; rw [upd_ne (CA b (Heap.lt_size e1))]; exact e2⟩
  · exact Nat.le_trans I.ok.bsz (Nat.le_trans I.sz (by show _ ≤ s₀.heap.objs.size; omega))
  · rcases (hf b hb).2.2.2.1 with z | z
    · exact I.ok.noex b o e z
    · exact absurd (Nat.lt_of_lt_of_le (Heap.lt_size e) (Nat.le_trans I.ok.bsz z)) (Nat.lt_irrefl _)
  · rcases List.mem_cons.mp (I.stkSub b hz) with e | e
    · exact (hf b hb).2.1 e
    · exact (hf b hb).2.2.1 e
  · show AllBare s₀.gens
    rw [hgen]; exact I.bare
  · obtain ⟨i, e1, e2⟩ := capSt_get h2
    obtain ⟨e3, e4⟩ := cp.at j i x e1 h1
    have hm : (x, NameKind.free) ∈ sc.names := PySem.mem_of_lookup e4
    have hk := B.free _ hm rfl
    obtain ⟨m0, hn0, hl⟩ := I.loc
    obtain ⟨u, r, l⟩ := hl i x v e3 e2 (by rcases hk with k | k; exact .inr (.inl k); exact .inr (.inr k))
    refine ⟨u, r, .inr ?_⟩
    rcases l with ⟨k, _⟩ | ⟨_, c, hc, o, q, d⟩
    · rcases hk with k' | k'
      · rw [k] at k'; cases k'
      · rw [k] at k'; cases k'
    · exact ⟨lookup_relabel_free (env := X.env) e4, c, clOf_has hm hc, o, hsb c o (up0 c o q), d⟩
  · obtain ⟨v, o, q, d⟩ := I.cell x c (clOf_look e)
    exact ⟨v, o, hsb c o (up0 c o q), d⟩
  · show upd H acc (.lst []) C = none
    rw [upd_ne (by rw [hC, hacc, sz0]; exact Nat.succ_ne_self _)]
    exact I.hok.fresh (by rw [hC, sz0]; exact Nat.le_succ _)
  · show upd H acc (.lst []) c = none
    rw [upd_ne (CA c (cellLt x c (clOf_look e)))]
    exact I.freeC x c (clOf_look e)
  · show (capSt cap σ).length = N'.length
    unfold capSt
    rw [List.length_map]
    exact cp.len

/-- the block's own names are stored where nothing is known from around -/
def Kp (σ0 σ : St) : Prop := σ.length = σ0.length ∧ ∀ (j : Nat) v, σ0[j]? = some (some v) → σ[j]? = some (some v)
def GOwn (cap : List (Option Nat)) (g : TG) : Prop := ∀ σ0 σ x H Q, Kp (capSt cap σ0) σ → g x σ H Q → g x σ H fun σ2 H2 => Q σ2 H2 ∧ Kp (capSt cap σ0) σ2
def GsOwn (cap : List (Option Nat)) (g : TGs) : Prop := ∀ σ0 σ x H Q, Kp (capSt cap σ0) σ → g x σ H Q → g x σ H fun σ2 H2 => Q σ2 H2 ∧ Kp (capSt cap σ0) σ2
theorem gown_name {i : Nat} (h : cap[i]? = some none) : GOwn cap (gName i) := fun σ0 σ x H Q k q => by
  refine ⟨q, by rw [List.length_set]; exact k.1, fun j v e => ?_⟩
  have : j ≠ i := by
    rintro rfl
    obtain ⟨i', e1, _⟩ := capSt_get e
    rw [h] at e1; cases e1
  rw [List.getElem?_set_ne (Ne.symm this)]
  exact k.2 j v e
theorem gsown_nil : GsOwn cap gNil := fun σ0 σ x H Q k ⟨e, q⟩ => ⟨e, q, k⟩
theorem gsown_cons {t : TG} {u : TGs} (h1 : GOwn cap t) (h2 : GsOwn cap u) (mono : ∀ v σ H (Q Q' : St → Hp → Prop), (∀ σ H, Q σ H → Q' σ H) → t v σ H Q → t v σ H Q') : GsOwn cap (gCons t u) := fun σ0 σ x H Q k ⟨v, r, e, q⟩ =>
  ⟨v, r, e, mono v σ H _ _ (fun σ' H' ⟨q', k'⟩ => h2 σ0 σ' r H' Q k' q') (h1 σ0 σ v H _ k q)⟩
theorem gname_mono {i : Nat} : ∀ v σ H (Q Q' : St → Hp → Prop), (∀ σ H, Q σ H → Q' σ H) → gName i v σ H Q → gName i v σ H Q' := fun _ _ _ _ _ f q => f _ _ q
theorem gown_tup {K : PySem.W.Frag} {n : Nat} {t : TGs} (h : GsOwn cap t) : GOwn cap (gTup K n t) := fun σ0 σ x H Q k ⟨a, xs, e, hq, hl, q⟩ => ⟨a, xs, e, hq, hl, h σ0 σ xs H Q k q⟩

/-- the whole comprehension; use: what is done with its value at once (none, or a store) -/
theorem comp_core {pins : List (Addr × Obj)} {σ : St} {H : Hp} {s : Shared} {use : Option (Value → Sem Unit)} {Q : Value → Shared → Prop} {R : Addr → Hp → Prop} {p : Pos}
    (hc : X.calm = true) (B : BlockOk X sc) (cp : CapOk X sc cap N') (hi : PI X tg iter wi) (ow : GOwn cap g)
    (hg : ∀ C s₀ H₀ fp, PG (cxComp X N' sc C s₀ H₀ fp) tg g) (ht : ∀ C s₀ H₀ fp, PTs (cxComp X N' sc C s₀ H₀ fp) ifs tt) (he : ∀ C s₀ H₀ fp, PE (cxComp X N' sc C s₀ H₀ fp) elt te)
    (hs : ∀ x, foldedSetIterable iter X.env x = pure x)
    (I : Inv X pins σ H s) (h : wi σ H fun J H1 => ∀ acc, H1 acc = none → CompW cap g tt te J σ acc H1 (R acc))
    (fin : ∀ (acc C : Addr) (H' : Hp) (s' : Shared) (m : Str → Option Value), Inv X pins σ H' s' → s'.heap.Ns C m → C ≠ X.env.locals →
      (∀ {σ' : St} {s'' : Shared}, Inv X pins σ' H' s'' → ∀ h', Heap.SameBut C s''.heap h' → Inv X pins σ' H' { s'' with heap := h' }) →
      R acc H' → compPost (model X.prog X.w) X.A X.xe use Q (.ref acc) C (.ok .next) s') :
    wpAny (model X.prog X.w) X.A (comprehension (.ListComp elt [⟨tg, iter, ifs, 0⟩] sc pos) sc X.env p (newList []) false (eval iter X.env) use) Q X.xe s := by
  refine wpAny_comprehension_free rfl hs (I.closure B) B.kind B.names (thn (hi pins s σ H _ I h) fun xv s1 h1 => thn h1 fun itv s2 h2 => ?_)
  obtain ⟨it, fp, tn, J, H2, e, I2, T, st2, f2, r2⟩ := h2
  subst e
  have fpo : ∀ b ∈ fp, b < s2.heap.objs.size := fun b hb => by
    obtain ⟨o, e, _⟩ := T.obj _ _ st2 b hb
    exact Heap.lt_size e
  refine wpAny_newObj_type (wpAny_newFunctionEnv B.cell (by intro y hy; simp at hy) (fun h₁ hns₁ hsb₁ => ?_) B.kind)
  dsimp only at hns₁ hsb₁ ⊢
  obtain ⟨s₀, es0⟩ : ∃ s₀ : Shared, s₀ = { s2 with heap := s2.heap.push { cls := .type "list", dict := none, data := .seq ([] : List Value).toArray } } := ⟨_, rfl⟩
  have e0h : s₀.heap = s2.heap.push { cls := .type "list", data := .seq #[] } := by rw [es0]
  obtain ⟨C, eC⟩ : ∃ C : Addr, C = s₀.heap.objs.size := ⟨_, rfl⟩
  obtain ⟨acc, eA⟩ : ∃ a : Addr, a = s2.heap.objs.size := ⟨_, rfl⟩
  rw [show (s2.heap.push { cls := .type "list", dict := none, data := .seq ([] : List Value).toArray }).objs.size = C by rw [eC, e0h]] at hns₁ hsb₁ ⊢
  have keep₁ : ∀ b o, s₀.heap.get? b = some o → h₁.get? b = some o := fun b o e => by
    refine hsb₁.extBut b o ?_ ?_
    · rw [eC]; exact Nat.ne_of_lt (Heap.lt_size e)
    · rw [e0h] at e; exact Heap.get?_push_of_some _ e
  have szC : C = s2.heap.objs.size + 1 := by rw [eC, e0h, Heap.size_push]
  have up0 : ∀ b o, s2.heap.get? b = some o → s₀.heap.get? b = some o := fun b o e => by rw [e0h]; exact Heap.get?_push_of_some _ e
  have fr0 : H2 acc = none := I2.hok.fresh (Nat.le_of_eq eA.symm)
  show codeAny (model X.prog X.w) X.A (.compStart (.ListComp elt [⟨tg, iter, ifs, 0⟩] sc pos) 0 (.ref it) (.ref s2.heap.objs.size) (compEnvC sc (clOf sc X.env) C X.env))
    (compPost (model X.prog X.w) X.A X.xe use Q (.ref s2.heap.objs.size) C) { s2 with heap := h₁, toks := s2.toks + ([] : List (Str × Value)).length }
  rw [← eA]
  have es1 : ({ s2 with heap := h₁, toks := s2.toks + ([] : List (Str × Value)).length } : Shared) = { s₀ with heap := h₁, toks := s2.toks + ([] : List (Str × Value)).length } := by rw [es0]
  rw [es1]
  obtain ⟨W, ⟨m0, w0⟩, turn⟩ := r2 acc fr0
  have Ib : Inv (cxComp X N' sc C s₀ (upd H2 acc (.lst [])) fp) [] (capSt cap σ) (upd H2 acc (.lst [])) { s₀ with heap := h₁, toks := s2.toks + ([] : List (Str × Value)).length } :=
    inv_block I2 B cp f2 fpo eA (by rw [es0]) (by rw [es0]) e0h eC hns₁ keep₁
  have stat : ∀ {H' : Hp}, (∀ b ∈ fp, H' b = none) → ∀ b ∈ fp, FpOk (cxComp X N' sc C s₀ (upd H2 acc (.lst [])) fp) [] H' b := fun hn b hb =>
    ⟨hn b hb, (Ib.ok.exf b hb).1, Ib.ok.exfs b hb, .inl hb, fun x c e => (Ib.ok.exf b hb).2 x c e, fun p hp => absurd (show p ∈ ([] : List (Addr × Obj)) from hp) (by simp)⟩
  have fp0 : ∀ b ∈ fp, upd H2 acc (.lst []) b = none := fun b hb => by
    rw [upd_ne (by rw [eA]; exact Nat.ne_of_lt (fpo b hb))]
    exact (f2 b hb).1
  have loop : codeAny (model X.prog X.w) X.A (.compLoop (.ListComp elt [⟨tg, iter, ifs, 0⟩] sc pos) 0 (.ref it) (.ref acc) (compEnvC sc (clOf sc X.env) C X.env))
      (compPost (model X.prog X.w) X.A X.xe use Q (.ref acc) C) { s₀ with heap := h₁, toks := s2.toks + ([] : List (Str × Value)).length } := by
    refine codeAny_compLoop_any (fun n s' => ∃ i ys H', Inv (cxComp X N' sc C s₀ (upd H2 acc (.lst [])) fp) [] (capSt cap σ) H' s' ∧ tn i s'.heap ∧ (∀ b ∈ fp, H' b = none) ∧ W i n ys H') ?_ m0
      ⟨0, [], _, Ib, T.keep _ _ _ st2 fun b hb o e => keep₁ b o (up0 b o e), fp0, w0⟩
    rintro n s3 ⟨i, ys, H3, I3, st3, fr3, w3⟩
    rcases turn i n ys H3 w3 with ⟨stop, qn⟩ | ⟨go, step⟩
    · refine thn (T.done (cxComp X N' sc C s₀ (upd H2 acc (.lst [])) fp) rfl rfl rfl hc i [] s3 _ H3 (fun _ _ => False) I3 (stat fr3) st3 stop) fun r s4 ⟨hr, I4⟩ => ?_
      subst hr
      have u0 : Un (frs X.stack) fp H2 (upd H2 acc (.lst [])) s2.heap s₀.heap := Un.laid up0 (Nat.le_of_eq eA.symm) fr0
      have un : Un (frs X.stack) fp H2 H3 s2.heap s4.heap := u0.trans I4.base
      have I5 : Inv X pins σ H3 s4 := I2.call' (by rw [I4.os]; show s₀.os = _; rw [es0]) un I4.hok I4.bare fun b hb => ⟨(f2 b hb).2.2.2.1, (f2 b hb).2.1, (f2 b hb).2.2.2.2.1, (f2 b hb).2.2.2.2.2⟩
      obtain ⟨m4, hn4, _⟩ := I4.loc
      have CL : C ≠ X.env.locals := fun z => by
        have := I2.lt
        rw [← z, szC] at this
        exact absurd this (Nat.not_lt.mpr (Nat.le_succ _))
      refine fin acc C H3 s4 m4 I5 hn4 CL (fun {σ' s''} I6 h' sb => ?_) qn
      refine I6.turned (t' := s''.toks) (fun b o hb e => (sb.2 b hb).trans e) I4.free CL (.inr ?_) (fun x c e z => ?_) fun p hp z => ?_
      · have := I2.sz
        rw [szC]
        omega
      · obtain ⟨v, o, q, _⟩ := I2.cell x c e
        have := Heap.lt_size q
        rw [z, szC] at this
        exact absurd this (Nat.not_lt.mpr (Nat.le_succ _))
      · obtain ⟨q, _⟩ := I2.pin p hp
        have := Heap.lt_size q
        rw [z, szC] at this
        exact absurd this (Nat.not_lt.mpr (Nat.le_succ _))
    · refine thn (T.item (cxComp X N' sc C s₀ (upd H2 acc (.lst [])) fp) rfl rfl rfl hc i [] s3 _ H3 (fun _ _ => False) I3 (stat fr3) st3 go) fun r s4 ⟨u, hr, h4⟩ => ?_
      subst hr
      refine thn h4 fun _ s5 ⟨x, H5, I5, r5, y5, st5, fr5⟩ => ?_
      have I5' := I5.pinned (stat fr5) (T.obj _ _ st5)
      refine thn (hg C s₀ _ fp _ s5 _ H5 x u _ I5' r5 (ow σ _ x H5 _ ⟨rfl, fun _ _ e => e⟩ (step x H5 y5))) fun _ s6 ⟨σ6, H6, I6, q6, kp6⟩ => ?_
      have again : ∀ {H7 : Hp} {s7 : Shared} {zs : List V}, Inv (cxComp X N' sc C s₀ (upd H2 acc (.lst [])) fp) ([] ++ pinsAt fp s5.heap) σ6 H7 s7 → (∃ m', m' < n ∧ W (i + 1) m' zs H7) →
          ∃ m, m < n ∧ ∃ i ys H', Inv (cxComp X N' sc C s₀ (upd H2 acc (.lst [])) fp) [] (capSt cap σ) H' s7 ∧ tn i s7.heap ∧ (∀ b ∈ fp, H' b = none) ∧ W i m ys H' := fun {H7 s7 zs} I7 w7 => by
        obtain ⟨m', hm, w7⟩ := w7
        refine ⟨m', hm, i + 1, zs, H7, (I7.unpinned).weak kp6.1.symm kp6.2, T.keep _ _ _ st5 fun b hb o e => (I7.pin (b, o) (List.mem_append_right _ (List.mem_append_right _ (mem_pinsAt hb e)))).1, fun b hb => ?_, w7⟩
        obtain ⟨o, e, d⟩ := T.obj _ _ st5 b hb
        exact (I7.pin (b, o) (List.mem_append_right _ (List.mem_append_right _ (mem_pinsAt hb e)))).2.1
      refine thn (ht C s₀ _ fp _ s6 σ6 H6 _ I6 q6) fun ok s7 ⟨H7, I7, q7⟩ => ?_
      cases ok with
      | false =>
        rw [if_neg Bool.false_ne_true] at q7 ⊢
        exact again I7 q7
      | true =>
        rw [if_pos rfl] at q7 ⊢
        refine thn (he C s₀ _ fp _ s7 σ6 H7 _ I7 q7) fun xv s8 ⟨v, H8, I8, r8, hacc8, hl8, w8⟩ => ?_
        refine thn (mt_append _ s8 σ6 H8 (.ref acc) [v] (.ref acc) [xv] (fun _ H9 => H9 = upd H8 acc (.lst (ys ++ [v]))) I8 rfl (.cons r8 .nil) ⟨acc, ys, v, rfl, rfl, hacc8, hl8, rfl⟩) fun _ s9 ⟨_, H9, I9, _, e9⟩ => ?_
        subst e9
        exact again I9 w8
  exact codeAny_compStart_list loop (T.self _ 0 _ _ _ (T.keep _ _ _ st2 fun b hb o e => keep₁ b o (up0 b o e)) loop)

/-- [e for t in it if ..] -/
theorem pe_comp (hc : X.calm = true) (B : BlockOk X sc) (cp : CapOk X sc cap N') (hi : PI X tg iter wi) (ow : GOwn cap g)
    (hg : ∀ C s₀ H₀ fp, PG (cxComp X N' sc C s₀ H₀ fp) tg g) (ht : ∀ C s₀ H₀ fp, PTs (cxComp X N' sc C s₀ H₀ fp) ifs tt) (he : ∀ C s₀ H₀ fp, PE (cxComp X N' sc C s₀ H₀ fp) elt te)
    (hs : ∀ x, foldedSetIterable iter X.env x = pure x := by intro _; rfl) : PE X (.ListComp elt [⟨tg, iter, ifs, 0⟩] sc pos) (tComp cap wi g tt te) := by
  intro pins s σ H Q I h
  rw [eval_ListComp]
  refine comp_core (use := none) (R := fun acc H2 => Q (.ref acc) H2) hc B cp hi ow hg ht he hs I h fun acc C H' s' m I' hn CL mk r => ?_
  exact ⟨m, hn, fun h' sb => ⟨.ref acc, H', mk I' h' sb, rfl, r⟩⟩
/-- x = [e for t in it if ..], x a plain local -/
theorem ps_setComp {i : Nat} {y : Str} {py spos : Pos} (hc : X.calm = true) (B : BlockOk X sc) (cp : CapOk X sc cap N') (hi : PI X tg iter wi) (ow : GOwn cap g)
    (hg : ∀ C s₀ H₀ fp, PG (cxComp X N' sc C s₀ H₀ fp) tg g) (ht : ∀ C s₀ H₀ fp, PTs (cxComp X N' sc C s₀ H₀ fp) ifs tt) (he : ∀ C s₀ H₀ fp, PE (cxComp X N' sc C s₀ H₀ fp) elt te)
    (hN : X.N.Nodup) (hy : X.N[i]? = some y) (hl : X.env.scope.names.lookup y = some .local)
    (hsw : swapsWith (.ListComp elt [⟨tg, iter, ifs, 0⟩] sc pos) (some (.Name y py)) spos.line X.env = pure true := by rfl)
    (hs : ∀ x, foldedSetIterable iter X.env x = pure x := by intro _; rfl) : PS X (.Assign [.Name y py] (.ListComp elt [⟨tg, iter, ifs, 0⟩] sc pos) spos) (tSetComp i cap wi g tt te) := by
  intro pins s σ H D I h
  rw [exec_Assign_Name_used _ _ _ _ hsw]
  refine wpAny_bind (wpAny_standAt (wpAny_bind ?_))
  show wpAny _ X.A (do let _ ← comprehension (.ListComp elt [⟨tg, iter, ifs, 0⟩] sc pos) sc X.env _ (newList []) false (eval iter X.env) (some (assign (.Name y py) X.env))) _ _ s
  refine wpAny_bind (thn (comp_core (use := some (assign (.Name y py) X.env)) (Q := fun _ s' => SP X pins D .next s') (R := fun acc H2 => D.nx (σ.set i (some (.ref acc))) H2) hc B cp hi ow hg ht he hs I h fun acc C H' s' m I' hn CL mk r => ?_) fun _ s' hq => wpAny_pure (wpAny_pure hq))
  show wpAny _ X.A (assign (.Name y py) X.env (.ref acc)) _ _ _
  refine wpAny_assign_Name (store_ok2 I' hN hy (.inl hl) (v := .ref acc) rfl (fun s'' I'' hsb => ?_) (.inr hl))
  obtain ⟨a, sb, ha⟩ := hsb
  have hCa : C ≠ a := by
    rcases ha with ha | ha
    · rw [ha]; exact CL
    · intro z
      rw [← z] at ha
      obtain ⟨v, o, q, d⟩ := I'.cell y C ha
      obtain ⟨o', es, ep, q', d', _⟩ := hn
      rw [q] at q'; cases q'
      rw [d] at d'; cases d'
  exact ⟨m, hn.sameBut sb hCa, fun h' sb' => ⟨_, H', mk I'' h' sb', r⟩⟩
end
end L2
namespace L2
open PySem PySem.Spec PyProof.Rows

/-! ### steps that leave every object its class and its dict -/
def Tame {α : Type} : Sem α → Prop
  | .pure _ => True
  | .raise _ => True
  | .unsupported _ => True
  | .finish _ => True
  | .rule _ k => ∀ u, Tame (k u)
  | .at _ k => ∀ u, Tame (k u)
  | .load _ _ k => ∀ o, Tame (k o)
  | .update _ _ f k => (∀ o, (f o).dict = o.dict ∧ (f o).cls = o.cls) ∧ ∀ u, Tame (k u)
  | .alloc _ k => ∀ a, Tame (k a)
  | .loadIfAlive _ k => ∀ o, Tame (k o)
  | .point _ k => ∀ u, Tame (k u)
  | .stack k => ∀ x, Tame (k x)
  | .ask k => ∀ x, Tame (k x)
  | _ => False
def KD (h h' : Heap) : Prop := ∀ (b : Nat) o, h.objs[b]? = some o → ∃ o', h'.objs[b]? = some o' ∧ o'.dict = o.dict ∧ o'.cls = o.cls
theorem KD.refl (h : Heap) : KD h h := fun _ o e => ⟨o, e, rfl, rfl⟩
theorem KD.trans {h h1 h2 : Heap} (x : KD h h1) (y : KD h1 h2) : KD h h2 := fun b o e => by
  obtain ⟨o1, e1, d1, c1⟩ := x b o e
  obtain ⟨o2, e2, d2, c2⟩ := y b o1 e1
  exact ⟨o2, e2, d2.trans d1, c2.trans c1⟩
theorem KD.push (h : Heap) (o : Obj) : KD h (h.push o) := fun b o' e => by
  refine ⟨o', ?_, rfl, rfl⟩
  obtain ⟨objs, l⟩ := h
  show (objs.push o)[b]? = some o'
  have e : objs[b]? = some o' := e
  rw [Array.getElem?_push]
  have hb : b < objs.size := (Array.getElem?_eq_some_iff.mp e).1
  rw [if_neg (Nat.ne_of_lt hb)]
  exact e
theorem KD.update (h : Heap) (a : Addr) {f : Obj → Obj} (hf : ∀ o, (f o).dict = o.dict ∧ (f o).cls = o.cls) : KD h (h.update a f) := fun b o e => by
  obtain ⟨objs, l⟩ := h
  show ∃ o', (objs.modify a f)[b]? = some o' ∧ _
  rw [Array.getElem?_modify]
  have e : objs[b]? = some o := e
  by_cases hab : a = b
  · rw [if_pos hab, e]
    exact ⟨f o, rfl, hf o⟩
  · rw [if_neg hab, e]
    exact ⟨o, rfl, rfl, rfl⟩
theorem get_objs {h : Heap} {a : Addr} {o : Obj} (e : h.get? a = some o) : h.objs[a]? = some o := by
  unfold Heap.get? at e
  split at e
  · cases e
  · exact e
/-- of an object that stands on both sides -/
theorem KD.at {h h' : Heap} {a : Addr} {o o' : Obj} (k : KD h h') (e : h.get? a = some o) (e' : h'.get? a = some o') : o'.dict = o.dict ∧ o'.cls = o.cls := by
  obtain ⟨o1, e1, d⟩ := k a o (get_objs e)
  rw [get_objs e'] at e1
  cases e1
  exact d
theorem tame_wp {α : Type} {M : Model} {Γ : PySem.Ctx} {t : Sem α} : ∀ {Q : α → Pos → Shared → Prop} {E : Value → Pos → Shared → Prop} {p : Pos} {s : Shared} {h₀ : Heap}, Tame t → KD h₀ s.heap → Sem.wp M Γ t Q E p s →
    Sem.wp M Γ t (fun a p' s' => Q a p' s' ∧ KD h₀ s'.heap) (fun e p' s' => E e p' s' ∧ KD h₀ s'.heap) p s := by
  induction t with
  | pure a => exact fun _ k h => ⟨h, k⟩
  | raise e => exact fun _ k h => ⟨h, k⟩
  | unsupported w => exact fun _ _ h => h.elim
  | finish e => exact fun _ _ h => h.elim
  | rule _ k ih => exact fun t z h => ih () (t ()) z h
  | «at» _ k ih => exact fun t z h => ih () (t ()) z h
  | load a _ k ih =>
    intro Q E p s h₀ t z h
    obtain ⟨o, e, h⟩ := h
    exact ⟨o, e, ih o (t o) z h⟩
  | update a _ f k ih =>
    intro Q E p s h₀ t z h
    obtain ⟨e, h⟩ := h
    exact ⟨e, ih () (t.2 ()) (z.trans (KD.update _ _ t.1)) h⟩
  | alloc o k ih => exact fun t z h => ih _ (t _) (z.trans (KD.push _ _)) h
  | loadIfAlive a k ih => exact fun t z h => ih _ (t _) z h
  | point _ k ih => exact fun t z h => ih () (t ()) z h
  | stack k ih => exact fun t z h => ih _ (t _) z h
  | ask k ih => exact fun t z h => ih _ (t _) z h
  | register _ _ _ => exact fun t => t.elim
  | fresh _ _ => exact fun t => t.elim
  | choose _ _ _ _ => exact fun t => t.elim
  | os _ _ _ _ => exact fun t => t.elim
  | call _ _ _ _ _ _ => exact fun t => t.elim
  | handled _ _ _ => exact fun t => t.elim
  | newGen _ _ _ => exact fun t => t.elim
  | genState _ _ _ => exact fun t => t.elim
  | resume _ _ _ _ _ => exact fun t => t.elim
  | yield _ _ _ _ _ => exact fun t => t.elim
  | fork _ _ _ => exact fun t => t.elim
  | thread _ _ => exact fun t => t.elim
  | await _ _ _ _ _ _ => exact fun t => t.elim
theorem tame_any {α : Type} {M : Model} {A : Around} {t : Sem α} {Q : α → Shared → Prop} {E : Value → Shared → Prop} {s : Shared} (T : Tame t) (h : wpAny M A t Q E s) : wpAny M A t (fun a s' => Q a s' ∧ KD s.heap s'.heap) (fun e s' => E e s' ∧ KD s.heap s'.heap) s :=
  fun Γ p hΓ => tame_wp T (KD.refl _) (h Γ p hΓ)
theorem tame_bind {α β : Type} {f : α → Sem β} (hf : ∀ a, Tame (f a)) : ∀ {t : Sem α}, Tame t → Tame (t.bind f) := by
  intro t
  induction t with
  | pure a => exact fun _ => hf a
  | raise e => exact fun _ => trivial
  | unsupported w => exact fun _ => trivial
  | finish e => exact fun _ => trivial
  | rule _ k ih => exact fun t u => ih u (t u)
  | «at» _ k ih => exact fun t u => ih u (t u)
  | load a _ k ih => exact fun t u => ih u (t u)
  | update a _ f k ih => exact fun t => ⟨t.1, fun u => ih u (t.2 u)⟩
  | alloc o k ih => exact fun t u => ih u (t u)
  | loadIfAlive a k ih => exact fun t u => ih u (t u)
  | point _ k ih => exact fun t u => ih u (t u)
  | stack k ih => exact fun t u => ih u (t u)
  | ask k ih => exact fun t u => ih u (t u)
  | register _ _ _ => exact fun t => t.elim
  | fresh _ _ => exact fun t => t.elim
  | choose _ _ _ _ => exact fun t => t.elim
  | os _ _ _ _ => exact fun t => t.elim
  | call _ _ _ _ _ _ => exact fun t => t.elim
  | handled _ _ _ => exact fun t => t.elim
  | newGen _ _ _ => exact fun t => t.elim
  | genState _ _ _ => exact fun t => t.elim
  | resume _ _ _ _ _ => exact fun t => t.elim
  | yield _ _ _ _ _ => exact fun t => t.elim
  | fork _ _ _ => exact fun t => t.elim
  | thread _ _ => exact fun t => t.elim
  | await _ _ _ _ _ _ => exact fun t => t.elim
theorem tb {α β : Type} {t : Sem α} {f : α → Sem β} (h : Tame t) (hf : ∀ a, Tame (f a)) : Tame (t >>= f) := tame_bind hf h
theorem tame_fieldsOf (v : Value) : Tame (fieldsOf v) := by
  unfold fieldsOf
  split
  · refine tb (fun o => trivial) fun o => ?_
    split <;> trivial
  · trivial
theorem tame_field (v : Value) (i : Nat) : Tame (field v i) := by
  unfold field
  refine tb (tame_fieldsOf v) fun a => ?_
  split <;> trivial
theorem mapFields_keep (g : Array Value → Array Value) (o : Obj) : (Obj.mapFields g o).dict = o.dict ∧ (Obj.mapFields g o).cls = o.cls := by
  obtain ⟨c, d, dt, sl⟩ := o
  cases dt <;> exact ⟨rfl, rfl⟩
theorem tame_setField (v : Value) (i : Nat) (x : Value) : Tame (setField v i x) := by
  unfold setField
  split
  · unfold updateField
    refine tb (fun o => trivial) fun o => ?_
    split
    · split
      · exact ⟨fun o => mapFields_keep _ o, fun _ => trivial⟩
      · trivial
    · trivial
  · trivial
theorem tame_setFlight (e : Value) (f : Option Addr) : Tame (setFlight e f) := by
  unfold setFlight
  refine tb (tame_field _ _) fun tb' => ?_
  split
  · exact tame_setField _ _ _
  · trivial
theorem tame_newFields (ty : String) (vs : List Value) : Tame (newFields ty vs) := by
  have h : Tame (newObjAsIs (Value.type ty) (Data.fields vs.toArray)) := by
    unfold newObjAsIs
    exact tb (fun a => trivial) fun a => trivial
  unfold newFields newObj
  show Tame (if vs.toArray.size > sizeLine + 2 then (unsupported "record:memory" >>= fun _ => newObjAsIs (Value.type ty) (Data.fields vs.toArray)) else newObjAsIs (Value.type ty) (Data.fields vs.toArray))
  split
  · trivial
  · exact h
theorem tame_behind (env : Env) (outer : List Env) : Tame (behindIsImport env outer) := by
  unfold behindIsImport
  split
  · trivial
  · split
    · trivial
    · exact tb (tame_field _ _) fun _ => trivial
theorem tame_under : Tame underTheClaimsCaller := tb (fun _ => trivial) fun _ => trivial
theorem tame_keptBack (env : Env) (i : Bool) (outer : List Env) : Tame (keptBack env i outer) := by
  cases outer with
  | nil =>
    unfold keptBack
    by_cases h : (env.scope.isGenerator || env.scope.isCoroutine) = true
    · rw [if_pos h]; trivial
    · rw [if_neg h]
      refine tb tame_under fun x => ?_
      trivial
  | cons c r =>
    unfold keptBack
    trivial
theorem tame_ready : ∀ l : List Env, Tame (readyFrames l)
  | [] => trivial
  | env :: outer => by
    unfold readyFrames
    split
    · refine tb (fun o => trivial) fun o => ?_
      split
      · trivial
      · exact tb (tame_behind _ _) fun i => tb (tame_keptBack _ _ _) fun b => tb ⟨fun o => ⟨rfl, rfl⟩, fun _ => trivial⟩ fun _ => tame_ready outer
    · trivial
theorem tame_frameOf (env : Env) : Tame (PySem.frameOf env) := by
  unfold PySem.frameOf
  refine tb (fun x => trivial) fun l => tb ?_ fun o => ?_
  · generalize List.dropWhile _ l = l'
    unfold frameObject
    cases l' with
    | nil => trivial
    | cons a r => exact tb (tame_ready _) fun _ => trivial
  · split <;> trivial
theorem tame_entryPlace (f : Addr) (b : Bool) : Tame (entryPlaceOf f b) := by
  unfold entryPlaceOf
  refine tb (fun x => trivial) fun l => ?_
  split <;> trivial
theorem tame_noteFrame (e : Value) (env : Env) : Tame (noteFrame e env) := by
  unfold noteFrame
  split
  · rename_i f _
    have last : ∀ head : Value, Tame (do setField e 1 (← EntryCells.newEntry head (← PySem.frameOf env) .none (rawInt f) .none (← entryPlaceOf f (head != .none)))) := fun head =>
      tb (tame_frameOf env) fun a => tb (tame_entryPlace _ _) fun pl => tb (tame_newFields _ _) fun b => tame_setField _ _ _
    refine tb (tame_field _ _) fun head => ?_
    split
    · refine tb (tame_field _ _) fun x => ?_
      split
      · trivial
      · exact tb (tame_setField _ _ _) fun _ => last head
    · exact last head
  · trivial
theorem tame_leaving (env : Env) (e : Value) : Tame (leaving env e) := tb (tame_noteFrame e env) fun _ => tame_setFlight _ _
end L2
namespace L2
open PySem PySem.Spec PyProof.Rows

/-! ### exceptions of the text's own classes -/
theorem ObjOk.there {P : Program} {w : World} {H : Hp} {h : Heap} {a : Addr} {o : HO} (x : ObjOk P w H h a o) : ∃ ob, h.get? a = some ob := by
  cases o with
  | lst xs => obtain ⟨_, _, _, _, e⟩ := x; exact ⟨_, e⟩
  | tup xs => obtain ⟨_, _, _, ob, e, _⟩ := x; exact ⟨_, e⟩
  | dK kvs => obtain ⟨_, _, _, _, o, _, _, e, _⟩ := x; exact ⟨_, e⟩
  | dT kvs => obtain ⟨_, _, _, _, o, _, _, e, _⟩ := x; exact ⟨_, e⟩
  | set S n => obtain ⟨o, _, _, _, e, _⟩ := x; exact ⟨_, e⟩
  | ins C dx fs => obtain ⟨_, _, _, e, _⟩ := x; exact ⟨_, e⟩
  | own y => obtain ⟨_, e⟩ := x; exact ⟨_, e⟩
  | xd fs => obtain ⟨_, ⟨_, _, _, e, _⟩, _⟩ := x; exact ⟨_, e⟩
  | rng lo hi => obtain ⟨_, _, _, e⟩ := x; exact ⟨_, e⟩
  | frz ob u => obtain ⟨e, _⟩ := x; exact ⟨_, e⟩
  | tbl ps => exact ⟨_, (show h.get? a = some _ from x)⟩
  | met f y => exact ⟨_, (show h.get? a = some _ from x)⟩
  | ext φ => obtain ⟨_, ⟨_, e⟩, _⟩ := x; exact ⟨_, e⟩

/-- B bears all that stood there at old but the frames, and all that is tracked -/
def Cov (outer : List Env) (H' : Hp) (old h' B : Heap) : Prop :=
  (∀ b o, (∃ o0, old.get? b = some o0) → b ∉ frs outer → h'.get? b = some o → B.get? b = some o) ∧ ∀ b u o, H' b = some u → h'.get? b = some o → B.get? b = some o
/-- an exception e of class cls, on its way through the frames outer -/
structure Fly (P : Program) (w : World) (outer : List Env) (H : Hp) (s : Shared) (e : Addr) (cls : Value) (H' : Hp) (s' : Shared) : Prop where
  os : s'.os = s.os
  bare : AllBare s'.gens
  un : Un (frs outer) [] H H' s.heap s'.heap
  hok : HOk P w H' s'.heap
  fly : ∃ B t, Heap.FlyingW B outer e cls (.ref t) s'.heap ∧ Cov outer H' s.heap s'.heap B
  new : s.heap.get? e = none
  free : H' e = none
  nd : ∀ o, s'.heap.get? e = some o → o.dict = none
/-- how an exception lies behind a call -/
def CXE (P : Program) (w : World) : CXT := fun outer H s E ev s' => ∃ e cls H', ev = .ref e ∧ Fly P w outer H s e cls H' s' ∧ E cls none H'

theorem Fly.moved {P : Program} {w : World} {outer : List Env} {H H' : Hp} {s s' : Shared} {e : Addr} {cls a0 : Value} {B h2 : Heap} (F : Fly P w outer H s e cls H' s') (fl : Heap.FlyingW B outer e cls a0 s'.heap) (cov : Cov outer H' s.heap s'.heap B)
    (st : B.StaysIn h2) (sm : s'.heap.UpToSlots h2) : Un (frs outer) [] H H' s.heap h2 ∧ HOk P w H' h2 ∧ Cov outer H' s.heap h2 B := by
  have nofs : ∀ b u, H' b = some u → ∃ o, s'.heap.get? b = some o ∧ B.get? b = some o ∧ h2.get? b = some o := fun b u q => by
    obtain ⟨o, e1⟩ := (F.hok b u q).there
    have e2 := cov.2 b u o q e1
    exact ⟨o, e1, e2, st b o e2⟩
  have old : ∀ b o0, s.heap.get? b = some o0 → b ∉ frs outer → ∃ o, s'.heap.get? b = some o ∧ B.get? b = some o ∧ h2.get? b = some o := fun b o0 q hb => by
    obtain ⟨o, e1⟩ := F.un.there b o0 q (by simp)
    have e2 := cov.1 b o ⟨o0, q⟩ hb e1
    exact ⟨o, e1, e2, st b o e2⟩
  have fr : ∀ b ∈ frs outer, ∃ o sl, s'.heap.get? b = some o ∧ h2.get? b = some { o with slots := sl } := fun b hb => by
    obtain ⟨_, o, e1, d⟩ := fl.2.2.1.mem hb
    obtain ⟨sl, e2⟩ := sm b o e1 d
    exact ⟨o, sl, e1, e2⟩
  refine ⟨⟨fun b o q n hb _ => ?_, fun b o q n hb _ => ?_, fun b o q n hx => F.un.free b o q n hx, fun b o q _ => ?_, F.un.tups, F.un.frzs, F.un.tbls⟩, fun a u q => ?_, fun b o q hb e1 => ?_, fun b u o q e1 => ?_⟩
  · obtain ⟨o1, e1, _, e3⟩ := old b o q hb
    have e4 := F.un.keep b o q n hb (by simp)
    rw [e1] at e4; cases e4
    exact e3
  · obtain ⟨o1, sl1, e1, e2⟩ := fr b hb
    obtain ⟨sl, e4⟩ := F.un.slot b o q n hb (by simp)
    rw [e1] at e4; cases e4
    exact ⟨sl1, e2⟩
  · by_cases hb : b ∈ frs outer
    · obtain ⟨o1, sl1, e1, e2⟩ := fr b hb
      exact ⟨_, e2⟩
    · obtain ⟨o1, _, _, e3⟩ := old b o q hb
      exact ⟨_, e3⟩
  · refine (F.hok a u q).stay (fun b ob hb eb => ?_) (fun _ z => z) fun _ _ z => z
    have : ∃ u', H' b = some u' := by
      rcases hb with z | z
      · exact ⟨u, z ▸ q⟩
      · exact ⟨_, z⟩
    obtain ⟨u', hu⟩ := this
    obtain ⟨o1, e1, _, e3⟩ := nofs b u' hu
    rw [eb] at e1; cases e1
    exact e3
  · obtain ⟨o0, q⟩ := q
    obtain ⟨o1, _, e2, e3⟩ := old b o0 q hb
    rw [e1] at e3; cases e3
    exact e2
  · obtain ⟨o1, _, e2, e3⟩ := nofs b u q
    rw [e1] at e3; cases e3
    exact e2

section
variable {P : Program} {w : World} {K : PySem.W.Frag} {mg : Str → Option Value} {base : Heap} {N : List Str} {qual : Str} {scope : Scope} {f : Addr} {cdv : Value} {A : Around} {outer : List Env} {s : Shared} {H : Hp} {E : XK}

/-- an exception that was just made leaves the def -/
theorem raise_xe {pins : List (Addr × Obj)} {σ : St} {H1 : Hp} {s1 : Shared} {h2 : Heap} {e : Addr} {cls : Value} {vs : List Value} {t' : Nat}
    (I : Inv (cxOf (CXE P w) P w K mg base N qual scope f cdv A outer s H E) pins σ H1 s1) (hx : Heap.MadeExcOf s1.heap h2 e cls vs) (hE : E cls none H1) :
    (cxOf (CXE P w) P w K mg base N qual scope f cdv A outer s H E).xe (.ref e) { s1 with heap := h2 } := by
  have hfs : ∀ b ∈ frs (envOfC qual scope s.heap.objs.size f cdv :: outer), b ∈ s.heap.objs.size :: frs outer := I.stkSub
  have st0 : (PySem.W.hideAll s1.heap (frs (envOfC qual scope s.heap.objs.size f cdv :: outer))).StaysIn s1.heap := fun b o q => PySem.W.of_hideAll _ q
  have lt0 : ∀ b o, s.heap.get? b = some o → b ≠ s.heap.objs.size := fun b o q => Nat.ne_of_lt (Heap.lt_size q)
  have inB : ∀ b o, s1.heap.get? b = some o → b ∉ frs (envOfC qual scope s.heap.objs.size f cdv :: outer) → (PySem.W.hideAll s1.heap (frs (envOfC qual scope s.heap.objs.size f cdv :: outer))).get? b = some o := fun b o q hb => PySem.W.hideAll_get _ q hb
  refine wpAny_mono (tame_any (tame_leaving _ _) (wpAny_leaves_madeW (E := fun _ _ => False) (Q := fun _ s'' => ∃ h' t, s'' = { s1 with heap := h' } ∧ Heap.FlyingW (PySem.W.hideAll s1.heap (frs (envOfC qual scope s.heap.objs.size f cdv :: outer))) outer e cls (.ref t) h' ∧ h2.UpToSlots h')
    (base := PySem.W.hideAll s1.heap (frs (envOfC qual scope s.heap.objs.size f cdv :: outer))) (L := s.heap.objs.size) I.ok.frames rfl st0 (PySem.W.funFrames_hide I.stack fun env he a ha => List.mem_filterMap.mpr ⟨env, he, ha⟩) hx fun h' t x1 x2 x3 x4 => ⟨h', t, rfl, x1, x4⟩)) (fun _ s3 h3 => ?_) fun _ _ h3 => h3.1.elim
  obtain ⟨⟨h', t, rfl, x1, x4⟩, kd⟩ := h3
  have nfs : ∀ b o, s.heap.get? b = some o → b ∉ frs outer → b ∉ frs (envOfC qual scope s.heap.objs.size f cdv :: outer) := fun b o q hb hz => by
    rcases List.mem_cons.mp (hfs b hz) with z | z
    · exact lt0 b o q z
    · exact hb z
  have trk : ∀ b u, H1 b = some u → ∃ o, s1.heap.get? b = some o ∧ (PySem.W.hideAll s1.heap (frs (envOfC qual scope s.heap.objs.size f cdv :: outer))).get? b = some o ∧ h'.get? b = some o := fun b u q => by
    obtain ⟨o, e1⟩ := (I.hok b u q).there
    have e2 := inB b o e1 fun hz => by
      have z := I.stkFree b hz
      rw [q] at z; cases z
    exact ⟨o, e1, e2, x1.1 b o e2⟩
  have old : ∀ b o0, s.heap.get? b = some o0 → b ∉ frs outer → ∃ o, s1.heap.get? b = some o ∧ (PySem.W.hideAll s1.heap (frs (envOfC qual scope s.heap.objs.size f cdv :: outer))).get? b = some o ∧ h'.get? b = some o := fun b o0 q hb => by
    obtain ⟨o, e1⟩ := I.base.there b o0 q (by simp [cxOf])
    have e2 := inB b o e1 (nfs b o0 q hb)
    exact ⟨o, e1, e2, x1.1 b o e2⟩
  have fr : ∀ b ∈ frs outer, ∃ o sl, s1.heap.get? b = some o ∧ h'.get? b = some { o with slots := sl } := fun b hb => by
    obtain ⟨_, o, e1, d⟩ := I.funs.mem hb
    obtain ⟨sl, e2⟩ := x4 b o (hx.keeps b o e1) d
    exact ⟨o, sl, e1, e2⟩
  have exn : ∀ b : Addr, b ∉ (cxOf (CXE P w) P w K mg base N qual scope f cdv A outer s H E).ex := fun b z => absurd (show b ∈ ([] : List Addr) from z) (by simp)
  refine ⟨e, cls, H1, rfl, ⟨I.os, I.bare, ⟨fun b o q n hb _ => ?_, fun b o q n hb _ => ?_, fun b o q n hx => I.base.free b o q n (exn b), fun b o q _ => ?_, I.base.tups, I.base.frzs, I.base.tbls⟩, fun a u q => ?_, ⟨_, t, x1, fun b o q hb e1 => ?_, fun b u o q e1 => ?_⟩, ?_, ?_, ?_⟩, hE⟩
  · obtain ⟨o1, e1, _, e3⟩ := old b o q hb
    have e4 := I.base.keep b o q n hb (exn b)
    rw [e1] at e4; cases e4
    exact e3
  · obtain ⟨o1, sl1, e1, e2⟩ := fr b hb
    obtain ⟨sl, e4⟩ := I.base.slot b o q n hb (exn b)
    rw [e1] at e4; cases e4
    exact ⟨sl1, e2⟩
  · by_cases hb : b ∈ frs outer
    · obtain ⟨o1, sl1, e1, e2⟩ := fr b hb
      exact ⟨_, e2⟩
    · obtain ⟨o1, _, _, e3⟩ := old b o q hb
      exact ⟨_, e3⟩
  · refine (I.hok a u q).stay (fun b ob hb eb => ?_) (fun _ z => z) fun _ _ z => z
    have : ∃ u', H1 b = some u' := by
      rcases hb with z | z
      · exact ⟨u, z ▸ q⟩
      · exact ⟨_, z⟩
    obtain ⟨u', hu⟩ := this
    obtain ⟨o1, e1, _, e3⟩ := trk b u' hu
    rw [eb] at e1; cases e1
    exact e3
  · obtain ⟨o0, q⟩ := q
    obtain ⟨o1, _, e2, e3⟩ := old b o0 q hb
    rw [e1] at e3; cases e3
    exact e2
  · obtain ⟨o1, _, e2, e3⟩ := trk b u q
    rw [e1] at e3; cases e3
    exact e2
  · cases q : s.heap.get? e with
    | none => rfl
    | some o =>
      obtain ⟨o', q'⟩ := I.base.there e o q (exn e)
      have := hx.new
      rw [q'] at this; cases this
  · cases q : H1 e with
    | none => rfl
    | some u =>
      obtain ⟨o, e1⟩ := (I.hok e u q).there
      have := hx.new
      rw [e1] at this; cases this
  · intro o q
    obtain ⟨t0, e0, _⟩ := hx.there
    exact (kd.at e0 q).1

/-- a callee's exception goes on through the def -/
theorem passE : Passes (CXE P w) (cxOf (CXE P w) P w K mg base N qual scope f cdv A outer s H E) E := by
  rintro pins σ H1 s1 ev s' I ⟨e, cls, H', rfl, F, hE⟩
  obtain ⟨B, t, fl, cov⟩ := F.fly
  have hfs : ∀ b ∈ frs (envOfC qual scope s.heap.objs.size f cdv :: outer), b ∈ s.heap.objs.size :: frs outer := I.stkSub
  refine wpAny_mono (tame_any (tame_leaving _ _) (wpAny_leaves_onW (E := fun _ _ => False) (Q := fun _ s'' => ∃ h', s'' = { s' with heap := h' } ∧ Heap.FlyingW B outer e cls (.ref t) h' ∧ s'.heap.UpToSlots h') (L := s.heap.objs.size) I.ok.frames rfl fl fun h' x1 x2 => ⟨h', rfl, x1, x2⟩)) (fun _ s3 h3 => ?_) fun _ _ h3 => h3.1.elim
  obtain ⟨⟨h', rfl, x1, x2⟩, kd⟩ := h3
  obtain ⟨un, hok, cov'⟩ := F.moved fl cov x1.1 x2
  have exn : ∀ b : Addr, b ∉ (cxOf (CXE P w) P w K mg base N qual scope f cdv A outer s H E).ex := fun b z => absurd (show b ∈ ([] : List Addr) from z) (by simp)
  have nfs : ∀ b o, s.heap.get? b = some o → b ∉ frs outer → b ∉ frs (envOfC qual scope s.heap.objs.size f cdv :: outer) := fun b o q hb hz => by
    rcases List.mem_cons.mp (hfs b hz) with z | z
    · exact Nat.ne_of_lt (Heap.lt_size q) z
    · exact hb z
  have sub : ∀ b ∈ frs outer, b ∈ frs (envOfC qual scope s.heap.objs.size f cdv :: outer) := fun b hb => by
    unfold frs at hb ⊢
    rw [List.filterMap_cons]
    exact List.mem_cons_of_mem _ hb
  refine ⟨e, cls, H', rfl, ⟨F.os.trans I.os, F.bare, ⟨fun b o q n hb _ => ?_, fun b o q n hb _ => ?_, fun b o q n _ => ?_, fun b o q _ => ?_, fun b xs q => un.tups b xs (I.base.tups b xs q), fun b o xs q => un.frzs b o xs (I.base.frzs b o xs q), fun b ps q => ?_⟩, hok,
    ⟨B, t, x1, fun b o q hb e1 => ?_, cov'.2⟩, ?_, F.free, fun o q => ?_⟩, hE⟩
  · exact un.keep b o (I.base.keep b o q n hb (exn b)) (I.base.free b o q n (exn b)) (nfs b o q hb) (by simp)
  · obtain ⟨sl, e1⟩ := I.base.slot b o q n hb (exn b)
    obtain ⟨sl2, e2⟩ := un.slot b _ e1 (I.base.free b o q n (exn b)) (sub b hb) (by simp)
    exact ⟨sl2, e2⟩
  · obtain ⟨o1, e1⟩ := I.base.there b o q (exn b)
    exact un.free b o1 e1 (I.base.free b o q n (exn b)) (by simp)
  · obtain ⟨o1, e1⟩ := I.base.there b o q (exn b)
    exact un.there b o1 e1 (by simp)
  · obtain ⟨m1, e1⟩ := I.base.tbls b ps q
    obtain ⟨m2, e2⟩ := un.tbls b _ e1
    exact ⟨m1 ++ m2, by rw [e2, Array.append_assoc]⟩
  · obtain ⟨o0, q⟩ := q
    obtain ⟨o1, q1⟩ := I.base.there b o0 q (exn b)
    exact cov'.1 b o ⟨o1, q1⟩ (nfs b o0 q hb) e1
  · cases q : s.heap.get? e with
    | none => rfl
    | some o =>
      obtain ⟨o', q'⟩ := I.base.there e o q (exn e)
      have := F.new
      rw [q'] at this; cases this
  · obtain ⟨ob, hob, _⟩ := fl.there
    exact (kd.at hob q).1.trans (F.nd ob hob)
end

/-- an exception class of the text, as the top has made it -/
structure ExcCls (K : PySem.W.Frag) (mg : Str → Option Value) (x : Str) (C : Addr) (bmB : List Value) (newId : String) : Prop where
  mg : mg x = some (.ref C)
  inK : PySem.W.excIn K C bmB newId = true
theorem ExcCls.own {K : PySem.W.Frag} {mg : Str → Option Value} {x : Str} {C : Addr} {bmB : List Value} {newId : String} {h : Heap} (O : ExcCls K mg x C bmB newId) (X : K.In h) : OwnCls x C bmB newId mg h := by
  refine ⟨O.mg, ?_⟩
  have q := O.inK
  unfold PySem.W.excIn at q
  split at q
  · rename_i dd cd sl ho
    split at q
    · rename_i C' bm k0 k1 k2 k3 n k5 hm hs
      simp only [Bool.and_eq_true, beq_iff_eq, Bool.not_eq_true'] at q
      obtain ⟨⟨⟨⟨⟨rfl, rfl⟩, hdel⟩, ht⟩, hok⟩, hni⟩ := q
      obtain ⟨nm, bs, mro, ns, qn, hd, sn, sub, ab, col, del⟩ := cd
      dsimp only at hm hdel hok hni
      subst hm hdel
      have hsl : sl = #[k0, k1, k2, k3, some (.builtin n), k5] := by
        obtain ⟨l⟩ := sl
        simp only at hs
        rw [hs]
      subst hsl
      exact ⟨bm, ns, nm, qn, bs, hd, sn, sub, ab, col, dd, k0, k1, k2, k3, k5, _, X _ _ ho, .of_isNs (PySem.W.isNs_of_in X hok), PySem.W.nsMap_none_of_in X hok hni, PySem.W.tail_of_in X ht⟩
    · cases q
  · cases q

/-- raise C(a) -/
def tRaise (C : Addr) (E : XK) (ta : TA) : TS := fun _ σ H => ta σ H fun vs H1 => vs.length ≤ sizeLine ∧ E (.ref C) none H1
def Raises (X : Cx) (E : XK) : Prop := ∀ (pins : List (Addr × Obj)) (σ : St) (H : Hp) (s : Shared) (h' : Heap) (e : Addr) (cls : Value) (vs : List Value), Inv X pins σ H s → Heap.MadeExcOf s.heap h' e cls vs → E cls none H → X.xe (.ref e) { s with heap := h' }
theorem raisesE {P : Program} {w : World} {K : PySem.W.Frag} {mg : Str → Option Value} {base : Heap} {N : List Str} {qual : Str} {scope : Scope} {f : Addr} {cdv : Value} {A : Around} {outer : List Env} {s : Shared} {H : Hp} {E : XK} :
    Raises (cxOf (CXE P w) P w K mg base N qual scope f cdv A outer s H E) E := fun _ _ _ _ _ _ _ _ I hx hE => raise_xe (t' := 0) I hx hE
theorem ps_raise {X : Cx} {E : XK} {x : Str} {C : Addr} {B newId initId : String} {bmB : List Value} {a : Expr} {ta : TA} {np cpos pos : Pos} (hr : Raises X E) (hc : X.calm = true) (hg : Gl X x) (O : ExcCls X.K X.mg x C bmB newId) (FB : ExcBaseFacts B newId initId bmB)
    (ha : PA X [a] ta) (he : starEach [a] X.env = [(false, eval a X.env)] := by rfl) (hd : (x == ("__debug__" : Str)) = false := by decide) : PS X (.Raise (some (.Call (.Name x np) [a] [] cpos)) none pos) (tRaise C E ta) := by
  intro pins s σ H D I h
  obtain ⟨tl, N, nm, q, bs, hdct, sn, sub, ab, col, dd, k0, k1, k2, k3, k5, mN, hC, hN, hni, T⟩ := (O.own I.ok.mod.kin).obj
  refine wpAny_Raise_call_subT (C := C) (nm := nm) (q := q) (N := N) (bs := bs) (bm := tl) (hdct := hdct) (sn := sn) (sub := sub) (ab := ab) (col := col) (dd := dd) (k0 := k0) (k1 := k1) (k2 := k2) (k3 := k3) (k5 := k5)
    FB (mN := mN) (T.hasType FB.hasBase) (I.ok.hd hc) (by rw [he]; rfl) hni (ld_glob I hg O.mg ⟨rfl, ?_⟩ hd)
  have hh := ha cpos pins s σ H _ I h
  rw [he] at hh ⊢
  exact Calls.evalArgs_plain (thn hh fun us s₂ ⟨vs, H1, I2, r, z, q⟩ => ⟨rfl, by rw [← r.length]; exact z, I2.bk _ _ hC, hN.keeps I2.bk, T.keeps I2.bk, fun h' e hm => hr pins σ H1 s₂ h' e (.ref C) us I2 hm q⟩)
end L2
namespace L2
open PySem PySem.Spec PyProof.Rows

theorem passF {P : Program} {w : World} {X : Cx} : Passes (CXE P w) X E0 := fun _ _ _ _ _ _ _ ⟨_, _, _, _, _, h⟩ => h.elim

/-! ### expressions that may raise, at a try -/
abbrev TEx := St → Hp → VK → (Value → Hp → Prop) → Prop
abbrev TAx := St → Hp → (List V → Hp → Prop) → (Value → Hp → Prop) → Prop
abbrev TSx := Ends → (Value → Hp → Prop) → St → Hp → Prop
def XP (X : Cx) (pins : List (Addr × Obj)) (σ : St) (EX : Value → Hp → Prop) (ev : Value) (s' : Shared) : Prop :=
  ∃ (e : Addr) (cls : Value) (H0 H' : Hp) (s0 : Shared), ev = .ref e ∧ Inv X pins σ H0 s0 ∧ Fly X.prog X.w X.stack H0 s0 e cls H' s' ∧ EX cls H'
def PEx (X : Cx) (e : Expr) (t : TEx) : Prop :=
  ∀ (pins : List (Addr × Obj)) (s : Shared) (σ : St) (H : Hp) (Q : VK) (EX : Value → Hp → Prop), Inv X pins σ H s → t σ H Q EX → wpAny (model X.prog X.w) X.A (eval e X.env) (EP X pins σ Q) (XP X pins σ EX) s
def PAx (X : Cx) (es : List Expr) (t : TAx) : Prop :=
  ∀ (pos : Pos) (pins : List (Addr × Obj)) (s : Shared) (σ : St) (H : Hp) (Q : List V → Hp → Prop) (EX : Value → Hp → Prop), Inv X pins σ H s → t σ H Q EX → wpAny (model X.prog X.w) X.A (spliced (backTo pos (starEach es X.env))) (AP X pins σ Q) (XP X pins σ EX) s
def PSx (X : Cx) (st : List Stmt) (t : TSx) : Prop :=
  ∀ (pins : List (Addr × Obj)) (s : Shared) (σ : St) (H : Hp) (D : Ends) (EX : Value → Hp → Prop), Inv X pins σ H s → t D EX σ H → wpAny (model X.prog X.w) X.A (execs st X.env) (SP X pins D) (XP X pins σ EX) s
section
variable {X : Cx} {e : Expr} {es : List Expr} {te : TE}
def xE (t : TE) : TEx := fun σ H Q _ => t σ H Q
theorem pex_of (h : PE X.nox e te) : PEx X e (xE te) := fun pins s σ H Q EX I hw =>
  wpAny_mono (h pins s σ H Q (I.wish _) hw) (fun _ _ ⟨v, H', I', r, q⟩ => ⟨v, H', I'.unwish, r, q⟩) fun _ _ z => False.elim z
def xNil : TAx := fun _ H Q _ => Q [] H
def xCons (ta : TEx) (tr : TAx) : TAx := fun σ H Q EX => ta σ H (fun x H1 => tr σ H1 (fun xs H2 => Q (x :: xs) H2) EX) EX
theorem pax_nil : PAx X [] xNil := fun _ _ _ _ H Q _ I h => Calls.spliced_nil ⟨[], H, I, .nil, h⟩
theorem pax_cons {ta : TEx} {t : TAx} (ha : PEx X e ta) (hr : PAx X es t) (hs : starEach (e :: es) X.env = (false, eval e X.env) :: starEach es X.env := by rfl) : PAx X (e :: es) (xCons ta t) := by
  intro pos pins s σ H Q EX I h
  rw [hs]
  show wpAny _ _ (spliced ((false, eval e X.env) :: backTo pos (starEach es X.env))) _ _ s
  refine Calls.spliced_cons (thn (ha pins s σ H _ EX I h) fun u s1 ⟨x, H1, I1, r1, q1⟩ => ?_)
  exact thn (hr pos pins s1 σ H1 _ EX I1 q1) fun us s2 ⟨xs, H2, I2, r2, q2⟩ => ⟨x :: xs, H2, I2, .cons r1 r2, q2⟩
def xCall (sp : Sp) (dvs : List V) (t : TAx) : TEx := fun σ H Q EX => t σ H (fun vs H1 => sp (vs ++ dvs) H1 Q fun cls _ H' => EX cls H') EX
theorem pex_call {k : Nat} {f : Addr} {fd : FuncData} {ps : List Str} {sp : Sp} {dvs : List V} {ds : List Value} {x : Str} {p pos : Pos} {t : TAx} (F : FnOk X.prog X.w X.K X.mg X.base (CXE X.prog X.w) k f fd ps sp) (hr : Room k X.A) (hg : Gl X x) (hm : X.mg x = some (.ref f)) (hk : PySem.W.keepIn X.K (.ref f) = true) (hb : Binds X.K fd ps ds) (hd : Vals dvs ds)
    (ha : PAx X (e :: es) t) (hdb : (x == ("__debug__" : Str)) = false := by decide) (he : starEach (e :: es) X.env = (false, eval e X.env) :: starEach es X.env := by rfl) (hpl : (backTo pos (starEach es X.env)).any (·.1) = false := by rfl) :
    PEx X (.Call (.Name x p) (e :: es) [] pos) (xCall sp dvs t) := by
  intro pins s σ H Q EX I h
  refine wpAny_Call_Name_kw (ld_glob I hg hm ?_ hdb)
  refine PySem.W.callWith_K (h₀ := X.base) I.ok.mod.kin hk (thn (ha pos pins s σ H _ EX I h) fun us s1 ⟨vs, H1, I1, r, q⟩ => ⟨I1.kIn, ?_⟩) he hpl
  have r2 : Vals (vs ++ dvs) (us ++ ds) := r.append hd
  have hl : (us ++ ds).length = ps.length := by rw [← r2.length]; exact F.len _ _ _ _ q
  refine wpAny_call (codeAny_mono (F.run X.A X.stack s1 H1 ⟨us, []⟩ (us ++ ds) (vs ++ dvs) Q _ hr I1.env0 (hb s1 us I1.kIn hl) r2 q) fun r s' hq => ?_)
  cases r with
  | error ev =>
    obtain ⟨e, cls, H', rfl, Fl, hE⟩ := hq
    exact ⟨e, cls, H1, H', s1, rfl, I1, Fl, hE⟩
  | ok fl =>
    cases fl with
    | ret u => exact I1.after hq
    | next => exact False.elim hq
    | brk => exact False.elim hq
    | cont => exact False.elim hq
def xDrop (te : TEx) : TSx := fun D EX σ H => te σ H (fun _ H1 => D.nx σ H1) EX
theorem psx_expr {te : TEx} {pos : Pos} (he : PEx X e te) (hs : swapsWith e none pos.line X.env = pure false := by rfl) : PSx X [.Expr e pos] (xDrop te) := by
  intro pins s σ H D EX I h
  refine wpAny_execs_cons (wpAny_Expr_any (thn (he pins s σ H _ EX I h) fun v s1 ⟨x, H1, I1, r1, q1⟩ => ?_) I.quiet hs)
  exact wpAny_execs_nil ⟨σ, H1, I1, q1⟩
def xRet (te : TEx) : TSx := fun D EX σ H => te σ H D.rt EX
theorem psx_ret {te : TEx} {pos : Pos} (he : PEx X e te) : PSx X [.Return (some e) pos] (xRet te) := by
  intro pins s σ H D EX I h
  exact wpAny_execs_cons (wpAny_Return_some (thn (he pins s σ H _ EX I h) fun v s1 ⟨x, H1, I1, r1, q1⟩ => ⟨x, σ, H1, I1, r1, q1⟩))
def xSet (i : Nat) (te : TEx) : TSx := fun D EX σ H => te σ H (fun v H1 => D.nx (σ.set i (some v)) H1) EX
theorem psx_set {te : TEx} {i : Nat} {x : Str} {pos pos' : Pos} (hN : X.N.Nodup) (hi : X.N[i]? = some x) (hx : Loc X.env.scope x) (he : PEx X e te) (hs : swapsWith e (some (.Name x pos')) pos.line X.env = pure false := by rfl)
    (hf : X.fn x = true ∨ X.env.scope.names.lookup x = some .local := by first | exact .inl rfl | exact .inr rfl | assumption) : PSx X [.Assign [.Name x pos'] e pos] (xSet i te) := by
  intro pins s σ H D EX I h
  refine wpAny_execs_cons (wpAny_Assign_Name (thn (he pins s σ H _ EX I h) fun v s1 ⟨y, H1, I1, r1, q1⟩ => ?_) hs)
  exact store_ok I1 hN hi hx r1 (fun s2 I2 => wpAny_execs_nil ⟨_, H1, I2, q1⟩) hf
end

/-! ### the handler -/
/-- a caught exception, tracked: its class is known -/
def excO (e : Addr) (cls : Value) : HO := .ext fun h => ∃ ob, h.get? e = some ob ∧ ob.cls = cls ∧ ob.dict = none ∧ ∃ vs, ob.data = .fields vs
theorem excO_ok {P : Program} {w : World} {H : Hp} {h : Heap} {e : Addr} {cls : Value} {ob : Obj} {vs : Array Value} (q : h.get? e = some ob) (c : ob.cls = cls) (d : ob.dict = none) (f : ob.data = .fields vs) : ObjOk P w H h e (excO e cls) :=
  ⟨⟨ob, q, c, d, vs, f⟩, ⟨ob, q⟩, fun h1 h2 ⟨o, e1, e2⟩ k => ⟨o, k o e1, e2⟩⟩
abbrev Cx.hand (X : Cx) (e : Addr) : Cx := { X with A := X.A.mark (some (.ref e)), calm := false, xe := fun _ _ => False }
section
variable {X : Cx} {pins : List (Addr × Obj)} {σ : St} {H : Hp} {s : Shared}
theorem Cx.Ok.hand (ok : X.Ok) (e : Addr) : (X.hand e).Ok :=
  ⟨ok.mod, ok.kind, ok.glob, ok.blt, ok.above, ok.inj, ok.has, ok.cab, fun z => Bool.noConfusion z, ok.frames, ok.stk, ok.exf, ok.bs, ok.bsz, ok.noex, ok.exfs, ok.funs, ok.frf⟩
theorem Inv.hand (I : Inv X pins σ H s) (e : Addr) : Inv (X.hand e) pins σ H s := ⟨I.ok.hand e, I.os, I.bare, I.base, I.loc, I.cell, I.free, I.freeC, I.pin, I.hok, I.len⟩
theorem Inv.unhand {e : Addr} (ok : X.Ok) (I : Inv (X.hand e) pins σ H s) : Inv X pins σ H s := ⟨ok, I.os, I.bare, I.base, I.loc, I.cell, I.free, I.freeC, I.pin, I.hok, I.len⟩
/-- an object that is younger than the entry, not the frame's, not pinned: tracked from here on -/
theorem Inv.adopt {a : Addr} {o : HO} (I : Inv X pins σ H s) (n : H a = none) (h1 : X.s₀.heap.get? a = none) (h2 : a ≠ X.env.locals) (h3 : ∀ x c, X.env.cells.lookup x = some c → c ≠ a) (h4 : ∀ p ∈ X.pn ++ pins, p.1 ≠ a)
    (ok : ∀ H', ObjOk X.prog X.w H' s.heap a o) : Inv X pins σ (upd H a o) s := by
  have ne : ∀ b u, H b = some u → b ≠ a := fun b u e z => by rw [z, n] at e; cases e
  refine ⟨I.ok, I.os, I.bare, ⟨I.base.keep, I.base.slot, fun b ob e nb hx => ?_, I.base.there, fun b xs e => ?_, fun b ob u e => ?_, fun b ps e => ?_⟩, I.loc, I.cell, ?_, fun x c e => ?_, fun p hp => ?_, fun b u e => ?_, I.len⟩
  · rw [upd_ne (fun z => by rw [z, h1] at e; cases e)]; exact I.base.free b ob e nb hx
  · have := I.base.tups b xs e
    rw [upd_ne (ne b _ this)]; exact this
  · have := I.base.frzs b ob u e
    rw [upd_ne (ne b _ this)]; exact this
  · obtain ⟨m, q⟩ := I.base.tbls b ps e
    exact ⟨m, by rw [upd_ne (ne b _ q)]; exact q⟩
  · rw [upd_ne (Ne.symm h2)]; exact I.free
  · rw [upd_ne (h3 x c e)]; exact I.freeC x c e
  · obtain ⟨e, q, r⟩ := I.pin p hp
    exact ⟨e, by rw [upd_ne (h4 p hp)]; exact q, r⟩
  · by_cases hb : b = a
    · subst hb
      rw [upd_same] at e; cases e
      exact ok _
    · rw [upd_ne hb] at e
      exact (I.hok b u e).stay (fun _ _ _ q => q) (fun c q => by rw [upd_ne (ne c _ q)]; exact q) fun c xs q => by rw [upd_ne (ne c _ q)]; exact q
/-- the handler's name goes -/
theorem Inv.goes {i : Nat} {n : Str} {m : Str → Option Value} {h' : Heap} {v : Option Value} {t' : Nat} (I : Inv X pins σ H s) (hN : X.N.Nodup) (hi : X.N[i]? = some n) (hn : s.heap.Ns X.env.locals m)
    (hl : ∀ (j : Nat) (x : Str) (v : V), X.N[j]? = some x → σ[j]? = some (some v) → Vis X.env.scope x → ∃ u, RelV v u ∧ Look X.env s.heap m x u)
    (hn' : h'.Ns X.env.locals (fun x => if x = n then v else m x)) (hs : Heap.SameBut X.env.locals s.heap h') : Inv X pins (σ.set i none) H { s with heap := h', toks := t' } := by
  have hiσ : i < σ.length := by rw [I.len]; exact (List.getElem?_eq_some_iff.mp hi).1
  have cne := I.cne
  have trk : HOk X.prog X.w H h' := fun b ob e => by
    refine (I.hok b ob e).stay (fun c w' hc q => (hs.2 c ?_).trans q) (fun _ q => q) fun _ _ q => q
    rintro rfl
    rcases hc with rfl | hc
    · rw [I.free] at e; cases e
    · rw [I.free] at hc; cases hc
  refine ⟨I.ok, I.os, I.bare, ⟨fun b o e n hb hx => ?_, fun b o e n hb hx => ?_, I.base.free, fun b o e hx => ?_, I.base.tups, I.base.frzs, I.base.tbls⟩, ⟨_, hn', fun j y v' e1 e2 e3 => ?_⟩, fun y c e => ?_, I.free, I.freeC, fun p hp => ?_, trk, by simpa using I.len⟩
  · exact (hs.2 b (Nat.ne_of_lt (Nat.lt_of_lt_of_le (Heap.lt_size e) I.ok.above))).trans (I.base.keep b o e n hb hx)
  · obtain ⟨sl, e1⟩ := I.base.slot b o e n hb hx
    exact ⟨sl, (hs.2 b (Nat.ne_of_lt (Nat.lt_of_lt_of_le (Heap.lt_size e) I.ok.above))).trans e1⟩
  · obtain ⟨o', e1⟩ := I.base.there b o e hx
    exact ⟨o', (hs.2 b (Nat.ne_of_lt (Nat.lt_of_lt_of_le (Heap.lt_size e) I.ok.above))).trans e1⟩
  · by_cases hj : j = i
    · subst hj
      rw [List.getElem?_set_self hiσ] at e2
      cases e2
    · rw [List.getElem?_set_ne (Ne.symm hj)] at e2
      obtain ⟨u', r', q⟩ := hl j y v' e1 e2 e3
      refine ⟨u', r', ?_⟩
      rcases q with ⟨k, e⟩ | ⟨k, c, e, z⟩
      · refine .inl ⟨k, ?_⟩
        have : y ≠ n := fun e => hj (nodup_ix hN e1 (e ▸ hi))
        simp [this, e]
      · exact .inr ⟨k, c, e, z.sameBut hs (cne y c e)⟩
  · obtain ⟨w', z⟩ := I.cell y c e
    exact ⟨w', z.sameBut hs (cne y c e)⟩
  · obtain ⟨e, n, ne, nf, d⟩ := I.pin p hp
    exact ⟨(hs.2 p.1 ne).trans e, n, ne, nf, d⟩
end

/-- a name of the module (or a built-in one) that is worth c, whatever -/
def NameIs (X : Cx) (x : Str) (np : Pos) (c : Value) : Prop := ∀ (pins : List (Addr × Obj)) (σ : St) (H : Hp) (s : Shared) (Q : Value → Shared → Prop) (E : Value → Shared → Prop), Inv X pins σ H s → Q c s → wpAny (model X.prog X.w) X.A (eval (.Name x np) X.env) Q E s
theorem nameIs_own {X : Cx} {x : Str} {np : Pos} {c : Value} (hg : Gl X x) (hm : X.mg x = some c) (hd : (x == ("__debug__" : Str)) = false := by decide) : NameIs X x np c := fun _ _ _ _ _ _ I q => ld_glob I hg hm q hd
theorem nameIs_blt {X : Cx} {x : Str} {np : Pos} {c : Value} (hg : Gl X x) (hm : X.mg x = none) (hv : bootBuiltins x = some c) (hn : x ≠ "__name__" := by decide) (hd : (x == ("__debug__" : Str)) = false := by decide) : NameIs X x np c := fun _ _ _ _ _ _ I q => ld_blt I hg hm hv q hn hd

/-- try: body / except C as n: suite -/
def tTryAs (i : Nat) (hit : Value → Prop) (t : TSx) (th : TS) : TS := fun D σ H => t D (fun cls H' => hit cls ∧ ∀ e, H' e = none →
  th { nx := fun σ' H' => D.nx (σ'.set i none) H', rt := D.rt, bk := fun σ' H' => D.bk (σ'.set i none) H', ct := fun σ' H' => D.ct (σ'.set i none) H' } (σ.set i (some (.ref e))) (upd H' e (excO e cls))) σ H
theorem ps_tryAs {X : Cx} {body suite : List Stmt} {b₀ : Stmt} {x n : Str} {np hp pos : Pos} {i : Nat} {c : Value} {t : TSx} {th : TS} {L : Addr} (ht : PSx X body t) (hst : X.stack = X.env :: X.outer) (hfr : X.env.frame = some L) (hex : X.ex = [])
    (hcl : ∀ e, NameIs (X.hand e) x np c) (hN : X.N.Nodup) (hi : X.N[i]? = some n) (hl : X.env.scope.names.lookup n = some .local)
    (hs : ∀ e, PSs (X.hand e) (b₀ :: suite) th) :
    PS X (.Try body [.ExceptHandler (some (.Name x np)) (some n) (b₀ :: suite) hp] [] [] pos) (tTryAs i (fun cls => PySem.W.exmOne X.K cls c = some true) t th) := by
  intro pins s σ H D I h
  refine wpAny_Try_except (wpAny_mono (ht pins s σ H D _ I h) (fun f s1 q => ?_) (fun ev s1 hx => ?_))
  · cases f with
    | next => exact wpAny_execs_nil q
    | ret u => exact q
    | brk => exact q
    | cont => exact q
  · obtain ⟨e, cls, H0, H', s0, rfl, I0, F, hit, hth⟩ := hx
    obtain ⟨B, tt, fl, cov⟩ := F.fly
    have frames := I.ok.frames
    rw [hst] at fl frames
    refine wpAny_mono (tame_any (tame_noteFrame _ _) (wpAny_looks_onW (E := fun _ _ => False) (Q := fun _ s2 => ∃ h1, s2 = { s1 with heap := h1 } ∧ Heap.HeldW B (X.env :: X.outer) e cls (.ref tt) L h1 ∧ s1.heap.UpToSlots h1) frames hfr fl fun h1 hd1 sm1 => ⟨h1, rfl, hd1, sm1⟩)) (fun _ s2 h2' => ?_) fun _ _ h3 => h3.1.elim
    obtain ⟨⟨h1, rfl, hd1, sm1⟩, kd1⟩ := h2'
    refine wpAny_mono (tame_any (tame_setFlight _ _) (wpAny_landsW (E := fun _ _ => False) (Q := fun _ s3 => ∃ h2, s3 = { s1 with heap := h2 } ∧ Heap.FlyingW B (X.env :: X.outer) e cls (.ref tt) h2 ∧ h1.UpToSlots h2) hd1 fun h2 fl2 sm2 => ⟨h2, rfl, fl2, sm2⟩)) (fun _ s3 h3' => ?_) fun _ _ h3 => h3.1.elim
    obtain ⟨⟨h2, rfl, fl2, sm2⟩, kd2⟩ := h3'
    have nd2 : ∀ o, h2.get? e = some o → o.dict = none := fun o q => by
      obtain ⟨ob, hob, _⟩ := fl.there
      exact ((kd1.trans kd2).at hob q).1.trans (F.nd ob hob)
    obtain ⟨un, hok, cov2⟩ := F.moved (by rw [hst]; exact fl) cov fl2.1 (sm1.trans sm2)
    have nx : ∀ b ∈ ([] : List Addr), (b ∈ X.ex ∨ X.s₀.heap.objs.size ≤ b) ∧ b ≠ X.env.locals ∧ (∀ x c, X.env.cells.lookup x = some c → c ≠ b) ∧ ∀ p ∈ X.pn ++ pins, p.1 ≠ b := fun b hb => by cases hb
    have I2 : Inv X pins σ H' { s1 with heap := h2 } := I0.call' F.os un hok F.bare nx
    have F2 : Fly X.prog X.w X.stack H0 s0 e cls H' { s1 with heap := h2 } := ⟨F.os, F.bare, un, hok, ⟨B, tt, by rw [hst]; exact fl2, cov2⟩, F.new, F.free, nd2⟩
    refine wpAny_handleBy_cons (codeAny_handlers_test (hcl e pins σ H' _ _ _ (I2.hand e) ?_)) (by intro q; cases q)
    have ty : PySem.W.Looks (model X.prog X.w) h2 (typeOf (.ref e)) cls := by
      obtain ⟨ob, hob, hc⟩ := fl2.there
      subst hc
      exact (PySem.W.Looks.ld hob).andThen .now
    refine (PySem.W.exm_one I2.kIn ty hit).here ?_
    show codeAny _ _ _ _ _
    refine codeAny_handlers_suite_as (wpAny_mono (tame_any (tame_setFlight _ _) (lands_againW (E := fun _ _ => False) (Q := fun _ s3 => ∃ h3, s3 = { s1 with heap := h3 } ∧ Heap.FlyingW B (X.env :: X.outer) e cls (.ref tt) h3 ∧ h2.UpToSlots h3) fl2 fun h3 fl3 sm3 => ⟨h3, rfl, fl3, sm3⟩)) (fun _ s3 h3' => ?_) fun _ _ h3 => h3.1.elim)
    obtain ⟨⟨h3, rfl, fl3, sm3⟩, kd3⟩ := h3'
    obtain ⟨un3, hok3, cov3⟩ := F2.moved (by rw [hst]; exact fl2) cov2 fl3.1 sm3
    have I3 : Inv X pins σ H' { s1 with heap := h3 } := I0.call' F.os un3 hok3 F.bare nx
    obtain ⟨ob3, vs3, hob3, hc3, hf3, _⟩ := fl3.first
    have nd3 : ob3.dict = none := by
      obtain ⟨ob, hob, _⟩ := fl2.there
      exact (kd3.at hob hob3).1.trans (nd2 ob hob)
    have old : ∀ b o, s0.heap.get? b = some o → b ≠ e := fun b o q z => by
      have := F.new
      rw [← z, q] at this; cases this
    obtain ⟨m0, ⟨oL, esL, epL, hoL, _⟩, _⟩ := id I0.loc
    have I4 : Inv X pins σ (upd H' e (excO e cls)) { s1 with heap := h3 } := by
      refine I3.adopt F.free ?_ (Ne.symm (old _ _ hoL)) (fun y c' ec => ?_) (fun p hp' => old _ _ (I0.pin p hp').1) fun _ => excO_ok hob3 hc3 nd3 hf3
      · cases q : X.s₀.heap.get? e with
        | none => rfl
        | some o =>
          obtain ⟨o', q'⟩ := I0.base.there e o q (by rw [hex]; simp)
          exact absurd rfl (old _ _ q')
      · obtain ⟨v, o, q, _⟩ := I0.cell y c' ec
        exact old _ _ q
    have hth' := hth e F.free
    refine store_ok (X := X.hand e) (I4.hand e) hN hi (.inl hl) (v := .ref e) rfl (fun s5 I5 => ?_) (.inr hl)
    refine wpAny_mono (hs e pins s5 _ _ _ I5 hth') (fun f s6 q6 => ?_) fun _ _ z => z.elim
    have fin : ∀ {σ6 : St} {H6 : Hp} {R : Shared → Prop}, Inv (X.hand e) pins σ6 H6 s6 → (∀ s7, Inv X pins (σ6.set i none) H6 s7 → R s7) →
        wpAny (model X.prog X.w) X.A (do bindName X.env n .none; unbindBehindTheSuite X.env n hp) (fun _ s7 => R s7) X.xe s6 := fun {σ6 H6 R} I6 k => by
      obtain ⟨m6, hn6, hl6⟩ := id I6.loc
      refine wpAny_nameGoes_keeps hl hn6 (by rw [I.ok.kind]; rfl) fun h' v hn' hsb => k _ ?_
      exact (I6.unhand I.ok).goes hN hi hn6 hl6 hn' hsb
    cases f with
    | next =>
      obtain ⟨σ6, H6, I6, q⟩ := q6
      exact fin I6 fun s7 I7 => ⟨_, H6, I7, q⟩
    | brk =>
      obtain ⟨σ6, H6, I6, q⟩ := q6
      exact fin I6 fun s7 I7 => ⟨_, H6, I7, q⟩
    | cont =>
      obtain ⟨σ6, H6, I6, q⟩ := q6
      exact fin I6 fun s7 I7 => ⟨_, H6, I7, q⟩
    | ret u =>
      obtain ⟨v, σ6, H6, I6, r, q⟩ := q6
      exact fin I6 fun s7 I7 => ⟨v, _, H6, I7, r, q⟩
end L2
namespace L2
open PySem PySem.Spec PyProof.Rows
open PySem.Builtin.Int (intBits)

/-! ### great numbers -/
def CMulB (i j : Int) : Prop := ∃ m n : Nat, intBits i ≤ m ∧ intBits j ≤ n ∧ m + n ≤ 134217728
def CDivB (i j : Int) : Prop := j ≠ 0 ∧ intBits j ≤ 9000
section
variable {X : Cx}
theorem op_mulB : OpR X (binaryOp .Mult) (rI CMulB fun i j => .int (i * j)) := opI fun _ _ _ _ _ _ _ hc q => by
  obtain ⟨m, n, h1, h2, h3⟩ := hc
  exact mul_int q (IntMulOk.of_le h1 h2 h3)
theorem op_fdivB : OpR X (binaryOp .FloorDiv) (rI CDivB fun i j => .int (i.fdiv j)) := opI fun i j _ _ _ _ _ hc q => floordiv_int hc.1 q (.inl (PyProof.noPylong_of_log2 (by
  have h := PySem.intBits_le_iff.mp hc.2
  by_cases z : j.natAbs = 0
  · rw [z]; decide
  · exact (Nat.log2_lt z).mpr h)))

/-! ### range(a, b, c), c from 1 on -/
def Itr3 (lo st : Int) (n : Nat) : It := ⟨fun i _ => i < n, fun i H x H' => H' = H ∧ x = .int (lo + i * st), fun i _ => n ≤ i⟩
theorem turn_range3 {P : Program} {w : World} {K : PySem.W.Frag} {tg : Expr} (it : Addr) (lo sp : Int) (n : Nat) : Turn P w K tg (Itr3 lo sp n) [it] it (fun i h => IsRangeIter h it (lo + (i : Nat) * sp) ((n : Int) - (i : Nat)) sp) where
  mem := by simp
  obj := fun i h st b hb => by
    have e : b = it := by simpa using hb
    subst e
    exact ⟨_, st, fun v z => by
      have z' : Data.fields _ = Data.cell v := z
      cases z'⟩
  keep := fun i h h' st k => k it (by simp) _ st
  item := by
    intro X hP hw hK hc i pins s σ H E I hf st hg
    subst hP hw hK
    obtain ⟨f0, f1, f2, f3, f4, f5⟩ := hf it (by simp)
    have W := Walks.range (prog := X.prog) (w := X.w) (I.ok.hd hc) it lo sp n
    refine W.item i s _ _ hg st fun v h' tk hv st' kk => ?_
    obtain ⟨t, rfl⟩ := hv
    have I1 : Inv X pins σ H { s with heap := h', toks := tk } := I.turned (fun b o hb e => kk b o (by simpa using hb) e) f0 f1 f3 f4 f5
    exact ⟨_, rfl, go_of (s := { s with heap := h', toks := tk }) (n := "range_iterator") st' rfl rfl (by decide) ⟨.int _, H, I1, ⟨t, rfl⟩, ⟨rfl, rfl⟩, st', fun b hb => (hf b hb).1⟩⟩
  done := by
    intro X hP hw hK hc i pins s σ H E I hf st hg
    subst hP hw hK
    obtain ⟨f0, f1, f2, f3, f4, f5⟩ := hf it (by simp)
    exact wpAny_pyNext_range_end (I.ok.hd hc) st (by have : n ≤ i := hg; omega) fun h' eb => ⟨rfl, I.turned (t' := s.toks) (fun b o hb e => eb b o hb e) f0 f1 f3 f4 f5⟩
  self := fun _ _ _ _ _ st h => wpAny_pyIter_rangeiter st h
def iRng3 (ta : TA) : TI := fun σ H R => ta σ H fun vs H1 => ∃ i j c : Int, vs = [.int i, .int j, .int c] ∧ (0 < c ∧ c < 1000000) ∧ Builtin.Range.small i j c = true ∧ R (Itr3 i c (Builtin.Range.rangeSize i j c).toNat) H1
theorem pi_range3 {tg a b c : Expr} {ta : TA} {p pos : Pos} (hg : Gl X "range") (hm : X.mg "range" = none) (ha : PA X [a, b, c] ta) (hs : starEach [a, b, c] X.env = (false, eval a X.env) :: starEach [b, c] X.env := by rfl)
    (hs2 : (backTo pos (starEach [b, c] X.env)).any (·.1) = false := by rfl) :
    PI X tg (.Call (.Name "range" p) [a, b, c] [] pos) (iRng3 ta) := by
  intro pins s σ H R I h
  refine Call_ (ld_blt I hg hm boot_range (PyProof.Rows.callWith_type1 (thn (ha pos pins s σ H _ I h) fun us s1 ⟨vs, H1, I1, r1, q1⟩ => ?_) hs hs2))
  obtain ⟨i, j, c, e, ⟨c0, c1⟩, sm, q⟩ := q1
  subst e
  cases r1 with
  | cons r rr =>
    cases rr with
    | cons r' rr =>
      cases rr with
      | cons r'' rr =>
        cases rr
        obtain ⟨t, rfl⟩ := r
        obtain ⟨t', rfl⟩ := r'
        obtain ⟨t'', rfl⟩ := r''
        refine call_range_3 (by omega) ?_ (.inl (PyProof.noPylong_small (by omega)))
        refine wpAny_pyIter_range (IsRange.new ..) sm ?_
        have I2 : Inv X pins σ H1 { s1 with heap := s1.heap.push { cls := .type "range", data := .fields #[.int i t, .int j t', .int c t''] }, toks := s1.toks } := I1.kept fun b o e => Heap.get?_push_of_some _ e
        refine ⟨(s1.heap.push { cls := .type "range", data := .fields #[.int i t, .int j t', .int c t''] }).objs.size, [(s1.heap.push { cls := .type "range", data := .fields #[.int i t, .int j t', .int c t''] }).objs.size], _, _, H1, rfl,
          I2.kept (t' := s1.toks) fun b o e => Heap.get?_push_of_some _ e, turn_range3 _ i c (Builtin.Range.rangeSize i j c).toNat, ?_, fun b hb => ?_, q⟩
        · have e1 : i + ((0 : Nat) : Int) * c = i := by simp
          have e2 : (((Builtin.Range.rangeSize i j c).toNat : Nat) : Int) - ((0 : Nat) : Int) = Builtin.Range.rangeSize i j c := by rw [← rangeSize_toNat]; simp
          show IsRangeIter _ _ (i + ((0 : Nat) : Int) * c) ((((Builtin.Range.rangeSize i j c).toNat : Nat) : Int) - ((0 : Nat) : Int)) c
          rw [e1, e2]
          exact Heap.get?_push_size _ rfl
        · have e : b = (s1.heap.push { cls := .type "range", data := .fields #[.int i t, .int j t', .int c t''] }).objs.size := by simpa using hb
          subst e
          exact I2.fpOk (Nat.le_refl _) (I2.hok.fresh (Nat.le_refl _))
theorem for_range3 {lo st : Int} {n : Nat} {g : TG} {tb : TS} {D : Ends} {σ : St} {H : Hp} (Pv : Nat → St → Hp → Prop) (h0 : Pv 0 σ H)
    (hs : ∀ i σ H, i < n → Pv i σ H → g (.int (lo + i * st)) σ H fun σ2 H2 => tb { D with nx := Pv (i + 1), ct := Pv (i + 1), bk := D.nx } σ2 H2) (hd : ∀ σ H, Pv n σ H → D.nx σ H) :
    ∃ W : Nat → Nat → St → Hp → Prop, (∃ m, W 0 m σ H) ∧ ∀ i m σ H, W i m σ H →
      ((Itr3 lo st n).stop i H ∧ D.nx σ H) ∨ ((Itr3 lo st n).go i H ∧ ∃ N : St → Hp → Prop, (∀ σ' H', N σ' H' → ∃ m', m' < m ∧ W (i + 1) m' σ' H') ∧ ∀ x H', (Itr3 lo st n).yld i H x H' → g x σ H' fun σ2 H2 => tb { D with nx := N, ct := N, bk := D.nx } σ2 H2) := by
  refine ⟨fun i m σ H => m = n - i ∧ i ≤ n ∧ Pv i σ H, ⟨n, by simp, Nat.zero_le _, h0⟩, ?_⟩
  rintro i m σ H ⟨rfl, hi, p⟩
  by_cases hlt : i < n
  · refine .inr ⟨hlt, Pv (i + 1), fun σ' H' p' => ⟨n - (i + 1), by omega, rfl, hlt, p'⟩, fun x H' y => ?_⟩
    obtain ⟨e, y⟩ := y
    subst e y
    exact hs i σ _ hlt p
  · have e : i = n := by omega
    subst e
    exact .inl ⟨Nat.le_refl _, hd σ H p⟩

/-! ### isinstance -/
end
section
variable {prog : Program} {w : World} {A : Around} {E : Value → Shared → Prop} {s : Shared} {K : PySem.W.Frag} {x D : Addr} {ox : Obj}
theorem exc_ga_check {M : Model} {nameV : Value} {Q : Unit → Shared → Prop} (X : K.In s.heap) (I : PySem.W.InstAt s.heap x ox D none) (be : PySem.W.mroIn K D (.type "BaseException") = some true) (hq : Q () s) :
    wpAny M A (checkBuiltinCall "BaseException.__getattribute__" ⟨[.ref x, nameV], []⟩) Q E s := by
  obtain ⟨hh, g, d, t, os⟩ := s
  have hk : builtinKind "BaseException.__getattribute__" = some .slot := by decide +kernel
  have hsplit : splitId "BaseException.__getattribute__" = some ("BaseException", "__getattribute__") := by decide +kernel
  have L0 := I.type (M := M)
  have L1 := PySem.W.looks_mroIn (M := M) X be
  have ha := F.args_bexc_ga (.ref x) nameV
  simp only [checkBuiltinCall, hk, hsplit]
  refine wpAny_bind ?_
  unfold isInstance
  refine wpAny_bind (L0.at (L1.at ?_))
  repeat (first | wp_step)
  exact hq
theorem exc_class {Q : Option Value → Shared → Prop} (X : K.In s.heap) (I : PySem.W.InstAt s.heap x ox D none) (ga : PySem.W.findIn K (.ref D) "__getattribute__" = some (some (.builtin "BaseException.__getattribute__"))) (noga : PySem.W.findIn K (.ref D) "__getattr__" = some none)
    (be : PySem.W.mroIn K D (.type "BaseException") = some true) (hf : PySem.W.findObj K D none "__class__" = some (.bind (.builtin "getset_descriptor.__get__") (.builtin "object.__class__"))) (hm : PySem.W.mroIn K D (.type "object") = some true)
    (h : Q (some (.ref D)) { s with toks := s.toks + 1 }) : wpAny (model prog w) A (getAttr? (.ref x) "__class__") Q E s := by
  obtain ⟨hh, g, d, t, os⟩ := s
  have L0 := I.type (M := model prog w)
  have L1 := PySem.W.looks_findIn (M := model prog w) X ga
  have L2 := PySem.W.looks_findIn (M := model prog w) X noga
  have L3 := PySem.W.looks_find (M := model prog w) X I hf
  have hb := F.attrBase_ValueError.ga.bind (.ref x)
  unfold getAttr? getAttrBy? getAttrBy
  refine wpAny_bind (wpAny_mkText (wpAny_bind (wpAny_attempt (wpAny_holding (wpAny_bind (L0.at (wpAny_bind (L1.at ?_))))))))
  dsimp only
  rw [if_neg (show ¬ (onTheHeap (Value.ref D) && (Value.builtin "BaseException.__getattribute__" == Value.builtin "object.__getattribute__")) = true by rw [show (Value.builtin "BaseException.__getattribute__" == Value.builtin "object.__getattribute__") = false by decide +kernel]; simp)]
  unfold getAttrByItsOwn hookBefore
  refine wpAny_bind ?_
  show wpAny _ _ (typeLookup (.ref D) "__getattr__") _ _ _
  refine L2.at ?_
  refine wpAny_bind (wpAny_attempt (wpAny_holding ?_))
  unfold callGetattribute boundAndCalled
  rw [if_neg (by decide), hb]
  refine wpAny_bind (wpAny_pure ?_)
  dsimp only
  refine wpAny_call (codeAny_call_builtin F.attrBase_ValueError.ga.plain F.entry_bexc_ga (exc_ga_check (ox := ox) X I be ?_))
  unfold Builtin.«object.__getattribute__»
  refine wpAny_bind (wpAny_of_eq (show slotArgs "__getattribute__" 1 { pos := [Value.ref x] ++ [Value.str (Str.ofString "__class__") t] } = pure (.ref x, [Value.str (Str.ofString "__class__") t]) from rfl) ?_)
  dsimp only
  refine wpAny_bind (wpAny_of_eq (show Builtin.ObjectAttr.attrName (Value.str (Str.ofString "__class__") t) = pure (Str.ofString "__class__") from rfl) ?_)
  refine wpAny_bind (L0.at (wpAny_bind (L3.at ?_)))
  dsimp only
  show wpAny _ _ (do ret (← holding [Value.builtin "object.__class__"] (call (.builtin "getset_descriptor.__get__") [.builtin "object.__class__", .ref x, .ref D]))) _ _ _
  refine wpAny_bind (wpAny_holding (wpAny_call (PySem.W.class_get (ox := ox) (od := none) X I hm ?_)))
  exact wpAny_pure (PySem.W.handed_on rfl (wpAny_pure h))
end
section
variable {X : Cx}
/-- what the text says of an exception class for isinstance -/
structure ExcIs (K : PySem.W.Frag) (D : Addr) : Prop where
  ga : PySem.W.findIn K (.ref D) "__getattribute__" = some (some (.builtin "BaseException.__getattribute__"))
  noga : PySem.W.findIn K (.ref D) "__getattr__" = some none
  be : PySem.W.mroIn K D (.type "BaseException") = some true
  hc : (PySem.W.clsIn K D).isSome = true
  ha : PySem.W.findIn K (.ref D) "__class__" = some (some (.builtin "object.__class__"))
  hn : PySem.W.specialIn K (.builtin "object.__class__") "__get__" = some (some (.builtin "getset_descriptor.__get__"))
  htk : PySem.W.takesIn K (.builtin "object.__class__") = some true
  hm : PySem.W.mroIn K D (.type "object") = some true
theorem kitx_exc {K : PySem.W.Frag} {x D : Addr} (e : ExcIs K D) : PySem.W.KitX K (.ref x) (.ref D) (fun h => ∃ ox, PySem.W.InstAt h x ox D none) where
  ty := fun _ _ _ ⟨_, I⟩ => I.type
  it := fun _ _ X _ => by
    obtain ⟨cd, hcd⟩ := Option.isSome_iff_exists.mp e.hc
    unfold PySem.W.clsIn at hcd
    split at hcd
    · rename_i ho
      intro A' Q' E' s' k q
      unfold isType loadHead
      exact wpAny_bind (wpAny_loadPart (k _ _ (X _ _ ho)) (wpAny_pure q))
    · cases hcd
  ne := fun h tp dd its n sl X htp => by
    obtain ⟨cd, hcd⟩ := Option.isSome_iff_exists.mp e.hc
    refine Bool.eq_false_iff.mpr fun q => ?_
    have z : D = tp := Value.ref.inj (beq_iff_eq.mp q)
    subst z
    unfold PySem.W.clsIn at hcd
    split at hcd
    · rename_i ho
      have y := (X _ _ ho).symm.trans htp
      cases y
    · cases hcd
  ca := fun {_ _ _ _ _ s} X I k => by
    obtain ⟨ox, I⟩ := I
    obtain ⟨cd, hcd⟩ := Option.isSome_iff_exists.mp e.hc
    have hf : PySem.W.findObj K D none "__class__" = some (.bind (.builtin "getset_descriptor.__get__") (.builtin "object.__class__")) := by
      unfold PySem.W.findObj
      rw [hcd, Option.bind_some, e.ha, Option.bind_some]
      simp [e.hn, e.htk]
    exact exc_class X I e.ga e.noga e.be hf e.hm k

/-- the type of a value, exceptions too -/
inductive TyX (K : PySem.W.Frag) (H : Hp) : V → Value → Prop where
  | of {x : V} {t : Value} (h : TyOf K H x t) : TyX K H x t
  | exc {e D : Addr} (h : H e = some (excO e (.ref D))) (k : ExcIs K D) : TyX K H (.ref e) (.ref D)
  | sqt {a : Addr} {xs : List V} (h : SqT K H a xs) : TyX K H (.ref a) (.type "tuple")
  | sql {a : Addr} {xs : List V} (h : SqL K H a xs) : TyX K H (.ref a) (.type "list")
theorem TyX.kit {pins : List (Addr × Obj)} {σ : St} {H : Hp} {s : Shared} {x : V} {u t : Value} (I : Inv X pins σ H s) (rx : RelV x u) (ty : TyX X.K H x t) : ∃ Hh, PySem.W.KitX X.K u t Hh ∧ Hh s.heap := by
  cases ty with
  | of ty =>
    cases ty with
    | non => cases (show u = Value.none from rx); exact ⟨_, PySem.W.kitx_none, True.intro⟩
    | bl y => cases (show u = Value.bool y from rx); exact ⟨_, PySem.W.kitx_bool, True.intro⟩
    | int i => obtain ⟨t, q⟩ := (show ∃ t, u = Value.int i t from rx); cases q; exact ⟨_, PySem.W.kitx_int, True.intro⟩
    | str y => obtain ⟨t, q⟩ := (show ∃ t, u = Value.str y t from rx); cases q; exact ⟨_, PySem.W.kitx_str, True.intro⟩
    | flt y => obtain ⟨t, q⟩ := (show ∃ t, u = Value.float y t from rx); cases q; exact ⟨_, PySem.W.kitx_float, True.intro⟩
    | @lst a xs ea =>
      cases (show u = Value.ref a from rx)
      obtain ⟨_, _, n, _, h1⟩ := (show ObjOk X.prog X.w H s.heap a (.lst xs) from I.hok a _ ea)
      exact ⟨_, PySem.W.kitx_list, ⟨_, h1, rfl⟩⟩
    | @frz a ob xs ea =>
      cases (show u = Value.ref a from rx)
      obtain ⟨_, _, _, n, _, h1⟩ := (show ObjOk X.prog X.w H s.heap a (.frz ob (.lst xs)) from I.hok a _ ea)
      exact ⟨_, PySem.W.kitx_list, ⟨_, h1, rfl⟩⟩
    | @tup a xs ea =>
      cases (show u = Value.ref a from rx)
      obtain ⟨_, _, _, p⟩ := (show ObjOk X.prog X.w H s.heap a (.tup xs) from I.hok a _ ea)
      obtain ⟨o, h1, h2, _⟩ := p
      exact ⟨_, PySem.W.kitx_tuple, ⟨o, h1, h2⟩⟩
    | @dK a kvs ea =>
      cases (show u = Value.ref a from rx)
      obtain ⟨_, _, vs, _, p⟩ := (show ObjOk X.prog X.w H s.heap a (.dK kvs) from I.hok a _ ea)
      obtain ⟨o, es, ep, h1, h2, _⟩ := p
      exact ⟨_, PySem.W.kitx_dict, ⟨o, h1, h2.1⟩⟩
    | @dT a kvs ea =>
      cases (show u = Value.ref a from rx)
      obtain ⟨_, _, xs, _, o, es, ep, h1, h2, _⟩ := (show ObjOk X.prog X.w H s.heap a (.dT kvs) from I.hok a _ ea)
      exact ⟨_, PySem.W.kitx_dict, ⟨o, h1, h2.1⟩⟩
    | @ins a C dx fs ea cl ha hn htk hm =>
      cases (show u = Value.ref a from rx)
      obtain ⟨mA, O, _⟩ := ins_get I.hok ea
      obtain ⟨od, J, _⟩ := O.look
      exact ⟨_, PySem.W.kitx_own (cl.get _) cl.hd ha hn htk hm, J⟩
  | @sqt a xs h =>
    cases (show u = Value.ref a from rx)
    obtain ⟨its, _, ⟨o, h1, h2, _⟩, _⟩ := I.tuple h
    exact ⟨_, PySem.W.kitx_tuple, ⟨o, h1, h2⟩⟩
  | @sql a xs h =>
    cases (show u = Value.ref a from rx)
    obtain ⟨its, _, ⟨o, n, h1, h2, _⟩, _⟩ := I.list h
    exact ⟨_, PySem.W.kitx_list, ⟨o, h1, h2⟩⟩
  | @exc e D h k =>
    cases (show u = Value.ref e from rx)
    obtain ⟨⟨ob, h1, h2, h3, vs, h4⟩, _⟩ := (show ObjOk X.prog X.w H s.heap e (excO e (.ref D)) from I.hok e _ h)
    refine ⟨_, kitx_exc k, ob, h1, h2, ?_, ?_⟩
    · unfold PySem.W.notCls
      rw [h4]
    · rw [h3]; trivial
/-- the class that a value names -/
def clsV : V → Option Value
  | .ref a => some (.ref a)
  | .ty n => some (.type n)
  | _ => none
theorem clsV_rel {c : V} {cv u : Value} (h : clsV c = some cv) (r : RelV c u) : u = cv := by
  cases c with
  | ref a => cases h; exact r
  | ty n => cases h; exact r
  | _ => cases h
theorem RelV.nb {x : V} {u : Value} (r : RelV x u) : u ≠ .builtin "__main__.__loader__#opaque" := by
  cases x with
  | non => rintro rfl; cases r
  | bl b => rintro rfl; cases r
  | int i => rintro rfl; obtain ⟨_, q⟩ := r; cases q
  | str i => rintro rfl; obtain ⟨_, q⟩ := r; cases q
  | byt i => rintro rfl; obtain ⟨_, q⟩ := r; cases q
  | flt i => rintro rfl; obtain ⟨_, q⟩ := r; cases q
  | ref a => rintro rfl; cases r
  | ty a => rintro rfl; cases r
def rIsi (K : PySem.W.Frag) : List V → Hp → VK → Prop := fun xs H Q => ∃ x c cv t b, xs = [x, c] ∧ clsV c = some cv ∧ TyX K H x t ∧ PySem.W.kitOne K t cv = some b ∧ Q (.bl b) H
theorem call_isi : CallR X (.builtin "isinstance") (rIsi X.K) := by
  intro pins s σ H xs us Q I r h
  obtain ⟨x, c, cv, t, b, rfl, hc, ty, e, q⟩ := h
  obtain ⟨u, w', rfl, ru, rw'⟩ := vals2 r
  obtain rfl := clsV_rel hc rw'
  obtain ⟨Hh, Z, p⟩ := ty.kit I ru
  exact PySem.W.kia_one Z I.kIn p e ru.nb fun tk => ⟨.bl b, H, I.tok tk, rfl, q⟩
def rIsiT (K : PySem.W.Frag) : List V → Hp → VK → Prop := fun xs H Q => ∃ x tp cs its t b, xs = [x, .ref tp] ∧ H tp = some (.tup cs) ∧ cs.map clsV = its.map some ∧ TyX K H x t ∧ PySem.W.kitAny K t its = some b ∧ Q (.bl b) H
theorem clsVs_rel : ∀ {cs : List V} {its us : List Value}, cs.map clsV = its.map some → Vals cs us → us = its
  | [], its, _, h, .nil => by
    cases its with
    | nil => rfl
    | cons a r => cases h
  | c :: cs, its, _, h, .cons r rr => by
    cases its with
    | nil => cases h
    | cons a l =>
      rw [List.map_cons, List.map_cons] at h
      injection h with h1 h2
      rw [clsV_rel h1 r, clsVs_rel h2 rr]
theorem call_isiT : CallR X (.builtin "isinstance") (rIsiT X.K) := by
  intro pins s σ H xs us Q I r h
  obtain ⟨x, tp, cs, its, t, b, rfl, ht, hc, ty, e, q⟩ := h
  obtain ⟨u, w', rfl, ru, rw'⟩ := vals2 r
  cases (show w' = Value.ref tp from rw')
  obtain ⟨Hh, Z, p⟩ := ty.kit I ru
  obtain ⟨_, its', rv, o, h1, h2, n, h3⟩ := (show ObjOk X.prog X.w H s.heap tp (.tup cs) from I.hok tp _ ht)
  obtain rfl := clsVs_rel hc rv
  obtain ⟨oc, od, oda, osl⟩ := o
  obtain rfl : oc = _ := h2
  obtain rfl : oda = _ := h3
  exact PySem.W.kia_tup Z I.kIn p h1 e ru.nb fun tk => ⟨.bl b, H, I.tok tk, rfl, q⟩
end
theorem kit_same {K : PySem.W.Frag} {t : Value} : PySem.W.kitOne K t t = some true := by unfold PySem.W.kitOne; rw [if_pos (by simp)]
theorem kit_bool_int {K : PySem.W.Frag} : PySem.W.kitOne K (.type "bool") (.type "int") = some true := by
  have h : (fastBuiltinMro "bool").map (·.contains (.type "int")) = some true := by decide +kernel
  have hm : PySem.W.kitMeta "int" = true := by decide +kernel
  unfold PySem.W.kitOne PySem.W.kitCls
  rw [if_neg (by decide)]
  show (if PySem.W.kitMeta "int" = true then PySem.W.subIn K (.type "bool") (.type "int") else none) = _
  rw [if_pos hm]
  exact h
theorem kit_int_bool {K : PySem.W.Frag} : PySem.W.kitOne K (.type "int") (.type "bool") = some false := by
  have h : (fastBuiltinMro "int").map (·.contains (.type "bool")) = some false := by decide +kernel
  have hm : PySem.W.kitMeta "bool" = true := by decide +kernel
  unfold PySem.W.kitOne PySem.W.kitCls
  rw [if_neg (by decide)]
  show (if PySem.W.kitMeta "bool" = true then PySem.W.subIn K (.type "int") (.type "bool") else none) = _
  rw [if_pos hm]
  exact h
end L2
namespace L2
open PySem PySem.Spec PyProof.Rows

/-! ### data: what a value is, at any depth -/
inductive D where
  | non | bl (b : Bool) | int (i : Int) | str (x : Str) | tup (l : List D) | lst (l : List D) | ins (C : Addr) (ns : List Str) (l : List D)
mutual
inductive Is (K : PySem.W.Frag) (H : Hp) : V → D → Prop where
  | non : Is K H .non .non
  | bl (b : Bool) : Is K H (.bl b) (.bl b)
  | int (i : Int) : Is K H (.int i) (.int i)
  | str (x : Str) : Is K H (.str x) (.str x)
  | tup {a : Addr} {xs : List V} {ds : List D} : SqT K H a xs → IsL K H xs ds → Is K H (.ref a) (.tup ds)
  | lst {a : Addr} {xs : List V} {ds : List D} : SqL K H a xs → IsL K H xs ds → Is K H (.ref a) (.lst ds)
  | ins {a C dx : Addr} {ns : List Str} {xs : List V} {ds : List D} : H a = some (.ins C dx (ns.zip xs)) → ns.length = xs.length → IsL K H xs ds → Is K H (.ref a) (.ins C ns ds)
inductive IsL (K : PySem.W.Frag) (H : Hp) : List V → List D → Prop where
  | nil : IsL K H [] []
  | cons {v : V} {d : D} {vs : List V} {ds : List D} : Is K H v d → IsL K H vs ds → IsL K H (v :: vs) (d :: ds)
end
theorem Same.tup {K : PySem.W.Frag} {H H' : Hp} {a : Addr} {xs : List V} (e : Same H H') (h : SqT K H a xs) : SqT K H' a xs := by
  rcases h with (h | ⟨o, h⟩) | h
  · exact .inl (.inl (e _ _ h))
  · exact .inl (.inr ⟨o, e _ _ h⟩)
  · exact .inr h
theorem same_upd {H : Hp} {p : Addr} {o : HO} (h : H p = none) : Same H (upd H p o) := fun b u e => by rw [upd_ne (ne_of_none e h)]; exact e
mutual
theorem Is.mono {K : PySem.W.Frag} {H H' : Hp} (S : Same H H') : ∀ {v : V} {d : D}, Is K H v d → Is K H' v d
  | _, _, .non => .non
  | _, _, .bl b => .bl b
  | _, _, .int i => .int i
  | _, _, .str x => .str x
  | _, _, .tup h l => .tup (S.tup h) (IsL.mono S l)
  | _, _, .lst h l => .lst (S.seq h) (IsL.mono S l)
  | _, _, .ins h e l => .ins (S _ _ h) e (IsL.mono S l)
theorem IsL.mono {K : PySem.W.Frag} {H H' : Hp} (S : Same H H') : ∀ {vs : List V} {ds : List D}, IsL K H vs ds → IsL K H' vs ds
  | _, _, .nil => .nil
  | _, _, .cons h l => .cons (Is.mono S h) (IsL.mono S l)
end
theorem IsL.len {K : PySem.W.Frag} {H : Hp} : ∀ {vs : List V} {ds : List D}, IsL K H vs ds → vs.length = ds.length
  | _, _, .nil => rfl
  | _, _, .cons _ l => by rw [List.length_cons, List.length_cons, l.len]
theorem IsL.get {K : PySem.W.Frag} {H : Hp} : ∀ {vs : List V} {ds : List D} {i : Nat} {d : D}, IsL K H vs ds → ds[i]? = some d → ∃ v, vs[i]? = some v ∧ Is K H v d
  | _, _, _, _, .nil, e => by simp at e
  | _, _, 0, _, .cons h _, e => by simp at e; subst e; exact ⟨_, rfl, h⟩
  | _, _, i + 1, d, .cons _ l, e => by
    obtain ⟨v, e1, e2⟩ := l.get (i := i) (d := d) (by simpa using e)
    exact ⟨v, by simpa using e1, e2⟩
theorem IsL.getV {K : PySem.W.Frag} {H : Hp} : ∀ {vs : List V} {ds : List D} {i : Nat} {v : V}, IsL K H vs ds → vs[i]? = some v → ∃ d, ds[i]? = some d ∧ Is K H v d
  | _, _, _, _, .nil, e => by simp at e
  | _, _, 0, _, .cons h _, e => by simp at e; subst e; exact ⟨_, rfl, h⟩
  | _, _, i + 1, d, .cons _ l, e => by
    obtain ⟨v, e1, e2⟩ := l.getV (i := i) (v := d) (by simpa using e)
    exact ⟨v, by simpa using e1, e2⟩
theorem IsL.append {K : PySem.W.Frag} {H : Hp} : ∀ {vs ws : List V} {ds es : List D}, IsL K H vs ds → IsL K H ws es → IsL K H (vs ++ ws) (ds ++ es)
  | _, _, _, _, .nil, h => h
  | _, _, _, _, .cons h l, k => .cons h (l.append k)
theorem IsL.one {K : PySem.W.Frag} {H : Hp} {v : V} {d : D} (h : Is K H v d) : IsL K H [v] [d] := .cons h .nil
theorem IsL.take {K : PySem.W.Frag} {H : Hp} : ∀ {vs : List V} {ds : List D} (n : Nat), IsL K H vs ds → IsL K H (vs.take n) (ds.take n)
  | _, _, 0, _ => .nil
  | _, _, _ + 1, .nil => .nil
  | _, _, n + 1, .cons h l => .cons h (l.take n)
theorem IsL.drop {K : PySem.W.Frag} {H : Hp} : ∀ {vs : List V} {ds : List D} (n : Nat), IsL K H vs ds → IsL K H (vs.drop n) (ds.drop n)
  | _, _, 0, h => h
  | _, _, _ + 1, .nil => .nil
  | _, _, n + 1, .cons h l => l.drop n
theorem IsL.ints {K : PySem.W.Frag} {H : Hp} : ∀ ns : List Int, IsL K H (ns.map V.int) (ns.map D.int)
  | [] => .nil
  | n :: r => .cons (.int n) (IsL.ints r)
theorem Is.ins_inv {K : PySem.W.Frag} {H : Hp} {v : V} {C : Addr} {ns : List Str} {ds : List D} (h : Is K H v (.ins C ns ds)) : ∃ a dx xs, v = .ref a ∧ H a = some (.ins C dx (ns.zip xs)) ∧ ns.length = xs.length ∧ IsL K H xs ds := by
  cases h with
  | ins h e l => exact ⟨_, _, _, rfl, h, e, l⟩
theorem Is.int_inv {K : PySem.W.Frag} {H : Hp} {v : V} {i : Int} (h : Is K H v (.int i)) : v = .int i := by cases h; rfl
theorem Is.bl_inv {K : PySem.W.Frag} {H : Hp} {v : V} {b : Bool} (h : Is K H v (.bl b)) : v = .bl b := by cases h; rfl
theorem Is.str_inv {K : PySem.W.Frag} {H : Hp} {v : V} {b : Str} (h : Is K H v (.str b)) : v = .str b := by cases h; rfl
theorem Is.non_inv {K : PySem.W.Frag} {H : Hp} {v : V} (h : Is K H v .non) : v = .non := by cases h; rfl
theorem Is.tup_inv {K : PySem.W.Frag} {H : Hp} {v : V} {ds : List D} (h : Is K H v (.tup ds)) : ∃ a xs, v = .ref a ∧ SqT K H a xs ∧ IsL K H xs ds := by cases h with | tup a b => exact ⟨_, _, rfl, a, b⟩
theorem Is.lst_inv {K : PySem.W.Frag} {H : Hp} {v : V} {ds : List D} (h : Is K H v (.lst ds)) : ∃ a xs, v = .ref a ∧ SqL K H a xs ∧ IsL K H xs ds := by cases h with | lst a b => exact ⟨_, _, rfl, a, b⟩
theorem IsL.cons_inv {K : PySem.W.Frag} {H : Hp} {vs : List V} {d : D} {ds : List D} (h : IsL K H vs (d :: ds)) : ∃ v r, vs = v :: r ∧ Is K H v d ∧ IsL K H r ds := by cases h with | cons a b => exact ⟨_, _, rfl, a, b⟩
theorem IsL.nil_inv {K : PySem.W.Frag} {H : Hp} {vs : List V} (h : IsL K H vs []) : vs = [] := by cases h; rfl

/-- a fraction: a pair of ints -/
abbrev dQ (a b : Int) : D := .tup [.int a, .int b]
theorem Is.q_inv {K : PySem.W.Frag} {H : Hp} {v : V} {a b : Int} (h : Is K H v (dQ a b)) : ∃ p, v = .ref p ∧ SqT K H p [.int a, .int b] := by
  obtain ⟨p, xs, rfl, h1, h2⟩ := h.tup_inv
  obtain ⟨x, r, rfl, hx, h2⟩ := h2.cons_inv
  obtain ⟨y, r', rfl, hy, h2⟩ := h2.cons_inv
  obtain rfl := h2.nil_inv
  obtain rfl := hx.int_inv
  obtain rfl := hy.int_inv
  exact ⟨p, rfl, h1⟩
theorem Is.q {K : PySem.W.Frag} {H : Hp} {p : Addr} {a b : Int} (h : SqT K H p [.int a, .int b]) : Is K H (.ref p) (dQ a b) := .tup h (.cons (.int a) (.cons (.int b) .nil))

/-! ### a promise about data -/
/-- the arguments are ds, R says what comes, nothing that was tracked is changed -/
def sRel (K : PySem.W.Frag) (R : List D → D → Prop) : Sp := fun vs H Q _ => ∃ ds r, IsL K H vs ds ∧ R ds r ∧ ∀ v H', Same H H' → Is K H' v r → Q v H'
/-- .. or what is raised -/
def sRelE (K : PySem.W.Frag) (R : List D → D → Prop) (RE : List D → Value → Prop) : Sp := fun vs H Q E => ∃ ds, IsL K H vs ds ∧ ((∃ r, R ds r ∧ ∀ v H', Same H H' → Is K H' v r → Q v H') ∨ ∃ c, RE ds c ∧ ∀ H', Same H H' → E c none H')

/-! ### small steps of a reading -/
section
variable {σ : St} {H : Hp} {Q : VK} {ta tb tc : TE} {D' : Ends} {v : V} {i : Nat}
theorem i_var (h1 : σ[i]? = some (some v)) (h : Q v H) : tVar i σ H Q := ⟨v, h1, h⟩
theorem i_c (h : Q v H) : tC v σ H Q := h
theorem i_op {r : R2} (h : ta σ H fun x H1 => tb σ H1 fun y H2 => r x y H2 Q) : tOp r ta tb σ H Q := h
theorem i_un {r : V → Hp → VK → Prop} (h : ta σ H fun x H1 => r x H1 Q) : tUn r ta σ H Q := h
theorem i_I0 {g : Int → Int → V} {a b : Int} (h : Q (g a b) H) : rI0 g (.int a) (.int b) H Q := ⟨a, b, rfl, rfl, h⟩
theorem i_I {C : Int → Int → Prop} {g : Int → Int → V} {a b : Int} (hc : C a b) (h : Q (g a b) H) : rI C g (.int a) (.int b) H Q := ⟨a, b, rfl, rfl, hc, h⟩
theorem i_U {g : Int → V} {a : Int} (h : Q (g a) H) : rU g (.int a) H Q := ⟨a, rfl, h⟩
theorem i_cmp {p : Int → Int → Bool} (h : ta σ H fun x H1 => tb σ H1 fun y H2 => ∃ i j, x = .int i ∧ y = .int j ∧ Q (.bl (p i j)) H2) : tCmp p ta tb σ H Q := h
theorem i_2 {k : Int → Int → Prop} {a b : Int} (h : k a b) : ∃ i j, V.int a = .int i ∧ V.int b = .int j ∧ k i j := ⟨a, b, rfl, rfl, h⟩
theorem i_B {t : TE} {Q : Bool → Hp → Prop} (h : t σ H fun x H1 => ∃ c, x = .bl c ∧ Q c H1) : tB t σ H Q := h
theorem i_bl {b : Bool} {k : Bool → Prop} (h : k b) : ∃ c, V.bl b = .bl c ∧ k c := ⟨b, rfl, h⟩
theorem i_not {t : TT} {Q : Bool → Hp → Prop} (h : t σ H fun c H1 => Q (!c) H1) : tNot t σ H Q := h
theorem i_and {t u : TT} {Q : Bool → Hp → Prop} (h : t σ H fun c H1 => if c = true then u σ H1 Q else Q false H1) : tAnd t u σ H Q := h
theorem i_or {t u : TT} {Q : Bool → Hp → Prop} (h : t σ H fun c H1 => if c = true then Q true H1 else u σ H1 Q) : tOr t u σ H Q := h
theorem i_andV (h : ta σ H fun x H1 => ∃ c, x = .bl c ∧ if c = true then tb σ H1 Q else Q (.bl false) H1) : tAndV ta tb σ H Q := h
theorem i_orV (h : ta σ H fun x H1 => ∃ c, x = .bl c ∧ if c = true then Q (.bl true) H1 else tb σ H1 Q) : tOrV ta tb σ H Q := h
theorem i_notV (h : ta σ H fun x H1 => ∃ c, x = .bl c ∧ Q (.bl (!c)) H1) : tNotV ta σ H Q := h
theorem i_ifE {t : TT} (h : t σ H fun c H1 => if c = true then ta σ H1 Q else tb σ H1 Q) : tIf t ta tb σ H Q := h
theorem i_seq {t u : TS} (h : t { D' with nx := u D' } σ H) : tSeq t u D' σ H := h
theorem i_next (h : D'.nx σ H) : tNext D' σ H := h
theorem i_drop (h : ta σ H fun _ H1 => D'.nx σ H1) : tDrop ta D' σ H := h
theorem i_ret (h : ta σ H D'.rt) : tRet ta D' σ H := h
theorem i_retN (h : D'.rt .non H) : tRetN D' σ H := h
theorem i_ifS {c : TT} {t u : TS} (h : c σ H fun b H1 => if b = true then t D' σ H1 else u D' σ H1) : tIfS c t u D' σ H := h
theorem i_asg {g : TG} (h : ta σ H fun x H1 => g x σ H1 D'.nx) : tAsg ta g D' σ H := h
theorem i_gName {R : St → Hp → Prop} (h : R (σ.set i (some v)) H) : gName i v σ H R := h
theorem i_nil {R : List V → Hp → Prop} (h : R [] H) : tNil σ H R := h
theorem i_cons {t : TA} {R : List V → Hp → Prop} (h : ta σ H fun x H1 => t σ H1 fun xs H2 => R (x :: xs) H2) : tCons ta t σ H R := h
theorem i_call {sp : Sp} {E : XK} {t : TA} (h : t σ H fun vs H1 => sp vs H1 Q E) : tCall sp [] E t σ H Q := by
  unfold tCall
  simpa only [List.append_nil] using h
theorem i_CB {r : List V → Hp → VK → Prop} {t : TA} (h : t σ H fun vs H1 => r vs H1 Q) : tCB r t σ H Q := h
theorem i_tup {t : TA} (h : t σ H fun xs H1 => xs.length ≤ sizeLine ∧ ∀ p, H1 p = none → Q (.ref p) (upd H1 p (.tup xs))) : tTup t σ H Q := h
theorem i_lst {t : TA} (h : t σ H fun xs H1 => xs.length ≤ sizeLine ∧ ∀ p, H1 p = none → Q (.ref p) (upd H1 p (.lst xs))) : tLst t σ H Q := h
theorem i_ixT {K : PySem.W.Frag} {p : Addr} {xs : List V} {j : Nat} {v : V} (h1 : SqT K H p xs) (h2 : xs[j]? = some v) (h : Q v H) : rIxT K (.ref p) (.int (j : Int)) H Q := ⟨p, xs, j, v, rfl, rfl, h1, atI_nat h2, h⟩
theorem i_ixT0 {K : PySem.W.Frag} {p : Addr} {xs : List V} {v : V} (h1 : SqT K H p xs) (h2 : xs[0]? = some v) (h : Q v H) : rIxT K (.ref p) (.int 0) H Q := i_ixT (j := 0) h1 h2 h
theorem i_ixT1 {K : PySem.W.Frag} {p : Addr} {xs : List V} {v : V} (h1 : SqT K H p xs) (h2 : xs[1]? = some v) (h : Q v H) : rIxT K (.ref p) (.int 1) H Q := i_ixT (j := 1) h1 h2 h
theorem i_ixL {K : PySem.W.Frag} {p : Addr} {xs : List V} {j : Nat} {v : V} (h1 : SqL K H p xs) (h2 : xs[j]? = some v) (h : Q v H) : rIxL K (.ref p) (.int (j : Int)) H Q := ⟨p, xs, j, v, rfl, rfl, h1, atI_nat h2, h⟩
theorem i_par {i j : Nat} {ta : TA} (h : ta σ H fun vs H1 => ∃ v w, vs = [v, w] ∧ D'.nx ((σ.set i (some v)).set j (some w)) H1) : tPar i j ta D' σ H := h
theorem i_par2 {v w : V} {k : V → V → Prop} (h : k v w) : ∃ v' w', [v, w] = [v', w'] ∧ k v' w' := ⟨v, w, rfl, h⟩
theorem i_gTup2 {K : PySem.W.Frag} {p : Addr} {x y : V} {i j : Nat} {R : St → Hp → Prop} (h1 : SqT K H p [x, y]) (h : R ((σ.set i (some x)).set j (some y)) H) : gTup K 2 (gCons (gName i) (gCons (gName j) gNil)) (.ref p) σ H R :=
  ⟨p, [x, y], rfl, h1, rfl, x, [y], rfl, y, [], rfl, rfl, h⟩
theorem i_isi {K : PySem.W.Frag} {x c : V} {cv t : Value} {b : Bool} (h1 : clsV c = some cv) (h2 : TyX K H x t) (h3 : PySem.W.kitOne K t cv = some b) (h : Q (.bl b) H) : rIsi K [x, c] H Q := ⟨x, c, cv, t, b, rfl, h1, h2, h3, h⟩
theorem i_raise {C : Addr} {E : XK} {t : TA} (h : t σ H fun vs H1 => vs.length ≤ sizeLine ∧ E (.ref C) none H1) : tRaise C E t D' σ H := h
end
local macro_rules | `(tactic| walk_at "rd") => `(tactic| repeat (first | refine i_seq ?_ | refine i_asg ?_ | refine i_gName ?_ | refine i_var rfl ?_ | refine i_c ?_ | refine i_op ?_ | refine i_I0 ?_ | refine i_U ?_ | refine i_un ?_ | refine i_cmp ?_ | refine i_2 ?_ | refine i_B ?_ | refine i_bl ?_ | refine i_not ?_ | refine i_and ?_ | refine i_or ?_ | refine i_andV ?_ | refine i_orV ?_ | refine i_notV ?_ | refine i_ifE ?_ | refine i_next ?_ | refine i_drop ?_ | refine i_ret ?_ | refine i_retN ?_ | refine i_ifS ?_ | refine i_nil ?_ | refine i_cons ?_ | refine i_call ?_ | refine i_CB ?_ | refine i_tup ?_ | refine i_lst ?_ | refine i_par ?_ | refine i_par2 ?_ | refine i_raise ?_))
end L2
namespace L2
open PySem PySem.Spec PyProof.Rows
/-- a promise by an argument x: what is handed in, what is asked, what comes -/
def sP {α : Type} (K : PySem.W.Frag) (arg : α → List D) (pre : α → Prop) (post : α → D → Prop) : Sp := fun vs H Q _ => ∃ x : α, IsL K H vs (arg x) ∧ pre x ∧ ∀ r v H', post x r → Same H H' → Is K H' v r → Q v H'
/-- .. that may be refused -/
def sPE {α : Type} (K : PySem.W.Frag) (arg : α → List D) (pre : α → Prop) (post : α → D → Prop) (rz : α → Value → Prop) : Sp := fun vs H Q E => ∃ x : α, IsL K H vs (arg x) ∧ ((pre x ∧ ∀ r v H', post x r → Same H H' → Is K H' v r → Q v H') ∨ ∃ c, rz x c ∧ ∀ H', Same H H' → E c none H')
theorem sP_len {α : Type} {K : PySem.W.Frag} {arg : α → List D} {pre : α → Prop} {post : α → D → Prop} {n : Nat} (hl : ∀ x, (arg x).length = n) {vs : List V} {H : Hp} {Q : VK} {E : XK} (h : sP K arg pre post vs H Q E) : vs.length = n := by
  obtain ⟨x, hi, _⟩ := h
  exact hi.len.trans (hl x)
theorem sPE_len {α : Type} {K : PySem.W.Frag} {arg : α → List D} {pre : α → Prop} {post : α → D → Prop} {rz : α → Value → Prop} {n : Nat} (hl : ∀ x, (arg x).length = n) {vs : List V} {H : Hp} {Q : VK} {E : XK} (h : sPE K arg pre post rz vs H Q E) : vs.length = n := by
  obtain ⟨x, hi, _⟩ := h
  exact hi.len.trans (hl x)
theorem IsL.i1 {K : PySem.W.Frag} {H : Hp} {vs : List V} {a : Int} (h : IsL K H vs [.int a]) : vs = [.int a] := by
  obtain ⟨x, r, rfl, hx, h⟩ := h.cons_inv
  obtain rfl := h.nil_inv
  rw [hx.int_inv]
theorem IsL.i2 {K : PySem.W.Frag} {H : Hp} {vs : List V} {a b : Int} (h : IsL K H vs [.int a, .int b]) : vs = [.int a, .int b] := by
  obtain ⟨x, r, rfl, hx, h⟩ := h.cons_inv
  rw [hx.int_inv, h.i1]
theorem IsL.i3 {K : PySem.W.Frag} {H : Hp} {vs : List V} {a b c : Int} (h : IsL K H vs [.int a, .int b, .int c]) : vs = [.int a, .int b, .int c] := by
  obtain ⟨x, r, rfl, hx, h⟩ := h.cons_inv
  rw [hx.int_inv, h.i2]
theorem IsL.i4 {K : PySem.W.Frag} {H : Hp} {vs : List V} {a b c d : Int} (h : IsL K H vs [.int a, .int b, .int c, .int d]) : vs = [.int a, .int b, .int c, .int d] := by
  obtain ⟨x, r, rfl, hx, h⟩ := h.cons_inv
  rw [hx.int_inv, h.i3]
theorem IsL.d1 {K : PySem.W.Frag} {H : Hp} {vs : List V} {a : D} (h : IsL K H vs [a]) : ∃ x, vs = [x] ∧ Is K H x a := by
  obtain ⟨x, r, rfl, hx, h⟩ := h.cons_inv
  obtain rfl := h.nil_inv
  exact ⟨x, rfl, hx⟩
theorem IsL.d2 {K : PySem.W.Frag} {H : Hp} {vs : List V} {a b : D} (h : IsL K H vs [a, b]) : ∃ x y, vs = [x, y] ∧ Is K H x a ∧ Is K H y b := by
  obtain ⟨x, r, rfl, hx, h⟩ := h.cons_inv
  obtain ⟨y, rfl, hy⟩ := h.d1
  exact ⟨x, y, rfl, hx, hy⟩
theorem IsL.d3 {K : PySem.W.Frag} {H : Hp} {vs : List V} {a b c : D} (h : IsL K H vs [a, b, c]) : ∃ x y z, vs = [x, y, z] ∧ Is K H x a ∧ Is K H y b ∧ Is K H z c := by
  obtain ⟨x, r, rfl, hx, h⟩ := h.cons_inv
  obtain ⟨y, z, rfl, hy, hz⟩ := h.d2
  exact ⟨x, y, z, rfl, hx, hy, hz⟩
theorem Same.upd_new {H : Hp} {p : Addr} {o : HO} (h : H p = none) : Same H (upd H p o) := same_upd h
section
variable {σ : St} {H : Hp} {Q : VK} {D' : Ends} {E : XK}
theorem i_1 {a : Int} {k : Int → Prop} (h : k a) : ∃ i, [V.int a] = [V.int i] ∧ k i := ⟨a, rfl, h⟩
theorem i_22 {a b : Int} {k : Int → Int → Prop} (h : k a b) : ∃ i j, [V.int a, V.int b] = [V.int i, V.int j] ∧ k i j := ⟨a, b, rfl, h⟩
theorem i_sP {α : Type} {K : PySem.W.Frag} {arg : α → List D} {pre : α → Prop} {post : α → D → Prop} {vs : List V} (x : α) (h1 : IsL K H vs (arg x)) (h2 : pre x) (h : ∀ r v H', post x r → Same H H' → Is K H' v r → Q v H') : sP K arg pre post vs H Q E := ⟨x, h1, h2, h⟩
/-- an int comes back -/
theorem i_sPi {α : Type} {K : PySem.W.Frag} {arg : α → List D} {pre : α → Prop} {post : α → D → Prop} {vs : List V} (x : α) (h1 : IsL K H vs (arg x)) (h2 : pre x) {f : Int} (hf : ∀ r, post x r → r = .int f) (h : ∀ H', Same H H' → Q (.int f) H') : sP K arg pre post vs H Q E := ⟨x, h1, h2, fun r v H' p S hv => by
  have e := hf r p
  subst e
  rw [hv.int_inv]
  exact h H' S⟩
theorem i_sPb {α : Type} {K : PySem.W.Frag} {arg : α → List D} {pre : α → Prop} {post : α → D → Prop} {vs : List V} (x : α) (h1 : IsL K H vs (arg x)) (h2 : pre x) {f : Bool} (hf : ∀ r, post x r → r = .bl f) (h : ∀ H', Same H H' → Q (.bl f) H') : sP K arg pre post vs H Q E := ⟨x, h1, h2, fun r v H' p S hv => by
  have e := hf r p
  subst e
  rw [hv.bl_inv]
  exact h H' S⟩
theorem i_len {K : PySem.W.Frag} {p : Addr} {ys : List V} {k : Int → Prop} (h1 : SqL K H p ys ∨ SqT K H p ys) (h : k (ys.length : Int)) : ∃ p' ys', [V.ref p] = [V.ref p'] ∧ (SqL K H p' ys' ∨ SqT K H p' ys') ∧ k (ys'.length : Int) := ⟨p, ys, rfl, h1, h⟩
end
/-- a def whose exceptions leave it -/
theorem Fun.okE {P : Program} {w : World} {K : PySem.W.Frag} {mg : Str → Option Value} {base : Heap} {x qual : Str} {st : Stmt} {f : Addr} {fd : FuncData} {N ps : List Str} {k : Nat} {sp : Sp} (F : Fun K x qual st f fd) (S : FnScope N ps (defScope st)) (len : ∀ vs H Q E, sp vs H Q E → vs.length = ps.length)
    (hbody : ∀ (cdv : Value) (A : Around) (outer : List Env) (s : Shared) (H : Hp) (vs : List V) (Q : VK) (E : XK), Room k (A.deeper (envOfC qual (defScope st) s.heap.objs.size f cdv)) → sp vs H Q E →
      ∃ t, PSs (cxOf (CXE P w) P w K mg base N qual (defScope st) f cdv A outer s H E) (defBody st) t ∧ t { nx := fun _ H' => Q .non H', rt := Q } (start N vs) H) : FnOk P w K mg base (CXE P w) (k + 1) f fd ps sp := by
  obtain ⟨oc, od, kV, doc, pm, an, cdv, ct, osl, rfl, lk, hcd⟩ := F.ex
  exact fn_of lk hcd S len fun A outer s H vs Q E hr hsp => hbody cdv A outer s H vs Q E hr hsp
/-- the text's error classes among one another -/
theorem exm_of {K : PySem.W.Frag} {C D : Addr} {b : Bool} (h1 : PySem.W.mroIn K D (.type "BaseException") = some true) (h2 : (PySem.W.clsIn K D).isSome = true) (h3 : PySem.W.typeIn K (.ref D) = some (.type "type")) (h4 : PySem.W.mroIn K C (.ref D) = some b) :
    PySem.W.exmOne K (.ref C) (.ref D) = some b := by
  unfold PySem.W.exmOne
  have e : PySem.W.subIn K (.ref D) (.type "BaseException") = some true := h1
  rw [e, if_pos (by decide)]
  unfold PySem.W.kitCls
  show (if ((PySem.W.clsIn K D).isSome && PySem.W.typeIn K (.ref D) == some (.type "type")) = true then PySem.W.subIn K (.ref C) (.ref D) else none) = some b
  rw [h2, h3, if_pos (by decide)]
  exact h4
theorem kit_own {K : PySem.W.Frag} {C D : Addr} {b : Bool} (h2 : (PySem.W.clsIn K D).isSome = true) (h3 : PySem.W.typeIn K (.ref D) = some (.type "type")) (h4 : PySem.W.mroIn K C (.ref D) = some b) (h5 : C = D → b = true) :
    PySem.W.kitOne K (.ref C) (.ref D) = some b := by
  unfold PySem.W.kitOne
  by_cases h : C = D
  · rw [if_pos (by simp [h]), h5 h]
  · rw [if_neg (by simp [h])]
    unfold PySem.W.kitCls
    show (if ((PySem.W.clsIn K D).isSome && PySem.W.typeIn K (.ref D) == some (.type "type")) = true then PySem.W.subIn K (.ref C) (.ref D) else none) = some b
    rw [h2, h3, if_pos (by decide)]
    exact h4
end L2
namespace L2
open PySem PySem.Spec PyProof.Rows
section
variable {σ : St} {H : Hp} {Q : VK} {D' : Ends} {E : XK} {EX : Value → Hp → Prop}
/-- a cut: what holds between two statements -/
theorem seq_by {t u : TS} (R : St → Hp → Prop) (hu : ∀ σ H, R σ H → u D' σ H) (ht : ∀ N : St → Hp → Prop, (∀ σ H, R σ H → N σ H) → t { D' with nx := N } σ H) : tSeq t u D' σ H := ht (u D') hu
theorem i_xDrop {te : TEx} (h : te σ H (fun _ H1 => D'.nx σ H1) EX) : xDrop te D' EX σ H := h
theorem i_xRet {te : TEx} (h : te σ H D'.rt EX) : xRet te D' EX σ H := h
theorem i_xSet {i : Nat} {te : TEx} (h : te σ H (fun v H1 => D'.nx (σ.set i (some v)) H1) EX) : xSet i te D' EX σ H := h
theorem i_xCall {sp : Sp} {t : TAx} (h : t σ H (fun vs H1 => sp vs H1 Q fun cls _ H' => EX cls H') EX) : xCall sp [] t σ H Q EX := by
  unfold xCall
  simpa only [List.append_nil] using h
theorem i_xCons {ta : TEx} {t : TAx} {R : List V → Hp → Prop} (h : ta σ H (fun x H1 => t σ H1 (fun xs H2 => R (x :: xs) H2) EX) EX) : xCons ta t σ H R EX := h
theorem i_xNil {R : List V → Hp → Prop} (h : R [] H) : xNil σ H R EX := h
theorem i_xE {t : TE} (h : t σ H Q) : xE t σ H Q EX := h
theorem i_tryAs {i : Nat} {hit : Value → Prop} {t : TSx} {th : TS} (h : t D' (fun cls H' => hit cls ∧ ∀ e, H' e = none →
  th { nx := fun σ' H' => D'.nx (σ'.set i none) H', rt := D'.rt, bk := fun σ' H' => D'.bk (σ'.set i none) H', ct := fun σ' H' => D'.ct (σ'.set i none) H' } (σ.set i (some (.ref e))) (upd H' e (excO e cls))) σ H) : tTryAs i hit t th D' σ H := h
theorem i_for {wi : TI} {g : TG} {tb : TS} (h : wi σ H fun J H1 => ∃ W : Nat → Nat → St → Hp → Prop, (∃ m, W 0 m σ H1) ∧ ∀ i m σ H, W i m σ H →
  (J.stop i H ∧ D'.nx σ H) ∨ (J.go i H ∧ ∃ N : St → Hp → Prop, (∀ σ' H', N σ' H' → ∃ m', m' < m ∧ W (i + 1) m' σ' H') ∧ ∀ x H', J.yld i H x H' → g x σ H' fun σ2 H2 => tb { D' with nx := N, ct := N, bk := D'.nx } σ2 H2)) : tFor wi g tb D' σ H := h
theorem i_rng1 {ta : TA} {R : It → Hp → Prop} (h : ta σ H fun vs H1 => ∃ j : Int, vs = [.int j] ∧ -(2 ^ 62) ≤ j ∧ j < 2 ^ 62 ∧ R (Itr 0 j.toNat) H1) : iRng1 ta σ H R := h
theorem i_rng2 {ta : TA} {R : It → Hp → Prop} (h : ta σ H fun vs H1 => ∃ i j : Int, vs = [.int i, .int j] ∧ (-(2 ^ 62) ≤ i ∧ i < 2 ^ 62 ∧ -(2 ^ 62) ≤ j ∧ j < 2 ^ 62) ∧ R (Itr i (j - i).toNat) H1) : iRng2 ta σ H R := h
theorem i_rng3 {ta : TA} {R : It → Hp → Prop} (h : ta σ H fun vs H1 => ∃ i j c : Int, vs = [.int i, .int j, .int c] ∧ (0 < c ∧ c < 1000000) ∧ Builtin.Range.small i j c = true ∧ R (Itr3 i c (Builtin.Range.rangeSize i j c).toNat) H1) : iRng3 ta σ H R := h
theorem i_iList {K : PySem.W.Frag} {tl : TE} {R : It → Hp → Prop} (h : tl σ H fun x H1 => ∃ a, x = .ref a ∧ (∃ xs, SqL K H1 a xs) ∧ R (Itl K a) H1) : iList K tl σ H R := h
theorem i_iTup {K : PySem.W.Frag} {tl : TE} {R : It → Hp → Prop} (h : tl σ H fun x H1 => ∃ a, x = .ref a ∧ (∃ xs, SqT K H1 a xs) ∧ R (Itt K a) H1) : iTup K tl σ H R := h
end
end L2
namespace L2
open PySem PySem.Spec PyProof.Rows
/-! ### the rules with the written part by its name (so that a block's or a handler's reading does not hang on its context) -/
section
variable {X : Cx} {K : PySem.W.Frag}
theorem ix_tupK (h : X.K = K := by rfl) : IxR X (rIxT K) := h ▸ ix_tup
theorem ix_listK (h : X.K = K := by rfl) : IxR X (rIxL K) := h ▸ ix_list
theorem call_isiK (h : X.K = K := by rfl) : CallR X (.builtin "isinstance") (rIsi K) := h ▸ call_isi
theorem call_isiTK (h : X.K = K := by rfl) : CallR X (.builtin "isinstance") (rIsiT K) := h ▸ call_isiT
theorem call_lenK (h : X.K = K := by rfl) : CallR X (.builtin "len") (fun xs H Q => ∃ p ys, xs = [.ref p] ∧ (SqL K H p ys ∨ SqT K H p ys) ∧ Q (.int ys.length) H) := h ▸ call_len_seq
theorem call_listK (h : X.K = K := by rfl) : CallR X (.type "list") (fun xs H Q => ∃ p ys, xs = [.ref p] ∧ (SqL K H p ys ∨ SqT K H p ys) ∧ ∀ l, H l = none → Q (.ref l) (upd H l (.lst ys))) := h ▸ call_list_of
theorem call_tupleK (h : X.K = K := by rfl) : CallR X (.type "tuple") (fun xs H Q => ∃ p ys, xs = [.ref p] ∧ ((SqL K H p ys ∧ ∀ l, H l = none → Q (.ref l) (upd H l (.tup ys))) ∨ (SqT K H p ys ∧ Q (.ref p) H))) := h ▸ call_tuple_of
theorem op_inK (h : X.K = K := by rfl) : OpR X (compareOp .In) (rIn K false) := h ▸ op_in_seq
theorem op_notInK (h : X.K = K := by rfl) : OpR X (compareOp .NotIn) (rIn K true) := h ▸ op_notIn_seq
theorem sl_listK (h : X.K = K := by rfl) : SlR X (rSlL K) := h ▸ sl_list
variable {tg l : Expr} {tl : TE}
theorem pi_listK (hl : PE X l tl) (h : X.K = K := by rfl) : PI X tg l (iList K tl) := h ▸ pi_list hl
theorem pi_tupK (hl : PE X l tl) (h : X.K = K := by rfl) : PI X tg l (iTup K tl) := h ▸ pi_tup hl
theorem pg_tupK {es : List Expr} {k : Nat} {t : TGs} {n : Nat} {pos : Pos} (hc : X.calm = true) (h : PGs X es t) (hK : X.K = K := by rfl)
    (hn : (assignEach es X.env).length = n := by rfl) (hst : (assignEach es X.env).findIdx? (·.1) = none := by rfl) : PG X (.Tuple es k pos) (gTup K n t) := hK ▸ pg_tup hc h hn hst
theorem cap_nil {sc : Scope} : CapOk X sc [] [] := trivial
theorem cap_own {sc : Scope} {r : List (Option Nat)} {n : List Str} {x : Str} (h : CapOk X sc r n) : CapOk X sc (none :: r) (x :: n) := h
theorem cap_out {sc : Scope} {r : List (Option Nat)} {n : List Str} {x : Str} {i : Nat} (h1 : X.N[i]? = some x) (h2 : sc.names.lookup x = some .free) (h : CapOk X sc r n) : CapOk X sc (some i :: r) (x :: n) := ⟨⟨h1, h2⟩, h⟩
end
def blkOk (osc sc : Scope) : Bool := sc.names.all (fun y => y.2 != .cell) && sc.kind == .function && sc.names.all (fun y => y.2 != .local || sc.names.lookup y.1 == some .local) &&
  sc.names.all (fun y => y.2 != .free || (osc.names.lookup y.1 == some .cell || osc.names.lookup y.1 == some .free))
theorem blk {X : Cx} {osc sc : Scope} (hs : X.env.scope = osc) (h : blkOk osc sc = true) : BlockOk X sc := by
  unfold blkOk at h
  simp only [Bool.and_eq_true, List.all_eq_true, bne_iff_ne, ne_eq, beq_iff_eq, Bool.or_eq_true] at h
  obtain ⟨⟨⟨h1, h2⟩, h3⟩, h4⟩ := h
  refine ⟨h1, h2, fun y hy e => (h3 y hy).resolve_left fun z => z e, fun y hy e => ?_⟩
  show X.env.scope.names.lookup y.1 = _ ∨ X.env.scope.names.lookup y.1 = _
  rw [hs]
  exact (h4 y hy).resolve_left fun z => z e
end L2
namespace L2
open PySem PySem.Spec PyProof.Rows
/-! ### loops by what holds between two turns; nx: what is wanted behind, rt: of a return -/
section
variable {g : TG} {tb : TS} {σ : St} {H : Hp} {nx : St → Hp → Prop} {rt : VK}
theorem forN_range3 {lo st : Int} {n : Nat} (Pv : Nat → St → Hp → Prop) (h0 : Pv 0 σ H)
    (hs : ∀ i σ H, i < n → Pv i σ H → g (.int (lo + i * st)) σ H fun σ2 H2 => tb { nx := Pv (i + 1), rt := rt, bk := nx, ct := Pv (i + 1) } σ2 H2) (hd : ∀ σ H, Pv n σ H → nx σ H) :
    ∃ W : Nat → Nat → St → Hp → Prop, (∃ m, W 0 m σ H) ∧ ∀ i m σ H, W i m σ H →
      ((Itr3 lo st n).stop i H ∧ nx σ H) ∨ ((Itr3 lo st n).go i H ∧ ∃ N : St → Hp → Prop, (∀ σ' H', N σ' H' → ∃ m', m' < m ∧ W (i + 1) m' σ' H') ∧ ∀ x H', (Itr3 lo st n).yld i H x H' → g x σ H' fun σ2 H2 => tb { nx := N, rt := rt, bk := nx, ct := N } σ2 H2) :=
  for_range3 (D := { nx := nx, rt := rt }) Pv h0 hs hd
theorem forN_range {lo : Int} {n : Nat} (Pv : Nat → St → Hp → Prop) (h0 : Pv 0 σ H)
    (hs : ∀ i σ H, i < n → Pv i σ H → g (.int (lo + i)) σ H fun σ2 H2 => tb { nx := Pv (i + 1), rt := rt, bk := nx, ct := Pv (i + 1) } σ2 H2) (hd : ∀ σ H, Pv n σ H → nx σ H) :
    ∃ W : Nat → Nat → St → Hp → Prop, (∃ m, W 0 m σ H) ∧ ∀ i m σ H, W i m σ H →
      ((Itr lo n).stop i H ∧ nx σ H) ∨ ((Itr lo n).go i H ∧ ∃ N : St → Hp → Prop, (∀ σ' H', N σ' H' → ∃ m', m' < m ∧ W (i + 1) m' σ' H') ∧ ∀ x H', (Itr lo n).yld i H x H' → g x σ H' fun σ2 H2 => tb { nx := N, rt := rt, bk := nx, ct := N } σ2 H2) :=
  for_range (D := { nx := nx, rt := rt }) Pv h0 hs hd
theorem forN_list {K : PySem.W.Frag} {a : Addr} {xs : List V} (Pv : Nat → St → Hp → Prop) (h0 : Pv 0 σ H) (hl : ∀ i σ H, i ≤ xs.length → Pv i σ H → SqL K H a xs)
    (hs : ∀ i x σ H, xs[i]? = some x → Pv i σ H → g x σ H fun σ2 H2 => tb { nx := Pv (i + 1), rt := rt, bk := nx, ct := Pv (i + 1) } σ2 H2) (hd : ∀ σ H, Pv xs.length σ H → nx σ H) :
    ∃ W : Nat → Nat → St → Hp → Prop, (∃ m, W 0 m σ H) ∧ ∀ i m σ H, W i m σ H →
      ((Itl K a).stop i H ∧ nx σ H) ∨ ((Itl K a).go i H ∧ ∃ N : St → Hp → Prop, (∀ σ' H', N σ' H' → ∃ m', m' < m ∧ W (i + 1) m' σ' H') ∧ ∀ x H', (Itl K a).yld i H x H' → g x σ H' fun σ2 H2 => tb { nx := N, rt := rt, bk := nx, ct := N } σ2 H2) :=
  for_list (D := { nx := nx, rt := rt }) Pv h0 hl hs hd
theorem forN_tup {K : PySem.W.Frag} {a : Addr} {xs : List V} (Pv : Nat → St → Hp → Prop) (h0 : Pv 0 σ H) (hl : ∀ i σ H, i ≤ xs.length → Pv i σ H → SqT K H a xs)
    (hs : ∀ i x σ H, xs[i]? = some x → Pv i σ H → g x σ H fun σ2 H2 => tb { nx := Pv (i + 1), rt := rt, bk := nx, ct := Pv (i + 1) } σ2 H2) (hd : ∀ σ H, Pv xs.length σ H → nx σ H) :
    ∃ W : Nat → Nat → St → Hp → Prop, (∃ m, W 0 m σ H) ∧ ∀ i m σ H, W i m σ H →
      ((Itt K a).stop i H ∧ nx σ H) ∨ ((Itt K a).go i H ∧ ∃ N : St → Hp → Prop, (∀ σ' H', N σ' H' → ∃ m', m' < m ∧ W (i + 1) m' σ' H') ∧ ∀ x H', (Itt K a).yld i H x H' → g x σ H' fun σ2 H2 => tb { nx := N, rt := rt, bk := nx, ct := N } σ2 H2) :=
  for_tup (D := { nx := nx, rt := rt }) Pv h0 hl hs hd
end
theorem range_small {b c : Int} (h0 : 0 ≤ b) (h1 : b ≤ 1000000) (h2 : 0 < c) (h3 : c < 1000000) : Builtin.Range.small 0 b c = true := by
  have hd : 0 ≤ Builtin.Range.rangeSize 0 b c ∧ Builtin.Range.rangeSize 0 b c ≤ 1000001 := by
    unfold Builtin.Range.rangeSize
    rw [if_pos (show c > 0 from h2)]
    split
    · have e1 := Int.ediv_nonneg (a := b - 0 - 1) (b := c) (by omega) (by omega)
      have e2 := Int.ediv_le_self c (show (0 : Int) ≤ b - 0 - 1 by omega)
      omega
    · omega
  unfold Builtin.Range.small
  generalize Builtin.Range.rangeSize 0 b c = n at hd
  rw [if_pos (show c > 0 from h2)]
  have fl : ∀ x : Int, -10000000 ≤ x → x ≤ 10000000 → Builtin.Range.rangeFitsLong x = true := fun x l u => by
    unfold Builtin.Range.rangeFitsLong
    simp only [Bool.and_eq_true, decide_eq_true_eq]
    omega
  rw [fl 0 (by omega) (by omega), fl b (by omega) (by omega), fl c (by omega) (by omega), fl n (by omega) (by omega), fl (b + (c - 1)) (by omega) (by omega)]
  simp
end L2
namespace L2
open PySem PySem.Spec PyProof.Rows

/-! ### two values of the same data are equal -/
mutual
def D.depth : D → Nat
  | .tup l => D.depths l + 1
  | .lst l => D.depths l + 1
  | .ins _ _ _ => 1000
  | _ => 0
def D.depths : List D → Nat
  | [] => 0
  | d :: r => max (D.depth d) (D.depths r)
end
theorem D.depth_mem : ∀ {l : List D} {i : Nat} {d : D}, l[i]? = some d → D.depth d ≤ D.depths l
  | [], _, _, h => by simp at h
  | a :: r, 0, d, h => by
    simp at h
    subst h
    unfold D.depths
    omega
  | a :: r, i + 1, d, h => by
    have := D.depth_mem (l := r) (i := i) (d := d) (by simpa using h)
    unfold D.depths
    omega
section
variable {X : Cx} {pins : List (Addr × Obj)} {σ : St} {H : Hp} {s : Shared}
theorem all_true (n : Nat) : (List.range n).all (fun _ => true) = true := by simp
theorem eq_items {A : Around} {xs ys : List V} {its its2 : List Value} {l : List D} (rx : Vals xs its) (ry : Vals ys its2) (hx : IsL X.K H xs l) (hy : IsL X.K H ys l)
    (k : ∀ {x y : V} {u v : Value} {d : D} {i : Nat}, l[i]? = some d → Is X.K H x d → Is X.K H y d → RelV x u → RelV y v → SeqAt.EqAt A.in1 s u v true) :
    ∀ j (h1 : j < its.toArray.size) (h2 : j < its2.toArray.size), SeqAt.EqAt A.in1 s its.toArray[j] its2.toArray[j] true := by
  intro j h1 h2
  have e1 : j < xs.length := by rw [rx.length]; simpa using h1
  have e2 : j < ys.length := by rw [ry.length]; simpa using h2
  have el : j < l.length := by rw [← hx.len]; exact e1
  obtain ⟨x, hx1, hx2⟩ := hx.get (i := j) (d := l[j]) (List.getElem?_eq_getElem el)
  obtain ⟨y, hy1, hy2⟩ := hy.get (i := j) (d := l[j]) (List.getElem?_eq_getElem el)
  obtain ⟨u, hu, ru⟩ := rx.get hx1
  obtain ⟨v, hv, rv⟩ := ry.get hy1
  have g1 : its.toArray[j] = u := by
    have : its[j]? = some its[j] := List.getElem?_eq_getElem (by simpa using h1)
    rw [hu] at this
    simpa using (Option.some.inj this).symm
  have g2 : its2.toArray[j] = v := by
    have : its2[j]? = some its2[j] := List.getElem?_eq_getElem (by simpa using h2)
    rw [hv] at this
    simpa using (Option.some.inj this).symm
  rw [g1, g2]
  exact k (List.getElem?_eq_getElem el) hx2 hy2 ru rv
theorem eqAt_same (I : Inv X pins σ H s) : ∀ (n : Nat), n ≤ 40 → ∀ {A : Around} {d : D} {x y : V} {u v : Value}, D.depth d ≤ n → A.units + n < cLine → Is X.K H x d → Is X.K H y d → RelV x u → RelV y v → SeqAt.EqAt A s u v true := by
  intro n
  induction n with
  | zero =>
    intro _ A d x y u v hd hu hx hy ru rv
    cases d with
    | non => rw [hx.non_inv] at ru; rw [hy.non_inv] at rv; cases ru; cases rv; exact SeqAt.EqAt.same _
    | bl b => rw [hx.bl_inv] at ru; rw [hy.bl_inv] at rv; cases ru; cases rv; exact SeqAt.EqAt.same _
    | int i =>
      rw [hx.int_inv] at ru; rw [hy.int_inv] at rv
      obtain ⟨t, rfl⟩ := ru
      obtain ⟨t', rfl⟩ := rv
      have := SeqAt.EqAt.int_int (A := A) (s := s) i t i t'
      rwa [beq_self_eq_true] at this
    | str z =>
      rw [hx.str_inv] at ru; rw [hy.str_inv] at rv
      obtain ⟨t, rfl⟩ := ru
      obtain ⟨t', rfl⟩ := rv
      have := SeqAt.EqAt.str_str (A := A) (s := s) z t z t'
      rwa [beq_self_eq_true] at this
    | tup l => unfold D.depth at hd; omega
    | lst l => unfold D.depth at hd; omega
    | ins C ns l => unfold D.depth at hd; omega
  | succ n ih =>
    intro h40 A d x y u v hd hu hx hy ru rv
    have sub : ∀ {l : List D}, D.depths l ≤ n → ∀ {x y : V} {u v : Value} {d : D} {i : Nat}, l[i]? = some d → Is X.K H x d → Is X.K H y d → RelV x u → RelV y v → SeqAt.EqAt A.in1 s u v true := by
      intro l hl x y u v d i hi hx hy ru rv
      exact ih (by omega) (A := A.in1) (Nat.le_trans (D.depth_mem hi) hl) (by show A.units + 1 + n < cLine; omega) hx hy ru rv
    cases d with
    | non => rw [hx.non_inv] at ru; rw [hy.non_inv] at rv; cases ru; cases rv; exact SeqAt.EqAt.same _
    | bl b => rw [hx.bl_inv] at ru; rw [hy.bl_inv] at rv; cases ru; cases rv; exact SeqAt.EqAt.same _
    | int i =>
      rw [hx.int_inv] at ru; rw [hy.int_inv] at rv
      obtain ⟨t, rfl⟩ := ru
      obtain ⟨t', rfl⟩ := rv
      have := SeqAt.EqAt.int_int (A := A) (s := s) i t i t'
      rwa [beq_self_eq_true] at this
    | str z =>
      rw [hx.str_inv] at ru; rw [hy.str_inv] at rv
      obtain ⟨t, rfl⟩ := ru
      obtain ⟨t', rfl⟩ := rv
      have := SeqAt.EqAt.str_str (A := A) (s := s) z t z t'
      rwa [beq_self_eq_true] at this
    | tup l =>
      obtain ⟨a, xs, rfl, h1, h2⟩ := hx.tup_inv
      obtain ⟨b, ys, rfl, g1, g2⟩ := hy.tup_inv
      cases ru; cases rv
      by_cases hab : a = b
      · subst hab; exact SeqAt.EqAt.same _
      · obtain ⟨its, r1, p1, _⟩ := I.tuple h1
        obtain ⟨its2, r2, p2, _⟩ := I.tuple g1
        refine SeqAt.EqAt.of_refs hab ?_
        have := SeqAt.RcAt.tuples (A := A) (e := fun _ => true) p1 p2 (by omega) (eq_items r1 r2 h2 g2 (sub (by unfold D.depth at hd; omega)))
        have hs : (its.toArray.size == its2.toArray.size) = true := by
          have e1 := r1.length; have e2 := r2.length; have e3 := h2.len; have e4 := g2.len
          simp; omega
        rwa [all_true, hs] at this
    | lst l =>
      obtain ⟨a, xs, rfl, h1, h2⟩ := hx.lst_inv
      obtain ⟨b, ys, rfl, g1, g2⟩ := hy.lst_inv
      cases ru; cases rv
      by_cases hab : a = b
      · subst hab; exact SeqAt.EqAt.same _
      · obtain ⟨its, r1, p1, _⟩ := I.list h1
        obtain ⟨its2, r2, p2, _⟩ := I.list g1
        refine SeqAt.EqAt.of_refs hab ?_
        have hs : its.toArray.size = its2.toArray.size := by
          have e1 := r1.length; have e2 := r2.length; have e3 := h2.len; have e4 := g2.len
          simp; omega
        have := SeqAt.RcAt.lists (A := A) (e := fun _ => true) p1.isList p2.isList hs (by omega) (eq_items r1 r2 h2 g2 (sub (by unfold D.depth at hd; omega)))
        rwa [all_true] at this
    | ins C ns l => unfold D.depth at hd; omega
/-- x == y, both lists or both tuples, of the same data -/
def rEqSame (K : PySem.W.Frag) : R2 := fun x y H Q => ∃ d : D, (∃ l, d = .tup l ∨ d = .lst l) ∧ Is K H x d ∧ Is K H y d ∧ D.depth d ≤ 40 ∧ Q (.bl true) H
theorem op_eqD {k : Nat} {K : PySem.W.Frag} (hr : Room k X.A) (hK : X.K = K := by rfl) : OpR X (compareOp .Eq) (rEqSame K) := by
  subst hK
  intro pins s σ H x y v u Q I rx ry h
  obtain ⟨d, ⟨l, hd⟩, hx, hy, hn, q⟩ := h
  have hu : X.A.units + 41 < cLine := Nat.lt_of_le_of_lt (by omega) hr.units
  rcases hd with rfl | rfl
  · obtain ⟨a, xs, rfl, h1, h2⟩ := hx.tup_inv
    obtain ⟨b, ys, rfl, g1, g2⟩ := hy.tup_inv
    cases rx; cases ry
    obtain ⟨its, r1, p1, _⟩ := I.tuple h1
    obtain ⟨its2, r2, p2, _⟩ := I.tuple g1
    have hs : (its.toArray.size == its2.toArray.size) = true := by
      have e1 := r1.length; have e2 := r2.length; have e3 := h2.len; have e4 := g2.len
      simp; omega
    refine SeqAt.eq_tupleAt (e := fun _ => true) p1 p2 (by omega) (eq_items r1 r2 h2 g2 fun hi hx hy ru rv => eqAt_same (A := X.A.in1) I 40 (by decide) (Nat.le_trans (D.depth_mem hi) (by unfold D.depth at hn; omega)) (by show X.A.units + 1 + 40 < cLine; omega) hx hy ru rv) ?_
    rw [all_true, hs]
    exact ⟨.bl true, H, I, rfl, q⟩
  · obtain ⟨a, xs, rfl, h1, h2⟩ := hx.lst_inv
    obtain ⟨b, ys, rfl, g1, g2⟩ := hy.lst_inv
    cases rx; cases ry
    obtain ⟨its, r1, p1, _⟩ := I.list h1
    obtain ⟨its2, r2, p2, _⟩ := I.list g1
    have hs : its.toArray.size = its2.toArray.size := by
      have e1 := r1.length; have e2 := r2.length; have e3 := h2.len; have e4 := g2.len
      simp; omega
    refine SeqAt.eq_listAt (e := fun _ => true) p1.isList p2.isList hs (by omega) (eq_items r1 r2 h2 g2 fun hi hx hy ru rv => eqAt_same (A := X.A.in1) I 40 (by decide) (Nat.le_trans (D.depth_mem hi) (by unfold D.depth at hn; omega)) (by show X.A.units + 1 + 40 < cLine; omega) hx hy ru rv) ?_
    rw [all_true]
    exact ⟨.bl true, H, I, rfl, q⟩
end
end L2
namespace L2
open PySem PySem.Spec PyProof.Rows
section
variable {σ : St} {H : Hp} {Q : VK} {D' : Ends} {cap : List (Option Nat)} {wi : TI} {g : TG} {tt : TT} {te : TE}
theorem i_comp (h : wi σ H fun J H1 => ∀ acc, H1 acc = none → CompW cap g tt te J σ acc H1 fun H2 => Q (.ref acc) H2) : tComp cap wi g tt te σ H Q := h
theorem i_setComp {i : Nat} (h : wi σ H fun J H1 => ∀ acc, H1 acc = none → CompW cap g tt te J σ acc H1 fun H2 => D'.nx (σ.set i (some (.ref acc))) H2) : tSetComp i cap wi g tt te D' σ H := h
theorem i_tt {Q : Bool → Hp → Prop} (h : Q true H) : (fun (_ : St) (H : Hp) (Q : Bool → Hp → Prop) => Q true H) σ H Q := h
variable {acc : Addr} {H0 : Hp} {Qh : Hp → Prop}
/-- a turn of a comprehension: R, what is wanted of the list by then -/
def CTurn (cap : List (Option Nat)) (g : TG) (tt : TT) (te : TE) (σ : St) (acc : Addr) (x : V) (ys : List V) (H : Hp) (R : List V → Hp → Prop) : Prop :=
  g x (capSt cap σ) H fun σ2 H2 => tt σ2 H2 fun b H3 => if b = true then te σ2 H3 fun v H4 => H4 acc = some (.lst ys) ∧ ys.length < sizeLine ∧ R (ys ++ [v]) (upd H4 acc (.lst (ys ++ [v]))) else R ys H3
theorem compN_range {lo : Int} {n : Nat} (Pv : Nat → List V → Hp → Prop) (h0 : Pv 0 [] (upd H0 acc (.lst [])))
    (hs : ∀ i ys H R, i < n → Pv i ys H → (∀ ys H, Pv (i + 1) ys H → R ys H) → CTurn cap g tt te σ acc (.int (lo + i)) ys H R)
    (hd : ∀ ys H, Pv n ys H → Qh H) : CompW cap g tt te (Itr lo n) σ acc H0 Qh := by
  refine ⟨fun i m ys H => m = n - i ∧ i ≤ n ∧ Pv i ys H, ⟨n, by simp, Nat.zero_le _, h0⟩, ?_⟩
  rintro i m ys H ⟨rfl, hi, p⟩
  by_cases hlt : i < n
  · refine .inr ⟨hlt, fun x H' y => ?_⟩
    obtain ⟨e, y⟩ := y
    subst e y
    exact hs i ys _ (fun ys H => ∃ m', m' < n - i ∧ m' = n - (i + 1) ∧ i + 1 ≤ n ∧ Pv (i + 1) ys H) hlt p fun ys H q => ⟨n - (i + 1), by omega, rfl, hlt, q⟩
  · have e : i = n := by omega
    subst e
    exact .inl ⟨Nat.le_refl _, hd ys H p⟩
theorem compN_list {K : PySem.W.Frag} {a : Addr} {xs : List V} (Pv : Nat → List V → Hp → Prop) (h0 : Pv 0 [] (upd H0 acc (.lst []))) (hl : ∀ i ys H, i ≤ xs.length → Pv i ys H → SqL K H a xs)
    (hs : ∀ i x ys H R, xs[i]? = some x → Pv i ys H → (∀ ys H, Pv (i + 1) ys H → R ys H) → CTurn cap g tt te σ acc x ys H R)
    (hd : ∀ ys H, Pv xs.length ys H → Qh H) : CompW cap g tt te (Itl K a) σ acc H0 Qh := by
  refine ⟨fun i m ys H => m = xs.length - i ∧ i ≤ xs.length ∧ Pv i ys H, ⟨xs.length, by simp, Nat.zero_le _, h0⟩, ?_⟩
  rintro i m ys H ⟨rfl, hi, p⟩
  have q := hl i ys H hi p
  by_cases hlt : i < xs.length
  · refine .inr ⟨⟨xs, xs[i], q, by simp [hlt]⟩, fun x H' y => ?_⟩
    obtain ⟨e, y⟩ := y
    subst e
    exact hs i x ys _ (fun ys H => ∃ m', m' < xs.length - i ∧ m' = xs.length - (i + 1) ∧ i + 1 ≤ xs.length ∧ Pv (i + 1) ys H) (y xs q) p fun ys H q => ⟨xs.length - (i + 1), by omega, rfl, hlt, q⟩
  · have e : i = xs.length := by omega
    subst e
    exact .inl ⟨⟨xs, q, Nat.le_refl _⟩, hd ys H p⟩
theorem compN_tup {K : PySem.W.Frag} {a : Addr} {xs : List V} (Pv : Nat → List V → Hp → Prop) (h0 : Pv 0 [] (upd H0 acc (.lst []))) (hl : ∀ i ys H, i ≤ xs.length → Pv i ys H → SqT K H a xs)
    (hs : ∀ i x ys H R, xs[i]? = some x → Pv i ys H → (∀ ys H, Pv (i + 1) ys H → R ys H) → CTurn cap g tt te σ acc x ys H R)
    (hd : ∀ ys H, Pv xs.length ys H → Qh H) : CompW cap g tt te (Itt K a) σ acc H0 Qh := by
  refine ⟨fun i m ys H => m = xs.length - i ∧ i ≤ xs.length ∧ Pv i ys H, ⟨xs.length, by simp, Nat.zero_le _, h0⟩, ?_⟩
  rintro i m ys H ⟨rfl, hi, p⟩
  have q := hl i ys H hi p
  by_cases hlt : i < xs.length
  · refine .inr ⟨⟨xs, xs[i], q, by simp [hlt]⟩, fun x H' y => ?_⟩
    obtain ⟨e, y⟩ := y
    subst e
    exact hs i x ys _ (fun ys H => ∃ m', m' < xs.length - i ∧ m' = xs.length - (i + 1) ∧ i + 1 ≤ xs.length ∧ Pv (i + 1) ys H) (y xs q) p fun ys H q => ⟨xs.length - (i + 1), by omega, rfl, hlt, q⟩
  · have e : i = xs.length := by omega
    subst e
    exact .inl ⟨⟨xs, q, Nat.le_refl _⟩, hd ys H p⟩
theorem i_eqSame {K : PySem.W.Frag} {x y : V} (d : D) (h1 : ∃ l, d = .tup l ∨ d = .lst l) (h2 : Is K H x d) (h3 : Is K H y d) (h4 : D.depth d ≤ 40) (h : Q (.bl true) H) : rEqSame K x y H Q := ⟨d, h1, h2, h3, h4, h⟩
end
theorem Same.upd_at {H H' : Hp} {a : Addr} {o : HO} (S : Same H H') (h : H a = none) : Same H (upd H' a o) := fun b u e => by
  rw [upd_ne (ne_of_none e h)]
  exact S b u e
end L2
namespace L2
open PySem PySem.Spec PyProof.Rows
section
variable {X : Cx}
/-- x != y, both lists or both tuples, of the same data -/
def rNeSame (K : PySem.W.Frag) : R2 := fun x y H Q => ∃ d : D, (∃ l, d = .tup l ∨ d = .lst l) ∧ Is K H x d ∧ Is K H y d ∧ D.depth d ≤ 40 ∧ Q (.bl false) H
theorem op_neD {k : Nat} {K : PySem.W.Frag} (hr : Room k X.A) (hK : X.K = K := by rfl) : OpR X (compareOp .NotEq) (rNeSame K) := by
  subst hK
  intro pins s σ H x y v u Q I rx ry h
  obtain ⟨d, ⟨l, hd⟩, hx, hy, hn, q⟩ := h
  have hu : X.A.units + 41 < cLine := Nat.lt_of_le_of_lt (by omega) hr.units
  rcases hd with rfl | rfl
  · obtain ⟨a, xs, rfl, h1, h2⟩ := hx.tup_inv
    obtain ⟨b, ys, rfl, g1, g2⟩ := hy.tup_inv
    cases rx; cases ry
    obtain ⟨its, r1, p1, _⟩ := I.tuple h1
    obtain ⟨its2, r2, p2, _⟩ := I.tuple g1
    have hs : (its.toArray.size == its2.toArray.size) = true := by
      have e1 := r1.length; have e2 := r2.length; have e3 := h2.len; have e4 := g2.len
      simp; omega
    refine SeqAt.RcNeAt.tuples (e := fun _ => true) p1 p2 (by omega) (eq_items r1 r2 h2 g2 fun hi hx hy ru rv => eqAt_same (A := X.A.in1) I 40 (by decide) (Nat.le_trans (D.depth_mem hi) (by unfold D.depth at hn; omega)) (by show X.A.units + 1 + 40 < cLine; omega) hx hy ru rv) _ _ _ _ ?_
    rw [all_true, hs]
    exact ⟨.bl false, H, I, rfl, q⟩
  · obtain ⟨a, xs, rfl, h1, h2⟩ := hx.lst_inv
    obtain ⟨b, ys, rfl, g1, g2⟩ := hy.lst_inv
    cases rx; cases ry
    obtain ⟨its, r1, p1, _⟩ := I.list h1
    obtain ⟨its2, r2, p2, _⟩ := I.list g1
    have hs : its.toArray.size = its2.toArray.size := by
      have e1 := r1.length; have e2 := r2.length; have e3 := h2.len; have e4 := g2.len
      simp; omega
    refine SeqAt.RcNeAt.lists (e := fun _ => true) p1.isList p2.isList hs (by omega) (eq_items r1 r2 h2 g2 fun hi hx hy ru rv => eqAt_same (A := X.A.in1) I 40 (by decide) (Nat.le_trans (D.depth_mem hi) (by unfold D.depth at hn; omega)) (by show X.A.units + 1 + 40 < cLine; omega) hx hy ru rv) _ _ _ _ ?_
    rw [all_true]
    exact ⟨.bl false, H, I, rfl, q⟩
theorem i_neSame {H : Hp} {Q : VK} {K : PySem.W.Frag} {x y : V} (d : D) (h1 : ∃ l, d = .tup l ∨ d = .lst l) (h2 : Is K H x d) (h3 : Is K H y d) (h4 : D.depth d ≤ 40) (h : Q (.bl false) H) : rNeSame K x y H Q := ⟨d, h1, h2, h3, h4, h⟩
end
end L2
namespace L2
open PySem PySem.Spec PyProof.Rows
section
variable {X : Cx} {pins : List (Addr × Obj)} {σ : List (Option V)} {H H' : Hp} {s : Shared} {h' : Heap}
/-- several records of an iterator turned -/
theorem Inv.turnedL {t' : Nat} {fp : List Addr} (I : Inv X pins σ H s) (k : ∀ b o, b ∉ fp → s.heap.get? b = some o → h'.get? b = some o) (hf : ∀ b ∈ fp, FpOk X pins H b) : Inv X pins σ H { s with heap := h', toks := t' } := by
  have nit : ∀ b u, H b = some u → b ∉ fp := fun b u e z => by rw [(hf b z).1] at e; cases e
  refine I.step (g' := s.gens) (d' := s.drawn) (ch := fp) (fun b hb => ?_) (fun b o _ _ hc e _ => k b o hc e) (fun b o _ _ hc e _ => ⟨o.slots, k b o hc e⟩) (fun _ _ _ _ n => n)
    (fun b o hc e => ⟨o, k b o hc e⟩) (fun _ _ e => e) (fun _ _ _ e => e) (fun b ps e => ⟨#[], by rw [e]; simp⟩) (fun m hm => ?_) (fun b u e => ?_) I.bare
  · obtain ⟨f0, f1, f2, f3, f4, f5⟩ := hf b hb
    exact ⟨f3, f1, f4, f5⟩
  · obtain ⟨o, es, ep, ho, r⟩ := hm
    exact ⟨o, es, ep, k _ o (fun z => (hf _ z).2.1 rfl) ho, r⟩
  · refine (I.hok b u e).stay (fun c v hc q => k c v ?_ q) (fun _ q => q) fun _ _ q => q
    rcases hc with z | z
    · rw [z]; exact nit b u e
    · exact nit c _ z
/-- .. and a new tuple laid beside them -/
theorem Inv.turnedT {t' : Nat} {fp : List Addr} {ys : List V} {us : List Value} (I : Inv X pins σ H s) (hv : Vals ys us) (hl : ys.length ≤ sizeLine) (k : ∀ b o, b ∉ fp → s.heap.get? b = some o → h'.get? b = some o)
    (hp : h'.get? s.heap.objs.size = some { cls := .type "tuple", data := .seq us.toArray }) (hf : ∀ b ∈ fp, FpOk X pins H b) (hx : ∀ b ∈ fp, ∃ o, s.heap.get? b = some o) :
    Inv X pins σ (upd H s.heap.objs.size (.tup ys)) { s with heap := h', toks := t' } ∧ H s.heap.objs.size = none ∧ ∀ b ∈ fp, upd H s.heap.objs.size (.tup ys) b = none := by
  have fr : H s.heap.objs.size = none := I.hok.fresh (Nat.le_refl _)
  have nb : ∀ b ∈ fp, b ≠ s.heap.objs.size := fun b hb z => by
    obtain ⟨o, e⟩ := hx b hb
    exact absurd (Heap.lt_size e) (by rw [z]; exact Nat.lt_irrefl _)
  have fb : ∀ b ∈ fp, upd H s.heap.objs.size (.tup ys) b = none := fun b hb => by rw [upd_ne (nb b hb)]; exact (hf b hb).1
  have I0 : Inv X pins σ (upd H s.heap.objs.size (.tup ys)) { s with heap := s.heap.push { cls := .type "tuple", data := .seq us.toArray } } :=
    I.laid (t' := s.toks) (fun b o e => Heap.get?_push_of_some _ e) (Nat.le_refl _) ⟨hl, us, hv, IsTup.new _ _⟩
  refine ⟨Inv.turnedL (s := { s with heap := s.heap.push { cls := .type "tuple", data := .seq us.toArray } }) (t' := t') (fp := fp) I0 (fun b o hb e => ?_) (fun b hb => ?_), fr, fb⟩
  · by_cases z : b = s.heap.objs.size
    · subst z
      rw [Heap.get?_push_size _ rfl] at e
      cases e
      exact hp
    · refine k b o hb ?_
      rwa [Heap.get?_push_ne _ _ _ z] at e
  · obtain ⟨f0, f1, f2, f3, f4, f5⟩ := hf b hb
    exact ⟨fb b hb, f1, f2, f3, f4, f5⟩
end
end L2
namespace L2
open PySem PySem.Spec PyProof.Rows
/-- enumerate of the list at a: (i, its i-th), a new tuple each time -/
def Ite (K : PySem.W.Frag) (a : Addr) : It :=
  ⟨fun i H => ∃ xs x, SqL K H a xs ∧ xs[i]? = some x, fun i H x H' => ∃ p y, x = .ref p ∧ H p = none ∧ H' = upd H p (.tup [.int i, y]) ∧ ∀ xs, SqL K H a xs → xs[i]? = some y, fun i H => ∃ xs, SqL K H a xs ∧ xs.length ≤ i⟩
theorem turn_enum {P : Program} {w : World} {K : PySem.W.Frag} {elts : List Expr} {k : Nat} {tp : Pos} (a e it : Addr) (hne : e ≠ it) :
    Turn P w K (.Tuple elts k tp) (Ite K a) [e, it] e (fun i h => (∃ old, IsEnum h e it i old) ∧ h.IsListIter it a i) where
  mem := by simp
  obj := fun i h st b hb => by
    obtain ⟨⟨old, he⟩, o, e', c, d⟩ := st
    rcases (by simpa using hb : b = e ∨ b = it) with rfl | rfl
    · exact ⟨_, he, fun v z => by cases z⟩
    · exact ⟨o, e', fun v z => by rw [d] at z; cases z⟩
  keep := fun i h h' st k => ⟨let ⟨old, he⟩ := st.1; ⟨old, k e (by simp) _ he⟩, st.2.at fun o e => k it (by simp) o e⟩
  item := by
    intro X hP hw hK hc i pins s σ H E I hf st hg
    subst hP hw hK
    obtain ⟨xs, x, hq, hx⟩ := hg
    obtain ⟨its, rv, p, hz⟩ := I.list hq
    obtain ⟨u, hu, ru⟩ := rv.get hx
    obtain ⟨⟨old, he⟩, hit⟩ := st
    refine wpAny_pyNext_enum_item he hit p.isList (x := u) (by simpa using hu) hne fun h1 heo hit1 ht1 hz1 hk1 => ?_
    refine ⟨_, rfl, ?_⟩
    refine wpAny_letOwnedTupleGo_enum (s := { s with heap := h1, toks := s.toks + 1 }) heo fun h2 he2 hs2 => ?_
    have hs2 : Heap.SameBut e h1 h2 := hs2
    have ltE : e < s.heap.objs.size := Heap.lt_size he
    have vv : Vals [V.int i, x] [.int i s.toks, u] := .cons ⟨_, rfl⟩ (.cons ru .nil)
    have T := Inv.turnedT (h' := h2) (t' := s.toks + 1) (fp := [e, it]) I vv (by show 2 ≤ sizeLine; decide) (fun b o hb eb => ?_) ((hs2.2 _ (Nat.ne_of_gt ltE)).trans ht1) hf (fun b hb => ?_)
    · obtain ⟨I2, fr, fb⟩ := T
      exact ⟨.ref s.heap.objs.size, _, I2, rfl, ⟨_, x, rfl, fr, rfl, fun ys hy => by rw [I.list_inj hy hq]; exact hx⟩, ⟨⟨_, he2⟩, hit1.at fun o eo => (hs2.2 it hne.symm).trans eo⟩, fb⟩
    · have hb : b ≠ e ∧ b ≠ it := by simpa using hb
      exact (hs2.2 b hb.1).trans (hk1 b o hb.1 hb.2 eb)
    · obtain ⟨o, eo, _⟩ := hit
      rcases (by simpa using hb : b = e ∨ b = it) with rfl | rfl
      · exact ⟨_, he⟩
      · exact ⟨o, eo⟩
  done := by
    intro X hP hw hK hc i pins s σ H E I hf st hg
    subst hP hw hK
    obtain ⟨xs, hq, hx⟩ := hg
    obtain ⟨its, rv, p, hz⟩ := I.list hq
    have hl := rv.length
    obtain ⟨⟨old, he⟩, hit⟩ := st
    exact wpAny_pyNext_enum_end (I.ok.hd hc) he hit p.isList (by simp; omega) fun h' eb => ⟨rfl, Inv.turnedL (t' := s.toks) (fp := [e, it]) I (fun b o hb eo => eb b o (fun z => hb (by simp [z])) eo) hf⟩
  self := fun _ _ _ _ _ st h => let ⟨⟨_, he⟩, _⟩ := st; wpAny_pyIter_enum he h
section
variable {X : Cx}
def iEnum (K : PySem.W.Frag) (ta : TA) : TI := fun σ H R => ta σ H fun vs H1 => ∃ a, vs = [.ref a] ∧ (∃ xs, SqL K H1 a xs) ∧ R (Ite K a) H1
theorem i_enum {K : PySem.W.Frag} {ta : TA} {σ : St} {H : Hp} {R : It → Hp → Prop} (h : ta σ H fun vs H1 => ∃ a, vs = [.ref a] ∧ (∃ xs, SqL K H1 a xs) ∧ R (Ite K a) H1) : iEnum K ta σ H R := h
theorem pi_enum {K : PySem.W.Frag} {elts : List Expr} {k : Nat} {tp : Pos} {l : Expr} {ta : TA} {p pos : Pos} (hg : Gl X "enumerate") (hm : X.mg "enumerate" = none) (ha : PA X [l] ta) (hK : X.K = K := by rfl) (hs : starEach [l] X.env = [(false, eval l X.env)] := by rfl) :
    PI X (.Tuple elts k tp) (.Call (.Name "enumerate" p) [l] [] pos) (iEnum K ta) := by
  subst hK
  intro pins s σ H R I h
  refine Call_ (ld_blt I hg hm Boot.«enumerate» (PyProof.Rows.callWith_type1 (thn (ha pos pins s σ H _ I h) fun us s1 ⟨vs, H1, I1, r1, q1⟩ => ?_) hs rfl))
  obtain ⟨a, e, ⟨xs, hq⟩, q⟩ := q1
  subst e
  obtain ⟨u, rfl, ru⟩ := vals1 r1
  cases ru
  obtain ⟨its, rv, p, hz⟩ := I1.list hq
  refine call_enumerate_list p.isList fun h' he hit hsz hk => ?_
  have I2 : Inv X pins σ H1 { s1 with heap := h' } := I1.kept (t' := s1.toks) hk
  refine wpAny_pyIter_enum (s := { s1 with heap := h' }) he ?_
  refine ⟨s1.heap.objs.size + 1, [s1.heap.objs.size + 1, s1.heap.objs.size], _, _, H1, rfl, I2, turn_enum a (s1.heap.objs.size + 1) s1.heap.objs.size (Nat.succ_ne_self _), ⟨⟨_, he⟩, hit⟩, fun b hb => ?_, q⟩
  have hb : s1.heap.objs.size ≤ b := by
    rcases (by simpa using hb : b = s1.heap.objs.size + 1 ∨ b = s1.heap.objs.size) with rfl | rfl
    · exact Nat.le_succ _
    · exact Nat.le_refl _
  exact Inv.fpOk I1 hb (I1.hok.fresh hb) |> fun ⟨f0, f1, f2, f3, f4, f5⟩ => ⟨f0, f1, f2, f3, f4, f5⟩
end
/-- zip of the lists at a and b -/
def Itz (K : PySem.W.Frag) (a b : Addr) : It :=
  ⟨fun i H => ∃ xs ys x y, SqL K H a xs ∧ SqL K H b ys ∧ xs[i]? = some x ∧ ys[i]? = some y,
   fun i H x H' => ∃ p u v, x = .ref p ∧ H p = none ∧ H' = upd H p (.tup [u, v]) ∧ (∀ xs, SqL K H a xs → xs[i]? = some u) ∧ ∀ ys, SqL K H b ys → ys[i]? = some v,
   fun i H => ∃ xs ys, SqL K H a xs ∧ SqL K H b ys ∧ (xs.length ≤ i ∨ ys.length ≤ i)⟩
structure ZA (z TI TO i1 i2 : Addr) : Prop where
  TIz : TI ≠ z
  TOz : TO ≠ z
  i1z : i1 ≠ z
  i2z : i2 ≠ z
  TITO : TI ≠ TO
  TIi1 : TI ≠ i1
  TIi2 : TI ≠ i2
  TOi1 : TO ≠ i1
  TOi2 : TO ≠ i2
  i12 : i1 ≠ i2
theorem turn_zip {P : Program} {w : World} {K : PySem.W.Frag} {elts : List Expr} {k : Nat} {tp : Pos} (a b z TI TO i1 i2 : Addr) (D : ZA z TI TO i1 i2) :
    Turn P w K (.Tuple elts k tp) (Itz K a b) [z, TI, TO, i1, i2] z (fun i h => IsZip h z TI TO .none ∧ IsPair h TI (.ref i1) (.ref i2) ∧ (∃ u v, IsPair h TO u v) ∧ h.IsListIter i1 a i ∧ h.IsListIter i2 b i) where
  mem := by simp
  obj := fun i h st c hb => by
    obtain ⟨hz, hTI, ⟨u, v, hTO⟩, ⟨o1, e1, _, d1⟩, o2, e2, _, d2⟩ := st
    rcases (by simpa using hb : c = z ∨ c = TI ∨ c = TO ∨ c = i1 ∨ c = i2) with rfl | rfl | rfl | rfl | rfl
    · exact ⟨_, hz, fun v z => by cases z⟩
    · exact ⟨_, hTI, fun v z => by cases z⟩
    · exact ⟨_, hTO, fun v z => by cases z⟩
    · exact ⟨o1, e1, fun v z => by rw [d1] at z; cases z⟩
    · exact ⟨o2, e2, fun v z => by rw [d2] at z; cases z⟩
  keep := fun i h h' st k => by
    obtain ⟨hz, hTI, ⟨u, v, hTO⟩, h1, h2⟩ := st
    exact ⟨k z (by simp) _ hz, k TI (by simp) _ hTI, ⟨u, v, k TO (by simp) _ hTO⟩, h1.at fun o e => k i1 (by simp) o e, h2.at fun o e => k i2 (by simp) o e⟩
  item := by
    intro X hP hw hK hc i pins s σ H E I hf st hg
    subst hP hw hK
    obtain ⟨xs, ys, x, y, hq, hq', hx, hy⟩ := hg
    obtain ⟨its, rv, p, hzl⟩ := I.list hq
    obtain ⟨its', rv', p', hzl'⟩ := I.list hq'
    obtain ⟨u, hu, ru⟩ := rv.get hx
    obtain ⟨u', hu', ru'⟩ := rv'.get hy
    obtain ⟨hz, hTI, ⟨w1, w2, hTO⟩, h1, h2⟩ := st
    have nf : ∀ (c : Addr) (l : Addr) (zs : List V), SqL X.K H l zs → c ∈ [z, TI, TO, i1, i2] → l ≠ c := fun c l zs hl hc e => by
      subst e
      obtain ⟨_, _, ⟨o, n, eo, ec, _, _⟩, _⟩ := I.list hl
      obtain ⟨o1, e1, c1, _⟩ := id h1
      obtain ⟨o2, e2, c2, _⟩ := id h2
      rcases (by simpa using hc : l = z ∨ l = TI ∨ l = TO ∨ l = i1 ∨ l = i2) with rfl | rfl | rfl | rfl | rfl
      · rw [hz] at eo; cases eo; exact absurd (show Value.type "zip" = .type "list" from ec) (by decide)
      · rw [hTI] at eo; cases eo; exact absurd (show Value.type "tuple" = .type "list" from ec) (by decide)
      · rw [hTO] at eo; cases eo; exact absurd (show Value.type "tuple" = .type "list" from ec) (by decide)
      · rw [e1] at eo; cases eo; rw [c1] at ec; exact absurd ec (by decide)
      · rw [e2] at eo; cases eo; rw [c2] at ec; exact absurd ec (by decide)
    have D' : ZipApart z TI TO i1 i2 a b := ⟨D.TIz, D.TOz, D.i1z, D.i2z, D.TITO, D.TIi1, D.TIi2, D.TOi1, D.TOi2, D.i12, nf _ _ _ hq (by simp), nf _ _ _ hq (by simp), nf _ _ _ hq (by simp), nf _ _ _ hq (by simp), nf _ _ _ hq' (by simp), nf _ _ _ hq' (by simp), nf _ _ _ hq' (by simp), nf _ _ _ hq' (by simp)⟩
    refine wpAny_pyNext_zip_item D' hz hTI hTO h1 h2 p.isList p'.isList (x := u) (y := u') (by simpa using hu) (by simpa using hu') fun h3 hz3 hTO3 h13 h23 ht3 hs3 hk3 => ?_
    refine ⟨_, rfl, ?_⟩
    refine wpAny_letOwnedTupleGo_zip (s := { s with heap := h3 }) hz3 fun h4 hz4 hs4 => ?_
    have hs4 : Heap.SameBut z h3 h4 := hs4
    have ltZ : z < s.heap.objs.size := Heap.lt_size hz
    have vv : Vals [x, y] [u, u'] := .cons ru (.cons ru' .nil)
    have T := Inv.turnedT (h' := h4) (t' := s.toks) (fp := [z, TI, TO, i1, i2]) I vv (by show 2 ≤ sizeLine; decide) (fun c o hb eb => ?_) ((hs4.2 _ (Nat.ne_of_gt ltZ)).trans ht3) hf (fun c hb => ?_)
    · obtain ⟨I2, fr, fb⟩ := T
      refine ⟨.ref s.heap.objs.size, _, I2, rfl, ⟨_, x, y, rfl, fr, rfl, fun ys hy => by rw [I.list_inj hy hq]; exact hx, fun ys hz => by rw [I.list_inj hz hq']; exact hy⟩, ⟨hz4, ?_, ⟨_, _, (hs4.2 TO D.TOz).trans hTO3⟩, h13.at fun o eo => (hs4.2 i1 D.i1z).trans eo, h23.at fun o eo => (hs4.2 i2 D.i2z).trans eo⟩, fb⟩
      exact (hs4.2 TI D.TIz).trans (hk3 TI _ D.TIz D.TITO D.TIi1 D.TIi2 hTI)
    · have hb : c ≠ z ∧ c ≠ TI ∧ c ≠ TO ∧ c ≠ i1 ∧ c ≠ i2 := by simpa using hb
      exact (hs4.2 c hb.1).trans (hk3 c o hb.1 hb.2.2.1 hb.2.2.2.1 hb.2.2.2.2 eb)
    · obtain ⟨o1, e1, _⟩ := h1
      obtain ⟨o2, e2, _⟩ := h2
      rcases (by simpa using hb : c = z ∨ c = TI ∨ c = TO ∨ c = i1 ∨ c = i2) with rfl | rfl | rfl | rfl | rfl
      · exact ⟨_, hz⟩
      · exact ⟨_, hTI⟩
      · exact ⟨_, hTO⟩
      · exact ⟨o1, e1⟩
      · exact ⟨o2, e2⟩
  done := by
    intro X hP hw hK hc i pins s σ H E I hf st hg
    subst hP hw hK
    obtain ⟨xs, ys, hq, hq', hx⟩ := hg
    obtain ⟨its, rv, p, hzl⟩ := I.list hq
    obtain ⟨its', rv', p', hzl'⟩ := I.list hq'
    obtain ⟨hz, hTI, ⟨w1, w2, hTO⟩, h1, h2⟩ := st
    have hl := rv.length
    have hl' := rv'.length
    have nf : ∀ (c : Addr) (l : Addr) (zs : List V), SqL X.K H l zs → c ∈ [z, TI, TO, i1, i2] → l ≠ c := fun c l zs hl hc e => by
      subst e
      obtain ⟨_, _, ⟨o, n, eo, ec, _, _⟩, _⟩ := I.list hl
      obtain ⟨o1, e1, c1, _⟩ := id h1
      obtain ⟨o2, e2, c2, _⟩ := id h2
      rcases (by simpa using hc : l = z ∨ l = TI ∨ l = TO ∨ l = i1 ∨ l = i2) with rfl | rfl | rfl | rfl | rfl
      · rw [hz] at eo; cases eo; exact absurd (show Value.type "zip" = .type "list" from ec) (by decide)
      · rw [hTI] at eo; cases eo; exact absurd (show Value.type "tuple" = .type "list" from ec) (by decide)
      · rw [hTO] at eo; cases eo; exact absurd (show Value.type "tuple" = .type "list" from ec) (by decide)
      · rw [e1] at eo; cases eo; rw [c1] at ec; exact absurd ec (by decide)
      · rw [e2] at eo; cases eo; rw [c2] at ec; exact absurd ec (by decide)
    have D' : ZipApart z TI TO i1 i2 a b := ⟨D.TIz, D.TOz, D.i1z, D.i2z, D.TITO, D.TIi1, D.TIi2, D.TOi1, D.TOi2, D.i12, nf _ _ _ hq (by simp), nf _ _ _ hq (by simp), nf _ _ _ hq (by simp), nf _ _ _ hq (by simp), nf _ _ _ hq' (by simp), nf _ _ _ hq' (by simp), nf _ _ _ hq' (by simp), nf _ _ _ hq' (by simp)⟩
    exact wpAny_pyNext_zip_end (I.ok.hd hc) D' hz hTI hTO h1 h2 p.isList p'.isList (by simp; omega) fun h' eb => ⟨rfl, Inv.turnedL (t' := s.toks) (fp := [z, TI, TO, i1, i2]) I (fun c o hb eo => by
      have hb : c ≠ z ∧ c ≠ TI ∧ c ≠ TO ∧ c ≠ i1 ∧ c ≠ i2 := by simpa using hb
      exact eb c o hb.1 hb.2.2.1 hb.2.2.2.1 hb.2.2.2.2 eo) hf⟩
  self := fun _ _ _ _ _ st h => wpAny_pyIter_zip st.1 h
section
variable {X : Cx}
def iZip2 (K : PySem.W.Frag) (ta : TA) : TI := fun σ H R => ta σ H fun vs H1 => ∃ a b, vs = [.ref a, .ref b] ∧ (∃ xs, SqL K H1 a xs) ∧ (∃ ys, SqL K H1 b ys) ∧ R (Itz K a b) H1
theorem i_zip2 {K : PySem.W.Frag} {ta : TA} {σ : St} {H : Hp} {R : It → Hp → Prop} (h : ta σ H fun vs H1 => ∃ a b, vs = [.ref a, .ref b] ∧ (∃ xs, SqL K H1 a xs) ∧ (∃ ys, SqL K H1 b ys) ∧ R (Itz K a b) H1) : iZip2 K ta σ H R := h
theorem pi_zip2 {K : PySem.W.Frag} {elts : List Expr} {k : Nat} {tp : Pos} {l m : Expr} {ta : TA} {p pos : Pos} (hg : Gl X "zip") (hm : X.mg "zip" = none) (ha : PA X [l, m] ta) (hK : X.K = K := by rfl) (hs : starEach [l, m] X.env = [(false, eval l X.env), (false, eval m X.env)] := by rfl) (hs2 : starEach [m] X.env = [(false, eval m X.env)] := by rfl) :
    PI X (.Tuple elts k tp) (.Call (.Name "zip" p) [l, m] [] pos) (iZip2 K ta) := by
  subst hK
  intro pins s σ H R I h
  refine Call_ (ld_blt I hg hm Boot.«zip» (PyProof.Rows.callWith_type1 (thn (ha pos pins s σ H _ I h) fun us s1 ⟨vs, H1, I1, r1, q1⟩ => ?_) (by rw [hs, hs2]) (by rw [hs2]; rfl)))
  obtain ⟨a, b, e, ⟨xs, hq⟩, ⟨ys, hq'⟩, q⟩ := q1
  subst e
  obtain ⟨u, u', rfl, ru, ru'⟩ := vals2 r1
  cases ru
  cases ru'
  obtain ⟨its, rv, p, hz⟩ := I1.list hq
  obtain ⟨its', rv', p', hz'⟩ := I1.list hq'
  refine call_zip_2 p.isList p'.isList fun h' hz hTI hTO h1 h2 hsz hk => ?_
  have I2 : Inv X pins σ H1 { s1 with heap := h' } := I1.kept (t' := s1.toks) hk
  generalize hn : s1.heap.objs.size = n at hz hTI hTO h1 h2 hsz
  refine wpAny_pyIter_zip (s := { s1 with heap := h' }) hz ?_
  refine ⟨n + 4, [n + 4, n + 2, n + 3, n, n + 1], _, _, H1, rfl, I2, turn_zip a b (n + 4) (n + 2) (n + 3) n (n + 1) ⟨by simp, by simp, by simp, by simp, by simp, by simp, by simp, by simp, by simp, by simp⟩, ⟨hz, hTI, ⟨_, _, hTO⟩, h1, h2⟩, fun c hb => ?_, q⟩
  have hb : s1.heap.objs.size ≤ c := by
    rw [hn]
    rcases (by simpa using hb : c = n + 4 ∨ c = n + 2 ∨ c = n + 3 ∨ c = n ∨ c = n + 1) with rfl | rfl | rfl | rfl | rfl <;> simp
  exact Inv.fpOk I1 hb (I1.hok.fresh hb) |> fun ⟨f0, f1, f2, f3, f4, f5⟩ => ⟨f0, f1, f2, f3, f4, f5⟩
end
section
variable {σ : St} {H : Hp} {cap : List (Option Nat)} {g : TG} {tt : TT} {te : TE} {acc : Addr} {H0 : Hp} {Qh : Hp → Prop}
/-- what an iterator of pairs yields: the i-th pair is f i -/
structure Pairs (J : It) (n : Nat) (f : Nat → Option (V × V)) (ok : Hp → Prop) : Prop where
  go : ∀ i H, ok H → i < n → J.go i H
  stop : ∀ H, ok H → J.stop n H
  yld : ∀ i H x H', ok H → i < n → J.yld i H x H' → ∃ p u v, x = .ref p ∧ H p = none ∧ H' = upd H p (.tup [u, v]) ∧ f i = some (u, v)
theorem pairs_enum {K : PySem.W.Frag} {a : Addr} {xs : List V} : Pairs (Ite K a) xs.length (fun i => (xs[i]?).map fun x => (.int i, x)) (fun H => SqL K H a xs) where
  go := fun i H h hi => ⟨xs, xs[i], h, List.getElem?_eq_getElem hi⟩
  stop := fun H h => ⟨xs, h, Nat.le_refl _⟩
  yld := fun i H x H' h hi ⟨p, y, e, hp, e', hy⟩ => ⟨p, _, y, e, hp, e', by rw [hy xs h]; rfl⟩
theorem pairs_zip {K : PySem.W.Frag} {a b : Addr} {xs ys : List V} : Pairs (Itz K a b) (min xs.length ys.length) (fun i => match xs[i]?, ys[i]? with | some x, some y => some (x, y) | _, _ => none) (fun H => SqL K H a xs ∧ SqL K H b ys) where
  go := fun i H h hi => ⟨xs, ys, xs[i]'(by omega), ys[i]'(by omega), h.1, h.2, List.getElem?_eq_getElem (by omega), List.getElem?_eq_getElem (by omega)⟩
  stop := fun H h => ⟨xs, ys, h.1, h.2, by omega⟩
  yld := fun i H x H' h hi ⟨p, u, v, e, hp, e', h1, h2⟩ => ⟨p, u, v, e, hp, e', by rw [h1 xs h.1, h2 ys h.2]⟩
theorem compN_pairs {J : It} {n : Nat} {f : Nat → Option (V × V)} {ok : Hp → Prop} (PJ : Pairs J n f ok) (Pv : Nat → List V → Hp → Prop) (h0 : Pv 0 [] (upd H0 acc (.lst []))) (hl : ∀ i ys H, i ≤ n → Pv i ys H → ok H)
    (hs : ∀ i u v p ys H R, f i = some (u, v) → i < n → H p = none → Pv i ys H → (∀ ys H, Pv (i + 1) ys H → R ys H) → CTurn cap g tt te σ acc (.ref p) ys (upd H p (.tup [u, v])) R)
    (hd : ∀ ys H, Pv n ys H → Qh H) : CompW cap g tt te J σ acc H0 Qh := by
  refine ⟨fun i m ys H => m = n - i ∧ i ≤ n ∧ Pv i ys H, ⟨n, by simp, Nat.zero_le _, h0⟩, ?_⟩
  rintro i m ys H ⟨rfl, hi, p⟩
  have q := hl i ys H hi p
  by_cases hlt : i < n
  · refine .inr ⟨PJ.go i H q hlt, fun x H' y => ?_⟩
    obtain ⟨p', u, v, e, hp, e', hf⟩ := PJ.yld i H x H' q hlt y
    subst e e'
    exact hs i u v p' ys _ (fun ys H => ∃ m', m' < n - i ∧ m' = n - (i + 1) ∧ i + 1 ≤ n ∧ Pv (i + 1) ys H) hf hlt hp p fun ys H q => ⟨n - (i + 1), by omega, rfl, hlt, q⟩
  · have e : i = n := by omega
    subst e
    exact .inl ⟨PJ.stop H q, hd ys H p⟩
theorem forN_pairs {J : It} {n : Nat} {f : Nat → Option (V × V)} {ok : Hp → Prop} (PJ : Pairs J n f ok) {tb : TS} {nx : St → Hp → Prop} {rt : VK} (Pv : Nat → St → Hp → Prop) (h0 : Pv 0 σ H) (hl : ∀ i σ H, i ≤ n → Pv i σ H → ok H)
    (hs : ∀ i u v p σ H, f i = some (u, v) → i < n → H p = none → Pv i σ H → g (.ref p) σ (upd H p (.tup [u, v])) fun σ2 H2 => tb { nx := Pv (i + 1), rt := rt, bk := nx, ct := Pv (i + 1) } σ2 H2) (hd : ∀ σ H, Pv n σ H → nx σ H) :
    ∃ W : Nat → Nat → St → Hp → Prop, (∃ m, W 0 m σ H) ∧ ∀ i m σ H, W i m σ H →
      (J.stop i H ∧ nx σ H) ∨ (J.go i H ∧ ∃ N : St → Hp → Prop, (∀ σ' H', N σ' H' → ∃ m', m' < m ∧ W (i + 1) m' σ' H') ∧ ∀ x H', J.yld i H x H' → g x σ H' fun σ2 H2 => tb { nx := N, rt := rt, bk := nx, ct := N } σ2 H2) := by
  refine ⟨fun i m σ H => m = n - i ∧ i ≤ n ∧ Pv i σ H, ⟨n, by simp, Nat.zero_le _, h0⟩, ?_⟩
  rintro i m σ H ⟨rfl, hi, p⟩
  have q := hl i σ H hi p
  by_cases hlt : i < n
  · refine .inr ⟨PJ.go i H q hlt, Pv (i + 1), fun σ' H' p' => ⟨n - (i + 1), by omega, rfl, hlt, p'⟩, fun x H' y => ?_⟩
    obtain ⟨p', u, v, e, hp, e', hf⟩ := PJ.yld i H x H' q hlt y
    subst e e'
    exact hs i u v p' σ H hf hlt hp p
  · have e : i = n := by omega
    subst e
    exact .inl ⟨PJ.stop H q, hd σ H p⟩
end
end L2
namespace L2
open PySem PySem.Spec PyProof.Rows
/-! data without lists outlast a list that is written -/
mutual
def D.nol : D → Bool
  | .lst _ => false
  | .tup l => D.nols l
  | .ins _ _ l => D.nols l
  | _ => true
def D.nols : List D → Bool
  | [] => true
  | d :: r => D.nol d && D.nols r
end
def SameN (H H' : Hp) : Prop := ∀ b o, H b = some o → (∀ xs, o ≠ .lst xs) → H' b = some o
theorem SameN.tup {K : PySem.W.Frag} {H H' : Hp} {a : Addr} {xs : List V} (e : SameN H H') (h : SqT K H a xs) : SqT K H' a xs := by
  rcases h with (h | ⟨o, h⟩) | h
  · exact .inl (.inl (e _ _ h (by simp)))
  · exact .inl (.inr ⟨o, e _ _ h (by simp)⟩)
  · exact .inr h
mutual
theorem Is.monoN {K : PySem.W.Frag} {H H' : Hp} (S : SameN H H') : ∀ {v : V} {d : D}, Is K H v d → D.nol d = true → Is K H' v d
  | _, _, .non, _ => .non
  | _, _, .bl b, _ => .bl b
  | _, _, .int i, _ => .int i
  | _, _, .str x, _ => .str x
  | _, _, .tup h l, n => .tup (S.tup h) (IsL.monoN S l (by unfold D.nol at n; exact n))
  | _, _, .lst h l, n => by simp [D.nol] at n
  | _, _, .ins h e l, n => .ins (S _ _ h (by simp)) e (IsL.monoN S l (by unfold D.nol at n; exact n))
theorem IsL.monoN {K : PySem.W.Frag} {H H' : Hp} (S : SameN H H') : ∀ {vs : List V} {ds : List D}, IsL K H vs ds → D.nols ds = true → IsL K H' vs ds
  | _, _, .nil, _ => .nil
  | _, _, .cons h l, n => by
    unfold D.nols at n
    have n := Bool.and_eq_true_iff.1 n
    exact .cons (Is.monoN S h n.1) (IsL.monoN S l n.2)
end
theorem D.nols_of : ∀ {l : List D}, (∀ d ∈ l, D.nol d = true) → D.nols l = true
  | [], _ => by simp [D.nols]
  | d :: r, h => by
    unfold D.nols
    rw [h d (by simp), D.nols_of fun x hx => h x (by simp [hx])]
    rfl
theorem nol_q (p q : Int) : D.nol (dQ p q) = true := by simp [dQ, D.nol, D.nols]
theorem nols_map {α : Type} {f : α → D} (h : ∀ x, D.nol (f x) = true) (l : List α) : D.nols (l.map f) = true := D.nols_of fun d hd => by
  obtain ⟨x, _, rfl⟩ := List.mem_map.1 hd
  exact h x
theorem sameN_lst {H : Hp} {a : Addr} {ys : List V} {o : HO} (h : H a = some (.lst ys)) : SameN H (upd H a o) := fun b u e n => by
  by_cases z : b = a
  · subst z
    rw [h] at e
    cases e
    exact absurd rfl (n ys)
  · rw [upd_ne z]
    exact e
theorem Same.n {H H' : Hp} (S : Same H H') : SameN H H' := fun b o e _ => S b o e
theorem SameN.trans {H H1 H2 : Hp} (a : SameN H H1) (b : SameN H1 H2) : SameN H H2 := fun c o h n => b c o (a c o h n) n
/-- one more at the end of a list of data without lists -/
theorem IsL.push {K : PySem.W.Frag} {H : Hp} {l : Addr} {ys : List V} {ds : List D} {v : V} {d : D} (hl : H l = some (.lst ys)) (h1 : IsL K H ys ds) (n1 : D.nols ds = true) (h2 : Is K H v d) (n2 : D.nol d = true) : IsL K (upd H l (.lst (ys ++ [v]))) (ys ++ [v]) (ds ++ [d]) :=
  (IsL.append h1 (.cons h2 .nil)).monoN (sameN_lst hl) (D.nols_of fun x hx => by
    rcases List.mem_append.1 hx with h | h
    · exact nols_mem n1 h
    · rw [List.mem_singleton.1 h]; exact n2)
where
  nols_mem : ∀ {ds : List D} {d : D}, D.nols ds = true → d ∈ ds → D.nol d = true
    | _ :: _, _, n, h => by
      unfold D.nols at n
      have n := Bool.and_eq_true_iff.1 n
      rcases List.mem_cons.1 h with rfl | h
      · exact n.1
      · exact nols_mem n.2 h
section
variable {σ : St} {H : Hp} {Q : VK} {D' : Ends}
theorem i_sl {r : V → Option Int → Option Int → Hp → VK → Prop} {te : TE} {tl th : TO} (h : te σ H fun x H1 => tl σ H1 fun l H2 => th σ H2 fun u H3 => r x l u H3 Q) : tSl r te tl th σ H Q := h
theorem i_noPart {R : Option Int → Hp → Prop} (h : R none H) : tNoPart σ H R := h
theorem i_part {t : TE} {R : Option Int → Hp → Prop} (h : t σ H fun x H1 => ∃ i, x = .int i ∧ R (some i) H1) : tPart t σ H R := h
theorem i_int1 {i : Int} {k : Int → Prop} (h : k i) : ∃ j, V.int i = .int j ∧ k j := ⟨i, rfl, h⟩
theorem i_slL {K : PySem.W.Frag} {a : Addr} {xs : List V} {lo hi : Option Int} (h1 : SqL K H a xs) (h : ∀ p, H p = none → Q (.ref p) (upd H p (.lst (cutV xs lo hi)))) : rSlL K (.ref a) lo hi H Q := ⟨a, xs, rfl, h1, h⟩
end
theorem cutV_take (xs : List V) (n : Nat) : cutV xs none (some (n : Int)) = xs.take n := by
  unfold cutV
  rw [HT.sIx_none, HT.sIx_nat, List.drop_zero, Nat.sub_zero]
  by_cases h : n ≤ xs.length
  · rw [Nat.min_eq_left h]
  · rw [Nat.min_eq_right (by omega), List.take_length, List.take_of_length_le (by omega)]
section
variable {σ : St} {H : Hp} {Q : VK}
theorem i_ixLz {K : PySem.W.Frag} {p : Addr} {xs : List V} {j : Nat} {z : Int} {v : V} (hz : z = (j : Int)) (h1 : SqL K H p xs) (h2 : xs[j]? = some v) (h : Q v H) : rIxL K (.ref p) (.int z) H Q := by
  subst hz
  exact i_ixL h1 h2 h
theorem i_test {t : TE} {Q : Bool → Hp → Prop} (h : t σ H fun x H' => ∃ k, x = .bl k ∧ Q k H') : tTest t σ H Q := h
theorem i_bm {K : PySem.W.Frag} {T : String} {r : V → List V → Hp → VK → Prop} {to : TE} {t : TA} (h : to σ H fun x H1 => tyV K T x H1 ∧ t σ H1 fun xs H2 => r x xs H2 Q) : tBM K T r to t σ H Q := h
theorem i_append {l : Addr} {xs : List V} {y : V} (h1 : H l = some (.lst xs)) (h2 : xs.length < sizeLine) (h : Q .non (upd H l (.lst (xs ++ [y])))) : rAppend (.ref l) [y] H Q := ⟨l, xs, y, rfl, rfl, h1, h2, h⟩
theorem i_cat {l b : Addr} {xs zs : List V} (h1 : H l = some (.lst xs)) (h2 : H b = some (.lst zs)) (h3 : xs.length + zs.length ≤ sizeLine) (h : ∀ p, H p = none → Q (.ref p) (upd H p (.lst (xs ++ zs)))) : rCat (.ref l) (.ref b) H Q := ⟨l, b, xs, zs, rfl, rfl, h1, h2, h3, h⟩
end
theorem depths_le {n : Nat} : ∀ {l : List D}, (∀ d ∈ l, D.depth d ≤ n) → D.depths l ≤ n
  | [], _ => Nat.zero_le _
  | d :: r, h => by
    unfold D.depths
    exact Nat.max_le.2 ⟨h d (by simp), depths_le fun x hx => h x (by simp [hx])⟩
end L2
namespace L2
open PySem PySem.Spec PyProof.Rows
/-! ### told data whose lists are new: frG H H' is H' without the lists that stood in H -/
open Classical in
noncomputable def frG (H H' : Hp) : Hp := fun b => match H' b with
  | some (.lst xs) => if H b = none then some (.lst xs) else none
  | o => o
theorem frG_lst {H H' : Hp} {b : Addr} {xs : List V} (h : H' b = some (.lst xs)) (n : H b = none) : frG H H' b = some (.lst xs) := by
  unfold frG
  rw [h]
  simp only [n, if_true]
theorem frG_old {H H' : Hp} {b : Addr} {xs : List V} (h : H' b = some (.lst xs)) (n : H b ≠ none) : frG H H' b = none := by
  unfold frG
  rw [h]
  simp only [n, if_false]
theorem frG_other {H H' : Hp} {b : Addr} (h : ∀ xs, H' b ≠ some (.lst xs)) : frG H H' b = H' b := by
  unfold frG
  split
  · rename_i xs e; exact absurd e (h xs)
  · rfl
/-- what frG shows -/
theorem frG_inv {H H' : Hp} {b : Addr} {o : HO} (h : frG H H' b = some o) : H' b = some o ∧ ∀ xs, o = .lst xs → H b = none := by
  unfold frG at h
  split at h
  · rename_i xs e
    split at h
    · rename_i n
      cases h
      exact ⟨e, fun _ _ => n⟩
    · cases h
  · rename_i o' e
    refine ⟨h, fun xs z => ?_⟩
    subst z
    exact absurd h (e xs)
theorem frG_sub (H H' : Hp) : Same (frG H H') H' := fun b o h => (frG_inv h).1
theorem frG_of {H H' : Hp} {b : Addr} {o : HO} (h : H' b = some o) (n : ∀ xs, o = .lst xs → H b = none) : frG H H' b = some o := by
  by_cases z : ∃ xs, o = .lst xs
  · obtain ⟨xs, rfl⟩ := z
    exact frG_lst h (n xs rfl)
  · rw [frG_other (fun xs e => z ⟨xs, by rw [h] at e; cases e; rfl⟩), h]
/-- all that stands in H stands, whatever it is, in H' -/
def Dom (H H' : Hp) : Prop := ∀ b, H' b = none → H b = none
theorem Same.dom {H H' : Hp} (S : Same H H') : Dom H H' := fun b h => S.free h
theorem Dom.trans {H H1 H2 : Hp} (a : Dom H H1) (b : Dom H1 H2) : Dom H H2 := fun c h => a c (b c h)
theorem Dom.refl (H : Hp) : Dom H H := fun _ h => h
theorem dom_upd {H : Hp} {a : Addr} {o : HO} : Dom H (upd H a o) := fun b h => by
  by_cases z : b = a
  · subst z; rw [upd_same] at h; cases h
  · rwa [upd_ne z] at h
theorem Dom.upd {H H' : Hp} {a : Addr} {o : HO} (d : Dom H H') : Dom H (upd H' a o) := d.trans dom_upd
/-- later, seen from earlier -/
theorem frG_mono {H0 H1 H2 H3 : Hp} (d : Dom H0 H1) (S : Same H2 H3) : Same (frG H1 H2) (frG H0 H3) := fun b o h => by
  obtain ⟨h1, h2⟩ := frG_inv h
  exact frG_of (S b o h1) fun xs e => d b (h2 xs e)
/-- an old list written: nothing new is touched -/
theorem frG_write {H H' : Hp} {a : Addr} {o : HO} (h : H a ≠ none) {xs : List V} (h' : H' a = some (.lst xs)) : Same (frG H H') (frG H (upd H' a o)) := fun b u hb => by
  obtain ⟨h1, h2⟩ := frG_inv hb
  have z : b ≠ a := fun z => by
    subst z
    rw [h'] at h1
    cases h1
    exact h (h2 xs rfl)
  exact frG_of (by rw [upd_ne z]; exact h1) h2
theorem nol_fr {K : PySem.W.Frag} {H H' : Hp} {v : V} {d : D} (h : Is K H' v d) (n : D.nol d = true) : Is K (frG H H') v d := h.monoN (fun b o e z => by
  exact frG_of e fun xs ez => absurd ez (z xs)) n
theorem Is.fr {K : PySem.W.Frag} {H H' : Hp} {v : V} {d : D} (h : Is K (frG H H') v d) : Is K H' v d := h.mono (frG_sub H H')
theorem IsL.fr {K : PySem.W.Frag} {H H' : Hp} {v : List V} {d : List D} (h : IsL K (frG H H') v d) : IsL K H' v d := h.mono (frG_sub H H')
/-- a new list of new things -/
theorem fr_lst {K : PySem.W.Frag} {H H' : Hp} {a : Addr} {ys : List V} {ds : List D} (h : H' a = some (.lst ys)) (n : H a = none) (hL : IsL K (frG H H') ys ds) : Is K (frG H H') (.ref a) (.lst ds) := .lst (SqL.of (frG_lst h n)) hL
theorem fr_tup {K : PySem.W.Frag} {H H' : Hp} {a : Addr} {ys : List V} {ds : List D} (h : H' a = some (.tup ys)) (hL : IsL K (frG H H') ys ds) : Is K (frG H H') (.ref a) (.tup ds) := .tup (SqT.of (frG_of h (fun _ e => by cases e))) hL
/-- a promise whose told lists are new -/
def sF {α : Type} (K : PySem.W.Frag) (arg : α → List D) (pre : α → Prop) (post : α → D → Prop) : Sp := fun vs H Q _ => ∃ x : α, IsL K H vs (arg x) ∧ pre x ∧ ∀ r v H', post x r → Same H H' → Is K (frG H H') v r → Q v H'
theorem sF_len {α : Type} {K : PySem.W.Frag} {arg : α → List D} {pre : α → Prop} {post : α → D → Prop} {n : Nat} (hl : ∀ x, (arg x).length = n) {vs : List V} {H : Hp} {Q : VK} {E : XK} (h : sF K arg pre post vs H Q E) : vs.length = n := by
  obtain ⟨x, hi, _⟩ := h
  exact hi.len.trans (hl x)
theorem i_sF {α : Type} {K : PySem.W.Frag} {arg : α → List D} {pre : α → Prop} {post : α → D → Prop} {vs : List V} {H : Hp} {Q : VK} {E : XK} (x : α) (h1 : IsL K H vs (arg x)) (h2 : pre x) (h : ∀ r v H', post x r → Same H H' → Is K (frG H H') v r → Q v H') : sF K arg pre post vs H Q E := ⟨x, h1, h2, h⟩
/-- a comprehension's list by then: it stands at acc, its things are new since acc was laid -/
structure Acc (K : PySem.W.Frag) (H0 : Hp) (acc : Addr) (ys : List V) (ds : List D) (H : Hp) : Prop where
  at_ : H acc = some (.lst ys)
  new : IsL K (frG (upd H0 acc (.lst [])) H) ys ds
  same : Same H0 H
  dom : Dom (upd H0 acc (.lst [])) H
theorem Acc.start {K : PySem.W.Frag} {H0 : Hp} {acc : Addr} (h : H0 acc = none) : Acc K H0 acc [] [] (upd H0 acc (.lst [])) := ⟨upd_same, .nil, same_upd h, Dom.refl _⟩
theorem Acc.push {K : PySem.W.Frag} {H0 H H' : Hp} {acc : Addr} {ys : List V} {ds : List D} {v : V} {d : D} (A : Acc K H0 acc ys ds H) (h0 : H0 acc = none) (S : Same H H') (hv : Is K (frG H H') v d) :
    H' acc = some (.lst ys) ∧ Acc K H0 acc (ys ++ [v]) (ds ++ [d]) (upd H' acc (.lst (ys ++ [v]))) := by
  have e := S _ _ A.at_
  have old : upd H0 acc (.lst []) acc ≠ none := by rw [upd_same]; simp
  refine ⟨e, upd_same, ?_, (A.same.trans S).upd_at h0, (A.dom.trans S.dom).upd⟩
  have h1 : IsL K (frG (upd H0 acc (.lst [])) H') ys ds := A.new.mono (frG_mono (Dom.refl _) S)
  have h2 : Is K (frG (upd H0 acc (.lst [])) H') v d := hv.mono (frG_mono A.dom (Same.refl _))
  exact (IsL.append h1 (.cons h2 .nil)).mono (frG_write old e)
theorem Acc.skip {K : PySem.W.Frag} {H0 H H' : Hp} {acc : Addr} {ys : List V} {ds : List D} (A : Acc K H0 acc ys ds H) (S : Same H H') : Acc K H0 acc ys ds H' :=
  ⟨S _ _ A.at_, A.new.mono (frG_mono (Dom.refl _) S), A.same.trans S, A.dom.trans S.dom⟩
/-- at the end -/
theorem Acc.done {K : PySem.W.Frag} {H0 H : Hp} {acc : Addr} {ys : List V} {ds : List D} (A : Acc K H0 acc ys ds H) (h0 : H0 acc = none) : Is K (frG H0 H) (.ref acc) (.lst ds) :=
  fr_lst A.at_ h0 (A.new.mono (frG_mono dom_upd (Same.refl _)))
end L2
namespace L2
open PySem PySem.Spec PyProof.Rows
section
variable {X : Cx}
theorem preSum_eq (ns : List Int) : ∀ k, preSum (fun i => ns.getD i 0) k = (ns.take k).sum
  | 0 => by simp [preSum]
  | k + 1 => by
    unfold preSum
    rw [preSum_eq ns k, List.take_add_one, List.sum_append]
    cases h : ns[k]? <;> simp [List.getD_eq_getElem?_getD, h]
/-- sum of a list of ints -/
def rSum (K : PySem.W.Frag) : List V → Hp → VK → Prop := fun xs H Q => ∃ (p : Addr) (ns : List Int), xs = [.ref p] ∧ SqL K H p (ns.map V.int) ∧ Q (.int ns.sum) H
theorem i_sum {K : PySem.W.Frag} {H : Hp} {Q : VK} {p : Addr} {ns : List Int} (h1 : SqL K H p (ns.map V.int)) (h : Q (.int ns.sum) H) : rSum K [.ref p] H Q := ⟨p, ns, rfl, h1, h⟩
theorem call_sumK {K : PySem.W.Frag} (hc : X.calm = true) (hK : X.K = K := by rfl) : CallR X (.builtin "sum") (rSum K) := by
  subst hK
  intro pins s σ H xs us Q I r h
  obtain ⟨p, ns, rfl, hq, q⟩ := h
  obtain ⟨u, rfl, ru⟩ := vals1 r
  cases ru
  obtain ⟨its, rv, pl, hz⟩ := I.list hq
  have lt : p < s.heap.objs.size := by
    obtain ⟨o, n, e, _⟩ := id pl
    exact Heap.lt_size e
  have hl := rv.length
  rw [List.length_map] at hl
  refine call_sum_walkAnyS (wpAny_pyIter_list pl.isList ?_)
  have W := (Walks.list (prog := X.prog) (w := X.w) (A := X.A.in1) (I.ok.hd hc) s.heap.objs.size p (Nat.ne_of_lt lt) its.toArray).toS
  refine ⟨s.heap.objs.size, _, _, _, _, _, _, fun i => ns.getD i 0, rfl, W, ?_, ?_, ?_, ?_⟩
  · exact ⟨⟨_, Heap.get?_push_size _ rfl, rfl, rfl⟩, Heap.IsList.push pl.isList _⟩
  · intro b hb
    rw [Heap.size_push]
    rcases (by simpa using hb : b = s.heap.objs.size ∨ b = p) with rfl | rfl
    · exact Nat.lt_succ_self _
    · exact Nat.lt_succ_of_lt lt
  · intro i v hv
    have hv : its[i]? = some v := by simpa using hv
    have hi : i < ns.length := by rw [hl]; exact (List.getElem?_eq_some_iff.1 hv).1
    obtain ⟨u, hu, t, ru⟩ := rv.get (i := i) (x := V.int ns[i]) (by rw [List.getElem?_map, List.getElem?_eq_getElem hi]; rfl)
    rw [hu] at hv
    cases hv
    refine ⟨t, ?_⟩
    rw [ru]
    show Value.int ns[i] t = Value.int (ns.getD i 0) t
    rw [List.getD_eq_getElem?_getD, List.getElem?_eq_getElem hi, Option.getD_some]
  · intro s' t' m
    have I1 : Inv X pins σ H { s with heap := s'.heap, toks := s'.toks } := I.kept fun b o e => m.heap b o (fun z => by
      have z : b = s.heap.objs.size := by simpa using z
      exact absurd (Heap.lt_size e) (by rw [z]; exact Nat.lt_irrefl _)) (Heap.get?_push_of_some _ e)
    have e : ({ s with heap := s'.heap, toks := s'.toks } : Shared) = s' := by
      have h1 := m.gens
      have h2 := m.drawn
      have h3 := m.os
      cases s'
      simp only at h1 h2 h3
      subst h1 h2 h3
      rfl
    rw [e] at I1
    refine ⟨.int ns.sum, H, I1, ⟨t', ?_⟩, q⟩
    rw [preSum_eq]
    have : its.toArray.size = ns.length := by rw [List.size_toArray, ← hl]
    rw [this, List.take_length]
end
/-- a promise of a new list, the asker's own -/
def sFl {α : Type} (K : PySem.W.Frag) (arg : α → List D) (pre : α → Prop) (post : α → List D → Prop) : Sp := fun vs H Q _ => ∃ x : α, IsL K H vs (arg x) ∧ pre x ∧ ∀ ds g ys H', post x ds → Same H H' → H' g = some (.lst ys) → H g = none → IsL K (frG H H') ys ds → Q (.ref g) H'
theorem sFl_len {α : Type} {K : PySem.W.Frag} {arg : α → List D} {pre : α → Prop} {post : α → List D → Prop} {n : Nat} (hl : ∀ x, (arg x).length = n) {vs : List V} {H : Hp} {Q : VK} {E : XK} (h : sFl K arg pre post vs H Q E) : vs.length = n := by
  obtain ⟨x, hi, _⟩ := h
  exact hi.len.trans (hl x)
theorem i_sFl {α : Type} {K : PySem.W.Frag} {arg : α → List D} {pre : α → Prop} {post : α → List D → Prop} {vs : List V} {H : Hp} {Q : VK} {E : XK} (x : α) (h1 : IsL K H vs (arg x)) (h2 : pre x) (h : ∀ ds g ys H', post x ds → Same H H' → H' g = some (.lst ys) → H g = none → IsL K (frG H H') ys ds → Q (.ref g) H') : sFl K arg pre post vs H Q E := ⟨x, h1, h2, h⟩
theorem IsL.ints_inv {K : PySem.W.Frag} {H : Hp} : ∀ {ns : List Int} {vs : List V}, IsL K H vs (ns.map D.int) → vs = ns.map V.int
  | [], _, h => h.nil_inv
  | n :: r, vs, h => by
    obtain ⟨x, t, rfl, hx, h⟩ := h.cons_inv
    rw [hx.int_inv, h.ints_inv]
    rfl
theorem Acc.out {K : PySem.W.Frag} {H0 H : Hp} {acc : Addr} {ys : List V} {ds : List D} (A : Acc K H0 acc ys ds H) : IsL K (frG H0 H) ys ds := A.new.mono (frG_mono dom_upd (Same.refl _))
section
variable {σ : St} {H : Hp} {Q : VK}
theorem i_fld {K : PySem.W.Frag} {ta : TE} {f : Str} (h : ta σ H fun x H1 => ∃ a C dx fs v, x = .ref a ∧ H1 a = some (.ins C dx fs) ∧ Cls K C ∧ NoAttr K C f ∧ fs.lookup f = some v ∧ Q v H1) : tFld K ta f σ H Q := h
theorem i_bm0 {K : PySem.W.Frag} {T : String} {r : V → List V → Hp → VK → Prop} {to : TE} (h : to σ H fun x H1 => tyV K T x H1 ∧ r x [] H1 Q) : tBM0 K T r to σ H Q := h
theorem i_pop {l : Addr} {xs : List V} {y : V} (h1 : H l = some (.lst xs)) (h2 : xs[xs.length - 1]? = some y) (h : Q y (upd H l (.lst xs.dropLast))) : rPop (.ref l) [] H Q := ⟨l, xs, y, rfl, rfl, h1, h2, h⟩
theorem i_make {C : Addr} {sp : Sp} {E : XK} {t : TA} (h : t σ H fun vs H1 => ∀ x dx, H1 x = none → H1 dx = none → dx ≠ x → sp (.ref x :: (vs ++ [])) (upd (upd H1 dx (.own x)) x (.ins C dx [])) (fun v H2 => v = .non ∧ Q (.ref x) H2) E) : tMake C sp [] E t σ H Q := h
end
end L2
namespace L2
open PySem PySem.Spec PyProof.Rows
section
variable {σ : St} {H : Hp} {v : V}
theorem i_gSub {to ti : TE} {t : TSet} {R : St → Hp → Prop} (h : to σ H fun o H1 => ti σ H1 fun i H2 => t o i v H2 fun H3 => R σ H3) : gSub to ti t v σ H R := h
end
end L2
namespace L2
open PySem PySem.Spec PyProof.Rows PyProof
section
variable {X : Cx}
/-- xs.index(y) of flat items: the first place -/
def rIndex : V → List V → Hp → VK → Prop := fun x vs H Q => ∃ (l : Addr) (xs : List V) (y : V) (j : Nat), x = .ref l ∧ vs = [y] ∧ H l = some (.lst xs) ∧ flatV y = true ∧ xs.all flatV = true ∧ (∃ z, xs[j]? = some z ∧ eqV z y = true) ∧ (∀ m z, m < j → xs[m]? = some z → eqV z y = false) ∧ Q (.int (j : Int)) H
theorem mt_index : MtM X "list.index" rIndex := by
  intro pins s σ H x vs v us Q I rx rv h
  obtain ⟨l, xs, y, j, rfl, rfl, hH, fy, fs, ⟨z, hz1, hz2⟩, hno, q⟩ := h
  cases rx
  obtain ⟨u, rfl, ru⟩ := rv.one
  obtain ⟨zl, its, n, r, hl, e⟩ := I.lstM hH
  have hn := line63
  have hj : j < xs.length := (List.getElem?_eq_some_iff.1 hz1).1
  have fl : ∀ (m : Nat) (w : V), xs[m]? = some w → flatV w = true := fun m w hw => List.all_eq_true.1 fs w (List.mem_of_getElem? hw)
  have at_ : ∀ (m : Nat) (w : V) (hm : m < its.toArray.size), xs[m]? = some w → eqU y its.toArray[m] = eqV w y := fun m w hm hw => by
    obtain ⟨c, hc, rc⟩ := r.get hw
    have e1 : its.toArray[m] = c := by
      have e2 : its[m]? = some its[m] := List.getElem?_eq_getElem (by simpa using hm)
      rw [hc] at e2
      simpa using (Option.some.inj e2).symm
    rw [e1]
    exact eqU_of rc (fl m w hw)
  refine call_meets F.slot_list_index ⟨_, e, rfl⟩ F.entry_list_index (F.args_list_index_2 _ _) (SeqAt.list_indexAt l its.toArray n none #[] u (eqU y) j (by rw [List.size_toArray]; omega) (by omega) ?_ ?_) ⟨e, fun c hc => mem_eqAt ru fy r fs c (by simpa using hc), ?_⟩
  · rw [at_ j z (by rw [List.size_toArray]; omega) hz1]
    exact hz2
  · intro m hm hlt
    have hm' : m < xs.length := by omega
    rw [at_ m xs[m] hm (List.getElem?_eq_getElem hm')]
    exact hno m xs[m] hlt (List.getElem?_eq_getElem hm')
  · exact ⟨.int j, H, I.tok _, ⟨_, rfl⟩, q⟩
theorem i_index {H : Hp} {Q : VK} {l : Addr} {xs : List V} {y : V} {j : Nat} (h1 : H l = some (.lst xs)) (h2 : flatV y = true) (h3 : xs.all flatV = true) {z : V} (h4 : xs[j]? = some z) (h5 : eqV z y = true) (h6 : ∀ m z, m < j → xs[m]? = some z → eqV z y = false) (h : Q (.int (j : Int)) H) : rIndex (.ref l) [y] H Q := ⟨l, xs, y, j, rfl, rfl, h1, h2, h3, ⟨z, h4, h5⟩, h6, h⟩
/-- z[lo:hi] of a text -/
def rSlS : V → Option Int → Option Int → Hp → VK → Prop := fun x lo hi H Q => ∃ z, x = .str z ∧ z.length ≤ sizeLine ∧ Q (.str (Txt.slice z lo hi)) H
theorem sl_str : SlR X rSlS := by
  intro pins s σ H x v vl vu lo hi sl Q I rx hs pl pu h
  obtain ⟨z, rfl, hz, q⟩ := h
  obtain ⟨t, rfl⟩ := rx
  refine ⟨"str", _, F.slot_str_getitem.lookup, typeIs_str _ _ _, ?_⟩
  obtain ⟨l, hl1, hl2⟩ : ∃ l : Option (Int × Tok), vl = partValue l ∧ l.map (·.1) = lo := by
    cases pl with
    | none => exact ⟨none, rfl, rfl⟩
    | int i t => exact ⟨some (i, t), rfl, rfl⟩
  obtain ⟨u, hu1, hu2⟩ : ∃ l : Option (Int × Tok), vu = partValue l ∧ l.map (·.1) = hi := by
    cases pu with
    | none => exact ⟨none, rfl, rfl⟩
    | int i t => exact ⟨some (i, t), rfl, rfl⟩
  subst hl1 hu1 hl2 hu2
  exact wpAny_getItem_str_slice (l := l) (u := u) (st := none) hs rfl (post_val_or_str ⟨Nat.le_trans (Txt.slice_le z _ _) hz, fun t' k => ⟨.str _, H, I.tok _, ⟨_, rfl⟩, q⟩⟩)
theorem i_slS {H : Hp} {Q : VK} {z : Str} {lo hi : Option Int} (h1 : z.length ≤ sizeLine) (h : ∀ z' : Str, z'.length ≤ z.length → Q (.str z') H) : rSlS (.str z) lo hi H Q := ⟨z, rfl, h1, h _ (Txt.length_slice_le z lo hi)⟩
theorem op_catTK {K : PySem.W.Frag} (h : X.K = K := by rfl) : OpR X (binaryOp .Add) (rCatT K) := h ▸ op_catT
theorem sl_tupK {K : PySem.W.Frag} (h : X.K = K := by rfl) : SlR X (rSlT K) := h ▸ sl_tup
theorem kit_no {K : PySem.W.Frag} {a b : String} (h1 : (Value.type a == Value.type b) = false) (h : (fastBuiltinMro a).map (·.contains (.type b)) = some false) (hm : PySem.W.kitMeta b = true) (hs : PySem.W.subIn K (.type a) (.type b) = (fastBuiltinMro a).map (·.contains (.type b))) : PySem.W.kitOne K (.type a) (.type b) = some false := by
  unfold PySem.W.kitOne PySem.W.kitCls
  rw [if_neg (by rw [h1]; decide)]
  show (if PySem.W.kitMeta b = true then PySem.W.subIn K (.type a) (.type b) else none) = _
  rw [if_pos hm, hs, h]
theorem kit_int_str {K : PySem.W.Frag} : PySem.W.kitOne K (.type "int") (.type "str") = some false := kit_no (by decide) (by decide +kernel) (by decide +kernel) rfl
theorem kit_str_int {K : PySem.W.Frag} : PySem.W.kitOne K (.type "str") (.type "int") = some false := kit_no (by decide) (by decide +kernel) (by decide +kernel) rfl
theorem i_ixS {H : Hp} {Q : VK} {z : Str} {i : Int} (h1 : z.length ≤ sizeLine) (h2 : 0 ≤ i) (h3 : i < z.length) (h : ∀ c, z.cps[i.toNat]? = some c → Q (.str ⟨#[c]⟩) H) : rIxS (.str z) (.int i) H Q := by
  have hl : z.cps.toList.length = z.length := by simp [Str.length]
  have hlt : i.toNat < z.cps.size := by have : z.length = z.cps.size := rfl; omega
  refine ⟨z, i, z.cps[i.toNat], rfl, rfl, h1, ?_, h _ (by simp [hlt])⟩
  unfold atI ixN
  rw [hl, if_pos h2, if_pos h3]
  simp [hlt]
theorem i_addS {H : Hp} {Q : VK} {a b : Str} (h1 : a.length + b.length ≤ sizeLine) (h : Q (.str (a ++ b)) H) : ∃ i j, V.str a = .str i ∧ V.str b = .str j ∧ i.length + j.length ≤ sizeLine ∧ Q (.str (i ++ j)) H := ⟨a, b, rfl, rfl, h1, h⟩
end
end L2
namespace L2
open PySem PySem.Spec PyProof.Rows
open AutoSeq1 (wpAny_loadPart')
section
variable {prog : Program} {w : World} {A : Around} {E : Value → Shared → Prop} {s : Shared}
theorem tit_at {h h' : Heap} {a t : Addr} {i : Nat} (x : IsTupIter h a t i) (e : ∀ o, h.get? a = some o → h'.get? a = some o) : IsTupIter h' a t i := let ⟨o, ho, r⟩ := x; ⟨o, e o ho, r⟩
/-- the next of a tuple's iterator -/
theorem nextT {it t : Addr} {i : Nat} {its : Array Value} {x : Value} {Q : Value → Shared → Prop} (hit : IsTupIter s.heap it t i) (ht : IsTup s.heap t its) (hx : its[i]? = some x)
    (q : ∀ h', IsTupIter h' it t (i + 1) → Heap.SameBut it s.heap h' → Q x { s with heap := h' }) : wpAny (model prog w) A (Builtin.SmallTypes.nextOf (.ref it)) Q E s := by
  obtain ⟨io, hio, ic, ida⟩ := id hit
  obtain ⟨tob, hto, _, tn, tda⟩ := ht
  unfold Builtin.SmallTypes.nextOf
  refine wpAny_bind (wpAny_callSpecial?_slot (name := Str.ofString "__next__") hit.typeIs slot_tupleiter_next (wpAny_call_entry slot_tupleiter_next hit.typeIs entry_tupleiter_next ?_ (args_tupleiter_next _)))
  refine wpAny_bind (m := field (.ref it) 0) (wpAny_field hio ida (x := .ref t) rfl ?_)
  show wpAny _ _ (if (Value.ref t == Value.none) = true then _ else _) _ _ s; rw [if_neg (show ¬ ((Value.ref t == Value.none) = true) from Bool.false_ne_true)]
  refine wpAny_bind (m := field (.ref it) 1) (wpAny_field hio ida (x := .int i 0) rfl ?_)
  refine wpAny_bind (m := seqItems? (.ref t)) (wpAny_seqItems hto tda ?_)
  simp only [Int.toNat_natCast, hx]
  refine wpAny_bind (wpAny_setField hio ida (by simp) (wpAny_pure ⟨x, rfl, wpAny_pure (q _ ⟨_, Heap.get?_update_self _ hio (Obj.isFreed_of_fields (Obj.data_mapFields ida _)), (Obj.cls_mapFields ..).trans ic, ?_⟩ (Heap.SameBut.update ..))⟩))
  rw [Obj.data_mapFields ida]
  simp [rawInt]
theorem nextT_end {it t : Addr} {i : Nat} {its : Array Value} {Q : Value → Shared → Prop} (hh : A.handled = none) (hit : IsTupIter s.heap it t i) (ht : IsTup s.heap t its) (hx : its[i]? = none)
    (q : ∀ h' e, Heap.ExtBut it s.heap h' → (∃ o, h'.get? e = some o ∧ o.cls = .type "StopIteration") → E (.ref e) { s with heap := h' }) : wpAny (model prog w) A (Builtin.SmallTypes.nextOf (.ref it)) Q E s := by
  obtain ⟨io, hio, ic, ida⟩ := id hit
  obtain ⟨tob, hto, _, tn, tda⟩ := ht
  unfold Builtin.SmallTypes.nextOf
  refine wpAny_bind (wpAny_callSpecial?_slot (name := Str.ofString "__next__") hit.typeIs slot_tupleiter_next (wpAny_call_entry slot_tupleiter_next hit.typeIs entry_tupleiter_next ?_ (args_tupleiter_next _)))
  refine wpAny_bind (m := field (.ref it) 0) (wpAny_field hio ida (x := .ref t) rfl ?_)
  show wpAny _ _ (if (Value.ref t == Value.none) = true then _ else _) _ _ s; rw [if_neg (show ¬ ((Value.ref t == Value.none) = true) from Bool.false_ne_true)]
  refine wpAny_bind (m := field (.ref it) 1) (wpAny_field hio ida (x := .int i 0) rfl ?_)
  refine wpAny_bind (m := seqItems? (.ref t)) (wpAny_seqItems hto tda ?_)
  simp only [Int.toNat_natCast, hx]
  refine wpAny_bind (wpAny_rule (wpAny_bind (wpAny_setField hio ida (by simp) ?_)))
  refine wpAny_bind (m := newExc (.type "StopIteration") []) ?_
  simp only [newExc, newTuple]
  refine wpAny_bind (wpAny_newObj_type ?_ (by size_fits)); refine wpAny_bind (m := firstArgMember _ _) (wpAny_of_eq (a := Value.none) (by first | rfl | (simp only [firstArgMember]; rfl)) ?_); refine wpAny_newObj_type ?_ (by size_fits)
  simp only [raiseNew]
  refine wpAny_bind (wpAny_handled ?_); (first | rw [show A.in1.handled = none from hh] | rw [hh])
  exact wpAny_bind (wpAny_pure (wpAny_throw (q _ _ (((Heap.SameBut.update ..).extBut.push _).push _) ⟨_, Heap.get?_push_size _ rfl, rfl⟩)))
theorem drawsT (hh : A.handled = none) (it t : Addr) (hne : t ≠ it) (its : Array Value) : Draws prog w A it [it, t] its.size (fun i v => its[i]? = some v) (fun i h => IsTupIter h it t i ∧ IsTup h t its) where
  live := fun _ _ st => let ⟨o, ho, _⟩ := st.1; ⟨o, ho⟩
  frame := fun _ _ _ st hk => ⟨tit_at st.1 fun o e => hk it (by simp) o e, let ⟨o, ho, r⟩ := st.2; ⟨o, hk t (by simp) o ho, r⟩⟩
  item := fun i s Q E hi st hQ => nextT st.1 st.2 (x := its[i]) (by simp [hi]) fun h' hit' hs' => hQ _ h' s.toks (by simp [hi]) ⟨hit', st.2.extBut hs'.extBut hne⟩ hs'
  done := fun s Q E st hE => nextT_end hh st.1 st.2 (by simp) hE
/-- enumerate of a tuple is made -/
theorem meets_enumT (t : Addr) (its : Array Value) (n : Nat) (dct : Option Addr) (sl : Array (Option Value)) :
    Meets (Builtin.«enumerate.__new__» ⟨[.type "enumerate", .ref t], []⟩) (fun _ R s => s.heap.get? t = some { cls := .type "tuple", dict := dct, data := .seq its n, slots := sl } ∧
      R (.ok (.ret (.ref (s.heap.push { cls := .type "tuple_iterator", data := .fields #[.ref t, .int 0 0] }).objs.size)))
        { s with heap := (s.heap.push { cls := .type "tuple_iterator", data := .fields #[.ref t, .int 0 0] }).push { cls := .type "enumerate", data := .fields #[.none, .bool false, .ref s.heap.objs.size, rawInt 0, .none, .none] } }) :=
  .of_wp fun prog w A R s h => by
    obtain ⟨hp, g, d, tk, os⟩ := s
    obtain ⟨ht, h⟩ := h
    have hsub := sub_enumerate
    have hT : IsTup (Shared.heap ⟨hp, g, d, tk, os⟩) t its := ⟨_, ht, rfl, n, rfl⟩
    wp_walk using wpAny_loadPart' ht
    refine wpAny_stack_any fun st => wpAny_pure ?_
    split
    · rename_i c _ _ _ _ _
      cases (c == Value.type "enumerate") <;> (wp_walk using wpAny_loadPart' ht, iter_tuple hT; exact ⟨_, rfl, h⟩)
    · wp_walk using wpAny_loadPart' ht, iter_tuple hT
      exact ⟨_, rfl, h⟩
theorem call_enumT {t : Addr} {its : Array Value} {Q : Value → Shared → Prop} (hT : IsTup s.heap t its)
    (h : ∀ h', IsEnum h' (s.heap.objs.size + 1) s.heap.objs.size 0 .none → IsTupIter h' s.heap.objs.size t 0 → h'.objs.size = s.heap.objs.size + 2 → (∀ b o, s.heap.get? b = some o → h'.get? b = some o) → Q (.ref (s.heap.objs.size + 1)) { s with heap := h' }) :
    wpAny (model prog w) A (call (.type "enumerate") [.ref t]) Q E s := by
  obtain ⟨⟨c, dct, dt, sl⟩, ht, hc, n, hd⟩ := hT
  replace hc : c = .type "tuple" := hc
  replace hd : dt = .seq its n := hd
  subst hc hd
  refine callType_new F.called_enumerate (by decide) (F.typeCall_enumerate_1 _) (F.newCall_enumerate_1 _) (fun obj => F.args_object_init_2 obj _) F.entry_enumerate_new (meets_enumT t its n dct sl) ⟨ht, ?_⟩
  have hz : (s.heap.push { cls := .type "tuple_iterator", data := .fields #[.ref t, .int 0 0] }).objs.size = s.heap.objs.size + 1 := Heap.size_push ..
  have he := Heap.get?_push_size (s.heap.push { cls := .type "tuple_iterator", data := .fields #[.ref t, .int 0 0] }) (o := { cls := .type "enumerate", data := .fields #[.none, .bool false, .ref s.heap.objs.size, rawInt 0, .none, .none] }) rfl
  show _ ∧ _
  rw [hz] at he ⊢
  exact ⟨⟨_, he, rfl⟩, h _ he ⟨_, Heap.get?_push_of_some _ (Heap.get?_push_size _ rfl), rfl, rfl⟩ (by rw [Heap.size_push, hz]) fun b o x => Heap.get?_push_of_some _ (Heap.get?_push_of_some _ x)⟩
end
/-- enumerate of the tuple at a -/
def IteT (K : PySem.W.Frag) (a : Addr) : It :=
  ⟨fun i H => ∃ xs x, SqT K H a xs ∧ xs[i]? = some x, fun i H x H' => ∃ p y, x = .ref p ∧ H p = none ∧ H' = upd H p (.tup [.int i, y]) ∧ ∀ xs, SqT K H a xs → xs[i]? = some y, fun i H => ∃ xs, SqT K H a xs ∧ xs.length ≤ i⟩
theorem tup_inj {X : Cx} {pins : List (Addr × Obj)} {σ : St} {H : Hp} {s : Shared} {a : Addr} {xs ys : List V} (I : Inv X pins σ H s) (h1 : SqT X.K H a xs) (h2 : SqT X.K H a ys) : xs = ys := I.tuple_inj h1 h2
theorem turn_enumT {P : Program} {w : World} {K : PySem.W.Frag} {elts : List Expr} {k : Nat} {tp : Pos} (a e it : Addr) (hne : e ≠ it) :
    Turn P w K (.Tuple elts k tp) (IteT K a) [e, it] e (fun i h => (∃ old, IsEnum h e it i old) ∧ IsTupIter h it a i) where
  mem := by simp
  obj := fun i h st b hb => by
    obtain ⟨⟨old, he⟩, o, e', c, d⟩ := st
    rcases (by simpa using hb : b = e ∨ b = it) with rfl | rfl
    · exact ⟨_, he, fun v z => by cases z⟩
    · exact ⟨o, e', fun v z => by rw [d] at z; cases z⟩
  keep := fun i h h' st k => ⟨let ⟨old, he⟩ := st.1; ⟨old, k e (by simp) _ he⟩, tit_at st.2 fun o e => k it (by simp) o e⟩
  item := by
    intro X hP hw hK hc i pins s σ H E I hf st hg
    subst hP hw hK
    obtain ⟨xs, x, hq, hx⟩ := hg
    obtain ⟨its, rv, p, hz⟩ := I.tuple hq
    obtain ⟨u, hu, ru⟩ := rv.get hx
    obtain ⟨⟨old, he⟩, hit⟩ := st
    obtain ⟨oi, hoi, ci, _⟩ := id hit
    obtain ⟨ot, hot, ct, _⟩ := id p
    have nai : a ≠ it := fun z => by subst z; rw [hoi] at hot; cases hot; rw [ci] at ct; exact absurd ct (by decide)
    have nae : e ≠ a := fun z => by subst z; rw [he] at hot; cases hot; exact absurd (show Value.type "enumerate" = .type "tuple" from ct) (by decide)
    have hi : i < its.toArray.size := by have := (List.getElem?_eq_some_iff.1 hu).1; simpa using this
    refine wpAny_pyNext_enum_itemD (drawsT (prog := X.prog) (w := X.w) (A := X.A.in1) (I.ok.hd hc) it a nai its.toArray) he ⟨hit, p⟩ hi hne (by simp [hne, nae]) fun y h1 tk hP heo hst1 ht1 hz1 hk1 => ?_
    have hy : y = u := by
      have : its.toArray[i]? = some u := by simpa using hu
      rw [this] at hP
      exact (Option.some.inj hP).symm
    subst hy
    refine ⟨_, rfl, ?_⟩
    refine wpAny_letOwnedTupleGo_enum (s := { s with heap := h1, toks := tk + 1 }) heo fun h2 he2 hs2 => ?_
    have hs2 : Heap.SameBut e h1 h2 := hs2
    have ltE : e < s.heap.objs.size := Heap.lt_size he
    have vv : Vals [V.int i, x] [.int i tk, y] := .cons ⟨_, rfl⟩ (.cons ru .nil)
    have T := Inv.turnedT (h' := h2) (t' := tk + 1) (fp := [e, it]) I vv (by show 2 ≤ sizeLine; decide) (fun b o hb eb => ?_) ((hs2.2 _ (Nat.ne_of_gt ltE)).trans ht1) hf (fun b hb => ?_)
    · obtain ⟨I2, fr, fb⟩ := T
      exact ⟨.ref s.heap.objs.size, _, I2, rfl, ⟨_, x, rfl, fr, rfl, fun ys hy => by rw [tup_inj I hy hq]; exact hx⟩, ⟨⟨_, he2⟩, tit_at hst1.1 fun o eo => (hs2.2 it hne.symm).trans eo⟩, fb⟩
    · have hb : b ≠ e ∧ b ≠ it := by simpa using hb
      exact (hs2.2 b hb.1).trans (hk1 b o hb.1 hb.2 eb)
    · rcases (by simpa using hb : b = e ∨ b = it) with rfl | rfl
      · exact ⟨_, he⟩
      · exact ⟨oi, hoi⟩
  done := by
    intro X hP hw hK hc i pins s σ H E I hf st hg
    subst hP hw hK
    obtain ⟨xs, hq, hx⟩ := hg
    obtain ⟨its, rv, p, hz⟩ := I.tuple hq
    have hl := rv.length
    obtain ⟨⟨old, he⟩, hit⟩ := st
    have hT : s.TypeIs (.ref e) "enumerate" := ⟨_, he, rfl⟩
    unfold pyNext
    refine wpAny_bind (wpAny_attempt (wpAny_callSpecial?_slot (name := Str.ofString "__next__") hT F.slot_enumerate_next (wpAny_call_entry F.slot_enumerate_next hT F.entry_enumerate_next ?_ (F.args_enumerate_next_1 _))))
    refine wpAny_bind (m := field (.ref e) 2) (wpAny_field he rfl (x := .ref it) rfl ?_)
    refine wpAny_bind (nextT_end (I.ok.hd hc) hit p (by simp; omega) fun h' ex he' hx' => ?_)
    obtain ⟨oe, hoe, hce⟩ := hx'
    refine wpAny_bind (wpAny_isInstance (T := "StopIteration") (b := true) ⟨oe, hoe, hce⟩ isSubtype_stop (wpAny_pure ?_))
    exact ⟨rfl, Inv.turnedL (t' := s.toks) (fp := [e, it]) I (fun b o hb eo => he' b o (fun z => hb (by simp [z])) eo) hf⟩
  self := fun _ _ _ _ _ st h => let ⟨⟨_, he⟩, _⟩ := st; wpAny_pyIter_enum he h
section
variable {X : Cx}
def iEnumT (K : PySem.W.Frag) (ta : TA) : TI := fun σ H R => ta σ H fun vs H1 => ∃ a, vs = [.ref a] ∧ (∃ xs, SqT K H1 a xs) ∧ R (IteT K a) H1
theorem i_enumT {K : PySem.W.Frag} {ta : TA} {σ : St} {H : Hp} {R : It → Hp → Prop} (h : ta σ H fun vs H1 => ∃ a, vs = [.ref a] ∧ (∃ xs, SqT K H1 a xs) ∧ R (IteT K a) H1) : iEnumT K ta σ H R := h
theorem pi_enumT {K : PySem.W.Frag} {elts : List Expr} {k : Nat} {tp : Pos} {l : Expr} {ta : TA} {p pos : Pos} (hg : Gl X "enumerate") (hm : X.mg "enumerate" = none) (ha : PA X [l] ta) (hK : X.K = K := by rfl) (hs : starEach [l] X.env = [(false, eval l X.env)] := by rfl) :
    PI X (.Tuple elts k tp) (.Call (.Name "enumerate" p) [l] [] pos) (iEnumT K ta) := by
  subst hK
  intro pins s σ H R I h
  refine Call_ (ld_blt I hg hm Boot.«enumerate» (PyProof.Rows.callWith_type1 (thn (ha pos pins s σ H _ I h) fun us s1 ⟨vs, H1, I1, r1, q1⟩ => ?_) hs rfl))
  obtain ⟨a, e, ⟨xs, hq⟩, q⟩ := q1
  subst e
  obtain ⟨u, rfl, ru⟩ := vals1 r1
  cases ru
  obtain ⟨its, rv, p, hz⟩ := I1.tuple hq
  refine call_enumT p fun h' he hit hsz hk => ?_
  have I2 : Inv X pins σ H1 { s1 with heap := h' } := I1.kept (t' := s1.toks) hk
  refine wpAny_pyIter_enum (s := { s1 with heap := h' }) he ?_
  refine ⟨s1.heap.objs.size + 1, [s1.heap.objs.size + 1, s1.heap.objs.size], _, _, H1, rfl, I2, turn_enumT a (s1.heap.objs.size + 1) s1.heap.objs.size (Nat.succ_ne_self _), ⟨⟨_, he⟩, hit⟩, fun b hb => ?_, q⟩
  have hb : s1.heap.objs.size ≤ b := by
    rcases (by simpa using hb : b = s1.heap.objs.size + 1 ∨ b = s1.heap.objs.size) with rfl | rfl
    · exact Nat.le_succ _
    · exact Nat.le_refl _
  exact Inv.fpOk I1 hb (I1.hok.fresh hb) |> fun ⟨f0, f1, f2, f3, f4, f5⟩ => ⟨f0, f1, f2, f3, f4, f5⟩
end
theorem pairs_enumT {K : PySem.W.Frag} {a : Addr} {xs : List V} : Pairs (IteT K a) xs.length (fun i => (xs[i]?).map fun x => (.int i, x)) (fun H => SqT K H a xs) where
  go := fun i H h hi => ⟨xs, xs[i], h, List.getElem?_eq_getElem hi⟩
  stop := fun H h => ⟨xs, h, Nat.le_refl _⟩
  yld := fun i H x H' h hi ⟨p, y, e, hp, e', hy⟩ => ⟨p, _, y, e, hp, e', by rw [hy xs h]; rfl⟩
end L2
namespace L2
open PySem PySem.Spec PyProof.Rows
section
variable {prog : Program} {w : World} {A : Around} {E : Value → Shared → Prop} {s : Shared}
/-- zip of two tuples: a pair comes -/
theorem zipT_item {z TI TO i1 i2 l1 l2 : Addr} {k1 k2 : Nat} {xs ys : Array Value} {x y a b : Value} {Q : Option Value → Shared → Prop} (D : ZipApart z TI TO i1 i2 l1 l2) (zz : IsZip s.heap z TI TO .none) (pI : IsPair s.heap TI (.ref i1) (.ref i2)) (pO : IsPair s.heap TO a b)
    (t1 : IsTupIter s.heap i1 l1 k1) (t2 : IsTupIter s.heap i2 l2 k2) (g1 : IsTup s.heap l1 xs) (g2 : IsTup s.heap l2 ys) (hx : xs[k1]? = some x) (hy : ys[k2]? = some y)
    (q : ∀ h', IsZip h' z TI TO (rawInt s.heap.objs.size) → IsPair h' TO x y → IsTupIter h' i1 l1 (k1 + 1) → IsTupIter h' i2 l2 (k2 + 1) → IsPair h' s.heap.objs.size x y → h'.objs.size = s.heap.objs.size + 1 →
      (∀ c o, c ≠ z → c ≠ TO → c ≠ i1 → c ≠ i2 → s.heap.get? c = some o → h'.get? c = some o) → Q (some (.ref s.heap.objs.size)) { s with heap := h' }) : wpAny (model prog w) A (pyNext (.ref z)) Q E s := by
  have hT : s.TypeIs (.ref z) "zip" := ⟨_, zz, rfl⟩
  unfold pyNext
  refine wpAny_bind (wpAny_attempt (wpAny_callSpecial?_slot (name := Str.ofString "__next__") hT F.slot_zip_next (wpAny_call_entry F.slot_zip_next hT F.entry_zip_next ?_ (F.args_zip_next_1 _))))
  refine wpAny_bind (m := field (.ref z) 2) (wpAny_field zz rfl (x := .bool false) rfl ?_)
  refine wpAny_bind (m := field (.ref z) 3) (wpAny_field zz rfl (x := .ref TI) rfl ?_)
  refine wpAny_bind (wpAny_seqItems pI rfl ?_)
  refine wpAny_bind (m := Builtin.SmallTypes.ownedTupleIsFree (.ref z)) ?_
  unfold Builtin.SmallTypes.ownedTupleIsFree
  refine wpAny_bind (wpAny_field zz rfl (x := .none) rfl (wpAny_pure ?_)); simp only [if_true]
  refine wpAny_bind (wpAny_rule (wpAny_bind (wpAny_field zz rfl (x := .ref TO) rfl (wpAny_bind (wpAny_setField_rec zz (by simp) fun ha za sa => ?_)))))
  replace za : IsZip ha z TI TO .ellipsis := za
  refine wpAny_bind ?_
  simp only [List.zipIdx_cons, List.zipIdx_nil, List.forIn_cons, List.forIn_nil]
  refine wpAny_bind (wpAny_bind (wpAny_onRaise (wpAny_bind (m := Builtin.SmallTypes.nextOf (.ref i1)) ?_)))
  refine nextT (t1.extBut sa.extBut D.i1z) (g1.extBut sa.extBut D.l1z) hx fun hb tb sb => wpAny_pure ?_
  have ob : IsPair hb TO a b := sb.extBut _ _ D.TOi1 (sa.extBut _ _ D.TOz pO)
  refine wpAny_bind (wpAny_seqItems ob rfl (wpAny_bind (wpAny_updateSeq_pair ob fun hc oc sc => ?_)))
  replace oc : IsPair hc TO x b := oc
  refine wpAny_bind (wpAny_letGo (wpAny_pure (wpAny_bind (wpAny_bind (wpAny_onRaise (wpAny_bind (m := Builtin.SmallTypes.nextOf (.ref i2)) ?_))))))
  refine nextT (((t2.extBut sa.extBut D.i2z).extBut sb.extBut D.i12.symm).extBut sc.extBut D.TOi2.symm) (((g2.extBut sa.extBut D.l2z).extBut sb.extBut D.l2i1).extBut sc.extBut D.l2TO) hy fun hd td sd => wpAny_pure ?_
  have od : IsPair hd TO x b := sd.extBut _ _ D.TOi2 oc
  refine wpAny_bind (wpAny_seqItems od rfl (wpAny_bind (wpAny_updateSeq_pair od fun he oe se => ?_)))
  replace oe : IsPair he TO x y := oe
  refine wpAny_bind (wpAny_letGo (wpAny_pure (wpAny_pure (wpAny_bind (wpAny_seqItems oe rfl (wpAny_bind (wpAny_newTuple ?_)))))))
  have size : he.objs.size = s.heap.objs.size := by rw [se.1, sd.1, sc.1, sb.1, sa.1]
  have ze : IsZip he z TI TO .ellipsis := se.extBut _ _ D.TOz.symm (sd.extBut _ _ D.i2z.symm (sc.extBut _ _ D.TOz.symm (sb.extBut _ _ D.i1z.symm za)))
  have ke : ∀ c o, c ≠ z → c ≠ TO → c ≠ i1 → c ≠ i2 → s.heap.get? c = some o → he.get? c = some o := fun c o c1 c2 c3 c4 e => se.extBut _ _ c2 (sd.extBut _ _ c4 (sc.extBut _ _ c2 (sb.extBut _ _ c3 (sa.extBut _ _ c1 e))))
  have u1 : IsTupIter he i1 l1 (k1 + 1) := ((tb.extBut sc.extBut D.TOi1.symm).extBut sd.extBut D.i12).extBut se.extBut D.TOi1.symm
  have u2 : IsTupIter he i2 l2 (k2 + 1) := td.extBut se.extBut D.TOi2.symm
  have zlt : z < he.objs.size := Heap.lt_size ze
  refine wpAny_bind (m := Builtin.SmallTypes.ownedTupleHandOut (.ref z) (.ref he.objs.size)) ?_
  unfold Builtin.SmallTypes.ownedTupleHandOut
  have zf : IsZip (he.push { cls := .type "tuple", data := .seq #[x, y] }) z TI TO .ellipsis := Heap.get?_push_of_some _ ze
  refine wpAny_bind (wpAny_setField_rec zf (by simp) fun hg zg sg => ?_)
  replace zg : IsZip hg z TI TO (rawInt he.objs.size) := zg
  refine wpAny_setField_rec zg (by simp) fun hh zh sh => ?_
  replace zh : IsZip hh z TI TO (rawInt he.objs.size) := zh
  have up : ∀ c o, c ≠ z → he.get? c = some o → hh.get? c = some o := fun c o c1 e => sh.extBut _ _ c1 (sg.extBut _ _ c1 (Heap.get?_push_of_some _ e))
  have th : IsPair hh he.objs.size x y := sh.extBut _ _ (Nat.ne_of_gt zlt) (sg.extBut _ _ (Nat.ne_of_gt zlt) (Heap.get?_push_size _ rfl))
  have sz : hh.objs.size = he.objs.size + 1 := by rw [sh.1, sg.1, Heap.size_push]
  rw [size] at zh th sz
  refine wpAny_pure ⟨_, rfl, wpAny_pure ?_⟩
  show Q (some (.ref he.objs.size)) _; rw [size]
  exact q hh zh (up _ _ D.TOz oe) (tit_at u1 fun o e => up _ o D.i1z e) (tit_at u2 fun o e => up _ o D.i2z e) th sz fun c o c1 c2 c3 c4 e => up c o c1 (ke c o c1 c2 c3 c4 e)
theorem zipT_end {z TI TO i1 i2 l1 l2 : Addr} {k1 k2 : Nat} {xs ys : Array Value} {a b : Value} {Q : Option Value → Shared → Prop} (hh : A.handled = none) (D : ZipApart z TI TO i1 i2 l1 l2) (zz : IsZip s.heap z TI TO .none) (pI : IsPair s.heap TI (.ref i1) (.ref i2)) (pO : IsPair s.heap TO a b)
    (t1 : IsTupIter s.heap i1 l1 k1) (t2 : IsTupIter s.heap i2 l2 k2) (g1 : IsTup s.heap l1 xs) (g2 : IsTup s.heap l2 ys) (hend : xs[k1]? = none ∨ ys[k2]? = none)
    (q : ∀ h', (∀ c o, c ≠ z → c ≠ TO → c ≠ i1 → c ≠ i2 → s.heap.get? c = some o → h'.get? c = some o) → Q none { s with heap := h' }) : wpAny (model prog w) A (pyNext (.ref z)) Q E s := by
  have hT : s.TypeIs (.ref z) "zip" := ⟨_, zz, rfl⟩
  unfold pyNext
  refine wpAny_bind (wpAny_attempt (wpAny_callSpecial?_slot (name := Str.ofString "__next__") hT F.slot_zip_next (wpAny_call_entry F.slot_zip_next hT F.entry_zip_next ?_ (F.args_zip_next_1 _))))
  refine wpAny_bind (m := field (.ref z) 2) (wpAny_field zz rfl (x := .bool false) rfl ?_)
  refine wpAny_bind (m := field (.ref z) 3) (wpAny_field zz rfl (x := .ref TI) rfl ?_)
  refine wpAny_bind (wpAny_seqItems pI rfl ?_)
  refine wpAny_bind (m := Builtin.SmallTypes.ownedTupleIsFree (.ref z)) ?_
  unfold Builtin.SmallTypes.ownedTupleIsFree
  refine wpAny_bind (wpAny_field zz rfl (x := .none) rfl (wpAny_pure ?_)); simp only [if_true]
  refine wpAny_bind (wpAny_rule (wpAny_bind (wpAny_field zz rfl (x := .ref TO) rfl (wpAny_bind (wpAny_setField_rec zz (by simp) fun ha za sa => ?_)))))
  replace za : IsZip ha z TI TO .ellipsis := za
  refine wpAny_bind ?_
  simp only [List.zipIdx_cons, List.zipIdx_nil, List.forIn_cons, List.forIn_nil]
  refine wpAny_bind (wpAny_bind (wpAny_onRaise (wpAny_bind (m := Builtin.SmallTypes.nextOf (.ref i1)) ?_)))
  cases hx : xs[k1]? with
  | none =>
    refine nextT_end hh (t1.extBut sa.extBut D.i1z) (g1.extBut sa.extBut D.l1z) hx fun hb e sb ⟨oe, hoe, hce⟩ => ?_
    have zb : IsZip hb z TI TO .ellipsis := sb _ _ D.i1z.symm za
    have hez : e ≠ z := fun x => by subst x; rw [zb] at hoe; cases hoe; simp at hce
    refine wpAny_setField_rec zb (by simp) fun hc _ sc => ?_
    exact wpAny_bind (wpAny_isInstance (T := "StopIteration") (b := true) ⟨oe, sc.extBut _ _ hez hoe, hce⟩ isSubtype_stop (wpAny_pure (q _ fun c o c1 _ c3 _ x => sc.extBut _ _ c1 (sb _ _ c3 (sa.extBut _ _ c1 x)))))
  | some x =>
    have hy : ys[k2]? = none := by rcases hend with h | h; rw [hx] at h; cases h; exact h
    refine nextT (t1.extBut sa.extBut D.i1z) (g1.extBut sa.extBut D.l1z) hx fun hb tb sb => wpAny_pure ?_
    have ob : IsPair hb TO a b := sb.extBut _ _ D.TOi1 (sa.extBut _ _ D.TOz pO)
    refine wpAny_bind (wpAny_seqItems ob rfl (wpAny_bind (wpAny_updateSeq_pair ob fun hc oc sc => ?_)))
    refine wpAny_bind (wpAny_letGo (wpAny_pure (wpAny_bind (wpAny_bind (wpAny_onRaise (wpAny_bind (m := Builtin.SmallTypes.nextOf (.ref i2)) ?_))))))
    refine nextT_end hh (((t2.extBut sa.extBut D.i2z).extBut sb.extBut D.i12.symm).extBut sc.extBut D.TOi2.symm) (((g2.extBut sa.extBut D.l2z).extBut sb.extBut D.l2i1).extBut sc.extBut D.l2TO) hy fun hd e sd ⟨oe, hoe, hce⟩ => ?_
    have zd : IsZip hd z TI TO .ellipsis := sd _ _ D.i2z.symm (sc.extBut _ _ D.TOz.symm (sb.extBut _ _ D.i1z.symm za))
    have hez : e ≠ z := fun x => by subst x; rw [zd] at hoe; cases hoe; simp at hce
    refine wpAny_setField_rec zd (by simp) fun he _ se => ?_
    exact wpAny_bind (wpAny_isInstance (T := "StopIteration") (b := true) ⟨oe, se.extBut _ _ hez hoe, hce⟩ isSubtype_stop (wpAny_pure (q _ fun c o c1 c2 c3 c4 x => se.extBut _ _ c1 (sd _ _ c4 (sc.extBut _ _ c2 (sb.extBut _ _ c3 (sa.extBut _ _ c1 x)))))))
abbrev zT1 (h : Heap) (l1 : Addr) : Heap := h.push { cls := .type "tuple_iterator", data := .fields #[.ref l1, .int 0 0] }
abbrev zT2 (h : Heap) (l1 l2 : Addr) : Heap := (zT1 h l1).push { cls := .type "tuple_iterator", data := .fields #[.ref l2, .int 0 0] }
abbrev zT3 (h : Heap) (l1 l2 : Addr) : Heap := (zT2 h l1 l2).push { cls := .type "tuple", data := .seq #[.ref h.objs.size, .ref (zT1 h l1).objs.size] }
abbrev zT4 (h : Heap) (l1 l2 : Addr) : Heap := (zT3 h l1 l2).push { cls := .type "tuple", data := .seq #[.none, .none] }
abbrev zT5 (h : Heap) (l1 l2 : Addr) : Heap := (zT4 h l1 l2).push { cls := .type "zip", data := .fields #[.none, .bool false, .bool false, .ref (zT2 h l1 l2).objs.size, .ref (zT3 h l1 l2).objs.size] }
theorem meets_zipT (l1 l2 : Addr) (xs ys : Array Value) : Meets (Builtin.«zip.__new__» ⟨[.type "zip", .ref l1, .ref l2], []⟩) (fun _ R s => IsTup s.heap l1 xs ∧ IsTup s.heap l2 ys ∧ R (.ok (.ret (.ref (zT4 s.heap l1 l2).objs.size))) { s with heap := zT5 s.heap l1 l2 }) :=
  .of_wp fun prog w A R s h => by
    obtain ⟨hp, g, d, tk, os⟩ := s
    obtain ⟨b1, b2, h⟩ := h
    have hsub := sub_zip
    have B1 : IsTup (Shared.heap ⟨hp, g, d, tk, os⟩) l1 xs := b1
    have B2 : IsTup (Shared.heap ⟨hp.push { cls := .type "tuple_iterator", data := .fields #[.ref l1, .int 0 0] }, g, d, tk, os⟩) l2 ys := IsTup.push b2 _
    wp_walk using iter_tuple B1, iter_tuple B2
    exact ⟨_, rfl, h⟩
theorem call_zipT {l1 l2 : Addr} {xs ys : Array Value} {Q : Value → Shared → Prop} (b1 : IsTup s.heap l1 xs) (b2 : IsTup s.heap l2 ys)
    (h : ∀ h', IsZip h' (s.heap.objs.size + 4) (s.heap.objs.size + 2) (s.heap.objs.size + 3) .none → IsPair h' (s.heap.objs.size + 2) (.ref s.heap.objs.size) (.ref (s.heap.objs.size + 1)) → IsPair h' (s.heap.objs.size + 3) .none .none →
      IsTupIter h' s.heap.objs.size l1 0 → IsTupIter h' (s.heap.objs.size + 1) l2 0 → (∀ c o, s.heap.get? c = some o → h'.get? c = some o) → Q (.ref (s.heap.objs.size + 4)) { s with heap := h' }) : wpAny (model prog w) A (call (.type "zip") [.ref l1, .ref l2]) Q E s := by
  refine callType_new F.called_zip (by decide) (F.typeCall_zip_2 _ _) (F.newCall_zip_2 _ _) (fun obj => F.args_object_init_3 obj _ _) F.entry_zip_new (meets_zipT l1 l2 xs ys) ⟨b1, b2, ?_⟩
  have n1 : (zT1 s.heap l1).objs.size = s.heap.objs.size + 1 := Heap.size_push ..
  have n2 : (zT2 s.heap l1 l2).objs.size = s.heap.objs.size + 2 := by rw [Heap.size_push, n1]
  have n3 : (zT3 s.heap l1 l2).objs.size = s.heap.objs.size + 3 := by rw [Heap.size_push, n2]
  have n4 : (zT4 s.heap l1 l2).objs.size = s.heap.objs.size + 4 := by rw [Heap.size_push, n3]
  have e5 : (zT5 s.heap l1 l2).get? (zT4 s.heap l1 l2).objs.size = some _ := Heap.get?_push_size _ rfl
  have e4 : (zT5 s.heap l1 l2).get? (zT3 s.heap l1 l2).objs.size = some _ := Heap.get?_push_of_some _ (Heap.get?_push_size _ rfl)
  have e3 : (zT5 s.heap l1 l2).get? (zT2 s.heap l1 l2).objs.size = some _ := Heap.get?_push_of_some _ (Heap.get?_push_of_some _ (Heap.get?_push_size _ rfl))
  have e2 : (zT5 s.heap l1 l2).get? (zT1 s.heap l1).objs.size = some _ := Heap.get?_push_of_some _ (Heap.get?_push_of_some _ (Heap.get?_push_of_some _ (Heap.get?_push_size _ rfl)))
  have e1 : (zT5 s.heap l1 l2).get? s.heap.objs.size = some _ := Heap.get?_push_of_some _ (Heap.get?_push_of_some _ (Heap.get?_push_of_some _ (Heap.get?_push_of_some _ (Heap.get?_push_size _ rfl))))
  show _ ∧ _
  rw [n2, n3, n4] at e5; rw [n1, n2] at e3; rw [n3] at e4; rw [n1] at e2; rw [n4]
  exact ⟨⟨_, e5, rfl⟩, h _ e5 e3 e4 ⟨_, e1, rfl, rfl⟩ ⟨_, e2, rfl, rfl⟩ fun c o x => Heap.get?_push_of_some _ (Heap.get?_push_of_some _ (Heap.get?_push_of_some _ (Heap.get?_push_of_some _ (Heap.get?_push_of_some _ x))))⟩
end
/-- zip of the tuples at a and b -/
def ItzT (K : PySem.W.Frag) (a b : Addr) : It :=
  ⟨fun i H => ∃ xs ys x y, SqT K H a xs ∧ SqT K H b ys ∧ xs[i]? = some x ∧ ys[i]? = some y,
   fun i H x H' => ∃ p u v, x = .ref p ∧ H p = none ∧ H' = upd H p (.tup [u, v]) ∧ (∀ xs, SqT K H a xs → xs[i]? = some u) ∧ ∀ ys, SqT K H b ys → ys[i]? = some v,
   fun i H => ∃ xs ys, SqT K H a xs ∧ SqT K H b ys ∧ (xs.length ≤ i ∨ ys.length ≤ i)⟩
theorem turn_zipT {P : Program} {w : World} {K : PySem.W.Frag} {elts : List Expr} {k : Nat} {tp : Pos} (a b z TI TO i1 i2 : Addr) (D : ZA z TI TO i1 i2) :
    Turn P w K (.Tuple elts k tp) (ItzT K a b) [z, TI, TO, i1, i2] z (fun i h => IsZip h z TI TO .none ∧ IsPair h TI (.ref i1) (.ref i2) ∧ (∃ u v, IsPair h TO u v) ∧ IsTupIter h i1 a i ∧ IsTupIter h i2 b i ∧ a ≠ TO ∧ b ≠ TO) where
  mem := by simp
  obj := fun i h st c hb => by
    obtain ⟨hz, hTI, ⟨u, v, hTO⟩, ⟨o1, e1, _, d1⟩, ⟨o2, e2, _, d2⟩, _, _⟩ := st
    rcases (by simpa using hb : c = z ∨ c = TI ∨ c = TO ∨ c = i1 ∨ c = i2) with rfl | rfl | rfl | rfl | rfl
    · exact ⟨_, hz, fun v z => by cases z⟩
    · exact ⟨_, hTI, fun v z => by cases z⟩
    · exact ⟨_, hTO, fun v z => by cases z⟩
    · exact ⟨o1, e1, fun v z => by rw [d1] at z; cases z⟩
    · exact ⟨o2, e2, fun v z => by rw [d2] at z; cases z⟩
  keep := fun i h h' st k => by
    obtain ⟨hz, hTI, ⟨u, v, hTO⟩, h1, h2, n1, n2⟩ := st
    exact ⟨k z (by simp) _ hz, k TI (by simp) _ hTI, ⟨u, v, k TO (by simp) _ hTO⟩, tit_at h1 fun o e => k i1 (by simp) o e, tit_at h2 fun o e => k i2 (by simp) o e, n1, n2⟩
  item := by
    intro X hP hw hK hc i pins s σ H E I hf st hg
    subst hP hw hK
    obtain ⟨xs, ys, x, y, hq, hq', hx, hy⟩ := hg
    obtain ⟨its, rv, p, hzl⟩ := I.tuple hq
    obtain ⟨its', rv', p', hzl'⟩ := I.tuple hq'
    obtain ⟨u, hu, ru⟩ := rv.get hx
    obtain ⟨u', hu', ru'⟩ := rv'.get hy
    obtain ⟨hz, hTI, ⟨w1, w2, hTO⟩, h1, h2, na, nb⟩ := st
    have nf : ∀ (c : Addr) (l : Addr) (zs : List V), SqT X.K H l zs → c ∈ [z, i1, i2] → l ≠ c := fun c l zs hl hc e => by
      subst e
      obtain ⟨_, _, ⟨o, eo, ec, _⟩, _⟩ := I.tuple hl
      obtain ⟨o1, e1, c1, _⟩ := id h1
      obtain ⟨o2, e2, c2, _⟩ := id h2
      rcases (by simpa using hc : l = z ∨ l = i1 ∨ l = i2) with rfl | rfl | rfl
      · rw [hz] at eo; cases eo; exact absurd (show Value.type "zip" = .type "tuple" from ec) (by decide)
      · rw [e1] at eo; cases eo; rw [c1] at ec; exact absurd ec (by decide)
      · rw [e2] at eo; cases eo; rw [c2] at ec; exact absurd ec (by decide)
    have D' : ZipApart z TI TO i1 i2 a b := ⟨D.TIz, D.TOz, D.i1z, D.i2z, D.TITO, D.TIi1, D.TIi2, D.TOi1, D.TOi2, D.i12, nf _ _ _ hq (by simp), na, nf _ _ _ hq (by simp), nf _ _ _ hq (by simp), nf _ _ _ hq' (by simp), nb, nf _ _ _ hq' (by simp), nf _ _ _ hq' (by simp)⟩
    refine zipT_item D' hz hTI hTO h1 h2 p p' (x := u) (y := u') (by simpa using hu) (by simpa using hu') fun h3 hz3 hTO3 h13 h23 ht3 hs3 hk3 => ?_
    refine ⟨_, rfl, ?_⟩
    refine wpAny_letOwnedTupleGo_zip (s := { s with heap := h3 }) hz3 fun h4 hz4 hs4 => ?_
    have hs4 : Heap.SameBut z h3 h4 := hs4
    have ltZ : z < s.heap.objs.size := Heap.lt_size hz
    have vv : Vals [x, y] [u, u'] := .cons ru (.cons ru' .nil)
    have T := Inv.turnedT (h' := h4) (t' := s.toks) (fp := [z, TI, TO, i1, i2]) I vv (by show 2 ≤ sizeLine; decide) (fun c o hb eb => ?_) ((hs4.2 _ (Nat.ne_of_gt ltZ)).trans ht3) hf (fun c hb => ?_)
    · obtain ⟨I2, fr, fb⟩ := T
      refine ⟨.ref s.heap.objs.size, _, I2, rfl, ⟨_, x, y, rfl, fr, rfl, fun ys hy => by rw [I.tuple_inj hy hq]; exact hx, fun ys hz => by rw [I.tuple_inj hz hq']; exact hy⟩, ⟨hz4, ?_, ⟨_, _, (hs4.2 TO D.TOz).trans hTO3⟩, tit_at h13 fun o eo => (hs4.2 i1 D.i1z).trans eo, tit_at h23 fun o eo => (hs4.2 i2 D.i2z).trans eo, na, nb⟩, fb⟩
      exact (hs4.2 TI D.TIz).trans (hk3 TI _ D.TIz D.TITO D.TIi1 D.TIi2 hTI)
    · have hb : c ≠ z ∧ c ≠ TI ∧ c ≠ TO ∧ c ≠ i1 ∧ c ≠ i2 := by simpa using hb
      exact (hs4.2 c hb.1).trans (hk3 c o hb.1 hb.2.2.1 hb.2.2.2.1 hb.2.2.2.2 eb)
    · obtain ⟨o1, e1, _⟩ := h1
      obtain ⟨o2, e2, _⟩ := h2
      rcases (by simpa using hb : c = z ∨ c = TI ∨ c = TO ∨ c = i1 ∨ c = i2) with rfl | rfl | rfl | rfl | rfl
      · exact ⟨_, hz⟩
      · exact ⟨_, hTI⟩
      · exact ⟨_, hTO⟩
      · exact ⟨o1, e1⟩
      · exact ⟨o2, e2⟩
  done := by
    intro X hP hw hK hc i pins s σ H E I hf st hg
    subst hP hw hK
    obtain ⟨xs, ys, hq, hq', hx⟩ := hg
    obtain ⟨its, rv, p, hzl⟩ := I.tuple hq
    obtain ⟨its', rv', p', hzl'⟩ := I.tuple hq'
    obtain ⟨hz, hTI, ⟨w1, w2, hTO⟩, h1, h2, na, nb⟩ := st
    have hl := rv.length
    have hl' := rv'.length
    have nf : ∀ (c : Addr) (l : Addr) (zs : List V), SqT X.K H l zs → c ∈ [z, i1, i2] → l ≠ c := fun c l zs hl hc e => by
      subst e
      obtain ⟨_, _, ⟨o, eo, ec, _⟩, _⟩ := I.tuple hl
      obtain ⟨o1, e1, c1, _⟩ := id h1
      obtain ⟨o2, e2, c2, _⟩ := id h2
      rcases (by simpa using hc : l = z ∨ l = i1 ∨ l = i2) with rfl | rfl | rfl
      · rw [hz] at eo; cases eo; exact absurd (show Value.type "zip" = .type "tuple" from ec) (by decide)
      · rw [e1] at eo; cases eo; rw [c1] at ec; exact absurd ec (by decide)
      · rw [e2] at eo; cases eo; rw [c2] at ec; exact absurd ec (by decide)
    have D' : ZipApart z TI TO i1 i2 a b := ⟨D.TIz, D.TOz, D.i1z, D.i2z, D.TITO, D.TIi1, D.TIi2, D.TOi1, D.TOi2, D.i12, nf _ _ _ hq (by simp), na, nf _ _ _ hq (by simp), nf _ _ _ hq (by simp), nf _ _ _ hq' (by simp), nb, nf _ _ _ hq' (by simp), nf _ _ _ hq' (by simp)⟩
    exact zipT_end (I.ok.hd hc) D' hz hTI hTO h1 h2 p p' (by simp; omega) fun h' eb => ⟨rfl, Inv.turnedL (t' := s.toks) (fp := [z, TI, TO, i1, i2]) I (fun c o hb eo => by
      have hb : c ≠ z ∧ c ≠ TI ∧ c ≠ TO ∧ c ≠ i1 ∧ c ≠ i2 := by simpa using hb
      exact eb c o hb.1 hb.2.2.1 hb.2.2.2.1 hb.2.2.2.2 eo) hf⟩
  self := fun _ _ _ _ _ st h => wpAny_pyIter_zip st.1 h
section
variable {X : Cx}
def iZipT (K : PySem.W.Frag) (ta : TA) : TI := fun σ H R => ta σ H fun vs H1 => ∃ a b, vs = [.ref a, .ref b] ∧ (∃ xs, SqT K H1 a xs) ∧ (∃ ys, SqT K H1 b ys) ∧ R (ItzT K a b) H1
theorem i_zipT {K : PySem.W.Frag} {ta : TA} {σ : St} {H : Hp} {R : It → Hp → Prop} (h : ta σ H fun vs H1 => ∃ a b, vs = [.ref a, .ref b] ∧ (∃ xs, SqT K H1 a xs) ∧ (∃ ys, SqT K H1 b ys) ∧ R (ItzT K a b) H1) : iZipT K ta σ H R := h
theorem pi_zipT {K : PySem.W.Frag} {elts : List Expr} {k : Nat} {tp : Pos} {l m : Expr} {ta : TA} {p pos : Pos} (hg : Gl X "zip") (hm : X.mg "zip" = none) (ha : PA X [l, m] ta) (hK : X.K = K := by rfl) (hs : starEach [l, m] X.env = [(false, eval l X.env), (false, eval m X.env)] := by rfl) (hs2 : starEach [m] X.env = [(false, eval m X.env)] := by rfl) :
    PI X (.Tuple elts k tp) (.Call (.Name "zip" p) [l, m] [] pos) (iZipT K ta) := by
  subst hK
  intro pins s σ H R I h
  refine Call_ (ld_blt I hg hm Boot.«zip» (PyProof.Rows.callWith_type1 (thn (ha pos pins s σ H _ I h) fun us s1 ⟨vs, H1, I1, r1, q1⟩ => ?_) (by rw [hs, hs2]) (by rw [hs2]; rfl)))
  obtain ⟨a, b, e, ⟨xs, hq⟩, ⟨ys, hq'⟩, q⟩ := q1
  subst e
  obtain ⟨u, u', rfl, ru, ru'⟩ := vals2 r1
  cases ru
  cases ru'
  obtain ⟨its, rv, p, hz⟩ := I1.tuple hq
  obtain ⟨its', rv', p', hz'⟩ := I1.tuple hq'
  have la : a < s1.heap.objs.size := p.lt
  have lb : b < s1.heap.objs.size := p'.lt
  refine call_zipT p p' fun h' hz hTI hTO h1 h2 hk => ?_
  have I2 : Inv X pins σ H1 { s1 with heap := h' } := I1.kept (t' := s1.toks) hk
  generalize hn : s1.heap.objs.size = n at hz hTI hTO h1 h2 la lb
  refine wpAny_pyIter_zip (s := { s1 with heap := h' }) hz ?_
  refine ⟨n + 4, [n + 4, n + 2, n + 3, n, n + 1], _, _, H1, rfl, I2, turn_zipT a b (n + 4) (n + 2) (n + 3) n (n + 1) ⟨by simp, by simp, by simp, by simp, by simp, by simp, by simp, by simp, by simp, by simp⟩, ⟨hz, hTI, ⟨_, _, hTO⟩, h1, h2, Nat.ne_of_lt (Nat.lt_of_lt_of_le la (Nat.le_add_right n 3)), Nat.ne_of_lt (Nat.lt_of_lt_of_le lb (Nat.le_add_right n 3))⟩, fun c hb => ?_, q⟩
  have hb : s1.heap.objs.size ≤ c := by
    rw [hn]
    rcases (by simpa using hb : c = n + 4 ∨ c = n + 2 ∨ c = n + 3 ∨ c = n ∨ c = n + 1) with rfl | rfl | rfl | rfl | rfl <;> simp
  exact Inv.fpOk I1 hb (I1.hok.fresh hb) |> fun ⟨f0, f1, f2, f3, f4, f5⟩ => ⟨f0, f1, f2, f3, f4, f5⟩
end
theorem pairs_zipT {K : PySem.W.Frag} {a b : Addr} {xs ys : List V} : Pairs (ItzT K a b) (min xs.length ys.length) (fun i => match xs[i]?, ys[i]? with | some x, some y => some (x, y) | _, _ => none) (fun H => SqT K H a xs ∧ SqT K H b ys) where
  go := fun i H h hi => ⟨xs, ys, xs[i]'(by omega), ys[i]'(by omega), h.1, h.2, List.getElem?_eq_getElem (by omega), List.getElem?_eq_getElem (by omega)⟩
  stop := fun H h => ⟨xs, ys, h.1, h.2, by omega⟩
  yld := fun i H x H' h hi ⟨p, u, v, e, hp, e', h1, h2⟩ => ⟨p, u, v, e, hp, e', by rw [h1 xs h.1, h2 ys h.2]⟩
end L2
namespace L2
open PySem PySem.Spec PyProof.Rows
/-! ### repr of data -/
mutual
def D.py : D → PyData
  | .non => .none
  | .bl b => .bool b
  | .int i => .int i
  | .str x => .str x
  | .tup l => .tuple (D.pys l)
  | .lst l => .list (D.pys l)
  | .ins _ _ _ => .none
def D.pys : List D → List PyData
  | [] => []
  | d :: r => D.py d :: D.pys r
end
/-! ints of at most n bits, nothing but ints, truths, None in lists and tuples -/
mutual
def D.small (n : Nat) : D → Prop
  | .int i => i.natAbs < 2 ^ n
  | .tup l => D.smalls n l
  | .lst l => D.smalls n l
  | .non => True
  | .bl _ => True
  | .str _ => False
  | .ins _ _ _ => False
def D.smalls (n : Nat) : List D → Prop
  | [] => True
  | d :: r => D.small n d ∧ D.smalls n r
end
mutual
def D.wt (n : Nat) : D → Nat
  | .tup l => D.wts n l
  | .lst l => D.wts n l
  | .int _ => n
  | _ => 0
def D.wts (n : Nat) : List D → Nat
  | [] => 0
  | d :: r => D.wt n d + 1 + D.wts n r
end
section
variable {X : Cx} {pins : List (Addr × Obj)} {σ : St} {H : Hp} {s : Shared}
mutual
theorem reads_of (I : Inv X pins σ H s) {n : Nat} : ∀ {v : V} {d : D}, Is X.K H v d → D.small n d → ∀ {u : Value}, RelV v u → ∃ as, Reads s.heap u (D.py d) as
  | _, _, .non, _, u, r => by cases r; exact ⟨_, .none⟩
  | _, _, .bl b, _, u, r => by cases r; exact ⟨_, .bool b⟩
  | _, _, .int i, _, u, r => by obtain ⟨t, rfl⟩ := r; exact ⟨_, .int i t⟩
  | _, _, .str x, h, u, r => absurd h (by simp [D.small])
  | _, _, .tup (a := a) h l, hs, u, r => by
    cases r
    obtain ⟨its, rv, ⟨o, ho, hc, m, hd⟩, _⟩ := I.tuple h
    obtain ⟨as, ra⟩ := readsL_of I l (by unfold D.small at hs; exact hs) rv
    refine ⟨as, ?_⟩
    show Reads s.heap (.ref a) (.tuple _) as
    exact .tuple ho hc hd (by simpa using ra)
  | _, _, .lst (a := a) h l, hs, u, r => by
    cases r
    obtain ⟨its, rv, ⟨o, m, ho, hc, _, hd⟩, _⟩ := I.list h
    obtain ⟨as, ra⟩ := readsL_of I l (by unfold D.small at hs; exact hs) rv
    refine ⟨a :: as, ?_⟩
    show Reads s.heap (.ref a) (.list _) (a :: as)
    exact .list ho hc hd (by simpa using ra)
  | _, _, .ins _ _ _, h, u, r => absurd h (by simp [D.small])
theorem readsL_of (I : Inv X pins σ H s) {n : Nat} : ∀ {vs : List V} {ds : List D}, IsL X.K H vs ds → D.smalls n ds → ∀ {us : List Value}, Vals vs us → ∃ as, ReadsAll s.heap us (D.pys ds) as
  | _, _, .nil, _, us, r => by cases r; exact ⟨_, .nil⟩
  | _, _, .cons h l, hs, us, r => by
    cases r with
    | cons r1 r2 =>
      unfold D.smalls at hs
      obtain ⟨as, ra⟩ := reads_of I h hs.1 r1
      obtain ⟨bs, rb⟩ := readsL_of I l hs.2 r2
      exact ⟨_, .cons ra rb⟩
end
end
theorem log2_small {i : Int} {n : Nat} (hn : 0 < n) (h : i.natAbs < 2 ^ n) : i.natAbs.log2 < n := by
  by_cases h0 : i.natAbs = 0
  · rw [h0]; exact hn
  · exact (Nat.log2_lt h0).mpr h
mutual
theorem py_show {n : Nat} (h0 : 8 ≤ n) (h1 : n ≤ 1900) : ∀ d : D, D.small n d → (D.py d).showable = true ∧ (D.py d).hasDict = false ∧ (D.py d).leavesShort (n + 1) = true ∧ (D.py d).weight ≤ D.wt n d ∧ (D.py d).depth = D.depth d
  | .non, _ => ⟨rfl, rfl, rfl, Nat.zero_le _, rfl⟩
  | .bl b, _ => ⟨rfl, rfl, rfl, Nat.zero_le _, rfl⟩
  | .int i, h => by
    have hl : i.natAbs.log2 < n := log2_small (by omega) h
    refine ⟨?_, rfl, ?_, ?_, rfl⟩
    · show decide (i.natAbs.log2 < 1920) = true
      exact decide_eq_true (by omega)
    · show decide ((Str.ofString (toString i)).length ≤ n + 1) = true
      refine decide_eq_true ?_
      have := int_text_length_le (k := n) (by omega) hl
      rwa [PySem.ofString_length]
    · show (if i == 0 then 0 else i.natAbs.log2 + 1) ≤ n
      split <;> omega
  | .str x, h => absurd h (by simp [D.small])
  | .tup l, h => by
    have ⟨a, b, c, d, e⟩ := pys_show h0 h1 l (by unfold D.small at h; exact h)
    exact ⟨a, b, c, d, by show PyData.depthAll _ + 1 = D.depth (.tup l); unfold D.depth; rw [e]⟩
  | .lst l, h => by
    have ⟨a, b, c, d, e⟩ := pys_show h0 h1 l (by unfold D.small at h; exact h)
    exact ⟨a, b, c, d, by show PyData.depthAll _ + 1 = D.depth (.lst l); unfold D.depth; rw [e]⟩
  | .ins _ _ _, h => absurd h (by simp [D.small])
theorem pys_show {n : Nat} (h0 : 8 ≤ n) (h1 : n ≤ 1900) : ∀ l : List D, D.smalls n l → PyData.showableAll (D.pys l) = true ∧ PyData.hasDictAll (D.pys l) = false ∧ PyData.leavesShortAll (n + 1) (D.pys l) = true ∧ PyData.weightAll (D.pys l) ≤ D.wts n l ∧ PyData.depthAll (D.pys l) = D.depths l
  | [], _ => ⟨rfl, rfl, rfl, Nat.zero_le _, rfl⟩
  | d :: r, h => by
    unfold D.smalls at h
    obtain ⟨a, b, c, d', e⟩ := py_show h0 h1 d h.1
    obtain ⟨a2, b2, c2, d2, e2⟩ := pys_show h0 h1 r h.2
    refine ⟨?_, ?_, ?_, ?_, ?_⟩
    · show ((D.py d).showable && PyData.showableAll (D.pys r)) = true
      rw [a, a2]; rfl
    · show ((D.py d).hasDict || PyData.hasDictAll (D.pys r)) = false
      rw [b, b2]; rfl
    · show ((D.py d).leavesShort (n + 1) && PyData.leavesShortAll (n + 1) (D.pys r)) = true
      rw [c, c2]; rfl
    · show (D.py d).weight + 1 + PyData.weightAll (D.pys r) ≤ D.wts n (d :: r)
      have z : D.wts n (d :: r) = D.wt n d + 1 + D.wts n r := by conv => lhs; unfold D.wts
      omega
    · show max (D.py d).depth (PyData.depthAll (D.pys r)) = D.depths (d :: r)
      have z : D.depths (d :: r) = max (D.depth d) (D.depths r) := by conv => lhs; unfold D.depths
      rw [e, e2, z]
end
/-- what repr asks of data -/
structure ShowOk (n : Nat) (d : D) : Prop where
  seq : ∃ l, d = .tup l ∨ d = .lst l
  small : D.small n d
  n0 : 8 ≤ n
  n1 : n ≤ 1900
  deep : D.depth d ≤ 40
  size : (n + 3) * D.wt n d + n + 1 ≤ 16777216
section
variable {X : Cx}
def rRepr (K : PySem.W.Frag) : List V → Hp → VK → Prop := fun xs H Q => ∃ (n : Nat) (x : V) (d : D), xs = [x] ∧ Is K H x d ∧ ShowOk n d ∧ Q (.str (D.py d).shown) H
theorem call_reprK {k : Nat} {K : PySem.W.Frag} (hr : Room k X.A) (hK : X.K = K := by rfl) : CallR X (.builtin "repr") (rRepr K) := by
  subst hK
  intro pins s σ H xs us Q I r h
  obtain ⟨n, x, d, rfl, hi, ok, q⟩ := h
  obtain ⟨u, rfl, ru⟩ := vals1 r
  obtain ⟨as, rd⟩ := reads_of I hi ok.small ru
  obtain ⟨a, b, c, e, f⟩ := py_show ok.n0 ok.n1 d ok.small
  have hd : isDisplay (D.py d) = true := by
    obtain ⟨l, z | z⟩ := ok.seq <;> (subst z; rfl)
  obtain ⟨p, rfl⟩ := isRef_of_reads rd hd
  have hlen : (D.py d).shown.length ≤ sizeLine := by
    have h1 := PyData.shown_le (n + 1) (by have := ok.n0; omega) (D.py d) c
    have h3 : (n + 1 + 2) * (D.py d).weight ≤ (n + 3) * D.wt n d := Nat.mul_le_mul_left _ e
    have h2 := ok.size
    exact Nat.le_trans h1 (by show _ ≤ 16777216; omega)
  have hu := hr.un
  have hdp := ok.deep
  exact repr_of_reads' rd a (PyData.noDict_hsm b) hr.gd (by rw [f]; omega) (fun _ _ e => e) (fun h' u tk hk => ⟨.str _, H, I.kept (t' := tk) hk, ⟨_, rfl⟩, q⟩) hlen
theorem i_repr {K : PySem.W.Frag} {H : Hp} {Q : VK} {x : V} (n : Nat) (d : D) (h1 : Is K H x d) (h2 : ShowOk n d) (h : Q (.str (D.py d).shown) H) : rRepr K [x] H Q := ⟨n, x, d, rfl, h1, h2, h⟩
end
end L2
namespace L2
open PySem PySem.Spec PyProof.Rows
theorem rv_mro : mroOf (.type "reversed") = pure [.type "reversed", .type "object"] := by rw [mroOf_type]; kernel_rfl
theorem rv_new : typeLookup (.type "reversed") "__new__" = pure (some (.builtin "reversed.__new__")) := by rw [typeLookup_type, builtinLookup_eq_fast]; kernel_rfl
theorem rv_init : Slot "reversed" "__init__" "object.__init__" := .of (owner := "object") (n := "__init__") (by rw [typeLookup_type, builtinLookup_eq_fast]; kernel_rfl) (by decide +kernel) (by decide +kernel) (by decide +kernel) (by first | exact .inl (by decide +kernel) | exact .inr (by decide +kernel)) (by rw [isSubtype_type]; kernel_rfl)
theorem rv_called : TypeCalled "reversed" "reversed.__new__" "object.__init__" := ⟨by decide +kernel, by decide +kernel, ⟨_, _, rv_mro⟩, madeBy_type rv_mro rv_new (by decide +kernel), by decide +kernel, by rw [isSubtype_type]; kernel_rfl, rv_init⟩
theorem rv_typeCall (a : Value) : checkTypeCall "reversed" ⟨[a], []⟩ = pure () := by kernel_rfl
theorem rv_newCall (a : Value) : checkBuiltinCall "reversed.__new__" ⟨[.type "reversed", a], []⟩ = pure () := by kernel_rfl
theorem rv_entryNew : entryFor table "reversed.__new__" = some Builtin.«reversed.__new__» := entryFor_of_tree (by kernel_rfl)
theorem rv_sub : isSubtype (.type "reversed") (.type "reversed") = pure true := by rw [isSubtype_type]; kernel_rfl
theorem rv_owner : Manifest.owners.lookup (String.ofList ['d', 'e', 's', 'r', 'e', 'v', 'e', 'r'].reverse) = some Manifest.sig_reversed := by kernel_rfl
theorem rv_next : Slot "reversed" "__next__" "reversed.__next__" := .of (owner := "reversed") (n := "__next__") (by rw [typeLookup_type, builtinLookup_eq_fast]; kernel_rfl) (by decide +kernel) (by decide +kernel) (by decide +kernel) (by first | exact .inl (by decide +kernel) | exact .inr (by decide +kernel)) (by rw [isSubtype_type]; kernel_rfl)
theorem rv_entryNext : entryFor table "reversed.__next__" = some Builtin.«reversed.__next__» := entryFor_of_tree (by kernel_rfl)
theorem rv_argsNext (a : Value) : argsOk "reversed.__next__" ⟨[a], []⟩ := by
  unfold argsOk; rw [signature?_of (id := "reversed.__next__") (n := ['_', '_', 't', 'x', 'e', 'n', '_', '_']) (o := ['d', 'e', 's', 'r', 'e', 'v', 'e', 'r']) (by kernel_rfl) rv_owner]; kernel_rfl
theorem rv_iter : Slot "reversed" "__iter__" "reversed.__iter__" := .of (owner := "reversed") (n := "__iter__") (by rw [typeLookup_type, builtinLookup_eq_fast]; kernel_rfl) (by decide +kernel) (by decide +kernel) (by decide +kernel) (by first | exact .inl (by decide +kernel) | exact .inr (by decide +kernel)) (by rw [isSubtype_type]; kernel_rfl)
theorem rv_argsIter (a : Value) : argsOk "reversed.__iter__" ⟨[a], []⟩ := by
  unfold argsOk; rw [signature?_of (id := "reversed.__iter__") (n := ['_', '_', 'r', 'e', 't', 'i', '_', '_']) (o := ['d', 'e', 's', 'r', 'e', 'v', 'e', 'r']) (by kernel_rfl) rv_owner]; kernel_rfl
theorem rv_entryIter : entryFor table "reversed.__iter__" = some Builtin.«dict_keyiterator.__iter__» := entryFor_alias (id' := "dict_keyiterator.__iter__") (by kernel_rfl) (by first | rfl | decide +kernel | (unfold String.splitOn; simp +decide [String.splitOnAux])) (by decide +kernel) (by kernel_rfl)
theorem rv_none : typeLookup (.type "tuple") "__reversed__" = pure none := by rw [typeLookup_type, builtinLookup_eq_fast]; kernel_rfl
abbrev rvObj (t : Addr) (i : Int) : Obj := { cls := .type "reversed", data := .fields #[.ref t, rawInt i] }
abbrev IsRv (h : Heap) (a t : Addr) (i : Int) : Prop := h.get? a = some (rvObj t i)
section
variable {prog : Program} {w : World} {A : Around} {E : Value → Shared → Prop} {s : Shared}
theorem rv_newClass (a : Value) : Builtin.SmallTypes.newClass "reversed" ⟨[.type "reversed", a], []⟩ = pure (.type "reversed", [a]) := by
  unfold Builtin.SmallTypes.newClass
  simp only [isType, rv_sub, pure_bind, Bool.not_true, Bool.false_eq_true, if_false]
theorem meets_rv (t : Addr) (its : Array Value) (hz : (its.size : Int) < 2 ^ 63) : Meets (Builtin.«reversed.__new__» ⟨[.type "reversed", .ref t], []⟩) (fun _ R s => IsTup s.heap t its ∧ ∀ tk, R (.ok (.ret (.ref s.heap.objs.size))) { s with heap := s.heap.push (rvObj t ((its.size : Int) - 1)), toks := tk }) :=
  .of_wp fun prog w A R s h => by
    obtain ⟨hT, h⟩ := h
    unfold Builtin.«reversed.__new__»
    refine wpAny_bind (wpAny_of_eq (rv_newClass _) ?_)
    try dsimp only
    refine wpAny_bind (wpAny_of_eq (a := ()) (by first | rfl | kernel_rfl) ?_)
    refine wpAny_bind (wpAny_of_eq (a := ()) (by first | rfl | kernel_rfl) ?_)
    try dsimp only
    refine wpAny_bind (wpAny_specialOf hT.typeIs rv_none ?_)
    try dsimp only
    refine wpAny_bind ?_
    show wpAny _ _ (isInstance (.ref t) (.type "dict") >>= _) _ _ _
    refine wpAny_bind (wpAny_isInstance (T := "tuple") (b := false) hT.typeIs (by rw [isSubtype_type]; kernel_rfl) ?_)
    rw [if_neg (by decide)]
    show wpAny _ _ (specialOf (.ref t) "__getitem__" >>= _) _ _ _
    refine wpAny_bind (wpAny_specialOf hT.typeIs slot_tuple_getitem.lookup ?_)
    dsimp only
    rw [if_pos (by decide)]
    refine wpAny_pure ?_
    rw [if_neg (by decide)]
    refine wpAny_bind (len_tuple hT hz ?_)
    refine wpAny_bind (wpAny_of_eq (a := some (its.size : Int)) rfl ?_)
    dsimp only
    refine wpAny_bind (m := Builtin.SmallTypes.newRecord (.type "reversed") [.ref t, rawInt ((its.size : Int) - 1)]) ?_
    unfold Builtin.SmallTypes.newRecord
    first
    | exact wpAny_newObj_type (wpAny_pure ⟨_, rfl, h _⟩)
    | (wp_walk; exact ⟨_, rfl, h _⟩)
theorem rvT_item {it t : Addr} {i : Nat} {its : Array Value} {x : Value} {Q : Option Value → Shared → Prop} (hit : IsRv s.heap it t (i : Int)) (ht : IsTup s.heap t its) (hx : its[i]? = some x) (hs : (i : Int) < 2 ^ 63)
    (q : ∀ h' tk, IsRv h' it t ((i : Int) - 1) → Heap.SameBut it s.heap h' → Q (some x) { s with heap := h', toks := tk }) : wpAny (model prog w) A (pyNext (.ref it)) Q E s := by
  have hT : s.TypeIs (.ref it) "reversed" := ⟨_, hit, rfl⟩
  unfold pyNext
  refine wpAny_bind (wpAny_attempt (wpAny_callSpecial?_slot (name := Str.ofString "__next__") hT rv_next (wpAny_call_entry rv_next hT rv_entryNext ?_ (rv_argsNext _))))
  unfold Builtin.«reversed.__next__»
  refine wpAny_bind (wpAny_of_eq (a := (Value.ref it, [])) rfl ?_); (try dsimp only)
  refine wpAny_bind (wpAny_field hit rfl (x := .ref t) rfl ?_)
  refine wpAny_bind (wpAny_field hit rfl (x := rawInt (i : Int)) rfl ?_)
  show wpAny _ _ (if (i : Int) < 0 then _ else _) _ _ s; rw [if_neg (by omega)]
  refine wpAny_bind (wpAny_specialOf ht.typeIs slot_tuple_getitem.lookup ?_)
  rw [if_neg (by decide)]
  refine wpAny_bind (wpAny_mkInt ?_)
  have hlt : i < its.size := (Array.getElem?_eq_some_iff.1 hx).1
  have hix : seqIndex? (i : Int) its.size = some i := by
    unfold seqIndex?
    simp only [show ¬ ((i : Int) < 0) by omega, if_false]
    rw [if_pos (by simp; omega), Int.toNat_natCast]
  refine wpAny_bind (wpAny_attempt (getItem_tuple (j := i) ht (by omega) hs hix hx ?_)); (try dsimp only)
  refine wpAny_bind (wpAny_field hit rfl (x := rawInt (i : Int)) rfl ?_); (try dsimp only)
  refine wpAny_bind (wpAny_setField_rec hit (by simp) fun h' hit' hs' => ?_)
  exact wpAny_pure ⟨_, rfl, wpAny_pure (q h' _ hit' hs')⟩
theorem rvT_end {it t : Addr} {Q : Option Value → Shared → Prop} (hh : A.handled = none) (hit : IsRv s.heap it t (-1)) (q : ∀ h', Heap.ExtBut it s.heap h' → Q none { s with heap := h' }) : wpAny (model prog w) A (pyNext (.ref it)) Q E s := by
  have hT : s.TypeIs (.ref it) "reversed" := ⟨_, hit, rfl⟩
  unfold pyNext
  refine wpAny_bind (wpAny_attempt (wpAny_callSpecial?_slot (name := Str.ofString "__next__") hT rv_next (wpAny_call_entry rv_next hT rv_entryNext ?_ (rv_argsNext _))))
  unfold Builtin.«reversed.__next__»
  refine wpAny_bind (wpAny_of_eq (a := (Value.ref it, [])) rfl ?_); (try dsimp only)
  refine wpAny_bind (wpAny_field hit rfl (x := .ref t) rfl ?_)
  refine wpAny_bind (wpAny_field hit rfl (x := rawInt (-1)) rfl ?_)
  show wpAny _ _ (if (-1 : Int) < 0 then _ else _) _ _ s; rw [if_pos (by decide)]
  refine wpAny_bind (wpAny_rule ?_)
  refine wpAny_bind ?_
  show wpAny _ _ (setField (.ref it) 1 (rawInt (-1)) >>= _) _ _ s
  refine wpAny_bind (wpAny_setField_rec hit (by simp) fun h1 hit1 hs1 => ?_)
  replace hit1 : IsRv h1 it t (-1) := hit1
  show wpAny _ _ (setField (.ref it) 0 .none) _ _ _
  refine wpAny_setField_rec hit1 (by simp) fun h2 hit2 hs2 => ?_
  first
  | refine wpAny_bind (m := newExc (.type "StopIteration") []) ?_
  | (refine wpAny_bind ?_; refine wpAny_bind (m := newExc (.type "StopIteration") []) ?_)
  simp only [newExc, newTuple]
  refine wpAny_bind (wpAny_newObj_type ?_ (by size_fits)); refine wpAny_bind (m := firstArgMember _ _) (wpAny_of_eq (a := Value.none) (by first | rfl | (simp only [firstArgMember]; rfl)) ?_); refine wpAny_newObj_type ?_ (by size_fits)
  simp only [raiseNew]
  refine wpAny_bind (wpAny_handled ?_); (first | rw [show A.in1.handled = none from hh] | rw [hh])
  refine wpAny_bind (wpAny_pure (wpAny_throw ?_))
  refine wpAny_bind (wpAny_isInstance (T := "StopIteration") (b := true) ⟨_, Heap.get?_push_size _ rfl, rfl⟩ isSubtype_stop (wpAny_pure (q _ ?_)))
  exact fun b o hb e => Heap.get?_push_of_some _ (Heap.get?_push_of_some _ (hs2.extBut b o hb (hs1.extBut b o hb e)))
theorem rvT_iter {it t : Addr} {i : Int} {Q : Value → Shared → Prop} (hit : IsRv s.heap it t i) (q : Q (.ref it) s) : wpAny (model prog w) A (pyIter (.ref it)) Q E s := by
  have hT : s.TypeIs (.ref it) "reversed" := ⟨_, hit, rfl⟩
  refine wpAny_pyIter_slot hT rv_iter (wpAny_call_entry rv_iter hT rv_entryIter ?_ (rv_argsIter _))
  show wpAny _ _ (ret (Value.ref it)) _ _ _
  exact wpAny_pure ⟨_, rfl, "reversed", _, hT, rv_next.lookup, q⟩
theorem call_rvT {t : Addr} {its : Array Value} {Q : Value → Shared → Prop} (hT : IsTup s.heap t its) (hz : (its.size : Int) < 2 ^ 63)
    (h : ∀ tk, Q (.ref s.heap.objs.size) { s with heap := s.heap.push (rvObj t ((its.size : Int) - 1)), toks := tk }) : wpAny (model prog w) A (call (.type "reversed") [.ref t]) Q E s :=
  callType_new rv_called (by decide) (rv_typeCall _) (rv_newCall _) (fun obj => F.args_object_init_2 obj _) rv_entryNew (meets_rv t its hz) ⟨hT, fun tk => ⟨⟨_, Heap.get?_push_size _ rfl, rfl⟩, h tk⟩⟩
end
/-- reversed of the tuple at a, which has n items -/
def ItR (K : PySem.W.Frag) (a : Addr) (n : Nat) : It :=
  ⟨fun i H => i < n ∧ ∃ xs, SqT K H a xs ∧ xs.length = n, fun i H x H' => H' = H ∧ ∀ xs, SqT K H a xs → xs[n - 1 - i]? = some x, fun i H => i = n⟩
theorem turn_rvT {P : Program} {w : World} {K : PySem.W.Frag} {tg : Expr} (a it : Addr) (n : Nat) : Turn P w K tg (ItR K a n) [it] it (fun i h => IsRv h it a ((n : Int) - 1 - (i : Int))) where
  mem := by simp
  obj := fun i h st b hb => by
    have e : b = it := by simpa using hb
    subst e
    exact ⟨_, st, fun v z => by cases z⟩
  keep := fun i h h' st k => k it (by simp) _ st
  item := by
    intro X hP hw hK hc i pins s σ H E I hf st hg
    subst hP hw hK
    obtain ⟨hi, xs, hq, hl⟩ := hg
    have hx : xs[n - 1 - i]? = some (xs[n - 1 - i]'(by omega)) := List.getElem?_eq_getElem (by omega)
    obtain ⟨its, rv, p, hz⟩ := I.tuple hq
    obtain ⟨u, hu, ru⟩ := rv.get hx
    obtain ⟨f0, f1, f2, f3, f4, f5⟩ := hf it (by simp)
    have hn := line63
    have e : (n : Int) - 1 - (i : Int) = ((n - 1 - i : Nat) : Int) := by omega
    rw [e] at st
    refine rvT_item st p (x := u) (by simpa using hu) (by omega) fun h' tk st' sb => ?_
    have I1 : Inv X pins σ H { s with heap := h', toks := tk } := I.turned (t' := tk) (fun b o hb e => (sb.2 b hb).trans e) f0 f1 f3 f4 f5
    have e2 : ((n - 1 - i : Nat) : Int) - 1 = (n : Int) - 1 - ((i + 1 : Nat) : Int) := by omega
    rw [e2] at st'
    exact ⟨u, rfl, go_of (s := { s with heap := h', toks := tk }) (n := "reversed") st' rfl rfl (by decide) ⟨_, H, I1, ru, ⟨rfl, fun ys hy => by rw [I.tuple_inj hy hq]; exact hx⟩, st', fun b hb => (hf b hb).1⟩⟩
  done := by
    intro X hP hw hK hc i pins s σ H E I hf st hg
    subst hP hw hK
    have hg : i = n := hg
    obtain ⟨f0, f1, f2, f3, f4, f5⟩ := hf it (by simp)
    have e : (n : Int) - 1 - (i : Int) = -1 := by omega
    rw [e] at st
    exact rvT_end (I.ok.hd hc) st fun h' eb => ⟨rfl, I.turned (t' := s.toks) (fun b o hb e => eb b o hb e) f0 f1 f3 f4 f5⟩
  self := fun _ _ _ _ _ st h => rvT_iter st h
section
variable {X : Cx} {tg : Expr}
def iRvT (K : PySem.W.Frag) (ta : TA) : TI := fun σ H R => ta σ H fun vs H1 => ∃ a xs, vs = [.ref a] ∧ SqT K H1 a xs ∧ R (ItR K a xs.length) H1
theorem i_rvT {K : PySem.W.Frag} {ta : TA} {σ : St} {H : Hp} {R : It → Hp → Prop} (h : ta σ H fun vs H1 => ∃ a xs, vs = [.ref a] ∧ SqT K H1 a xs ∧ R (ItR K a xs.length) H1) : iRvT K ta σ H R := h
theorem pi_rvT {K : PySem.W.Frag} {l : Expr} {ta : TA} {p pos : Pos} (hg : Gl X "reversed") (hm : X.mg "reversed" = none) (ha : PA X [l] ta) (hK : X.K = K := by rfl) (hs : starEach [l] X.env = [(false, eval l X.env)] := by rfl) :
    PI X tg (.Call (.Name "reversed" p) [l] [] pos) (iRvT K ta) := by
  subst hK
  intro pins s σ H R I h
  refine Call_ (ld_blt I hg hm Boot.«reversed» (PyProof.Rows.callWith_type1 (thn (ha pos pins s σ H _ I h) fun us s1 ⟨vs, H1, I1, r1, q1⟩ => ?_) hs rfl))
  obtain ⟨a, xs, e, hq, q⟩ := q1
  subst e
  obtain ⟨u, rfl, ru⟩ := vals1 r1
  cases ru
  obtain ⟨its, rv, p, hz⟩ := I1.tuple hq
  have hl := rv.length
  have hn := line63
  refine call_rvT p (by rw [List.size_toArray]; omega) fun tk => ?_
  have I2 : Inv X pins σ H1 { s1 with heap := s1.heap.push (rvObj a ((its.toArray.size : Int) - 1)), toks := tk } := I1.kept (t' := tk) fun b o e => Heap.get?_push_of_some _ e
  refine rvT_iter (s := { s1 with heap := s1.heap.push (rvObj a ((its.toArray.size : Int) - 1)), toks := tk }) (Heap.get?_push_size _ rfl) ?_
  refine ⟨s1.heap.objs.size, [s1.heap.objs.size], _, _, H1, rfl, I2, turn_rvT a s1.heap.objs.size xs.length, ?_, fun b hb => ?_, q⟩
  · have e : ((its.toArray.size : Nat) : Int) - 1 = (xs.length : Int) - 1 - ((0 : Nat) : Int) := by rw [List.size_toArray]; omega
    show IsRv _ _ _ _
    rw [← e]
    exact Heap.get?_push_size _ rfl
  · have e : b = s1.heap.objs.size := by simpa using hb
    subst e
    exact Inv.fpOk I1 (Nat.le_refl _) (I1.hok.fresh (Nat.le_refl _))
/-- t + u of tuples, the one or the other perhaps empty -/
def rCatA (K : PySem.W.Frag) : R2 := fun x y H Q => ∃ a b xs ys, x = .ref a ∧ y = .ref b ∧ SqT K H a xs ∧ SqT K H b ys ∧ xs.length + ys.length ≤ sizeLine ∧ (xs = [] → Q (.ref b) H) ∧ (xs ≠ [] → ys = [] → Q (.ref a) H) ∧ (xs ≠ [] → ys ≠ [] → ∀ p, H p = none → Q (.ref p) (upd H p (.tup (xs ++ ys))))
theorem op_catA {K : PySem.W.Frag} (hK : X.K = K := by rfl) : OpR X (binaryOp .Add) (rCatA K) := by
  subst hK
  intro pins s σ H x y v u Q I rx ry h
  obtain ⟨a, b, xs, ys, e1, e2, ha, hb, hz, q1, q2, q3⟩ := h
  by_cases hx : xs = []
  · subst e1 e2
    cases rx
    cases ry
    obtain ⟨its, r1, p1, _⟩ := I.tuple ha
    obtain ⟨its2, r2, p2, _⟩ := I.tuple hb
    obtain ⟨⟨cls, dd, data, sl⟩, ho, hc, n, hd⟩ := id p1
    obtain ⟨⟨cls2, dd2, data2, sl2⟩, ho2, hc2, n2, hd2⟩ := id p2
    simp only at hc hd hc2 hd2
    subst hc hd hc2 hd2
    exact concat_meets ⟨_, ho, rfl⟩ ⟨_, ho2, rfl⟩ noFill_tuple_add seq_tuple_add PySem.F.slot_tuple_add PySem.F.entry_tuple_add (PySem.F.args_tuple_add_2 _ _) (tuple_addW0 a b its.toArray its2.toArray n n2 dd dd2 sl sl2 (by have := r1.nil_iff.mpr hx; simp [this])) ⟨ho, ho2, ⟨.ref b, H, I, rfl, q1 hx⟩⟩
  · exact op_catT pins s σ H x y v u Q I rx ry ⟨a, b, xs, ys, e1, e2, ha, hb, hx, hz, q2 hx, q3 hx⟩
theorem forN_rvT {K : PySem.W.Frag} {a : Addr} {xs : List V} {g : TG} {tb : TS} {σ : St} {H : Hp} {nx : St → Hp → Prop} {rt : VK} (Pv : Nat → St → Hp → Prop) (h0 : Pv 0 σ H) (hl : ∀ i σ H, i ≤ xs.length → Pv i σ H → SqT K H a xs)
    (hs : ∀ i x σ H, i < xs.length → xs[xs.length - 1 - i]? = some x → Pv i σ H → g x σ H fun σ2 H2 => tb { nx := Pv (i + 1), rt := rt, bk := nx, ct := Pv (i + 1) } σ2 H2) (hd : ∀ σ H, Pv xs.length σ H → nx σ H) :
    ∃ W : Nat → Nat → St → Hp → Prop, (∃ m, W 0 m σ H) ∧ ∀ i m σ H, W i m σ H →
      ((ItR K a xs.length).stop i H ∧ nx σ H) ∨ ((ItR K a xs.length).go i H ∧ ∃ N : St → Hp → Prop, (∀ σ' H', N σ' H' → ∃ m', m' < m ∧ W (i + 1) m' σ' H') ∧ ∀ x H', (ItR K a xs.length).yld i H x H' → g x σ H' fun σ2 H2 => tb { nx := N, rt := rt, bk := nx, ct := N } σ2 H2) := by
  refine ⟨fun i m σ H => m = xs.length - i ∧ i ≤ xs.length ∧ Pv i σ H, ⟨xs.length, by simp, Nat.zero_le _, h0⟩, ?_⟩
  rintro i m σ H ⟨rfl, hi, p⟩
  have q := hl i σ H hi p
  by_cases hlt : i < xs.length
  · refine .inr ⟨⟨hlt, xs, q, rfl⟩, Pv (i + 1), fun σ' H' p' => ⟨xs.length - (i + 1), by omega, rfl, hlt, p'⟩, fun x H' y => ?_⟩
    obtain ⟨e, y⟩ := y
    subst e
    exact hs i x σ _ hlt (y xs q) p
  · have e : i = xs.length := by omega
    subst e
    exact .inl ⟨rfl, hd σ H p⟩
end
end L2
namespace L2
open PySem PySem.Spec PyProof.Rows PyProof
section
variable {X : Cx}
/-- sum of a tuple of ints -/
def rSumT (K : PySem.W.Frag) : List V → Hp → VK → Prop := fun xs H Q => ∃ (p : Addr) (ns : List Int), xs = [.ref p] ∧ SqT K H p (ns.map V.int) ∧ Q (.int ns.sum) H
theorem i_sumT {K : PySem.W.Frag} {H : Hp} {Q : VK} {p : Addr} {ns : List Int} (h1 : SqT K H p (ns.map V.int)) (h : Q (.int ns.sum) H) : rSumT K [.ref p] H Q := ⟨p, ns, rfl, h1, h⟩
theorem call_sumTK {K : PySem.W.Frag} (hc : X.calm = true) (hK : X.K = K := by rfl) : CallR X (.builtin "sum") (rSumT K) := by
  subst hK
  intro pins s σ H xs us Q I r h
  obtain ⟨p, ns, rfl, hq, q⟩ := h
  obtain ⟨u, rfl, ru⟩ := vals1 r
  cases ru
  obtain ⟨its, rv, pl, hz⟩ := I.tuple hq
  have lt : p < s.heap.objs.size := pl.lt
  have hl := rv.length
  rw [List.length_map] at hl
  have pl' : s.heap.IsTuple p its.toArray := pl
  refine call_sum_walkAnyS (wpAny_pyIter_tuple pl' ?_)
  have W := (Walks.tuple (prog := X.prog) (w := X.w) (A := X.A.in1) (I.ok.hd hc) s.heap.objs.size p (Nat.ne_of_lt lt) its.toArray).toS
  refine ⟨s.heap.objs.size, _, _, _, _, _, _, fun i => ns.getD i 0, rfl, W, ?_, ?_, ?_, ?_⟩
  · exact ⟨⟨_, Heap.get?_push_size _ rfl, rfl, rfl⟩, IsTup.push pl _⟩
  · intro b hb
    rw [Heap.size_push]
    rcases (by simpa using hb : b = s.heap.objs.size ∨ b = p) with rfl | rfl
    · exact Nat.lt_succ_self _
    · exact Nat.lt_succ_of_lt lt
  · intro i v hv
    have hv : its[i]? = some v := by simpa using hv
    have hi : i < ns.length := by rw [hl]; exact (List.getElem?_eq_some_iff.1 hv).1
    obtain ⟨u, hu, t, ru⟩ := rv.get (i := i) (x := V.int ns[i]) (by rw [List.getElem?_map, List.getElem?_eq_getElem hi]; rfl)
    rw [hu] at hv
    cases hv
    refine ⟨t, ?_⟩
    rw [ru]
    show Value.int ns[i] t = Value.int (ns.getD i 0) t
    rw [List.getD_eq_getElem?_getD, List.getElem?_eq_getElem hi, Option.getD_some]
  · intro s' t' m
    have I1 : Inv X pins σ H { s with heap := s'.heap, toks := s'.toks } := I.kept fun b o e => m.heap b o (fun z => by
      have z : b = s.heap.objs.size := by simpa using z
      exact absurd (Heap.lt_size e) (by rw [z]; exact Nat.lt_irrefl _)) (Heap.get?_push_of_some _ e)
    have e : ({ s with heap := s'.heap, toks := s'.toks } : Shared) = s' := by
      have h1 := m.gens
      have h2 := m.drawn
      have h3 := m.os
      cases s'
      simp only at h1 h2 h3
      subst h1 h2 h3
      rfl
    rw [e] at I1
    refine ⟨.int ns.sum, H, I1, ⟨t', ?_⟩, q⟩
    rw [preSum_eq]
    have : its.toArray.size = ns.length := by rw [List.size_toArray, ← hl]
    rw [this, List.take_length]
/-- z[:-1] -/
theorem pick_take (a : Array Nat) : ∀ m : Nat, (List.range m).filterMap (fun i => a[i]?) = a.toList.take m
  | 0 => rfl
  | m + 1 => by
    rw [List.range_succ, List.filterMap_append, pick_take a m, List.take_add_one]
    rw [Array.getElem?_toList]
    cases h : a[m]? <;> simp [h]
theorem slice_cut {z : Str} (h : 1 ≤ z.length) : (Txt.slice z none (some (-1))).cps.toList = z.cps.toList.take (z.length - 1) := by
  have hl : z.length = z.cps.size := rfl
  have e1 : PySem.Builtin.Str.strSliceIndices none (some (-1)) 1 z.length = List.range (z.length - 1) := by
    unfold PySem.Builtin.Str.strSliceIndices sliceRange
    simp only [show (1 : Int) > 0 by decide, if_true, show (-1 : Int) < 0 by decide]
    have e2 : max 0 (min (-1 + (z.length : Int)) (z.length : Int)) = ((z.length - 1 : Nat) : Int) := by omega
    rw [e2]
    have e3 : (if (0 : Int) < ((z.length - 1 : Nat) : Int) then (((z.length - 1 : Nat) : Int) - 0 + 1 - 1) / 1 else 0).toNat = z.length - 1 := by
      rw [Int.ediv_one]
      split <;> omega
    rw [e3]
    conv => rhs; rw [← List.map_id (List.range (z.length - 1))]
    refine List.map_congr_left fun k _ => ?_
    show (0 + 1 * (k : Int)).toNat = k
    omega
  unfold Txt.slice
  rw [e1]
  split
  · rename_i hh
    rw [List.length_range] at hh
    simp at hh
    omega
  · show (List.filterMap _ _).toArray.toList = _
    rw [List.toList_toArray]
    exact pick_take z.cps (z.length - 1)
end
end L2
namespace Mth
open PySem.Builtin.Int (intBits)
theorem gcd_turn {a b : Int} (ha : 0 ≤ a) (hb : 0 < b) : Int.gcd b (a % b) = Int.gcd a b := by
  obtain ⟨m, rfl⟩ := Int.eq_ofNat_of_zero_le ha
  obtain ⟨n, rfl⟩ := Int.eq_ofNat_of_zero_le (Int.le_of_lt hb)
  rw [← Int.natCast_emod]
  simp only [Int.gcd, Int.natAbs_natCast]
  rw [Nat.gcd_comm m n, Nat.gcd_comm n (m % n), Nat.gcd_rec n m]
theorem gcd_zero {a : Int} (ha : 0 ≤ a) : ((Int.gcd a 0 : Nat) : Int) = a := by
  rw [Int.gcd_zero]
  omega
theorem gcd_abs (a b : Int) : Int.gcd (if a < 0 then -a else a) (if b < 0 then -b else b) = Int.gcd a b := by
  have h : ∀ x : Int, (if x < 0 then -x else x).natAbs = x.natAbs := fun x => by split <;> omega
  simp only [Int.gcd, h]
theorem abs_nonneg (a : Int) : 0 ≤ (if a < 0 then -a else a) := by split <;> omega
theorem fdiv_exact {x p c : Int} (hp : p ≠ 0) (e : x = p * c) : x.fdiv p = c := by
  rw [e, Int.mul_comm]
  exact Int.mul_fdiv_cancel c hp
/-- the greatest common gpart with the sign of b -/
def gpart (t b : Int) : Int := if b < 0 then -(Int.gcd t b : Int) else (Int.gcd t b : Int)
def low1 (t b : Int) : Int := t.fdiv (gpart t b)
def low2 (t b : Int) : Int := b.fdiv (gpart t b)
theorem gcd_pos {t b : Int} (hb : b ≠ 0) : 0 < Int.gcd t b := Int.gcd_pos_of_ne_zero_right t hb
theorem gpart_ne {t b : Int} (hb : b ≠ 0) : gpart t b ≠ 0 := by
  have := gcd_pos (t := t) hb
  unfold gpart
  split <;> omega
theorem gpart_abs (t b : Int) : (gpart t b).natAbs = Int.gcd t b := by
  unfold gpart
  split <;> omega
theorem gpart_dvd_t (t b : Int) : gpart t b ∣ t := Int.natAbs_dvd.mp (by rw [gpart_abs]; exact Int.gcd_dvd_left t b)
theorem gpart_dvd_b (t b : Int) : gpart t b ∣ b := Int.natAbs_dvd.mp (by rw [gpart_abs]; exact Int.gcd_dvd_right t b)
theorem low1_eq {t b : Int} (hb : b ≠ 0) : t = gpart t b * low1 t b := by
  obtain ⟨c, e⟩ := gpart_dvd_t t b
  rw [show low1 t b = c from fdiv_exact (gpart_ne hb) e]
  exact e
theorem low2_eq {t b : Int} (hb : b ≠ 0) : b = gpart t b * low2 t b := by
  obtain ⟨c, e⟩ := gpart_dvd_b t b
  rw [show low2 t b = c from fdiv_exact (gpart_ne hb) e]
  exact e
theorem low2_pos {t b : Int} (hb : b ≠ 0) : 1 ≤ low2 t b := by
  have e := low2_eq (t := t) hb
  have hp := gpart_ne (t := t) hb
  have hs : (b < 0 → gpart t b < 0) ∧ (0 < b → 0 < gpart t b) := by
    have := gcd_pos (t := t) hb
    unfold gpart
    constructor <;> intro h <;> split <;> omega
  by_cases h : b < 0
  · have h1 := hs.1 h
    by_cases h2 : 1 ≤ low2 t b
    · exact h2
    · have : 0 ≤ gpart t b * low2 t b := Int.mul_nonneg_of_nonpos_of_nonpos (Int.le_of_lt h1) (by omega)
      omega
  · have h1 := hs.2 (by omega)
    by_cases h2 : 1 ≤ low2 t b
    · exact h2
    · have : gpart t b * low2 t b ≤ 0 := Int.mul_nonpos_of_nonneg_of_nonpos (Int.le_of_lt h1) (by omega)
      omega
theorem low_gcd {t b : Int} (hb : b ≠ 0) : Int.gcd (low1 t b) (low2 t b) = 1 := by
  have h1 : Int.gcd t b = (gpart t b).natAbs * Int.gcd (low1 t b) (low2 t b) := by
    have e : Int.gcd t b = Int.gcd (gpart t b * low1 t b) (gpart t b * low2 t b) := by rw [← low1_eq hb, ← low2_eq hb]
    rw [e, Int.gcd_mul_left]
  rw [gpart_abs] at h1
  have := gcd_pos (t := t) hb
  have h2 : Int.gcd t b * 1 = Int.gcd t b * Int.gcd (low1 t b) (low2 t b) := by rw [Nat.mul_one]; exact h1
  exact (Nat.eq_of_mul_eq_mul_left this h2).symm
theorem low_cross {t b : Int} (hb : b ≠ 0) : low1 t b * b = t * low2 t b := by
  have e1 := low1_eq (t := t) hb
  have e2 := low2_eq (t := t) hb
  calc low1 t b * b = low1 t b * (gpart t b * low2 t b) := by rw [← e2]
    _ = (gpart t b * low1 t b) * low2 t b := by rw [← Int.mul_assoc, Int.mul_comm (low1 t b)]
    _ = t * low2 t b := by rw [← e1]
theorem gpart_bits {t b : Int} {n : Nat} (hb : b ≠ 0) (h : intBits b ≤ n) : intBits (gpart t b) ≤ n := by
  refine PySem.intBits_le_of_natAbs (y := b) ?_ h
  rw [gpart_abs]
  exact Nat.le_of_dvd (Int.natAbs_pos.mpr hb) (Nat.gcd_dvd_right _ _)
theorem low1_bits {t b : Int} {n : Nat} (h : intBits t ≤ n) : intBits (low1 t b) ≤ n := PySem.intBits_fdiv_le h
theorem low2_bits {t b : Int} {n : Nat} (h : intBits b ≤ n) : intBits (low2 t b) ≤ n := PySem.intBits_fdiv_le h
/-- in lowest terms -/
def IsQ (p q : Int) : Prop := 1 ≤ q ∧ Int.gcd p q = 1
theorem low_isQ {t b : Int} (hb : b ≠ 0) : IsQ (low1 t b) (low2 t b) := ⟨low2_pos hb, low_gcd hb⟩
theorem isQ_neg {p q : Int} (h : IsQ p q) : IsQ (-p) q := ⟨h.1, by rw [← h.2]; simp only [Int.gcd, Int.natAbs_neg]⟩
theorem mb {i j : Int} {m n : Nat} (h1 : intBits i ≤ m) (h2 : intBits j ≤ n) (h : m + n ≤ 134217728 := by decide) : L2.CMulB i j := ⟨m, n, h1, h2, h⟩
theorem mulBits {i j : Int} {m n k : Nat} (h1 : intBits i ≤ m) (h2 : intBits j ≤ n) (h : m + n ≤ k := by decide) : intBits (i * j) ≤ k := Nat.le_trans (PySem.intBits_mul_le h1 h2) h
theorem addBits {i j : Int} {m k : Nat} (h1 : intBits i ≤ m) (h2 : intBits j ≤ m) (h : m + 1 ≤ k := by decide) : intBits (i + j) ≤ k := Nat.le_trans (PySem.intBits_add_le h1 h2) (by rw [Nat.max_self]; exact h)
theorem subBits {i j : Int} {m k : Nat} (h1 : intBits i ≤ m) (h2 : intBits j ≤ m) (h : m + 1 ≤ k := by decide) : intBits (i - j) ≤ k := Nat.le_trans (PySem.intBits_sub_le h1 h2) (by rw [Nat.max_self]; exact h)
theorem negBits {i : Int} {m : Nat} (h1 : intBits i ≤ m) : intBits (-i) ≤ m := PySem.intBits_neg_le h1
theorem ltBits {i : Int} {m : Nat} (h : i.natAbs < 2 ^ m) : intBits i ≤ m := PySem.intBits_le_iff.mpr h
theorem mul_ne {b d : Int} (hb : 1 ≤ b) (hd : 1 ≤ d) : b * d ≠ 0 := by
  have := Int.mul_pos (show 0 < b by omega) (show 0 < d by omega)
  omega
theorem modBits {a m : Int} {n : Nat} (h : 0 < m) (hm : m.natAbs ≤ 2 ^ n) : intBits (a % m) ≤ n := by
  refine ltBits ?_
  have h1 := Int.emod_nonneg a (Int.ne_of_gt h)
  have h2 := Int.emod_lt_of_pos a h
  omega
theorem leBits {i : Int} {m k : Nat} (h1 : intBits i ≤ m) (h : m ≤ k := by decide) : intBits i ≤ k := Nat.le_trans h1 h
theorem powBits {i : Int} {m k j : Nat} (h1 : intBits i ≤ m) (h : m * j + 1 ≤ k) : intBits (i ^ j) ≤ k := Nat.le_trans (PySem.intBits_pow_le h1 j) h
theorem absBits {i : Int} {m : Nat} (h : intBits i ≤ m) : i.natAbs < 2 ^ m := PySem.intBits_le_iff.mp h
end Mth
namespace Prf
open PySem PySem.Spec PyProof.Rows L2 Mth
open PySem.Builtin.Int (intBits)
set_option maxHeartbeats 4000000
local macro_rules | `(tactic| walk_at "rd") => `(tactic| repeat (first | ((with_reducible refine' i_var ?vv ?_); (case vv => rfl); (try dsimp only)) | with_reducible refine i_seq ?_ | with_reducible refine i_test ?_ | with_reducible refine i_asg ?_ | with_reducible refine i_gName ?_ | with_reducible refine i_c ?_ | with_reducible refine i_op ?_ | with_reducible refine i_I0 ?_ | with_reducible refine i_U ?_ | with_reducible refine i_un ?_ | with_reducible refine i_cmp ?_ | with_reducible refine i_2 ?_ | with_reducible refine i_B ?_ | with_reducible refine i_bl ?_ | with_reducible refine i_not ?_ | with_reducible refine i_and ?_ | with_reducible refine i_or ?_ | with_reducible refine i_andV ?_ | with_reducible refine i_orV ?_ | with_reducible refine i_notV ?_ | with_reducible refine i_ifE ?_ | with_reducible refine i_next ?_ | with_reducible refine i_drop ?_ | with_reducible refine i_ret ?_ | with_reducible refine i_retN ?_ | with_reducible refine i_ifS ?_ | with_reducible refine i_nil ?_ | with_reducible refine i_cons ?_ | with_reducible refine i_call ?_ | with_reducible refine i_CB ?_ | with_reducible refine i_tup ?_ | with_reducible refine i_lst ?_ | with_reducible refine i_par ?_ | with_reducible refine i_par2 ?_ | with_reducible refine i_raise ?_ | with_reducible refine i_1 ?_ | with_reducible refine i_22 ?_ | with_reducible refine i_xDrop ?_ | with_reducible refine i_xRet ?_ | with_reducible refine i_xSet ?_ | with_reducible refine i_xCall ?_ | with_reducible refine i_xCons ?_ | with_reducible refine i_xNil ?_ | with_reducible refine i_xE ?_ | with_reducible refine i_tryAs ?_ | with_reducible refine i_for ?_ | with_reducible refine i_rng1 ?_ | with_reducible refine i_rng2 ?_ | with_reducible refine i_rng3 ?_ | with_reducible refine i_iList ?_ | with_reducible refine i_iTup ?_ | ((with_reducible refine' i_ixT0 ?x1 ?x2 ?_); (case x1 => assumption); (case x2 => rfl); (try dsimp only)) | ((with_reducible refine' i_ixT1 ?x1 ?x2 ?_); (case x1 => assumption); (case x2 => rfl); (try dsimp only))))
local macro_rules | `(tactic| walk_at "st") => `(tactic| repeat (first | ((with_reducible refine' i_var ?vv ?_); (case vv => rfl); (try dsimp only)) | with_reducible refine i_test ?_ | with_reducible refine i_asg ?_ | with_reducible refine i_gName ?_ | with_reducible refine i_c ?_ | with_reducible refine i_op ?_ | with_reducible refine i_I0 ?_ | with_reducible refine i_U ?_ | with_reducible refine i_un ?_ | with_reducible refine i_cmp ?_ | with_reducible refine i_2 ?_ | with_reducible refine i_B ?_ | with_reducible refine i_bl ?_ | with_reducible refine i_not ?_ | with_reducible refine i_and ?_ | with_reducible refine i_or ?_ | with_reducible refine i_andV ?_ | with_reducible refine i_orV ?_ | with_reducible refine i_notV ?_ | with_reducible refine i_ifE ?_ | with_reducible refine i_next ?_ | with_reducible refine i_drop ?_ | with_reducible refine i_ret ?_ | with_reducible refine i_retN ?_ | with_reducible refine i_ifS ?_ | with_reducible refine i_nil ?_ | with_reducible refine i_cons ?_ | with_reducible refine i_call ?_ | with_reducible refine i_CB ?_ | with_reducible refine i_tup ?_ | with_reducible refine i_lst ?_ | with_reducible refine i_par ?_ | with_reducible refine i_par2 ?_ | with_reducible refine i_raise ?_ | with_reducible refine i_1 ?_ | with_reducible refine i_22 ?_ | with_reducible refine i_xDrop ?_ | with_reducible refine i_xRet ?_ | with_reducible refine i_xSet ?_ | with_reducible refine i_xCall ?_ | with_reducible refine i_xCons ?_ | with_reducible refine i_xNil ?_ | with_reducible refine i_xE ?_ | with_reducible refine i_tryAs ?_ | with_reducible refine i_for ?_ | with_reducible refine i_rng1 ?_ | with_reducible refine i_rng2 ?_ | with_reducible refine i_rng3 ?_ | with_reducible refine i_iList ?_ | with_reducible refine i_iTup ?_ | ((with_reducible refine' i_ixT0 ?x1 ?x2 ?_); (case x1 => assumption); (case x2 => rfl); (try dsimp only)) | ((with_reducible refine' i_ixT1 ?x1 ?x2 ?_); (case x1 => assumption); (case x2 => rfl); (try dsimp only))))
/-- law's: a list of at most 63 ints is handed in, True comes out -/
def spLaw (K : PySem.W.Frag) : Sp := fun vs H Q _ => ∃ (a : Addr) (ns : List Int), vs = [.ref a] ∧ SqL K H a (ns.map V.int) ∧ ns.length ≤ 63 ∧ ∀ H', Q (.bl true) H'
section
variable {P : Program} {w : World} {K : PySem.W.Frag} {mg : Str → Option Value} {base : Heap}
def top (i : Nat) : Stmt := PySem.Challenge.pw_lots_k13_put_and_drawn.main.body.getD i (.Pass ⟨0, 0, 0, 0⟩)
abbrev s_is_whole : Stmt := top 4
abbrev s_common_part : Stmt := top 5
abbrev s_lowest : Stmt := top 6
abbrev s_fraction : Stmt := top 7
abbrev s_place_of : Stmt := top 9
abbrev s_put_into : Stmt := top 10
abbrev s_drawn : Stmt := top 11
abbrev s__law_draw : Stmt := top 13
abbrev s__law_name : Stmt := top 14
abbrev s__law_boxes : Stmt := top 15
abbrev s__law_number : Stmt := top 16
abbrev s__law_state : Stmt := top 17
abbrev s__law_put : Stmt := top 18
abbrev s__law_common : Stmt := top 19
abbrev s__law_weights : Stmt := top 20
abbrev s__law_ways_right : Stmt := top 21
abbrev s_law : Stmt := top 22
theorem sc_is_whole : FnScope ["thing"] ["thing"] (defScope s_is_whole) := ⟨rfl, rfl, rfl, by decide +kernel, rfl, by decide +kernel, by decide +kernel⟩
theorem sc_common_part : FnScope ["one", "other", "rest"] ["one", "other"] (defScope s_common_part) := ⟨rfl, rfl, rfl, by decide +kernel, rfl, by decide +kernel, by decide +kernel⟩
theorem sc_lowest : FnScope ["top", "bottom", "part"] ["top", "bottom"] (defScope s_lowest) := ⟨rfl, rfl, rfl, by decide +kernel, rfl, by decide +kernel, by decide +kernel⟩
theorem sc_fraction : FnScope ["top", "bottom"] ["top", "bottom"] (defScope s_fraction) := ⟨rfl, rfl, rfl, by decide +kernel, rfl, by decide +kernel, by decide +kernel⟩
theorem sc_place_of : FnScope ["boxes", "name"] ["boxes", "name"] (defScope s_place_of) := ⟨rfl, rfl, rfl, by decide +kernel, rfl, by decide +kernel, by decide +kernel⟩
theorem sc_put_into : FnScope ["boxes", "state", "name", "number", "place", "size"] ["boxes", "state", "name", "number"] (defScope s_put_into) := ⟨rfl, rfl, rfl, by decide +kernel, rfl, by decide +kernel, by decide +kernel⟩
theorem sc_drawn : FnScope ["boxes", "state", "name", "weights", "whole", "ways", "number", "weight"] ["boxes", "state", "name", "weights"] (defScope s_drawn) := ⟨rfl, rfl, rfl, by decide +kernel, rfl, by decide +kernel, by decide +kernel⟩
theorem sc__law_draw : FnScope ["_law_script", "_law_k", "_law_prime", "_law_many", "_law_cell"] ["_law_script", "_law_k", "_law_prime", "_law_many"] (defScope s__law_draw) := ⟨rfl, rfl, rfl, by decide +kernel, rfl, by decide +kernel, by decide +kernel⟩
theorem sc__law_name : FnScope ["_law_script", "_law_k", "_law_at", "_law_letters", "_law_size", "_law_name_here", "_law_place", "_law_turn"] ["_law_script", "_law_k", "_law_at"] (defScope s__law_name) := ⟨rfl, rfl, rfl, by decide +kernel, rfl, by decide +kernel, by decide +kernel⟩
theorem sc__law_boxes : FnScope ["_law_script", "_law_count", "_law_most", "_law_at", "_law_boxes_here", "_law_many", "_law_k", "_law_size", "_law_name_here"] ["_law_script", "_law_count", "_law_most"] (defScope s__law_boxes) := ⟨rfl, rfl, rfl, by decide +kernel, rfl, by decide +kernel, by decide +kernel⟩
theorem sc__law_number : FnScope ["_law_script", "_law_k", "_law_cell", "_law_way"] ["_law_script", "_law_k"] (defScope s__law_number) := ⟨rfl, rfl, rfl, by decide +kernel, rfl, by decide +kernel, by decide +kernel⟩
theorem sc__law_state : FnScope ["_law_script", "_law_k", "_law_boxes_here"] ["_law_script", "_law_k", "_law_boxes_here"] (defScope s__law_state) := ⟨rfl, rfl, rfl, by decide +kernel, rfl, by decide +kernel, by decide +kernel⟩
theorem sc__law_put : FnScope ["_law_state_here", "_law_at", "_law_number_here"] ["_law_state_here", "_law_at", "_law_number_here"] (defScope s__law_put) := ⟨rfl, rfl, rfl, by decide +kernel, rfl, by decide +kernel, by decide +kernel⟩
theorem sc__law_common : FnScope ["_law_one", "_law_other"] ["_law_one", "_law_other"] (defScope s__law_common) := ⟨rfl, rfl, rfl, by decide +kernel, rfl, by decide +kernel, by decide +kernel⟩
theorem sc__law_weights : FnScope ["_law_script", "_law_k", "_law_size", "_law_weights_here", "_law_at", "_law_weight"] ["_law_script", "_law_k", "_law_size"] (defScope s__law_weights) := ⟨rfl, rfl, rfl, by decide +kernel, rfl, by decide +kernel, by decide +kernel⟩
theorem sc__law_ways_right : FnScope ["_law_found", "_law_state_here", "_law_at", "_law_weights_here", "_law_many", "_law_due", "_law_number_here", "_law_weight", "_law_most"] ["_law_found", "_law_state_here", "_law_at", "_law_weights_here"] (defScope s__law_ways_right) := ⟨rfl, rfl, rfl, by decide +kernel, rfl, by decide +kernel, by decide +kernel⟩
theorem sc_law : FnScope ["_law_script", "_law_boxes_here", "_law_state_here", "_law_k", "_law_at", "_law_name_here", "_law_size", "_law_number_here", "_law_weights_here"] ["_law_script"] (defScope s_law) := ⟨rfl, rfl, rfl, by decide +kernel, rfl, by decide +kernel, by decide +kernel⟩
/-- what the top has made -/
structure Tx (K : PySem.W.Frag) (mg : Str → Option Value) where
  a_is_whole : Addr
  fd_is_whole : FuncData
  F_is_whole : Fun K "is_whole" "is_whole" s_is_whole a_is_whole fd_is_whole
  m_is_whole : mg "is_whole" = some (.ref a_is_whole)
  b_is_whole : Binds K fd_is_whole ["thing"] []
  a_common_part : Addr
  fd_common_part : FuncData
  F_common_part : Fun K "common_part" "common_part" s_common_part a_common_part fd_common_part
  m_common_part : mg "common_part" = some (.ref a_common_part)
  b_common_part : Binds K fd_common_part ["one", "other"] []
  a_lowest : Addr
  fd_lowest : FuncData
  F_lowest : Fun K "lowest" "lowest" s_lowest a_lowest fd_lowest
  m_lowest : mg "lowest" = some (.ref a_lowest)
  b_lowest : Binds K fd_lowest ["top", "bottom"] []
  a_fraction : Addr
  fd_fraction : FuncData
  F_fraction : Fun K "fraction" "fraction" s_fraction a_fraction fd_fraction
  m_fraction : mg "fraction" = some (.ref a_fraction)
  b_fraction : Binds K fd_fraction ["top", "bottom"] []
  a_place_of : Addr
  fd_place_of : FuncData
  F_place_of : Fun K "place_of" "place_of" s_place_of a_place_of fd_place_of
  m_place_of : mg "place_of" = some (.ref a_place_of)
  b_place_of : Binds K fd_place_of ["boxes", "name"] []
  a_put_into : Addr
  fd_put_into : FuncData
  F_put_into : Fun K "put_into" "put_into" s_put_into a_put_into fd_put_into
  m_put_into : mg "put_into" = some (.ref a_put_into)
  b_put_into : Binds K fd_put_into ["boxes", "state", "name", "number"] []
  a_drawn : Addr
  fd_drawn : FuncData
  F_drawn : Fun K "drawn" "drawn" s_drawn a_drawn fd_drawn
  m_drawn : mg "drawn" = some (.ref a_drawn)
  b_drawn : Binds K fd_drawn ["boxes", "state", "name", "weights"] []
  a__law_draw : Addr
  fd__law_draw : FuncData
  F__law_draw : Fun K "_law_draw" "_law_draw" s__law_draw a__law_draw fd__law_draw
  m__law_draw : mg "_law_draw" = some (.ref a__law_draw)
  b__law_draw : Binds K fd__law_draw ["_law_script", "_law_k", "_law_prime", "_law_many"] []
  a__law_name : Addr
  fd__law_name : FuncData
  F__law_name : Fun K "_law_name" "_law_name" s__law_name a__law_name fd__law_name
  m__law_name : mg "_law_name" = some (.ref a__law_name)
  b__law_name : Binds K fd__law_name ["_law_script", "_law_k", "_law_at"] []
  a__law_boxes : Addr
  fd__law_boxes : FuncData
  F__law_boxes : Fun K "_law_boxes" "_law_boxes" s__law_boxes a__law_boxes fd__law_boxes
  m__law_boxes : mg "_law_boxes" = some (.ref a__law_boxes)
  b__law_boxes : Binds K fd__law_boxes ["_law_script", "_law_count", "_law_most"] []
  a__law_number : Addr
  fd__law_number : FuncData
  F__law_number : Fun K "_law_number" "_law_number" s__law_number a__law_number fd__law_number
  m__law_number : mg "_law_number" = some (.ref a__law_number)
  b__law_number : Binds K fd__law_number ["_law_script", "_law_k"] []
  a__law_state : Addr
  fd__law_state : FuncData
  F__law_state : Fun K "_law_state" "_law_state" s__law_state a__law_state fd__law_state
  m__law_state : mg "_law_state" = some (.ref a__law_state)
  b__law_state : Binds K fd__law_state ["_law_script", "_law_k", "_law_boxes_here"] []
  a__law_put : Addr
  fd__law_put : FuncData
  F__law_put : Fun K "_law_put" "_law_put" s__law_put a__law_put fd__law_put
  m__law_put : mg "_law_put" = some (.ref a__law_put)
  b__law_put : Binds K fd__law_put ["_law_state_here", "_law_at", "_law_number_here"] []
  a__law_common : Addr
  fd__law_common : FuncData
  F__law_common : Fun K "_law_common" "_law_common" s__law_common a__law_common fd__law_common
  m__law_common : mg "_law_common" = some (.ref a__law_common)
  b__law_common : Binds K fd__law_common ["_law_one", "_law_other"] []
  a__law_weights : Addr
  fd__law_weights : FuncData
  F__law_weights : Fun K "_law_weights" "_law_weights" s__law_weights a__law_weights fd__law_weights
  m__law_weights : mg "_law_weights" = some (.ref a__law_weights)
  b__law_weights : Binds K fd__law_weights ["_law_script", "_law_k", "_law_size"] []
  a__law_ways_right : Addr
  fd__law_ways_right : FuncData
  F__law_ways_right : Fun K "_law_ways_right" "_law_ways_right" s__law_ways_right a__law_ways_right fd__law_ways_right
  m__law_ways_right : mg "_law_ways_right" = some (.ref a__law_ways_right)
  b__law_ways_right : Binds K fd__law_ways_right ["_law_found", "_law_state_here", "_law_at", "_law_weights_here"] []
  a_law : Addr
  fd_law : FuncData
  F_law : Fun K "law" "law" s_law a_law fd_law
  m_law : mg "law" = some (.ref a_law)
  b_law : Binds K fd_law ["_law_script"] []
  n_abs : mg "abs" = none
  n_bool : mg "bool" = none
  n_enumerate : mg "enumerate" = none
  n_int : mg "int" = none
  n_isinstance : mg "isinstance" = none
  n_len : mg "len" = none
  n_list : mg "list" = none
  n_max : mg "max" = none
  n_min : mg "min" = none
  n_range : mg "range" = none
  n_repr : mg "repr" = none
  n_sum : mg "sum" = none
  n_tuple : mg "tuple" = none
  a_LotsError : Addr
  m_LotsError : mg "LotsError" = some (.ref a_LotsError)
  x_LotsError : ExcCls K mg "LotsError" a_LotsError [.type "ValueError", .type "Exception", .type "BaseException", .type "object"] "ValueError.__new__"
  i_LotsError : ExcIs K a_LotsError
  t_LotsError : PySem.W.typeIn K (.ref a_LotsError) = some (.type "type")
  e_LotsError : PySem.W.mroIn K a_LotsError (.type "BaseException") = some true
  v_LotsError : PySem.W.mroIn K a_LotsError (.type "ValueError") = some true
  a_NoNumber : Addr
  m_NoNumber : mg "NoNumber" = some (.ref a_NoNumber)
  x_NoNumber : ExcCls K mg "NoNumber" a_NoNumber [.type "ValueError", .type "Exception", .type "BaseException", .type "object"] "ValueError.__new__"
  i_NoNumber : ExcIs K a_NoNumber
  t_NoNumber : PySem.W.typeIn K (.ref a_NoNumber) = some (.type "type")
  e_NoNumber : PySem.W.mroIn K a_NoNumber (.type "BaseException") = some true
  v_NoNumber : PySem.W.mroIn K a_NoNumber (.type "ValueError") = some true
  r_NoNumber_LotsError : PySem.W.mroIn K a_NoNumber (.ref a_LotsError) = some true
  r_NoNumber_NoNumber : PySem.W.mroIn K a_NoNumber (.ref a_NoNumber) = some true
theorem map_get {α : Type} {f : α → D} {l : List α} {i : Nat} {d : D} (h : (l.map f)[i]? = some d) : ∃ z, l[i]? = some z ∧ d = f z := by
  rw [List.getElem?_map] at h
  cases e : l[i]? with
  | none => rw [e] at h; cases h
  | some z => rw [e] at h; cases h; exact ⟨z, rfl, rfl⟩
theorem ok_common_part (T : Tx K mg) : FnOk P w K mg base CX0 1 T.a_common_part T.fd_common_part ["one", "other"] (sP K (fun x : Int × Int => [.int x.1, .int x.2]) (fun _ => True) (fun x r => r = .int (Int.gcd x.1 x.2))) := by
  refine T.F_common_part.ok sc_common_part (fun vs H Q E h => sP_len (n := 2) (fun _ => rfl) h) (fun cdv A outer s H vs Q E hr h => ?_)
  obtain ⟨⟨a, b⟩, hi, _, k⟩ := h
  obtain rfl := hi.i2
  refine ⟨_, (pss_cons (ps_set (i := 0) sc_common_part.nd rfl (Or.inl rfl) (pe_callB call_abs rfl T.n_abs boot_abs (pa_cons (pv 0) pa_nil))) (pss_cons (ps_set (i := 1) sc_common_part.nd rfl (Or.inl rfl) (pe_callB call_abs rfl T.n_abs boot_abs (pa_cons (pv 1) pa_nil))) (pss_cons (ps_while PassesOwn.never (pt_cmp (pc_neI (pv 1) pe_int)) (pss_cons (ps_set (i := 2) sc_common_part.nd rfl (Or.inl rfl) (pe_op op_mod (pv 0) (pv 1))) (pss_cons (ps_set (i := 0) sc_common_part.nd rfl (Or.inl rfl) (pv 1)) (pss_one (ps_set (i := 1) sc_common_part.nd rfl (Or.inl rfl) (pv 2)))))) (pss_one (ps_ret (pv 0)))))), ?_⟩
  walk_at "rd"
  refine ⟨fun m σ H' => ∃ (a' b' : Int) (v : Option V), σ = [some (.int a'), some (.int b'), v] ∧ H' = H ∧ 0 ≤ a' ∧ 0 ≤ b' ∧ Int.gcd a' b' = Int.gcd a b ∧ m = b'.toNat, ⟨_, _, _, _, rfl, rfl, abs_nonneg _, abs_nonneg _, gcd_abs _ _, rfl⟩, ?_⟩
  rintro m σ H' ⟨a', b', v, rfl, rfl, ha, hb, hg, rfl⟩
  walk_at "rd"
  refine ite2 (fun h => ?_) (fun h => ?_)
  · have hne : b' ≠ 0 := by simpa using h
    refine ⟨fun σ' H' => ∃ m', m' < b'.toNat ∧ _, fun σ' H' h => h, ?_⟩
    walk_at "rd"
    refine i_I (by omega) ?_
    walk_at "rd"
    exact ⟨_, (show (a' % b').toNat < b'.toNat by have := Int.emod_nonneg a' hne; have := Int.emod_lt_of_pos a' (show 0 < b' by omega); omega), _, _, _, rfl, rfl, hb, Int.emod_nonneg _ hne, by rw [gcd_turn ha (by omega)]; exact hg, rfl⟩
  · have hz : b' = 0 := by simpa using h
    subst hz
    walk_at "rd"
    refine k _ _ _ rfl (Same.refl _) ?_
    rw [← hg, gcd_zero ha]
    exact .int _
theorem ok_lowest (T : Tx K mg) : FnOk P w K mg base CX0 2 T.a_lowest T.fd_lowest ["top", "bottom"] (sP K (fun x : Int × Int => [.int x.1, .int x.2]) (fun x => x.2 ≠ 0 ∧ intBits x.2 ≤ 9000) (fun x r => r = dQ (low1 x.1 x.2) (low2 x.1 x.2))) := by
  refine T.F_lowest.ok sc_lowest (fun vs H Q E h => sP_len (n := 2) (fun _ => rfl) h) (fun cdv A outer s H vs Q E hr h => ?_)
  obtain ⟨⟨t, b⟩, hi, ⟨hb, hz⟩, k⟩ := h
  obtain rfl := hi.i2
  refine ⟨_, (pss_cons (ps_set (i := 2) sc_lowest.nd rfl (Or.inl rfl) (pe_call (ok_common_part T) (hr.mono (by decide)) rfl T.m_common_part T.F_common_part.kp T.b_common_part .nil pass0 (pa_cons (pv 0) (pa_cons (pv 1) pa_nil)))) (pss_cons (ps_if (pt_cmp (pc_lt (pv 1) pe_int)) (pss_one (ps_set (i := 2) sc_lowest.nd rfl (Or.inl rfl) (pe_un un_neg (pv 2)))) pss_nil) (pss_one (ps_ret (pe_tup (pa_cons (pe_op op_fdivB (pv 0) (pv 2)) (pa_cons (pe_op op_fdivB (pv 1) (pv 2)) pa_nil))))))), ?_⟩
  walk_at "rd"
  refine i_sPi (t, b) (.cons (.int _) (.cons (.int _) .nil)) trivial (fun r e => e) fun H1 S1 => ?_
  walk_at "rd"
  have fin : ∀ H2, Same H H2 → ∀ q, H2 q = none → Q (.ref q) (upd H2 q (.tup [.int (low1 t b), .int (low2 t b)])) := fun H2 S2 q hq =>
    k _ _ _ rfl (S2.trans (same_upd hq)) (Is.q (SqT.of upd_same))
  have hpb : CDivB t (gpart t b) ∧ CDivB b (gpart t b) := ⟨⟨gpart_ne hb, gpart_bits hb hz⟩, ⟨gpart_ne hb, gpart_bits hb hz⟩⟩
  refine ite2 (fun h => ?_) (fun h => ?_)
  · have hn : b < 0 := by simpa using h
    have e : -(Int.gcd t b : Int) = gpart t b := by unfold gpart; rw [if_pos hn]
    walk_at "rd"
    rw [e]
    refine i_I hpb.1 ?_
    walk_at "rd"
    refine i_I hpb.2 ?_
    walk_at "rd"
    exact ⟨(by show 2 ≤ sizeLine; decide), fun q hq => fin H1 S1 q hq⟩
  · have hn : ¬ b < 0 := by simpa using h
    have e : (Int.gcd t b : Int) = gpart t b := by unfold gpart; rw [if_neg hn]
    walk_at "rd"
    rw [e]
    refine i_I hpb.1 ?_
    walk_at "rd"
    refine i_I hpb.2 ?_
    walk_at "rd"
    exact ⟨(by show 2 ≤ sizeLine; decide), fun q hq => fin H1 S1 q hq⟩
theorem ok_is_whole (T : Tx K mg) : FnOk P w K mg base CX0 1 T.a_is_whole T.fd_is_whole ["thing"] (sP K (fun x : Int => [.int x]) (fun _ => True) (fun _ r => r = .bl true)) := by
  refine T.F_is_whole.ok sc_is_whole (fun vs H Q E h => sP_len (n := 1) (fun _ => rfl) h) (fun cdv A outer s H vs Q E hr h => ?_)
  obtain ⟨a, hi, _, k⟩ := h
  obtain rfl := hi.i1
  refine ⟨_, (pss_one (ps_ret (pe_and (pe_callB (call_isiK (K := K)) rfl T.n_isinstance boot_isinstance (pa_cons (pv 0) (pa_cons (pe_bltn (v := .ty "int") rfl T.n_int boot_int rfl) pa_nil))) (pe_one (pe_not (pe_callB (call_isiK (K := K)) rfl T.n_isinstance boot_isinstance (pa_cons (pv 0) (pa_cons (pe_bltn (v := .ty "bool") rfl T.n_bool boot_bool rfl) pa_nil)))))))), ?_⟩
  walk_at "rd"
  refine i_isi rfl (.of (.int _)) kit_same ?_
  walk_at "rd"
  refine iteT ?_
  walk_at "rd"
  refine i_isi rfl (.of (.int _)) kit_int_bool ?_
  walk_at "rd"
  exact k _ _ _ rfl (Same.refl _) (.bl _)
theorem ok_fraction (T : Tx K mg) : FnOk P w K mg base (CXE P w) 3 T.a_fraction T.fd_fraction ["top", "bottom"] (sPE K (fun x : Int × Int => [.int x.1, .int x.2]) (fun x => x.2 ≠ 0 ∧ intBits x.2 ≤ 9000) (fun x r => r = dQ (low1 x.1 x.2) (low2 x.1 x.2)) (fun x c => x.2 = 0 ∧ c = .ref T.a_NoNumber)) := by
  refine T.F_fraction.okE sc_fraction (fun vs H Q E h => sPE_len (n := 2) (fun _ => rfl) h) (fun cdv A outer s H vs Q E hr h => ?_)
  obtain ⟨⟨t, b⟩, hi, h⟩ := h
  obtain rfl := hi.i2
  refine ⟨_, (pss_cons (ps_if (PW.pt (pw_or (pt_not (pt_val (pe_call (ok_is_whole T) (hr.mono (by decide)) rfl T.m_is_whole T.F_is_whole.kp T.b_is_whole .nil pass0 (pa_cons (pv 0) pa_nil)))) (pw_or1 (pt_not (pt_val (pe_call (ok_is_whole T) (hr.mono (by decide)) rfl T.m_is_whole T.F_is_whole.kp T.b_is_whole .nil pass0 (pa_cons (pv 1) pa_nil))))))) (pss_one (ps_raise raisesE rfl rfl T.x_NoNumber PySem.F.excBase_ValueError (pa_cons pe_str pa_nil))) pss_nil) (pss_cons (ps_if (pt_cmp (pc_eqI (pv 1) pe_int)) (pss_one (ps_raise raisesE rfl rfl T.x_NoNumber PySem.F.excBase_ValueError (pa_cons pe_str pa_nil))) pss_nil) (pss_one (ps_ret (pe_call (ok_lowest T) (hr.mono (by decide)) rfl T.m_lowest T.F_lowest.kp T.b_lowest .nil pass0 (pa_cons (pv 0) (pa_cons (pv 1) pa_nil))))))), ?_⟩
  walk_at "rd"
  refine i_sPb t (.cons (.int _) .nil) trivial (fun r e => e) fun H1 S1 => ?_
  walk_at "rd"
  refine iteF ?_
  walk_at "rd"
  refine i_sPb b (.cons (.int _) .nil) trivial (fun r e => e) fun H2 S2 => ?_
  walk_at "rd"
  refine iteF ?_
  walk_at "rd"
  rcases h with ⟨⟨hne, hz⟩, k⟩ | ⟨cl, ⟨hz, rfl⟩, k⟩
  · have hne : b ≠ 0 := hne
    rw [decide_eq_false hne]
    refine iteF ?_
    walk_at "rd"
    exact i_sP (t, b) (.cons (.int _) (.cons (.int _) .nil)) ⟨hne, hz⟩ fun r v H' e S hv => k r v H' e (S1.trans (S2.trans S)) hv
  · have hz : b = 0 := hz
    rw [decide_eq_true hz]
    refine iteT ?_
    walk_at "rd"
    exact ⟨(by show 1 ≤ sizeLine; decide), k _ (S1.trans S2)⟩
/-- the script's cell at k, and what is drawn of it -/
def cellN (ns : List Int) (k : Int) : Int := if ns.length = 0 then 0 else ns.getD (k % ns.length).toNat 0
def drawN (ns : List Int) (k p m : Int) : Int := ((cellN ns k + k * k) * 48271 + 11) % p % m
theorem drawN_nonneg {ns : List Int} {k p m : Int} (h : 0 < m) : 0 ≤ drawN ns k p m := Int.emod_nonneg _ (Int.ne_of_gt h)
theorem drawN_lt {ns : List Int} {k p m : Int} (h : 0 < m) : drawN ns k p m < m := Int.emod_lt_of_pos _ h
theorem cell_ix {ns : List Int} {k : Int} (h : ¬ ns.length = 0) : ∃ j : Nat, k % (ns.length : Int) = (j : Int) ∧ ∃ hj : j < ns.length, cellN ns k = ns[j] := by
  have h1 := Int.emod_nonneg k (show (ns.length : Int) ≠ 0 by omega)
  have h2 := Int.emod_lt_of_pos k (show 0 < (ns.length : Int) by omega)
  obtain ⟨j, e⟩ := Int.eq_ofNat_of_zero_le h1
  have hj : j < ns.length := by omega
  refine ⟨j, e, hj, ?_⟩
  unfold cellN
  rw [if_neg h, e, Int.toNat_natCast, List.getD_eq_getElem?_getD, List.getElem?_eq_getElem hj]
  rfl
structure DrawOk (k p m : Int) : Prop where
  k0 : 0 ≤ k
  k1 : k < 1000000
  p : 0 < p
  m : 0 < m
abbrev aDraw (x : List Int × Int × Int × Int) : List D := [.lst (x.1.map D.int), .int x.2.1, .int x.2.2.1, .int x.2.2.2]
theorem ok__law_draw (T : Tx K mg) : FnOk P w K mg base CX0 1 T.a__law_draw T.fd__law_draw ["_law_script", "_law_k", "_law_prime", "_law_many"] (sP K aDraw (fun x => DrawOk x.2.1 x.2.2.1 x.2.2.2) (fun x r => r = .int (drawN x.1 x.2.1 x.2.2.1 x.2.2.2))) := by
  refine T.F__law_draw.ok sc__law_draw (fun vs H Q E h => sP_len (n := 4) (fun _ => rfl) h) (fun cdv A outer s H vs Q E hr h => ?_)
  obtain ⟨⟨ns, i, p, m⟩, hi, ok, k⟩ := h
  have ok : DrawOk i p m := ok
  obtain ⟨x, r, rfl, hx, hi⟩ := hi.cons_inv
  obtain rfl := hi.i3
  obtain ⟨a, xs, rfl, hS, hL⟩ := hx.lst_inv
  obtain rfl := IsL.ints_inv hL
  have hkb : intBits i ≤ 20 := ltBits (by have := ok.k0; have := ok.k1; omega)
  refine ⟨_, (pss_cons (ps_set (i := 4) sc__law_draw.nd rfl (Or.inl rfl) pe_int) (pss_cons (ps_if (pt_cmp (pc_gt (pe_callB (call_lenK (K := K)) rfl T.n_len boot_len (pa_cons (pv 0) pa_nil)) pe_int)) (pss_one (ps_set (i := 4) sc__law_draw.nd rfl (Or.inl rfl) (pe_ix (ix_listK (K := K)) (pv 0) (pe_op op_mod (pv 1) (pe_callB (call_lenK (K := K)) rfl T.n_len boot_len (pa_cons (pv 0) pa_nil))) (fun _ _ => rfl)))) pss_nil) (pss_one (ps_ret (pe_op op_mod (pe_op op_mod (pe_op op_add (pe_op op_mul (pe_op op_add (pv 4) (pe_op op_mulB (pv 1) (pv 1))) pe_int) pe_int) (pv 2)) (pv 3)))))), ?_⟩
  walk_at "rd"
  refine ⟨_, _, rfl, .inl hS, ?_⟩
  walk_at "rd"
  rw [List.length_map]
  have fin : ∀ c : Int, c = cellN ns i → Q (.int (((c + i * i) * 48271 + 11) % p % m)) H := fun c e => by
    subst e
    exact k _ _ _ rfl (Same.refl _) (.int _)
  refine ite2 (fun h => ?_) (fun h => ?_)
  · have hne : ¬ ns.length = 0 := by have : (0 : Int) < (ns.length : Int) := by simpa using h
                                     omega
    obtain ⟨j, ej, hj, ec⟩ := cell_ix (k := i) hne
    walk_at "rd"
    refine ⟨_, _, rfl, .inl hS, ?_⟩
    walk_at "rd"
    rw [List.length_map]
    refine i_I (show 0 < (ns.length : Int) by omega) ?_
    refine i_ixLz (j := j) (v := .int ns[j]) ej hS (by rw [List.getElem?_map, List.getElem?_eq_getElem hj]; rfl) ?_
    walk_at "rd"
    refine i_I (mb hkb hkb) ?_
    walk_at "rd"
    refine i_I (.inr ⟨by decide, by decide⟩) ?_
    walk_at "rd"
    refine i_I ok.p ?_
    walk_at "rd"
    refine i_I ok.m ?_
    exact fin _ ec.symm
  · have hne : ns.length = 0 := by have : ¬ (0 : Int) < (ns.length : Int) := by simpa using h
                                   omega
    walk_at "rd"
    refine i_I (mb hkb hkb) ?_
    walk_at "rd"
    refine i_I (.inr ⟨by decide, by decide⟩) ?_
    walk_at "rd"
    refine i_I ok.p ?_
    walk_at "rd"
    refine i_I ok.m ?_
    exact fin _ (by unfold cellN; rw [if_pos hne])
/-- a box: its name and its size -/
abbrev boxD (b : Str × Int) : D := .tup [.str b.1, .int b.2]
theorem nol_box (b : Str × Int) : D.nol (boxD b) = true := by simp [boxD, D.nol, D.nols]
def prodN : List (Str × Int) → Int
  | [] => 1
  | b :: r => b.2 * prodN r
theorem prodN_push (b : Str × Int) : ∀ l : List (Str × Int), prodN (l ++ [b]) = prodN l * b.2
  | [] => by simp [prodN]
  | x :: r => by
    show x.2 * prodN (r ++ [b]) = x.2 * prodN r * b.2
    rw [prodN_push b r, Int.mul_assoc]
structure BoxesOk (most : Int) (bs : List (Str × Int)) : Prop where
  len : bs.length ≤ 10
  size : ∀ b ∈ bs, 1 ≤ b.2 ∧ b.2 ≤ 9 ∧ b.1.length ≤ 30
  prod : prodN bs ≤ most
/-- the letter of a box's own -/
def letN (ns : List Int) (k : Int) : Nat := 97 + ((k + drawN ns 4 10069 26) % 26).toNat
theorem let_at : ∀ n : Nat, n < 26 → ("abcdefghijklmnopqrstuvwxyz" : Str).cps[n]? = some (97 + n) := by decide
theorem let_ne {ns : List Int} {i j : Nat} (hi : i < 10) (hj : j < 10) (h : letN ns i = letN ns j) : i = j := by
  unfold letN at h
  have h0 := drawN_nonneg (ns := ns) (k := 4) (p := 10069) (m := 26) (by decide)
  omega
theorem cps_append (a b : Str) : (a ++ b).cps = a.cps ++ b.cps := rfl
theorem at_append {a b : Str} {n : Nat} {c : Nat} (h : a.cps[n]? = some c) : (a ++ b).cps[n]? = some c := by
  have hn : n < a.cps.size := (Array.getElem?_eq_some_iff.1 h).1
  rw [cps_append, Array.getElem?_append_left hn]
  exact h
theorem at_new {a : Str} {c : Nat} : (a ++ (⟨#[c]⟩ : Str)).cps[a.length]? = some c := by
  show (a.cps ++ #[c])[a.cps.size]? = some c
  rw [Array.getElem?_append_right (Nat.le_refl _)]
  simp
theorem ok__law_name (T : Tx K mg) : FnOk P w K mg base CX0 2 T.a__law_name T.fd__law_name ["_law_script", "_law_k", "_law_at"] (sP K (fun x : List Int × Int × Int => [.lst (x.1.map D.int), .int x.2.1, .int x.2.2]) (fun x => (0 ≤ x.2.1 ∧ x.2.1 < 1000) ∧ 0 ≤ x.2.2 ∧ x.2.2 < 8) (fun x r => ∃ z : Str, r = .str z ∧ z.length ≤ 8 ∧ z.cps[x.2.2.toNat]? = some (letN x.1 x.2.1))) := by
  refine T.F__law_name.ok sc__law_name (fun vs H Q E h => sP_len (n := 3) (fun _ => rfl) h) (fun cdv A outer s H vs Q E hr h => ?_)
  obtain ⟨⟨ns, i, at_⟩, hi, ⟨⟨h0, h1⟩, h2, h3⟩, k⟩ := h
  have h0 : 0 ≤ i := h0
  have h1 : i < 1000 := h1
  have h2 : 0 ≤ at_ := h2
  have h3 : at_ < 8 := h3
  obtain ⟨x, y, z, rfl, hx, hy, hz⟩ := hi.d3
  obtain rfl := hy.int_inv
  obtain rfl := hz.int_inv
  refine ⟨_, (pss_cons (ps_set (i := 3) sc__law_name.nd rfl (Or.inl rfl) pe_str) (pss_cons (ps_set (i := 4) sc__law_name.nd rfl (Or.inl rfl) (pe_op op_add (pv 2) pe_int)) (pss_cons (ps_if (pt_cmp (pc_eqI (pe_call (ok__law_draw T) (hr.mono (by decide)) rfl T.m__law_draw T.F__law_draw.kp T.b__law_draw .nil pass0 (pa_cons (pv 0) (pa_cons pe_int (pa_cons pe_int (pa_cons pe_int pa_nil))))) pe_int)) (pss_one (ps_set (i := 4) sc__law_name.nd rfl (Or.inl rfl) (pe_op op_add (pv 4) (pe_call (ok__law_draw T) (hr.mono (by decide)) rfl T.m__law_draw T.F__law_draw.kp T.b__law_draw .nil pass0 (pa_cons (pv 0) (pa_cons (pe_op op_add pe_int (pv 1)) (pa_cons pe_int (pa_cons (pe_op op_sub pe_int (pv 2)) pa_nil)))))))) pss_nil) (pss_cons (ps_set (i := 5) sc__law_name.nd rfl (Or.inl rfl) pe_str) (pss_cons (ps_for PassesOwn.never rfl (pi_range1 rfl T.n_range (pa_cons (pv 4) pa_nil)) (pg_name (i := 6) sc__law_name.nd rfl (Or.inl rfl)) (pss_cons (ps_set (i := 7) sc__law_name.nd rfl (Or.inl rfl) (pe_op op_add (pe_op op_mulB (pv 6) (pv 6)) (pe_call (ok__law_draw T) (hr.mono (by decide)) rfl T.m__law_draw T.F__law_draw.kp T.b__law_draw .nil pass0 (pa_cons (pv 0) (pa_cons pe_int (pa_cons pe_int (pa_cons pe_int pa_nil))))))) (pss_cons (ps_if (pt_cmp (pc_eqI (pe_call (ok__law_draw T) (hr.mono (by decide)) rfl T.m__law_draw T.F__law_draw.kp T.b__law_draw .nil pass0 (pa_cons (pv 0) (pa_cons pe_int (pa_cons pe_int (pa_cons pe_int pa_nil))))) pe_int)) (pss_one (ps_set (i := 7) sc__law_name.nd rfl (Or.inl rfl) (pe_op op_add (pv 7) (pe_call (ok__law_draw T) (hr.mono (by decide)) rfl T.m__law_draw T.F__law_draw.kp T.b__law_draw .nil pass0 (pa_cons (pv 0) (pa_cons (pe_op op_add pe_int (pv 1)) (pa_cons pe_int (pa_cons pe_int pa_nil)))))))) pss_nil) (pss_cons (ps_if (pt_cmp (pc_eqI (pv 6) (pv 2))) (pss_one (ps_set (i := 7) sc__law_name.nd rfl (Or.inl rfl) (pe_op op_add (pv 1) (pe_call (ok__law_draw T) (hr.mono (by decide)) rfl T.m__law_draw T.F__law_draw.kp T.b__law_draw .nil pass0 (pa_cons (pv 0) (pa_cons pe_int (pa_cons pe_int (pa_cons pe_int pa_nil)))))))) pss_nil) (pss_one (ps_set (i := 5) sc__law_name.nd rfl (Or.inl rfl) (pe_op op_add_str (pv 5) (pe_ix ix_str (pv 3) (pe_op op_mod (pv 7) pe_int) (fun _ _ => rfl))))))))) (pss_one (ps_ret (pv 5)))))))), ?_⟩
  have dr : ∀ {H' : Hp} {Q' : VK} {E' : XK} {k p m : Int}, Same H H' → DrawOk k p m → (∀ H'', Same H' H'' → Q' (.int (drawN ns k p m)) H'') → sP K aDraw (fun x => DrawOk x.2.1 x.2.2.1 x.2.2.2) (fun x r => r = .int (drawN x.1 x.2.1 x.2.2.1 x.2.2.2)) [x, .int k, .int p, .int m] H' Q' E' := fun {H' Q' E' k p m} S hd q =>
    i_sPi (ns, k, p, m) (.cons (hx.mono S) (.cons (.int _) (.cons (.int _) (.cons (.int _) .nil)))) hd (fun r e => e) q
  with_reducible refine i_seq ?_
  walk_at "st"
  with_reducible refine i_seq ?_
  walk_at "st"
  with_reducible refine seq_by (fun σ H' => ∃ S : Int, σ = [some x, some (.int i), some (.int at_), some (.str "abcdefghijklmnopqrstuvwxyz"), some (.int S), none, none, none] ∧ at_ + 1 ≤ S ∧ S ≤ 8 ∧ Same H H') ?_ ?_
  rotate_left
  ·
    intro N hN
    walk_at "rd"
    refine dr (Same.refl _) ⟨by decide, by decide, by decide, by decide⟩ fun H1 S1 => ?_
    walk_at "rd"
    refine ite2 (fun h => ?_) (fun h => ?_)
    · walk_at "rd"
      refine dr S1 ⟨by omega, by omega, by decide, by omega⟩ fun H2 S2 => ?_
      have d0 := drawN_nonneg (ns := ns) (k := 20 + i) (p := 10037) (m := 8 - at_) (by omega)
      have d1 := drawN_lt (ns := ns) (k := 20 + i) (p := 10037) (m := 8 - at_) (by omega)
      generalize drawN ns (20 + i) 10037 (8 - at_) = D0 at d0 d1 ⊢
      walk_at "rd"
      exact hN _ _ ⟨at_ + 1 + D0, rfl, by omega, by omega, S1.trans S2⟩
    · exact hN _ _ ⟨at_ + 1, rfl, by omega, by omega, S1⟩
  ·
    rintro σ H1 ⟨S, rfl, s0, s1, S1⟩
    walk_at "rd"
    refine ⟨by omega, by omega, ?_⟩
    refine forN_range (fun j σ H' => ∃ (p t : Option V) (z : Str), σ = [some x, some (.int i), some (.int at_), some (.str "abcdefghijklmnopqrstuvwxyz"), some (.int S), some (.str z), p, t] ∧ (z.length = j ∧ (at_ < (j : Int) → z.cps[at_.toNat]? = some (letN ns i))) ∧ Same H H') ?h0 ?_ ?_
    case h0 => exact ⟨_, _, _, rfl, ⟨by decide, fun h => by omega⟩, S1⟩
    · rintro j σ H2 hj ⟨p, t, z, rfl, ⟨hz, hzl⟩, S2⟩
      have hb : intBits (0 + (j : Int)) ≤ 4 := ltBits (by omega)
      refine i_gName ?_
      (try dsimp only)
      with_reducible refine i_seq ?_
      walk_at "st"
      refine i_I (mb hb hb) ?_
      walk_at "st"
      refine dr S2 ⟨by decide, by decide, by decide, by decide⟩ fun H3 S3 => ?_
      walk_at "st"
      have e0 := drawN_nonneg (ns := ns) (k := 2) (p := 10039) (m := 26) (by decide)
      generalize drawN ns 2 10039 26 = E0 at e0 ⊢
      have q0 : 0 ≤ (0 + (j : Int)) * (0 + (j : Int)) := Int.mul_nonneg (by omega) (by omega)
      generalize (0 + (j : Int)) * (0 + (j : Int)) = JJ at q0 ⊢
      with_reducible refine seq_by (fun σ H' => ∃ t : Int, σ = [some x, some (.int i), some (.int at_), some (.str "abcdefghijklmnopqrstuvwxyz"), some (.int S), some (.str z), some (.int (0 + (j : Int))), some (.int t)] ∧ Same H H') ?_ ?_
      rotate_left
      ·
        intro N hN
        walk_at "rd"
        refine dr (S2.trans S3) ⟨by decide, by decide, by decide, by decide⟩ fun H4 S4 => ?_
        walk_at "rd"
        refine ite2 (fun h => ?_) (fun h => ?_)
        · walk_at "rd"
          refine dr (S2.trans (S3.trans S4)) ⟨by omega, by omega, by decide, by decide⟩ fun H5 S5 => ?_
          walk_at "rd"
          exact hN _ _ ⟨_, rfl, S2.trans (S3.trans (S4.trans S5))⟩
        · exact hN _ _ ⟨_, rfl, S2.trans (S3.trans S4)⟩
      ·
        rintro σ H4 ⟨t, rfl, S4⟩
        with_reducible refine seq_by (fun σ H' => ∃ t : Int, σ = [some x, some (.int i), some (.int at_), some (.str "abcdefghijklmnopqrstuvwxyz"), some (.int S), some (.str z), some (.int (0 + (j : Int))), some (.int t)] ∧ (0 + (j : Int) = at_ → t = i + drawN ns 4 10069 26) ∧ Same H H') ?_ ?_
        rotate_left
        ·
          intro N hN
          walk_at "rd"
          refine ite2 (fun h => ?_) (fun h => ?_)
          · walk_at "rd"
            refine dr S4 ⟨by decide, by decide, by decide, by decide⟩ fun H5 S5 => ?_
            walk_at "rd"
            exact hN _ _ ⟨_, rfl, fun _ => rfl, S4.trans S5⟩
          · have h : ¬ 0 + (j : Int) = at_ := by simpa using h
            exact hN _ _ ⟨_, rfl, fun e => absurd e h, S4⟩
        ·
          rintro σ H5 ⟨t, rfl, htt, S5⟩
          walk_at "rd"
          refine i_I (by decide) ?_
          have t0 := Int.emod_nonneg t (show (26 : Int) ≠ 0 by decide)
          have t1 := Int.emod_lt_of_pos t (show (0 : Int) < 26 by decide)
          refine i_ixS (by decide) t0 (by have : ((Str.length "abcdefghijklmnopqrstuvwxyz" : Nat) : Int) = 26 := by decide
                                          omega) fun c hc => ?_
          refine ⟨_, _, rfl, rfl, ?_, ?_⟩
          · rw [hz]
            exact Nat.le_trans (show j + 1 ≤ 100 by omega) (by decide)
          · refine ⟨_, _, _, rfl, ⟨by rw [PySem.strLen_append, hz]; rfl, fun hlt => ?_⟩, S5⟩
            by_cases hjn : at_ < (j : Int)
            · exact at_append (hzl hjn)
            · have e1 : at_ = (j : Int) := by omega
              have e2 : at_.toNat = z.length := by rw [hz, e1, Int.toNat_natCast]
              rw [e2, at_new]
              have e3 := let_at (t % 26).toNat (by omega)
              rw [hc] at e3
              rw [Option.some.inj e3, htt (by omega)]
              rfl
    · rintro σ H2 ⟨p, t, z, rfl, ⟨hz, hzl⟩, S2⟩
      walk_at "rd"
      exact k _ _ _ ⟨z, rfl, by omega, hzl (by omega)⟩ S2 (.str _)
/-- what is known of the names: each one's own letter, but the second's -/
def NmOk (ns : List Int) (at_ : Nat) (z0 : Option Str) (m : Nat) (z : Str) : Prop :=
  (m ≠ 1 → z.cps[at_]? = some (letN ns m)) ∧ (m = 1 → z.cps[at_]? = some (letN ns 1) ∨ ((z.cps[at_]? = some (letN ns 0) ∨ z.cps[at_]? = none) ∧ ∀ y, z0 = some y → z.length ≠ y.length))
def NmsOk (ns : List Int) (at_ : Nat) (bs : List (Str × Int)) : Prop := ∀ (m : Nat) (b : Str × Int), bs[m]? = some b → NmOk ns at_ ((bs[0]?).map (·.1)) m b.1
theorem nms_ne {ns : List Int} {at_ : Nat} {bs : List (Str × Int)} (h : NmsOk ns at_ bs) (hl : bs.length ≤ 10) {i j : Nat} {b c : Str × Int} (hi : bs[i]? = some b) (hj : bs[j]? = some c) (hlt : i < j) : b.1 ≠ c.1 := by
  intro e
  have li : i < 10 := by have := (List.getElem?_eq_some_iff.1 hi).1; omega
  have lj : j < 10 := by have := (List.getElem?_eq_some_iff.1 hj).1; omega
  obtain ⟨b1, b2⟩ := h i b hi
  obtain ⟨c1, c2⟩ := h j c hj
  rw [e] at b1 b2
  have key : ∀ {p q : Nat}, p < 10 → q < 10 → p ≠ q → c.1.cps[at_]? = some (letN ns p) → c.1.cps[at_]? = some (letN ns q) → False := fun hp hq hne h1 h2 => by
    rw [h1] at h2
    exact hne (let_ne hp hq (Option.some.inj h2))
  by_cases hi1 : i = 1
  · have cj := c1 (by omega)
    rcases b2 hi1 with h1 | ⟨h1 | h1, _⟩
    · exact key (p := 1) (by decide) lj (by omega) h1 cj
    · exact key (p := 0) (by decide) lj (by omega) h1 cj
    · rw [h1] at cj
      cases cj
  · have bi := b1 hi1
    by_cases hj1 : j = 1
    · have i0 : i = 0 := by omega
      subst i0
      rcases c2 hj1 with h1 | ⟨_, h1⟩
      · exact key (p := 0) (by decide) (by decide) (by decide) bi h1
      · exact h1 b.1 (by rw [hi]; rfl) (by rw [e])
    · exact key li lj (by omega) bi (c1 hj1)
theorem ok__law_boxes (T : Tx K mg) : FnOk P w K mg base CX0 3 T.a__law_boxes T.fd__law_boxes ["_law_script", "_law_count", "_law_most"] (sP K (fun x : List Int × Int × Int => [.lst (x.1.map D.int), .int x.2.1, .int x.2.2]) (fun x => (0 ≤ x.2.1 ∧ x.2.1 ≤ 10) ∧ 1 ≤ x.2.2 ∧ x.2.2 ≤ 1000) (fun x r => ∃ bs : List (Str × Int), r = .tup (bs.map boxD) ∧ bs.length = x.2.1.toNat ∧ BoxesOk x.2.2 bs ∧ ∃ at_, NmsOk x.1 at_ bs)) := by
  refine T.F__law_boxes.ok sc__law_boxes (fun vs H Q E h => sP_len (n := 3) (fun _ => rfl) h) (fun cdv A outer s H vs Q E hr h => ?_)
  obtain ⟨⟨ns, ct, most⟩, hi, ⟨⟨h0, h1⟩, h2, h3⟩, k⟩ := h
  have h0 : 0 ≤ ct := h0
  have h1 : ct ≤ 10 := h1
  have h2 : 1 ≤ most := h2
  have h3 : most ≤ 1000 := h3
  obtain ⟨x, y, z, rfl, hx, hy, hz⟩ := hi.d3
  obtain rfl := hy.int_inv
  obtain rfl := hz.int_inv
  have dr : ∀ {H' : Hp} {Q' : VK} {E' : XK} {k p m : Int}, Same H H' → DrawOk k p m → (∀ H'', Same H' H'' → Q' (.int (drawN ns k p m)) H'') → sP K aDraw (fun x => DrawOk x.2.1 x.2.2.1 x.2.2.2) (fun x r => r = .int (drawN x.1 x.2.1 x.2.2.1 x.2.2.2)) [x, .int k, .int p, .int m] H' Q' E' := fun {H' Q' E' k p m} S hd q =>
    i_sPi (ns, k, p, m) (.cons (hx.mono S) (.cons (.int _) (.cons (.int _) (.cons (.int _) .nil)))) hd (fun r e => e) q
  refine ⟨_, (pss_cons (ps_set (i := 3) sc__law_boxes.nd rfl (Or.inl rfl) (pe_call (ok__law_draw T) (hr.mono (by decide)) rfl T.m__law_draw T.F__law_draw.kp T.b__law_draw .nil pass0 (pa_cons (pv 0) (pa_cons pe_int (pa_cons pe_int (pa_cons pe_int pa_nil)))))) (pss_cons (ps_set (i := 4) sc__law_boxes.nd rfl (Or.inl rfl) (pe_lst pa_nil)) (pss_cons (ps_set (i := 5) sc__law_boxes.nd rfl (Or.inl rfl) pe_int) (pss_cons (ps_for PassesOwn.never rfl (pi_range1 rfl T.n_range (pa_cons (pv 1) pa_nil)) (pg_name (i := 6) sc__law_boxes.nd rfl (Or.inl rfl)) (pss_cons (ps_set (i := 7) sc__law_boxes.nd rfl (Or.inl rfl) (pe_op op_add pe_int (pe_call (ok__law_draw T) (hr.mono (by decide)) rfl T.m__law_draw T.F__law_draw.kp T.b__law_draw .nil pass0 (pa_cons (pv 0) (pa_cons (pe_op op_add pe_int (pv 6)) (pa_cons pe_int (pa_cons pe_int pa_nil))))))) (pss_cons (ps_if (pt_cmp (pc_gt (pe_op op_mulB (pv 5) (pv 7)) (pv 2))) (pss_one (ps_set (i := 7) sc__law_boxes.nd rfl (Or.inl rfl) pe_int)) pss_nil) (pss_cons (ps_set (i := 5) sc__law_boxes.nd rfl (Or.inl rfl) (pe_op op_mulB (pv 5) (pv 7))) (pss_cons (ps_set (i := 8) sc__law_boxes.nd rfl (Or.inl rfl) (pe_call (ok__law_name T) (hr.mono (by decide)) rfl T.m__law_name T.F__law_name.kp T.b__law_name .nil pass0 (pa_cons (pv 0) (pa_cons (pv 6) (pa_cons (pv 3) pa_nil))))) (pss_cons (ps_if (PW.pt (pw_and (pt_cmp (pc_eqI (pv 6) pe_int)) (pw_and1 (pt_cmp (pc_eqI (pe_call (ok__law_draw T) (hr.mono (by decide)) rfl T.m__law_draw T.F__law_draw.kp T.b__law_draw .nil pass0 (pa_cons (pv 0) (pa_cons pe_int (pa_cons pe_int (pa_cons pe_int pa_nil))))) pe_int))))) (pss_cons (ps_set (i := 8) sc__law_boxes.nd rfl (Or.inl rfl) (pe_slice sl_str (pe_ix (ix_tupK (K := K)) (pe_ix (ix_listK (K := K)) (pv 4) pe_int (fun _ _ => rfl)) pe_int (fun _ _ => rfl)) po_none (po_some (pe_un un_neg pe_int)))) (pss_one (ps_if (pt_cmp (pc_lt (pe_callB call_len_str rfl T.n_len boot_len (pa_cons (pv 8) pa_nil)) pe_int)) (pss_one (ps_set (i := 8) sc__law_boxes.nd rfl (Or.inl rfl) (pe_op op_add_str (pe_ix (ix_tupK (K := K)) (pe_ix (ix_listK (K := K)) (pv 4) pe_int (fun _ _ => rfl)) pe_int (fun _ _ => rfl)) pe_str))) pss_nil))) pss_nil) (pss_one (ps_expr (pe_bm PySem.F.plainAttrs_list PySem.F.slot_list_append PySem.F.type_list_append mt_append (pv 4) (pa_cons (pe_tup (pa_cons (pv 8) (pa_cons (pv 7) pa_nil))) pa_nil)))))))))) (pss_one (ps_ret (pe_callTy (call_tupleK (K := K)) rfl T.n_tuple boot_tuple (pa_cons (pv 4) pa_nil)))))))), ?_⟩
  walk_at "rd"
  refine dr (Same.refl _) ⟨by decide, by decide, by decide, by decide⟩ fun H1 S1 => ?_
  have a0 := drawN_nonneg (ns := ns) (k := 5) (p := 10079) (m := 8) (by decide)
  have a1 := drawN_lt (ns := ns) (k := 5) (p := 10079) (m := 8) (by decide)
  generalize drawN ns 5 10079 8 = AT at a0 a1 ⊢
  walk_at "rd"
  refine ⟨by show 0 ≤ sizeLine; decide, fun g hg => ?_⟩
  walk_at "rd"
  refine ⟨by omega, by omega, ?_⟩
  refine forN_range (fun i σ H' => ∃ (v1 v2 v3 : Option V) (ys : List V) (bs : List (Str × Int)), σ = [some x, some (.int ct), some (.int most), some (.int AT), some (.ref g), some (.int (prodN bs)), v1, v2, v3] ∧ bs.length = i ∧ ((bs.length ≤ 1 → ∀ b ∈ bs, b.1.length ≤ 8) ∧ ∀ b ∈ bs, 1 ≤ b.2 ∧ b.2 ≤ 9 ∧ b.1.length ≤ 30) ∧ (1 ≤ prodN bs ∧ prodN bs ≤ most) ∧ H' g = some (.lst ys) ∧ L2.IsL K H' ys (bs.map boxD) ∧ NmsOk ns AT.toNat bs ∧ Same H1 H') ?h0 ?_ ?_
  case h0 => exact ⟨_, _, _, _, [], rfl, rfl, ⟨(fun _ _ h => by cases h), (fun _ h => by cases h)⟩, ⟨by decide, h2⟩, upd_same, .nil, (fun m b h => by simp at h), same_upd hg⟩
  · rintro i σ H2 hi ⟨v1, v2, v3, ys, bs, rfl, rfl, ⟨hb8, hb⟩, hp, hgg, hL, hnm, S2⟩
    have S02 := S1.trans S2
    have nB : D.nols (bs.map boxD) = true := nols_map (fun b => nol_box b) bs
    refine i_gName ?_
    (try dsimp only)
    with_reducible refine i_seq ?_
    walk_at "st"
    refine dr S02 ⟨by omega, by omega, by decide, by decide⟩ fun H3 S3 => ?_
    have d0 := drawN_nonneg (ns := ns) (k := 6 + (0 + (bs.length : Int))) (p := 10091) (m := 9) (by decide)
    have d1 := drawN_lt (ns := ns) (k := 6 + (0 + (bs.length : Int))) (p := 10091) (m := 9) (by decide)
    generalize drawN ns (6 + (0 + (bs.length : Int))) 10091 9 = D0 at d0 d1 ⊢
    walk_at "st"
    have hgg3 := S3 _ _ hgg
    have hL3 := hL.mono S3
    have S03 := S02.trans S3
    have S13 := S2.trans S3
    with_reducible refine seq_by (fun σ H' => ∃ sz : Int, σ = [some x, some (.int ct), some (.int most), some (.int AT), some (.ref g), some (.int (prodN bs)), some (.int (0 + (bs.length : Int))), some (.int sz), v3] ∧ 1 ≤ sz ∧ sz ≤ 9 ∧ prodN bs * sz ≤ most ∧ H' = H3) ?_ ?_
    rotate_left
    ·
      intro N hN
      walk_at "rd"
      have pb : intBits (prodN bs) ≤ 10 := ltBits (by omega)
      have db : intBits (1 + D0) ≤ 4 := ltBits (by omega)
      refine i_I (mb pb db) ?_
      walk_at "rd"
      refine ite2 (fun h => ?_) (fun h => ?_)
      · walk_at "rd"
        exact hN _ _ ⟨1, rfl, by decide, by decide, by omega, rfl⟩
      · have h : ¬ most < prodN bs * (1 + D0) := by simpa using h
        exact hN _ _ ⟨1 + D0, rfl, by omega, by omega, by omega, rfl⟩
    ·
      rintro σ H4 ⟨sz, rfl, s0, s1, s2, rfl⟩
      with_reducible refine i_seq ?_
      walk_at "st"
      refine i_I (mb (ltBits (m := 10) (by omega)) (ltBits (m := 4) (by omega))) ?_
      walk_at "st"
      with_reducible refine i_seq ?_
      walk_at "st"
      refine i_sP (ns, 0 + (bs.length : Int), AT) (.cons (hx.mono S03) (.cons (.int _) (.cons (.int _) .nil))) ⟨⟨by show (0 : Int) ≤ 0 + (bs.length : Int); omega, by show 0 + (bs.length : Int) < 1000; omega⟩, a0, a1⟩ fun r v H5 e S5 hv => ?_
      obtain ⟨z, rfl, hz, hzl⟩ := e
      have hzl : z.cps[AT.toNat]? = some (letN ns (0 + (bs.length : Int))) := hzl
      rw [Int.zero_add] at hzl
      have nm0 : NmOk ns AT.toNat ((bs[0]?).map (·.1)) bs.length z := ⟨fun _ => hzl, fun e => .inl (by rw [hzl, e]; rfl)⟩
      obtain rfl := hv.str_inv
      walk_at "st"
      have hgg5 := S5 _ _ hgg3
      have hL5 := hL3.mono S5
      with_reducible refine seq_by (fun σ H' => ∃ z : Str, σ = [some x, some (.int ct), some (.int most), some (.int AT), some (.ref g), some (.int (prodN bs * sz)), some (.int (0 + (bs.length : Int))), some (.int sz), some (.str z)] ∧ (z.length ≤ 30 ∧ (bs.length = 0 → z.length ≤ 8) ∧ NmOk ns AT.toNat ((bs[0]?).map (·.1)) bs.length z) ∧ Same H5 H') ?_ ?_
      rotate_left
      ·
        intro N hN
        walk_at "rd"
        refine ite2 (fun h => ?_) (fun h => ?_)
        · have hone : bs.length = 1 := by
            have : 0 + (bs.length : Int) = 1 := by simpa using h
            omega
          walk_at "rd"
          refine dr (S03.trans S5) ⟨by decide, by decide, by decide, by decide⟩ fun H6 S6 => ?_
          walk_at "rd"
          refine ite2 (fun h => ?_) (fun h => ?_)
          · obtain ⟨v, hv, hI⟩ := (hL5.mono S6).get (i := 0) (d := boxD bs[0]) (by rw [List.getElem?_map, List.getElem?_eq_getElem (by omega)]; rfl)
            obtain ⟨p, us, rfl, hT, hU⟩ := hI.tup_inv
            obtain ⟨u1, u2, rfl, hu1, hu2⟩ := hU.d2
            obtain rfl := hu1.str_inv
            have bl8 := hb8 (by omega) bs[0] (List.getElem_mem (by omega))
            have bl : bs[0].1.length ≤ 30 := Nat.le_trans bl8 (by decide)
            have hs6 : SqL K H6 g ys := SqL.of (S6 _ _ hgg5)
            have f1 := (hnm 0 bs[0] (List.getElem?_eq_getElem (by omega))).1 (by decide)
            have f2 : ∀ y, (bs[0]?).map (·.1) = some y → y.length = bs[0].1.length := fun y hy => by
              rw [List.getElem?_eq_getElem (by omega)] at hy
              cases hy
              rfl
            generalize bs[0].1 = zb at bl bl8 hT hU hI hu1 f1 f2 ⊢
            have zb1 : AT.toNat < zb.length := (Array.getElem?_eq_some_iff.1 f1).1
            walk_at "rd"
            refine i_sl ?_
            walk_at "rd"
            refine i_ixLz (j := 0) rfl hs6 hv ?_
            walk_at "rd"
            refine i_noPart ?_
            refine i_part ?_
            walk_at "rd"
            refine i_int1 ?_
            refine ⟨zb, rfl, Nat.le_trans bl (by decide), ?_⟩
            have hsl := slice_cut (z := zb) (by omega)
            generalize PySem.Txt.slice zb none (some (-1)) = z' at hsl ⊢
            have hz'l : z'.length = zb.length - 1 := by
              have := congrArg List.length hsl
              rw [List.length_take] at this
              have h1 : z'.cps.toList.length = z'.length := by simp [Str.length]
              have h2 : zb.cps.toList.length = zb.length := by simp [Str.length]
              omega
            have hz' : z'.length ≤ zb.length := by omega
            walk_at "rd"
            refine ⟨_, rfl, Nat.le_trans (Nat.le_trans hz' bl) (by decide), ?_⟩
            walk_at "rd"
            refine ite2 (fun h => ?_) (fun h => ?_)
            · have h7 : (z'.length : Int) < 7 := by simpa using h
              have zb30 : (zb ++ "e").length ≤ 30 := by
                rw [PySem.strLen_append]
                exact Nat.le_trans (Nat.add_le_add_right bl8 _) (by decide)
              walk_at "rd"
              refine i_ixLz (j := 0) rfl hs6 hv ?_
              walk_at "rd"
              refine ⟨_, _, rfl, rfl, Nat.le_trans (show zb.length + Str.length "e" ≤ 40 by have : Str.length "e" = 1 := by decide
                                                                                            omega) (by decide), ?_⟩
              walk_at "rd"
              refine hN _ _ ⟨zb ++ "e", rfl, ⟨zb30, fun z => by omega, fun h => absurd hone h, fun _ => .inr ⟨.inl (at_append f1), fun y hy => ?_⟩⟩, S6⟩
              rw [f2 y hy, PySem.strLen_append]
              have : Str.length "e" = 1 := by decide
              omega
            · refine hN _ _ ⟨z', rfl, ⟨Nat.le_trans hz' bl, fun z => by omega, fun h => absurd hone h, fun _ => .inr ⟨?_, fun y hy => ?_⟩⟩, S6⟩
              · have e1 : z'.cps[AT.toNat]? = (zb.cps.toList.take (zb.length - 1))[AT.toNat]? := by rw [← hsl, Array.getElem?_toList]
                rw [e1, List.getElem?_take]
                split
                · rw [Array.getElem?_toList]
                  exact .inl f1
                · exact .inr rfl
              · rw [f2 y hy]
                omega
          · exact hN _ _ ⟨z, rfl, ⟨by omega, fun _ => hz, nm0⟩, S6⟩
        · refine iteF ?_
          exact hN _ _ ⟨z, rfl, ⟨by omega, fun _ => hz, nm0⟩, Same.refl _⟩
      ·
        rintro σ H6 ⟨z, rfl, ⟨hz, hz8, hznm⟩, S6⟩
        walk_at "rd"
        refine i_bm ?_
        walk_at "rd"
        have hgg6 := S6 _ _ hgg5
        refine ⟨.inl ⟨rfl, _, SqL.of hgg6⟩, ?_⟩
        walk_at "rd"
        refine ⟨by show 2 ≤ sizeLine; decide, fun q hq => ?_⟩
        have Sq := same_upd (o := .tup [.str z, .int sz]) hq
        walk_at "rd"
        refine i_append (Sq _ _ hgg6) ?_ ?_
        · rw [hL.len, List.length_map]
          exact Nat.lt_of_le_of_lt (show bs.length ≤ 10 by omega) (by show 10 < sizeLine; decide)
        have hv : Is K (upd H6 q (.tup [.str z, .int sz])) (.ref q) (boxD (z, sz)) := .tup (SqT.of upd_same) (.cons (.str _) (.cons (.int _) .nil))
        have SS : Same H1 (upd H6 q (.tup [.str z, .int sz])) := S13.trans (S5.trans (S6.trans Sq))
        refine ⟨some (.int (0 + (bs.length : Int))), some (.int sz), some (.str z), ys ++ [.ref q], bs ++ [(z, sz)], ?_, by simp, ⟨fun hle b hb' => ?_, fun b hb' => ?_⟩, ?_, upd_same, ?_, ?_, SS.upd_at hg⟩
        · rw [prodN_push]
        · have h0' : bs = [] := by
            rw [List.length_append, List.length_singleton] at hle
            exact List.length_eq_zero_iff.1 (by omega)
          subst h0'
          rw [List.mem_singleton.1 hb']
          exact hz8 rfl
        · rcases List.mem_append.1 hb' with h | h
          · exact hb b h
          · rw [List.mem_singleton.1 h]
            exact ⟨s0, s1, hz⟩
        · rw [prodN_push]
          refine ⟨?_, s2⟩
          have := Int.mul_pos (show 0 < prodN bs by omega) (show 0 < sz by omega)
          show 1 ≤ prodN bs * sz
          omega
        · rw [List.map_append]
          exact IsL.push (Sq _ _ hgg6) ((hL5.mono S6).mono Sq) nB hv (nol_box _)
        · intro m b hmb
          by_cases hm : m < bs.length
          · rw [List.getElem?_append_left hm] at hmb
            have h0 : (bs ++ [(z, sz)])[0]? = bs[0]? := List.getElem?_append_left (by omega)
            rw [h0]
            exact hnm m b hmb
          · have hm2 : m = bs.length := by
              have := (List.getElem?_eq_some_iff.1 hmb).1
              rw [List.length_append, List.length_singleton] at this
              omega
            subst hm2
            have hbz : b = (z, sz) := by
              rw [List.getElem?_append_right (Nat.le_refl _), Nat.sub_self] at hmb
              exact (Option.some.inj hmb).symm
            subst hbz
            by_cases he : bs.length = 0
            · exact ⟨hznm.1, fun h1 => by omega⟩
            · have h0 : (bs ++ [(z, sz)])[0]? = bs[0]? := List.getElem?_append_left (by omega)
              rw [h0]
              exact hznm
  · rintro σ H2 ⟨v1, v2, v3, ys, bs, rfl, hbl, ⟨_, hb⟩, hp, hgg, hL, hnm, S2⟩
    walk_at "rd"
    refine ⟨_, _, rfl, .inl ⟨SqL.of hgg, fun q hq => ?_⟩⟩
    refine k _ _ _ ⟨bs, rfl, hbl, ⟨by omega, hb, hp.2⟩, AT.toNat, hnm⟩ (S1.trans (S2.trans (same_upd hq))) (.tup (SqT.of upd_same) (hL.mono (same_upd hq)))
/-- a state of boxes -/
structure StateOk (bs : List (Str × Int)) (st : List Int) : Prop where
  len : st.length = bs.length
  at_ : ∀ (i : Nat) (b : Str × Int) (n : Int), bs[i]? = some b → st[i]? = some n → 0 ≤ n ∧ n < b.2
theorem ok__law_state (T : Tx K mg) : FnOk P w K mg base CX0 2 T.a__law_state T.fd__law_state ["_law_script", "_law_k", "_law_boxes_here"] (sP K (fun x : Int × List Int × Int × List (Str × Int) => [.lst (x.2.1.map D.int), .int x.2.2.1, .tup (x.2.2.2.map boxD)]) (fun x => (0 ≤ x.2.2.1 ∧ x.2.2.1 < 1000) ∧ BoxesOk x.1 x.2.2.2) (fun x r => ∃ st : List Int, r = .tup (st.map D.int) ∧ StateOk x.2.2.2 st)) := by
  refine T.F__law_state.ok sc__law_state (fun vs H Q E h => sP_len (n := 3) (fun _ => rfl) h) (fun cdv A outer s H vs Q E hr h => ?_)
  obtain ⟨⟨most, ns, i0, bs⟩, hi, ⟨⟨h0, h1⟩, ok⟩, k⟩ := h
  have h0 : 0 ≤ i0 := h0
  have h1 : i0 < 1000 := h1
  have ok : BoxesOk most bs := ok
  have hl10 := ok.len
  obtain ⟨x, y, z, rfl, hx, hy, hz⟩ := hi.d3
  obtain rfl := hy.int_inv
  obtain ⟨a, xs, rfl, hS, hL⟩ := hz.tup_inv
  have hl : xs.length = bs.length := by rw [hL.len, List.length_map]
  refine ⟨_, (pss_one (ps_ret (pe_callTy (call_tupleK (K := K)) rfl T.n_tuple boot_tuple (pa_cons (pe_comp (N' := ["_law_at", "_law_box", "_law_script", "_law_k"]) rfl (blk (osc := defScope s__law_state) rfl (by decide +kernel)) (cap_own (cap_own (cap_out (i := 0) rfl rfl (cap_out (i := 1) rfl rfl cap_nil)))) (pi_enumT (K := K) rfl T.n_enumerate (pa_cons (pv 2) pa_nil)) (gown_tup (gsown_cons (gown_name rfl) (gsown_cons (gown_name rfl) gsown_nil gname_mono) gname_mono)) (fun C s₀ H₀ fp => pg_tupK (K := K) (n := 2) rfl (pgs_cons (pg_name (i := 0) (show (["_law_at", "_law_box", "_law_script", "_law_k"] : List Str).Nodup from by decide +kernel) rfl (Or.inl rfl)) (pgs_cons (pg_name (i := 1) (show (["_law_at", "_law_box", "_law_script", "_law_k"] : List Str).Nodup from by decide +kernel) rfl (Or.inl rfl)) pgs_nil))) (fun C s₀ H₀ fp => pts_nil) (fun C s₀ H₀ fp => (pe_call (ok__law_draw T) (hr.mono (by decide)) rfl T.m__law_draw T.F__law_draw.kp T.b__law_draw .nil pass0 (pa_cons (pv 2) (pa_cons (pe_op op_add (pv 3) (pv 0)) (pa_cons pe_int (pa_cons (pe_ix (ix_tupK (K := K)) (pv 1) pe_int (fun _ _ => rfl)) pa_nil))))))) pa_nil)))), ?_⟩
  walk_at "rd"
  refine i_comp ?_
  refine i_enumT ?_
  walk_at "rd"
  refine ⟨a, rfl, ⟨_, hS⟩, fun acc hacc => ?_⟩
  refine compN_pairs (pairs_enumT (xs := xs)) (fun i ys H' => ∃ st : List Int, ys = st.map V.int ∧ st.length = i ∧ (∀ (j : Nat) (b : Str × Int) (n : Int), bs[j]? = some b → st[j]? = some n → 0 ≤ n ∧ n < b.2) ∧ H' acc = some (.lst ys) ∧ Same H H') ⟨[], rfl, rfl, (fun _ _ _ _ h => by simp at h), upd_same, same_upd hacc⟩ (fun i ys H' _ ⟨_, _, _, _, _, S⟩ => S.tup hS) ?_ ?_
  · rintro i u v p ys H2 R hf hi hp ⟨st, rfl, rfl, hst, hac, S2⟩ hR
    obtain ⟨rfl, rfl⟩ : u = .int st.length ∧ v = xs[st.length] := by
      rw [List.getElem?_eq_getElem hi] at hf
      cases hf
      exact ⟨rfl, rfl⟩
    obtain ⟨d, hd, hI⟩ := hL.getV (List.getElem?_eq_getElem hi)
    obtain ⟨b, hb, rfl⟩ := map_get hd
    have S3 := S2.trans (same_upd (o := .tup [.int st.length, xs[st.length]]) hp)
    obtain ⟨q, us, e, hT, hU⟩ := (hI.mono S3).tup_inv
    obtain ⟨u1, u2, rfl, hu1, hu2⟩ := hU.d2
    obtain rfl := hu2.int_inv
    have bsz := (ok.size b (List.mem_of_getElem? hb)).1
    unfold CTurn
    refine i_gTup2 (SqT.of upd_same) ?_
    rw [e] at S3 hT ⊢
    (try dsimp only)
    refine iteT ?_
    walk_at "rd"
    refine i_sPi (ns, i0 + (st.length : Int), 10141, b.2) (.cons (hx.mono S3) (.cons (.int _) (.cons (.int _) (.cons (.int _) .nil)))) (show DrawOk (i0 + (st.length : Int)) 10141 (b.2) from ⟨by show (0 : Int) ≤ i0 + (st.length : Int); omega, by show i0 + (st.length : Int) < 1000000; omega, by decide, by show 0 < b.2; omega⟩) (fun r e => e) fun H4 S4 => ?_
    have d0 := drawN_nonneg (ns := ns) (k := i0 + (st.length : Int)) (p := 10141) (m := b.2) (by omega)
    have d1 := drawN_lt (ns := ns) (k := i0 + (st.length : Int)) (p := 10141) (m := b.2) (by omega)
    dsimp only at d0 d1 ⊢
    generalize drawN ns (i0 + (st.length : Int)) 10141 b.2 = D0 at d0 d1 ⊢
    have S24 : Same H2 H4 := (same_upd hp).trans S4
    refine ⟨S24 _ _ hac, ?_, hR _ _ ⟨st ++ [D0], by simp, by simp, fun j b' n hb' hn => ?_, upd_same, (S2.trans S24).upd_at hacc⟩⟩
    · rw [List.length_map]
      exact Nat.lt_of_lt_of_le hi (Nat.le_trans (show xs.length ≤ 10 by omega) (by show 10 ≤ sizeLine; decide))
    · by_cases hj : j < st.length
      · rw [List.getElem?_append_left hj] at hn
        exact hst j b' n hb' hn
      · have hj' : j = st.length := by
          have := (List.getElem?_eq_some_iff.1 hn).1
          rw [List.length_append, List.length_singleton] at this
          omega
        subst hj'
        rw [hb] at hb'
        cases hb'
        simp at hn
        subst hn
        exact ⟨d0, d1⟩
  · rintro ys H2 ⟨st, rfl, hsl, hst, hac, S2⟩
    walk_at "rd"
    refine ⟨_, _, rfl, .inl ⟨SqL.of hac, fun q hq => ?_⟩⟩
    exact k _ _ _ ⟨st, rfl, ⟨by show st.length = bs.length; omega, hst⟩⟩ (S2.trans (same_upd hq)) (.tup (SqT.of upd_same) (IsL.ints st))
/-- the first box of that name -/
def FirstAt (bs : List (Str × Int)) (z : Str) (j : Nat) : Prop := (∃ b, bs[j]? = some b ∧ b.1 = z) ∧ ∀ m b, m < j → bs[m]? = some b → b.1 ≠ z
theorem first_ex {bs : List (Str × Int)} {z : Str} : (∃ b ∈ bs, b.1 = z) → ∃ j, FirstAt bs z j := by
  induction bs with
  | nil => rintro ⟨b, hb, _⟩; cases hb
  | cons c r ih =>
    rintro ⟨b, hb, e⟩
    by_cases hc : c.1 = z
    · exact ⟨0, ⟨c, rfl, hc⟩, fun m b h => absurd h (Nat.not_lt_zero m)⟩
    · have hb' : b ∈ r := by
        rcases List.mem_cons.1 hb with rfl | h
        · exact absurd e hc
        · exact h
      obtain ⟨j, ⟨b', h1, h2⟩, h3⟩ := ih ⟨b, hb', e⟩
      refine ⟨j + 1, ⟨b', by simpa using h1, h2⟩, fun m b'' hm hb'' => ?_⟩
      cases m with
      | zero => simp at hb''; subst hb''; exact hc
      | succ m => exact h3 m b'' (by omega) (by simpa using hb'')
theorem ok_place_of (T : Tx K mg) : FnOk P w K mg base CX0 1 T.a_place_of T.fd_place_of ["boxes", "name"] (sP K (fun x : List (Str × Int) × Str => [.tup (x.1.map boxD), .str x.2]) (fun x => (∃ b ∈ x.1, b.1 = x.2) ∧ x.1.length ≤ 10) (fun x r => ∃ j : Nat, r = .int (j : Int) ∧ FirstAt x.1 x.2 j)) := by
  refine T.F_place_of.ok sc_place_of (fun vs H Q E h => sP_len (n := 2) (fun _ => rfl) h) (fun cdv A outer s H vs Q E hr h => ?_)
  obtain ⟨⟨bs, z⟩, hi, ⟨hex, h10⟩, k⟩ := h
  have h10 : bs.length ≤ 10 := h10
  obtain ⟨j, hj⟩ := first_ex hex
  have hj : FirstAt bs z j := hj
  obtain ⟨x, y, rfl, hx, hy⟩ := hi.d2
  obtain rfl := hy.str_inv
  obtain ⟨a, xs, rfl, hS, hL⟩ := hx.tup_inv
  have hl : xs.length = bs.length := by rw [hL.len, List.length_map]
  refine ⟨_, (pss_one (ps_ret (pe_bm PySem.F.plainAttrs_list PySem.F.slot_list_index PySem.F.type_list_index mt_index (pe_comp (N' := ["box"]) rfl (blk (osc := defScope s_place_of) rfl (by decide +kernel)) (cap_own cap_nil) (pi_tupK (K := K) (pv 0)) (gown_name rfl) (fun C s₀ H₀ fp => pg_name (i := 0) (show (["box"] : List Str).Nodup from by decide +kernel) rfl (Or.inl rfl)) (fun C s₀ H₀ fp => pts_nil) (fun C s₀ H₀ fp => (pe_ix (ix_tupK (K := K)) (pv 0) pe_int (fun _ _ => rfl)))) (pa_cons (pv 1) pa_nil)))), ?_⟩
  walk_at "rd"
  refine i_bm ?_
  refine i_comp ?_
  walk_at "rd"
  refine ⟨_, rfl, ⟨xs, hS⟩, fun acc hacc => ?_⟩
  refine compN_tup (xs := xs) (fun i ys H' => ys = (bs.take i).map (fun b => V.str b.1) ∧ H' acc = some (.lst ys) ∧ Same H H') ⟨rfl, upd_same, same_upd hacc⟩ (fun i ys H' _ ⟨_, _, S⟩ => S.tup hS) ?_ ?_
  · rintro i x ys H1 R hx ⟨rfl, hac, S1⟩ hR
    obtain ⟨d, hd', hI⟩ := hL.getV hx
    obtain ⟨b, hb, rfl⟩ := map_get hd'
    obtain ⟨p, us, rfl, hT, hU⟩ := (hI.mono S1).tup_inv
    obtain ⟨u1, u2, rfl, hu1, hu2⟩ := hU.d2
    obtain rfl := hu1.str_inv
    have hil : i < bs.length := (List.getElem?_eq_some_iff.1 hb).1
    have tk : bs.take (i + 1) = bs.take i ++ [b] := by rw [List.take_add_one, hb]; rfl
    unfold CTurn
    walk_at "rd"
    dsimp only
    refine iteT ?_
    walk_at "rd"
    refine ⟨hac, ?_, hR _ _ ⟨?_, upd_same, S1.upd_at hacc⟩⟩
    · rw [List.length_map, List.length_take]
      exact Nat.lt_of_le_of_lt (show min i bs.length ≤ 10 by omega) (by show 10 < sizeLine; decide)
    · rw [tk, List.map_append]
      rfl
  · rintro ys H1 ⟨rfl, hac, S1⟩
    rw [hl, List.take_length] at hac
    refine ⟨.inl ⟨rfl, _, SqL.of hac⟩, ?_⟩
    walk_at "rd"
    obtain ⟨⟨b, hb, e⟩, hno⟩ := hj
    refine i_index (j := j) hac rfl ?_ (z := .str b.1) (by rw [List.getElem?_map, hb]; rfl) ?_ ?_ ?_
    · rw [List.all_map]
      exact List.all_eq_true.2 fun _ _ => rfl
    · show (b.1 == z) = true
      simp [e]
    · intro m w hm hw
      rw [List.getElem?_map] at hw
      cases hbm : bs[m]? with
      | none => rw [hbm] at hw; cases hw
      | some b' =>
        rw [hbm] at hw
        cases hw
        have := hno m b' hm hbm
        show (b'.1 == z) = false
        simp [this]
    · exact k _ _ _ ⟨j, rfl, ⟨⟨b, hb, e⟩, hno⟩⟩ S1 (.int _)
theorem c60 : (0 : Int) < 2 * 10 ^ (60 : Int).toNat - 1 ∧ ((2 : Int) * 10 ^ (60 : Int).toNat - 1).natAbs ≤ 2 ^ 201 ∧ intBits ((10 : Int) ^ (60 : Int).toNat) ≤ 201 := by decide +kernel
theorem ok__law_number (T : Tx K mg) : FnOk P w K mg base CX0 2 T.a__law_number T.fd__law_number ["_law_script", "_law_k"] (sP K (fun x : List Int × Int => [.lst (x.1.map D.int), .int x.2]) (fun x => 0 ≤ x.2 ∧ x.2 < 1000000) (fun x r => ∃ n : Int, r = .int n ∧ intBits n ≤ 210)) := by
  refine T.F__law_number.ok sc__law_number (fun vs H Q E h => sP_len (n := 2) (fun _ => rfl) h) (fun cdv A outer s H vs Q E hr h => ?_)
  obtain ⟨⟨ns, i⟩, hi, ⟨h0, h1⟩, k⟩ := h
  have h0 : 0 ≤ i := h0
  have h1 : i < 1000000 := h1
  obtain ⟨x, y, rfl, hx, hy⟩ := hi.d2
  obtain rfl := hy.int_inv
  obtain ⟨a, xs, rfl, hS, hL⟩ := id hx.lst_inv
  obtain rfl := IsL.ints_inv hL
  refine ⟨_, (pss_cons (ps_set (i := 2) sc__law_number.nd rfl (Or.inl rfl) pe_int) (pss_cons (ps_if (pt_cmp (pc_gt (pe_callB (call_lenK (K := K)) rfl T.n_len boot_len (pa_cons (pv 0) pa_nil)) pe_int)) (pss_one (ps_set (i := 2) sc__law_number.nd rfl (Or.inl rfl) (pe_ix (ix_listK (K := K)) (pv 0) (pe_op op_mod (pv 1) (pe_callB (call_lenK (K := K)) rfl T.n_len boot_len (pa_cons (pv 0) pa_nil))) (fun _ _ => rfl)))) pss_nil) (pss_cons (ps_set (i := 3) sc__law_number.nd rfl (Or.inl rfl) (pe_call (ok__law_draw T) (hr.mono (by decide)) rfl T.m__law_draw T.F__law_draw.kp T.b__law_draw .nil pass0 (pa_cons (pv 0) (pa_cons (pv 1) (pa_cons pe_int (pa_cons pe_int pa_nil)))))) (pss_cons (ps_if (pt_cmp (pc_eqI (pv 3) pe_int)) (pss_one (ps_ret (pe_op op_add (pe_op op_sub (pe_op op_mod (pv 2) (pe_op op_sub (pe_op op_mul pe_int (pe_op op_pow pe_int pe_int)) pe_int)) (pe_op op_pow pe_int pe_int)) pe_int))) pss_nil) (pss_cons (ps_if (pt_cmp (pc_eqI (pv 3) pe_int)) (pss_one (ps_ret (pe_op op_sub (pe_op op_mod (pv 2) pe_int) pe_int))) pss_nil) (pss_one (ps_ret (pe_call (ok__law_draw T) (hr.mono (by decide)) rfl T.m__law_draw T.F__law_draw.kp T.b__law_draw .nil pass0 (pa_cons (pv 0) (pa_cons (pv 1) (pa_cons pe_int (pa_cons pe_int pa_nil)))))))))))), ?_⟩
  with_reducible refine i_seq ?_
  walk_at "st"
  with_reducible refine seq_by (fun σ H' => ∃ c : Int, σ = [some (.ref a), some (.int i), some (.int c), none] ∧ H' = H) ?_ ?_
  rotate_left
  ·
    intro N hN
    walk_at "rd"
    refine ⟨_, _, rfl, .inl hS, ?_⟩
    walk_at "rd"
    rw [List.length_map]
    refine ite2 (fun h => ?_) (fun h => ?_)
    · have hne : ¬ ns.length = 0 := by have : (0 : Int) < (ns.length : Int) := by simpa using h
                                       omega
      obtain ⟨j, ej, hj, ec⟩ := cell_ix (k := i) hne
      walk_at "rd"
      refine ⟨_, _, rfl, .inl hS, ?_⟩
      walk_at "rd"
      rw [List.length_map]
      refine i_I (show 0 < (ns.length : Int) by omega) ?_
      refine i_ixLz (j := j) (v := .int ns[j]) ej hS (by rw [List.getElem?_map, List.getElem?_eq_getElem hj]; rfl) ?_
      walk_at "rd"
      exact hN _ _ ⟨_, rfl, rfl⟩
    · exact hN _ _ ⟨_, rfl, rfl⟩
  ·
    rintro σ H1 ⟨c, rfl, rfl⟩
    walk_at "rd"
    refine i_sPi (ns, i, 10103, 4) (.cons hx (.cons (.int _) (.cons (.int _) (.cons (.int _) .nil)))) (show DrawOk (i) 10103 (4) from ⟨h0, h1, by decide, by decide⟩) (fun r e => e) fun H2 S2 => ?_
    walk_at "rd"
    refine ite2 (fun h => ?_) (fun h => ?_)
    · walk_at "rd"
      refine i_I ⟨by decide, by decide, by decide⟩ ?_
      walk_at "rd"
      refine i_I (.inl ⟨by decide, by decide⟩) ?_
      walk_at "rd"
      refine i_I c60.1 ?_
      walk_at "rd"
      refine i_I ⟨by decide, by decide, by decide⟩ ?_
      walk_at "rd"
      exact k _ _ _ ⟨_, rfl, addBits (m := 209) (subBits (m := 201) (modBits c60.1 c60.2.1) c60.2.2) (by decide)⟩ S2 (.int _)
    walk_at "rd"
    refine ite2 (fun h => ?_) (fun h => ?_)
    · walk_at "rd"
      refine i_I (by decide) ?_
      walk_at "rd"
      refine k _ _ _ ⟨_, rfl, ltBits ?_⟩ S2 (.int _)
      have := Int.emod_nonneg c (show (41 : Int) ≠ 0 by decide)
      have := Int.emod_lt_of_pos c (show (0 : Int) < 41 by decide)
      have : (60 : Nat) < 2 ^ 210 := by decide
      omega
    · walk_at "rd"
      refine i_sPi (ns, i, 10111, 9) (.cons (hx.mono S2) (.cons (.int _) (.cons (.int _) (.cons (.int _) .nil)))) (show DrawOk (i) 10111 (9) from ⟨h0, h1, by decide, by decide⟩) (fun r e => e) fun H3 S3 => ?_
      have d0 := drawN_nonneg (ns := ns) (k := i) (p := 10111) (m := 9) (by decide)
      have d1 := drawN_lt (ns := ns) (k := i) (p := 10111) (m := 9) (by decide)
      refine k _ _ _ ⟨drawN ns i 10111 9, rfl, ltBits ?_⟩ (S2.trans S3) (.int _)
      have : (60 : Nat) < 2 ^ 210 := by decide
      omega
theorem i_catA {K : PySem.W.Frag} {H : Hp} {Q : VK} {a b : Addr} {xs ys : List V} (h1 : SqT K H a xs) (h2 : SqT K H b ys) (hl : xs.length + ys.length ≤ 1000) (h : ∀ p H', Same H H' → SqT K H' p (xs ++ ys) → Q (.ref p) H') : rCatA K (.ref a) (.ref b) H Q := by
  refine ⟨a, b, xs, ys, rfl, rfl, h1, h2, Nat.le_trans hl (by decide), fun e => ?_, fun _ e => ?_, fun _ _ p hp => ?_⟩
  · subst e
    exact h b H (Same.refl _) h2
  · subst e
    exact h a H (Same.refl _) (by rw [List.append_nil]; exact h1)
  · exact h p _ (same_upd hp) (SqT.of upd_same)
theorem cutV_drop (xs : List V) (n : Nat) : cutV xs (some (n : Int)) none = xs.drop n := by
  unfold cutV
  rw [HT.sIx_none, HT.sIx_nat]
  by_cases h : n ≤ xs.length
  · rw [Nat.min_eq_left h]
    exact List.take_of_length_le (by rw [List.length_drop]; exact Nat.le_refl _)
  · rw [Nat.min_eq_right (by omega), List.drop_of_length_le (by omega : xs.length ≤ n), List.drop_of_length_le (Nat.le_refl _)]
    simp
theorem i_slT0 {K : PySem.W.Frag} {H : Hp} {Q : VK} {a : Addr} {xs : List V} {n : Nat} (h1 : SqT K H a xs) (h2 : n < xs.length) (h : ∀ p, H p = none → Q (.ref p) (upd H p (.tup (xs.take n)))) : rSlT K (.ref a) none (some (n : Int)) H Q := by
  refine ⟨a, xs, rfl, h1, fun ⟨_, e⟩ => ?_, fun p hp => by rw [cutV_take]; exact h p hp⟩
  rw [HT.sIx_nat, Nat.min_eq_left (by omega)] at e
  omega
theorem i_slT1 {K : PySem.W.Frag} {H : Hp} {Q : VK} {a : Addr} {xs : List V} {n : Nat} {z : Int} (hz : z = ((n + 1 : Nat) : Int)) (h1 : SqT K H a xs) (h2 : n < xs.length) (h : ∀ p, H p = none → Q (.ref p) (upd H p (.tup (xs.drop (n + 1))))) : rSlT K (.ref a) (some z) none H Q := by
  subst hz
  refine ⟨a, xs, rfl, h1, fun ⟨e, _⟩ => ?_, fun p hp => by rw [cutV_drop]; exact h p hp⟩
  rw [HT.sIx_nat] at e
  omega
theorem first_one {bs : List (Str × Int)} {z : Str} {i j : Nat} (hi : FirstAt bs z i) (hj : FirstAt bs z j) : i = j := by
  obtain ⟨⟨b, hb, eb⟩, h1⟩ := hi
  obtain ⟨⟨c, hc, ec⟩, h2⟩ := hj
  rcases Nat.lt_trichotomy i j with h | h | h
  · exact absurd eb (h2 i b h hb)
  · exact h
  · exact absurd ec (h1 j c h hc)
abbrev stI (st : List Int) : D := .tup (st.map D.int)
structure PutOk (bs : List (Str × Int)) (st : List Int) (j : Nat) (b : Str × Int) : Prop where
  at_ : bs[j]? = some b
  first : FirstAt bs b.1 j
  len : st.length = bs.length
  few : bs.length ≤ 10
  size : 1 ≤ b.2 ∧ b.2 ≤ 9
theorem set_cut {α : Type} {l : List α} {j : Nat} {v : α} (h : j < l.length) : l.take j ++ [v] ++ l.drop (j + 1) = l.set j v := by
  rw [List.set_eq_take_append_cons_drop, if_pos h]
  simp
theorem ok_put_into (T : Tx K mg) : FnOk P w K mg base CX0 2 T.a_put_into T.fd_put_into ["boxes", "state", "name", "number"] (sP K (fun x : (List (Str × Int) × List Int) × Nat × (Str × Int) × Int => [.tup (x.1.1.map boxD), stI x.1.2, .str x.2.2.1.1, .int x.2.2.2]) (fun x => PutOk x.1.1 x.1.2 x.2.1 x.2.2.1) (fun x r => r = stI (x.1.2.set x.2.1 (x.2.2.2 % x.2.2.1.2)))) := by
  refine T.F_put_into.ok sc_put_into (fun vs H Q E h => sP_len (n := 4) (fun _ => rfl) h) (fun cdv A outer s H vs Q E hr h => ?_)
  obtain ⟨⟨⟨bs, st⟩, j, b, n⟩, hi, ok, k⟩ := h
  have ok : PutOk bs st j b := ok
  have h10 := ok.few
  have hle := ok.len
  have hj : j < bs.length := (List.getElem?_eq_some_iff.1 ok.at_).1
  obtain ⟨x, r, rfl, hx, hi⟩ := hi.cons_inv
  obtain ⟨y, z, u, rfl, hy, hz, hu⟩ := hi.d3
  obtain rfl := hz.str_inv
  obtain rfl := hu.int_inv
  refine ⟨_, (pss_cons (ps_set (i := 4) sc_put_into.nd rfl (Or.inl rfl) (pe_call (ok_place_of T) (hr.mono (by decide)) rfl T.m_place_of T.F_place_of.kp T.b_place_of .nil pass0 (pa_cons (pv 0) (pa_cons (pv 2) pa_nil)))) (pss_cons (ps_set (i := 5) sc_put_into.nd rfl (Or.inl rfl) (pe_ix (ix_tupK (K := K)) (pe_ix (ix_tupK (K := K)) (pv 0) (pv 4) (fun _ _ => rfl)) pe_int (fun _ _ => rfl))) (pss_one (ps_ret (pe_op (op_catA (K := K)) (pe_op (op_catA (K := K)) (pe_slice (sl_tupK (K := K)) (pv 1) po_none (po_some (pv 4))) (pe_tup (pa_cons (pe_op op_mod (pv 3) (pv 5)) pa_nil))) (pe_slice (sl_tupK (K := K)) (pv 1) (po_some (pe_op op_add (pv 4) pe_int)) po_none)))))), ?_⟩
  walk_at "rd"
  refine i_sP (bs, b.1) (.cons hx (.cons (.str _) .nil)) ⟨⟨b, List.mem_of_getElem? ok.at_, rfl⟩, h10⟩ fun r v H1 e S1 hv => ?_
  obtain ⟨j', rfl, hj'⟩ := e
  obtain rfl : j' = j := first_one hj' ok.first
  obtain rfl := hv.int_inv
  obtain ⟨a, xs, rfl, hS, hL⟩ := (hx.mono S1).tup_inv
  obtain ⟨vb, hvb, hIb⟩ := hL.get (i := j') (d := boxD b) (by rw [List.getElem?_map, ok.at_]; rfl)
  obtain ⟨p, us, rfl, hT, hU⟩ := hIb.tup_inv
  obtain ⟨u1, u2, rfl, hu1, hu2⟩ := hU.d2
  obtain rfl := hu2.int_inv
  obtain ⟨c, ws, rfl, hS2, hL2⟩ := (hy.mono S1).tup_inv
  obtain rfl := IsL.ints_inv hL2
  walk_at "rd"
  refine i_ixT hS hvb ?_
  walk_at "rd"
  refine i_sl ?_
  walk_at "rd"
  refine i_noPart ?_
  refine i_part ?_
  walk_at "rd"
  refine i_int1 ?_
  refine i_slT0 hS2 (by show j' < (st.map V.int).length; rw [List.length_map]; omega) fun p1 hp1 => ?_
  have Sa := same_upd (o := .tup ((st.map V.int).take j')) hp1
  walk_at "rd"
  refine i_I (show 0 < b.2 by have := ok.size.1; omega) ?_
  walk_at "rd"
  refine ⟨by show 1 ≤ sizeLine; decide, fun p2 hp2 => ?_⟩
  have Sb := same_upd (o := .tup [.int (n % b.2)]) hp2
  refine i_catA (Sb.tup (SqT.of upd_same)) (SqT.of upd_same) (by rw [List.length_take]; show min j' _ + 1 ≤ 1000; omega) fun p3 H3 S3 hp3 => ?_
  have S13 := Sa.trans (Sb.trans S3)
  walk_at "rd"
  refine i_sl ?_
  walk_at "rd"
  refine i_part ?_
  walk_at "rd"
  refine i_int1 ?_
  refine i_noPart ?_
  refine i_slT1 (n := j') (by omega) (S13.tup hS2) (by show j' < (st.map V.int).length; rw [List.length_map]; omega) fun p4 hp4 => ?_
  have Sd := same_upd (o := .tup ((st.map V.int).drop (j' + 1))) hp4
  refine i_catA (Sd.tup hp3) (SqT.of upd_same) (by rw [List.length_append, List.length_take, List.length_drop, List.length_map]; show min j' _ + 1 + _ ≤ 1000; omega) fun p5 H5 S5 hp5 => ?_
  refine k _ _ _ rfl (S1.trans (S13.trans (Sd.trans S5))) (.tup hp5 ?_)
  show L2.IsL K H5 _ ((st.set j' (n % b.2)).map D.int)
  have e : (st.map V.int).take j' ++ [V.int (n % b.2)] ++ (st.map V.int).drop (j' + 1) = (st.set j' (n % b.2)).map V.int := by
    rw [set_cut (by rw [List.length_map]; omega), List.map_set]
  rw [e]
  exact IsL.ints _
/-- the ways of a draw, from the i-th number on -/
def waysD (st : List Int) (j : Nat) (tot : Int) : Nat → List Int → List D
  | _, [] => []
  | i, w :: r => if 0 < w then .tup [dQ (low1 w tot) (low2 w tot), stI (st.set j (i : Int))] :: waysD st j tot (i + 1) r else waysD st j tot (i + 1) r
theorem ways_push (st : List Int) (j : Nat) (tot w : Int) : ∀ (i : Nat) (l : List Int), waysD st j tot i (l ++ [w]) = waysD st j tot i l ++ (if 0 < w then [.tup [dQ (low1 w tot) (low2 w tot), stI (st.set j ((i + l.length : Nat) : Int))]] else [])
  | i, [] => by
    show (if 0 < w then [_] else []) = [] ++ _
    rw [List.nil_append]
    rfl
  | i, x :: r => by
    have ih := ways_push st j tot w (i + 1) r
    have e : i + 1 + r.length = i + (x :: r).length := by rw [List.length_cons]; omega
    rw [e] at ih
    show (if 0 < x then _ :: waysD st j tot (i + 1) (r ++ [w]) else waysD st j tot (i + 1) (r ++ [w])) = (if 0 < x then _ :: waysD st j tot (i + 1) r else waysD st j tot (i + 1) r) ++ _
    rw [ih]
    split <;> simp
theorem ways_len (st : List Int) (j : Nat) (tot : Int) : ∀ (i : Nat) (l : List Int), (waysD st j tot i l).length ≤ l.length
  | _, [] => Nat.le_refl _
  | i, x :: r => by
    have := ways_len st j tot (i + 1) r
    show (if 0 < x then _ :: waysD st j tot (i + 1) r else waysD st j tot (i + 1) r).length ≤ _
    split <;> simp <;> omega
theorem nol_stI (st : List Int) : D.nol (stI st) = true := by
  unfold stI D.nol
  exact D.nols_of fun d hd => by
    obtain ⟨x, _, rfl⟩ := List.mem_map.1 hd
    rfl
theorem nol_way (a b : Int) (st : List Int) : D.nol (.tup [dQ a b, stI st]) = true := by
  unfold D.nol
  exact D.nols_of fun d hd => by
    rcases List.mem_cons.1 hd with rfl | hd
    · exact nol_q _ _
    · rw [List.mem_singleton.1 hd]
      exact nol_stI _
theorem ways_mem {st : List Int} {j : Nat} {tot : Int} : ∀ {i : Nat} {l : List Int} {d : D}, d ∈ waysD st j tot i l → ∃ (w : Int) (k : Nat), w ∈ l ∧ 0 < w ∧ k < i + l.length ∧ d = .tup [dQ (low1 w tot) (low2 w tot), stI (st.set j (k : Int))]
  | _, [], d, h => by cases h
  | i, x :: r, d, h => by
    have h : d ∈ (if 0 < x then D.tup [dQ (low1 x tot) (low2 x tot), stI (st.set j (i : Int))] :: waysD st j tot (i + 1) r else waysD st j tot (i + 1) r) := h
    have step : d ∈ waysD st j tot (i + 1) r → ∃ (w : Int) (k : Nat), w ∈ x :: r ∧ 0 < w ∧ k < i + (x :: r).length ∧ d = .tup [dQ (low1 w tot) (low2 w tot), stI (st.set j (k : Int))] := fun h => by
      obtain ⟨w, k, h1, h2, h3, h4⟩ := ways_mem h
      exact (⟨w, k, List.mem_cons_of_mem _ h1, h2, by rw [List.length_cons]; omega, h4⟩ : ∃ (w : Int) (k : Nat), w ∈ x :: r ∧ 0 < w ∧ k < i + (x :: r).length ∧ d = .tup [dQ (low1 w tot) (low2 w tot), stI (st.set j (k : Int))])
    split at h
    · rename_i hx
      rcases List.mem_cons.1 h with rfl | h
      · exact ⟨x, i, List.mem_cons_self, hx, by rw [List.length_cons]; omega, rfl⟩
      · exact step h
    · exact step h
theorem nol_ways (st : List Int) (j : Nat) (tot : Int) (i : Nat) (l : List Int) : D.nols (waysD st j tot i l) = true := D.nols_of fun d hd => by
  obtain ⟨w, k, _, _, _, rfl⟩ := ways_mem hd
  exact nol_way _ _ _
theorem isl_fr {K : PySem.W.Frag} {H H' : Hp} {vs : List V} {ds : List D} (h : L2.IsL K H' vs ds) (n : D.nols ds = true) : L2.IsL K (frG H H') vs ds := h.monoN (fun b o e z => frG_of e fun xs ez => absurd ez (z xs)) n
/-- weights: from 0 on, not all 0 -/
structure WtOk (size : Int) (ws : List Int) : Prop where
  len : (ws.length : Int) = size
  few : ws.length ≤ 9
  each : ∀ w ∈ ws, 0 ≤ w ∧ intBits w ≤ 200
  tot : 1 ≤ ws.sum
theorem sum_bits {ws : List Int} (h : ∀ w ∈ ws, intBits w ≤ 200) : ws.length ≤ 9 → intBits ws.sum ≤ 210 := by
  have g : ∀ l : List Int, (∀ w ∈ l, intBits w ≤ 200) → intBits l.sum ≤ 200 + l.length := fun l hl => by
    induction l with
    | nil => exact Nat.le_trans (show intBits 0 ≤ 0 by decide) (Nat.zero_le _)
    | cons x r ih =>
      rw [List.sum_cons]
      have h1 := hl x List.mem_cons_self
      have h2 := ih fun w hw => hl w (List.mem_cons_of_mem _ hw)
      exact addBits (m := 200 + r.length) (leBits h1 (by omega)) h2 (by rw [List.length_cons]; omega)
  intro hl
  exact leBits (g ws h) (by omega)
theorem ok_drawn (T : Tx K mg) : FnOk P w K mg base CX0 4 T.a_drawn T.fd_drawn ["boxes", "state", "name", "weights"] (sFl K (fun x : (List (Str × Int) × List Int) × Nat × (Str × Int) × List Int => [.tup (x.1.1.map boxD), stI x.1.2, .str x.2.2.1.1, stI x.2.2.2]) (fun x => PutOk x.1.1 x.1.2 x.2.1 x.2.2.1 ∧ WtOk x.2.2.1.2 x.2.2.2) (fun x r => r = waysD x.1.2 x.2.1 x.2.2.2.sum 0 x.2.2.2)) := by
  refine T.F_drawn.ok sc_drawn (fun vs H Q E h => sFl_len (n := 4) (fun _ => rfl) h) (fun cdv A outer s H vs Q E hr h => ?_)
  obtain ⟨⟨⟨bs, st⟩, j, b, ws⟩, hi, ⟨ok, wo⟩, k⟩ := h
  have ok : PutOk bs st j b := ok
  have wo : WtOk b.2 ws := wo
  have w9 := wo.few
  have wlen := wo.len
  have tb : intBits ws.sum ≤ 210 := sum_bits (fun w hw => (wo.each w hw).2) w9
  have t1 := wo.tot
  obtain ⟨x, r, rfl, hx, hi⟩ := hi.cons_inv
  obtain ⟨y, z, u, rfl, hy, hz, hu⟩ := hi.d3
  obtain rfl := hz.str_inv
  obtain ⟨wa, wvs, rfl, hwS, hwL⟩ := hu.tup_inv
  obtain rfl := IsL.ints_inv hwL
  refine ⟨_, (pss_cons (ps_set (i := 4) sc_drawn.nd rfl (Or.inl rfl) (pe_callB (call_sumTK (K := K) rfl) rfl T.n_sum PyProof.Rows.Boot.«sum» (pa_cons (pv 3) pa_nil))) (pss_cons (ps_set (i := 5) sc_drawn.nd rfl (Or.inl rfl) (pe_lst pa_nil)) (pss_cons (ps_for PassesOwn.never rfl (pi_enumT (K := K) rfl T.n_enumerate (pa_cons (pv 3) pa_nil)) (pg_tupK (K := K) (n := 2) rfl (pgs_cons (pg_name (i := 6) sc_drawn.nd rfl (Or.inl rfl)) (pgs_cons (pg_name (i := 7) sc_drawn.nd rfl (Or.inl rfl)) pgs_nil))) (pss_one (ps_if (pt_cmp (pc_gt (pv 7) pe_int)) (pss_one (ps_expr (pe_bm PySem.F.plainAttrs_list PySem.F.slot_list_append PySem.F.type_list_append mt_append (pv 5) (pa_cons (pe_tup (pa_cons (pe_call (ok_fraction T) (hr.mono (by decide)) rfl T.m_fraction T.F_fraction.kp T.b_fraction .nil passF (pa_cons (pv 7) (pa_cons (pv 4) pa_nil))) (pa_cons (pe_call (ok_put_into T) (hr.mono (by decide)) rfl T.m_put_into T.F_put_into.kp T.b_put_into .nil pass0 (pa_cons (pv 0) (pa_cons (pv 1) (pa_cons (pv 2) (pa_cons (pv 6) pa_nil))))) pa_nil))) pa_nil)))) pss_nil))) (pss_one (ps_ret (pv 5)))))), ?_⟩
  walk_at "rd"
  refine i_sumT hwS ?_
  walk_at "rd"
  refine ⟨by show 0 ≤ sizeLine; decide, fun g hg => ?_⟩
  walk_at "rd"
  refine i_enumT ?_
  walk_at "rd"
  have S0 := same_upd (o := .lst []) hg
  refine ⟨wa, rfl, ⟨_, S0.tup hwS⟩, ?_⟩
  refine forN_pairs (pairs_enumT (xs := ws.map V.int)) (fun i σ H' => ∃ (v1 v2 : Option V) (ys : List V), σ = [some x, some y, some (.str b.1), some (.ref wa), some (.int ws.sum), some (.ref g), v1, v2] ∧ H' g = some (.lst ys) ∧ L2.IsL K H' ys (waysD st j ws.sum 0 (ws.take i)) ∧ Same H H') ?h0 (fun i σ H' _ ⟨_, _, _, _, _, _, S⟩ => S.tup hwS) ?_ ?_
  case h0 => exact ⟨_, _, _, rfl, upd_same, .nil, S0⟩
  · rintro i u v p σ H1 hf hi hp ⟨v1, v2, ys, rfl, hgg, hY, S1⟩
    rw [List.length_map] at hi
    obtain ⟨rfl, rfl⟩ : u = .int i ∧ v = .int ws[i] := by
      rw [List.getElem?_map, List.getElem?_eq_getElem hi] at hf
      cases hf
      exact ⟨rfl, rfl⟩
    have tk : ws.take (i + 1) = ws.take i ++ [ws[i]] := by rw [List.take_add_one, List.getElem?_eq_getElem hi]; rfl
    have tl : (ws.take i).length = i := by rw [List.length_take]; omega
    have wp := ways_push st j ws.sum ws[i] 0 (ws.take i)
    rw [tl, Nat.zero_add, ← tk] at wp
    have S2 := S1.trans (same_upd (o := .tup [.int i, .int ws[i]]) hp)
    have Sp := same_upd (o := .tup [.int i, .int ws[i]]) hp
    refine i_gTup2 (SqT.of upd_same) ?_
    walk_at "rd"
    refine ite2 (fun h => ?_) (fun h => ?_)
    · have hw0 : 0 < ws[i] := by simpa using h
      walk_at "rd"
      refine i_bm ?_
      walk_at "rd"
      refine ⟨.inl ⟨rfl, _, SqL.of (Sp _ _ hgg)⟩, ?_⟩
      walk_at "rd"
      refine ⟨(ws[i], ws.sum), .cons (.int _) (.cons (.int _) .nil), .inl ⟨⟨show ws.sum ≠ 0 by omega, leBits tb⟩, fun r v H3 e S3 hv => ?_⟩⟩
      have e : r = dQ (low1 ws[i] ws.sum) (low2 ws[i] ws.sum) := e
      subst e
      walk_at "rd"
      have S03 := S2.trans S3
      refine i_sP ((bs, st), j, b, (i : Int)) (.cons (hx.mono S03) (.cons (hy.mono S03) (.cons (.str _) (.cons (.int _) .nil)))) ok fun r v' H4 e S4 hv' => ?_
      have e : r = stI (st.set j ((i : Int) % b.2)) := e
      rw [Int.emod_eq_of_lt (by omega) (by omega)] at e
      subst e
      walk_at "rd"
      refine ⟨by show 2 ≤ sizeLine; decide, fun q hq => ?_⟩
      have Sq := same_upd (o := .tup [v, v']) hq
      have S1q := Sp.trans (S3.trans (S4.trans Sq))
      walk_at "rd"
      refine i_append (S1q _ _ hgg) ?_ ?_
      · rw [hY.len]
        exact Nat.lt_of_le_of_lt (Nat.le_trans (ways_len _ _ _ _ _) (show (ws.take i).length ≤ 9 by omega)) (by show 9 < sizeLine; decide)
      refine ⟨_, _, _, rfl, upd_same, ?_, (S1.trans S1q).upd_at hg⟩
      rw [wp, if_pos hw0]
      exact IsL.push (S1q _ _ hgg) (hY.mono S1q) (nol_ways _ _ _ _ _) (.tup (SqT.of upd_same) (.cons ((hv.mono S4).mono Sq) (.cons (hv'.mono Sq) .nil))) (nol_way _ _ _)
    · have hw0 : ¬ 0 < ws[i] := by simpa using h
      refine ⟨_, _, _, rfl, Sp _ _ hgg, ?_, S2⟩
      rw [wp, if_neg hw0, List.append_nil]
      exact hY.mono Sp
  · rintro σ H1 ⟨v1, v2, ys, rfl, hgg, hY, S1⟩
    rw [List.length_map, List.take_length] at hY
    walk_at "rd"
    exact k _ _ _ _ rfl S1 hgg hg (isl_fr hY (nol_ways _ _ _ _ _))
theorem ok__law_put (T : Tx K mg) : FnOk P w K mg base CX0 1 T.a__law_put T.fd__law_put ["_law_state_here", "_law_at", "_law_number_here"] (sP K (fun x : List Int × Nat × Int => [stI x.1, .int (x.2.1 : Int), .int x.2.2]) (fun x => x.1.length ≤ 10) (fun x r => r = stI (x.1.set x.2.1 x.2.2))) := by
  refine T.F__law_put.ok sc__law_put (fun vs H Q E h => sP_len (n := 3) (fun _ => rfl) h) (fun cdv A outer s H vs Q E hr h => ?_)
  obtain ⟨⟨st, j, n⟩, hi, h10, k⟩ := h
  have h10 : st.length ≤ 10 := h10
  obtain ⟨x, y, z, rfl, hx, hy, hz⟩ := hi.d3
  obtain rfl := hy.int_inv
  obtain rfl := hz.int_inv
  obtain ⟨a, xs, rfl, hS, hL⟩ := hx.tup_inv
  obtain rfl := IsL.ints_inv hL
  have hS : SqT K H a (st.map V.int) := hS
  refine ⟨_, (pss_one (ps_ret (pe_callTy (call_tupleK (K := K)) rfl T.n_tuple boot_tuple (pa_cons (pe_comp (N' := ["_law_k", "_law_old", "_law_number_here", "_law_at"]) rfl (blk (osc := defScope s__law_put) rfl (by decide +kernel)) (cap_own (cap_own (cap_out (i := 2) rfl rfl (cap_out (i := 1) rfl rfl cap_nil)))) (pi_enumT (K := K) rfl T.n_enumerate (pa_cons (pv 0) pa_nil)) (gown_tup (gsown_cons (gown_name rfl) (gsown_cons (gown_name rfl) gsown_nil gname_mono) gname_mono)) (fun C s₀ H₀ fp => pg_tupK (K := K) (n := 2) rfl (pgs_cons (pg_name (i := 0) (show (["_law_k", "_law_old", "_law_number_here", "_law_at"] : List Str).Nodup from by decide +kernel) rfl (Or.inl rfl)) (pgs_cons (pg_name (i := 1) (show (["_law_k", "_law_old", "_law_number_here", "_law_at"] : List Str).Nodup from by decide +kernel) rfl (Or.inl rfl)) pgs_nil))) (fun C s₀ H₀ fp => pts_nil) (fun C s₀ H₀ fp => (pe_ifExp (pt_cmp (pc_eqI (pv 0) (pv 3))) (pv 2) (pv 1)))) pa_nil)))), ?_⟩
  walk_at "rd"
  refine i_comp ?_
  refine i_enumT ?_
  walk_at "rd"
  refine ⟨a, rfl, ⟨_, hS⟩, fun acc hacc => ?_⟩
  refine compN_pairs (pairs_enumT (xs := st.map V.int)) (fun i ys H' => ys = ((st.set j n).take i).map V.int ∧ H' acc = some (.lst ys) ∧ Same H H') ⟨rfl, upd_same, same_upd hacc⟩ (fun i ys H' _ ⟨_, _, S⟩ => S.tup hS) ?_ ?_
  · rintro i u v p ys H2 R hf hi hp ⟨rfl, hac, S2⟩ hR
    rw [List.length_map] at hi
    obtain ⟨rfl, rfl⟩ : u = .int i ∧ v = .int st[i] := by
      rw [List.getElem?_map, List.getElem?_eq_getElem hi] at hf
      cases hf
      exact ⟨rfl, rfl⟩
    have Sp := same_upd (o := .tup [.int i, .int st[i]]) hp
    have hil : i < (st.set j n).length := by rw [List.length_set]; exact hi
    have tk : (st.set j n).take (i + 1) = (st.set j n).take i ++ [(st.set j n)[i]] := by rw [List.take_add_one, List.getElem?_eq_getElem hil]; rfl
    have fin : ∀ v : Int, v = (st.set j n)[i] → upd H2 p (.tup [.int i, .int st[i]]) acc = some (.lst (((st.set j n).take i).map V.int)) ∧ (((st.set j n).take i).map V.int).length < sizeLine ∧ R (((st.set j n).take i).map V.int ++ [.int v]) (upd (upd H2 p (.tup [.int i, .int st[i]])) acc (.lst (((st.set j n).take i).map V.int ++ [.int v]))) := fun v e => by
      subst e
      refine ⟨Sp _ _ hac, ?_, hR _ _ ⟨?_, upd_same, (S2.trans Sp).upd_at hacc⟩⟩
      · rw [List.length_map, List.length_take, List.length_set]
        exact Nat.lt_of_le_of_lt (show min i st.length ≤ 10 by omega) (by show 10 < sizeLine; decide)
      · rw [tk, List.map_append]
        rfl
    unfold CTurn
    refine i_gTup2 (SqT.of upd_same) ?_
    dsimp only
    refine iteT ?_
    walk_at "rd"
    refine ite2 (fun h => ?_) (fun h => ?_)
    · have h : i = j := by
        have : (i : Int) = (j : Int) := by simpa using h
        omega
      walk_at "rd"
      exact fin n (by rw [List.getElem_set, if_pos h.symm])
    · have h : ¬ i = j := by
        have : ¬ (i : Int) = (j : Int) := by simpa using h
        omega
      walk_at "rd"
      exact fin st[i] (by rw [List.getElem_set, if_neg (fun e => h e.symm)])
  · rintro ys H2 ⟨rfl, hac, S2⟩
    have e : ((st.set j n).take (st.map V.int).length) = st.set j n := List.take_of_length_le (by rw [List.length_set, List.length_map]; exact Nat.le_refl _)
    rw [e] at hac
    walk_at "rd"
    refine ⟨_, _, rfl, .inl ⟨SqL.of hac, fun q hq => ?_⟩⟩
    exact k _ _ _ rfl (S2.trans (same_upd hq)) (.tup (SqT.of upd_same) (IsL.ints _))
theorem ok__law_common (T : Tx K mg) : FnOk P w K mg base CX0 1 T.a__law_common T.fd__law_common ["_law_one", "_law_other"] (sP K (fun x : Int × Int => [.int x.1, .int x.2]) (fun x => 0 ≤ x.1 ∧ 0 ≤ x.2) (fun x r => r = .int (Int.gcd x.1 x.2))) := by
  refine T.F__law_common.ok sc__law_common (fun vs H Q E h => sP_len (n := 2) (fun _ => rfl) h) (fun cdv A outer s H vs Q E hr h => ?_)
  obtain ⟨⟨a, b⟩, hi, ⟨ha0, hb0⟩, k⟩ := h
  obtain rfl := hi.i2
  refine ⟨_, (pss_cons (ps_while PassesOwn.never (pt_cmp (pc_gt (pv 1) pe_int)) (pss_one (ps_par (i := 0) (j := 1) rfl sc__law_common.nd rfl rfl (by decide) rfl rfl (pa_cons (pv 1) (pa_cons (pe_op op_mod (pv 0) (pv 1)) pa_nil)) rfl))) (pss_one (ps_ret (pv 0)))), ?_⟩
  walk_at "rd"
  refine ⟨fun m σ H' => ∃ (a' b' : Int), σ = [some (.int a'), some (.int b')] ∧ H' = H ∧ 0 ≤ a' ∧ 0 ≤ b' ∧ Int.gcd a' b' = Int.gcd a b ∧ m = b'.toNat, ⟨_, _, _, rfl, rfl, ha0, hb0, rfl, rfl⟩, ?_⟩
  rintro m σ H' ⟨a', b', rfl, rfl, ha, hb, hg, rfl⟩
  walk_at "rd"
  refine ite2 (fun h => ?_) (fun h => ?_)
  · have hne : 0 < b' := by simpa using h
    refine ⟨fun σ' H' => ∃ m', m' < b'.toNat ∧ _, fun σ' H' h => h, ?_⟩
    walk_at "rd"
    refine i_I hne ?_
    walk_at "rd"
    exact ⟨_, (show (a' % b').toNat < b'.toNat by have := Int.emod_nonneg a' (Int.ne_of_gt hne); have := Int.emod_lt_of_pos a' hne; omega), _, _, rfl, rfl, hb, Int.emod_nonneg _ (Int.ne_of_gt hne), by rw [gcd_turn ha hne]; exact hg, rfl⟩
  · have hz : b' = 0 := by
      have : ¬ 0 < b' := by simpa using h
      omega
    subst hz
    walk_at "rd"
    refine k _ _ _ rfl (Same.refl _) ?_
    rw [← hg, gcd_zero ha]
    exact .int _
theorem sum_ge : ∀ {l : List Int}, (∀ w ∈ l, 0 ≤ w) → 0 ≤ l.sum ∧ ∀ w ∈ l, w ≤ l.sum
  | [], _ => ⟨by decide, fun _ h => by cases h⟩
  | x :: r, h => by
    obtain ⟨h1, h2⟩ := sum_ge (l := r) fun w hw => h w (List.mem_cons_of_mem _ hw)
    have hx := h x List.mem_cons_self
    rw [List.sum_cons]
    refine ⟨by omega, fun w hw => ?_⟩
    rcases List.mem_cons.1 hw with rfl | hw
    · omega
    · have := h2 w hw
      omega
theorem c60w : (0 : Int) < 10 ^ (60 : Int).toNat ∧ ((10 : Int) ^ (60 : Int).toNat).natAbs ≤ 2 ^ 200 := by decide +kernel
theorem ok__law_weights (T : Tx K mg) : FnOk P w K mg base CX0 2 T.a__law_weights T.fd__law_weights ["_law_script", "_law_k", "_law_size"] (sP K (fun x : List Int × Int × Int => [.lst (x.1.map D.int), .int x.2.1, .int x.2.2]) (fun x => (0 ≤ x.2.1 ∧ x.2.1 < 1000) ∧ 1 ≤ x.2.2 ∧ x.2.2 ≤ 9) (fun x r => ∃ ws : List Int, r = stI ws ∧ WtOk x.2.2 ws)) := by
  refine T.F__law_weights.ok sc__law_weights (fun vs H Q E h => sP_len (n := 3) (fun _ => rfl) h) (fun cdv A outer s H vs Q E hr h => ?_)
  obtain ⟨⟨ns, i, sz⟩, hi, ⟨⟨h0, h1⟩, h2, h3⟩, k⟩ := h
  have h0 : 0 ≤ i := h0
  have h1 : i < 1000 := h1
  have h2 : 1 ≤ sz := h2
  have h3 : sz ≤ 9 := h3
  obtain ⟨x, y, z, rfl, hx, hy, hz⟩ := hi.d3
  obtain rfl := hy.int_inv
  obtain rfl := hz.int_inv
  obtain ⟨a, xs, rfl, hS, hL⟩ := id hx.lst_inv
  obtain rfl := IsL.ints_inv hL
  have dr : ∀ {H' : Hp} {Q' : VK} {E' : XK} {k p m : Int}, Same H H' → DrawOk k p m → (∀ H'', Same H' H'' → Q' (.int (drawN ns k p m)) H'') → sP K aDraw (fun x => DrawOk x.2.1 x.2.2.1 x.2.2.2) (fun x r => r = .int (drawN x.1 x.2.1 x.2.2.1 x.2.2.2)) [.ref a, .int k, .int p, .int m] H' Q' E' := fun {H' Q' E' k p m} S hd q =>
    i_sPi (ns, k, p, m) (.cons (hx.mono S) (.cons (.int _) (.cons (.int _) (.cons (.int _) .nil)))) hd (fun r e => e) q
  refine ⟨_, (pss_cons (ps_set (i := 3) sc__law_weights.nd rfl (Or.inl rfl) (pe_lst pa_nil)) (pss_cons (ps_for PassesOwn.never rfl (pi_range1 rfl T.n_range (pa_cons (pv 2) pa_nil)) (pg_name (i := 4) sc__law_weights.nd rfl (Or.inl rfl)) (pss_cons (ps_set (i := 5) sc__law_weights.nd rfl (Or.inl rfl) (pe_call (ok__law_draw T) (hr.mono (by decide)) rfl T.m__law_draw T.F__law_draw.kp T.b__law_draw .nil pass0 (pa_cons (pv 0) (pa_cons (pe_op op_add (pv 1) (pv 4)) (pa_cons pe_int (pa_cons pe_int pa_nil)))))) (pss_cons (ps_if (PW.pt (pw_and (pt_cmp (pc_eqI (pe_call (ok__law_draw T) (hr.mono (by decide)) rfl T.m__law_draw T.F__law_draw.kp T.b__law_draw .nil pass0 (pa_cons (pv 0) (pa_cons (pe_op op_add (pv 1) (pv 4)) (pa_cons pe_int (pa_cons pe_int pa_nil))))) pe_int)) (pw_and1 (pt_cmp (pc_gt (pe_callB (call_lenK (K := K)) rfl T.n_len boot_len (pa_cons (pv 0) pa_nil)) pe_int))))) (pss_one (ps_set (i := 5) sc__law_weights.nd rfl (Or.inl rfl) (pe_op op_mod (pe_ix (ix_listK (K := K)) (pv 0) (pe_op op_mod (pe_op op_add (pv 1) (pv 4)) (pe_callB (call_lenK (K := K)) rfl T.n_len boot_len (pa_cons (pv 0) pa_nil))) (fun _ _ => rfl)) (pe_op op_pow pe_int pe_int)))) pss_nil) (pss_one (ps_expr (pe_bm PySem.F.plainAttrs_list PySem.F.slot_list_append PySem.F.type_list_append mt_append (pv 3) (pa_cons (pv 5) pa_nil))))))) (pss_cons (ps_if (pt_cmp (pc_eqI (pe_callB (call_sumK (K := K) rfl) rfl T.n_sum PyProof.Rows.Boot.«sum» (pa_cons (pv 3) pa_nil)) pe_int)) (pss_one (ps_asg pe_int (pg_sub (pv 3) (pe_call (ok__law_draw T) (hr.mono (by decide)) rfl T.m__law_draw T.F__law_draw.kp T.b__law_draw .nil pass0 (pa_cons (pv 0) (pa_cons (pv 1) (pa_cons pe_int (pa_cons (pv 2) pa_nil))))) set_list))) pss_nil) (pss_one (ps_ret (pe_callTy (call_tupleK (K := K)) rfl T.n_tuple boot_tuple (pa_cons (pv 3) pa_nil))))))), ?_⟩
  walk_at "rd"
  refine ⟨by show 0 ≤ sizeLine; decide, fun g hg => ?_⟩
  walk_at "rd"
  refine ⟨by omega, by omega, ?_⟩
  refine forN_range (fun j σ H' => ∃ (v1 v2 : Option V) (ws : List Int), σ = [some (.ref a), some (.int i), some (.int sz), some (.ref g), v1, v2] ∧ ws.length = j ∧ (∀ w ∈ ws, 0 ≤ w ∧ intBits w ≤ 200) ∧ H' g = some (.lst (ws.map V.int)) ∧ Same H H') ?h0 ?_ ?_
  case h0 => exact ⟨_, _, [], rfl, rfl, (fun _ h => by cases h), upd_same, same_upd hg⟩
  · rintro j σ H1 hj ⟨v1, v2, ws, rfl, rfl, hw, hgg, S1⟩
    have kj : 0 ≤ i + (0 + (ws.length : Int)) ∧ i + (0 + (ws.length : Int)) < 1000000 := by omega
    refine i_gName ?_
    (try dsimp only)
    with_reducible refine i_seq ?_
    walk_at "st"
    refine dr S1 ⟨kj.1, kj.2, by decide, by decide⟩ fun H2 S2 => ?_
    have d0 := drawN_nonneg (ns := ns) (k := i + (0 + (ws.length : Int))) (p := 10163) (m := 4) (by decide)
    have d1 := drawN_lt (ns := ns) (k := i + (0 + (ws.length : Int))) (p := 10163) (m := 4) (by decide)
    generalize drawN ns (i + (0 + (ws.length : Int))) 10163 4 = D0 at d0 d1 ⊢
    walk_at "st"
    have db : intBits D0 ≤ 200 := leBits (ltBits (m := 2) (by omega))
    have S12 := S1.trans S2
    with_reducible refine seq_by (fun σ H' => ∃ w : Int, σ = [some (.ref a), some (.int i), some (.int sz), some (.ref g), some (.int (0 + (ws.length : Int))), some (.int w)] ∧ 0 ≤ w ∧ intBits w ≤ 200 ∧ Same H2 H') ?_ ?_
    rotate_left
    ·
      intro N hN
      walk_at "rd"
      refine dr S12 ⟨kj.1, kj.2, by decide, by decide⟩ fun H3 S3 => ?_
      walk_at "rd"
      refine ite2 (fun h => ?_) (fun h => ?_)
      · walk_at "rd"
        have hS3 : SqL K H3 a (ns.map V.int) := (S12.trans S3).seq hS
        refine ⟨_, _, rfl, .inl hS3, ?_⟩
        walk_at "rd"
        rw [List.length_map]
        refine ite2 (fun h => ?_) (fun h => ?_)
        · have hne : ¬ ns.length = 0 := by have : (0 : Int) < (ns.length : Int) := by simpa using h
                                           omega
          obtain ⟨c, ec, hc, ecc⟩ := cell_ix (k := i + (0 + (ws.length : Int))) hne
          walk_at "rd"
          refine ⟨_, _, rfl, .inl hS3, ?_⟩
          walk_at "rd"
          rw [List.length_map]
          refine i_I (show 0 < (ns.length : Int) by omega) ?_
          refine i_ixLz (j := c) (v := .int ns[c]) ec hS3 (by rw [List.getElem?_map, List.getElem?_eq_getElem hc]; rfl) ?_
          walk_at "rd"
          refine i_I ⟨by decide, by decide, by decide⟩ ?_
          walk_at "rd"
          refine i_I c60w.1 ?_
          walk_at "rd"
          exact hN _ _ ⟨_, rfl, Int.emod_nonneg _ (Int.ne_of_gt c60w.1), modBits c60w.1 c60w.2, S3⟩
        · exact hN _ _ ⟨D0, rfl, d0, db, S3⟩
      · refine iteF ?_
        exact hN _ _ ⟨D0, rfl, d0, db, S3⟩
    rintro σ H3 ⟨w, rfl, w0, w1, S3⟩
    walk_at "rd"
    refine i_bm ?_
    walk_at "rd"
    have hgg3 := S3 _ _ (S2 _ _ hgg)
    refine ⟨.inl ⟨rfl, _, SqL.of hgg3⟩, ?_⟩
    walk_at "rd"
    refine i_append hgg3 ?_ ?_
    · rw [List.length_map]
      exact Nat.lt_of_lt_of_le hj (Nat.le_trans (show sz.toNat ≤ 9 by omega) (by show 9 ≤ sizeLine; decide))
    refine ⟨_, _, ws ++ [w], rfl, by simp, fun w' hw' => ?_, ?_, (S12.trans S3).upd_at hg⟩
    · rcases List.mem_append.1 hw' with h | h
      · exact hw w' h
      · rw [List.mem_singleton.1 h]
        exact ⟨w0, w1⟩
    · rw [upd_same, List.map_append]
      rfl
  · rintro σ H1 ⟨v1, v2, ws, rfl, hwl, hw, hgg, S1⟩
    obtain ⟨sg0, sg1⟩ := sum_ge fun w hw' => (hw w hw').1
    walk_at "rd"
    refine i_sum (SqL.of hgg) ?_
    walk_at "rd"
    refine ite2 (fun h => ?_) (fun h => ?_)
    · walk_at "rd"
      refine i_gSub ?_
      walk_at "rd"
      refine dr S1 ⟨h0, by omega, by decide, by omega⟩ fun H2 S2 => ?_
      have d0 := drawN_nonneg (ns := ns) (k := i) (p := 10177) (m := sz) (by omega)
      have d1 := drawN_lt (ns := ns) (k := i) (p := 10177) (m := sz) (by omega)
      generalize drawN ns i 10177 sz = D0 at d0 d1 ⊢
      have hgg2 := S2 _ _ hgg
      have hD : D0.toNat < ws.length := by omega
      refine ⟨g, ws.map V.int, D0, D0.toNat, rfl, rfl, hgg2, ?_, ?_⟩
      · unfold ixN
        rw [if_pos d0, if_pos (by rw [List.length_map]; omega)]
      walk_at "rd"
      refine ⟨_, _, rfl, .inl ⟨SqL.of upd_same, fun q hq => ?_⟩⟩
      have e : (ws.map V.int).set D0.toNat (.int 1) = (ws.set D0.toNat 1).map V.int := by rw [List.map_set]
      have hws : ∀ w ∈ ws.set D0.toNat 1, 0 ≤ w ∧ intBits w ≤ 200 := fun w hw' => by
        rcases List.mem_or_eq_of_mem_set hw' with h | rfl
        · exact hw w h
        · exact ⟨by decide, by decide⟩
      refine k _ _ _ ⟨ws.set D0.toNat 1, rfl, ⟨by rw [List.length_set]; show (ws.length : Int) = sz; omega, by rw [List.length_set]; omega, hws, ?_⟩⟩ (((S1.trans S2).upd_at hg).trans (same_upd hq)) ?_
      · exact (sum_ge fun w hw' => (hws w hw').1).2 1 (List.mem_of_getElem? (i := D0.toNat) (List.getElem?_set_self hD))
      · refine .tup (SqT.of upd_same) ?_
        rw [e]
        exact IsL.ints _
    · have h : ¬ ws.sum = 0 := by simpa using h
      walk_at "rd"
      refine ⟨_, _, rfl, .inl ⟨SqL.of hgg, fun q hq => ?_⟩⟩
      exact k _ _ _ ⟨ws, rfl, ⟨by show (ws.length : Int) = sz; omega, by omega, hw, by omega⟩⟩ (S1.trans (same_upd hq)) (.tup (SqT.of upd_same) (IsL.ints _))
theorem smalls_of {n : Nat} : ∀ {l : List D}, (∀ d ∈ l, D.small n d) → D.smalls n l
  | [], _ => by unfold D.smalls; trivial
  | d :: r, h => by
    unfold D.smalls
    exact ⟨h d (by simp), smalls_of fun x hx => h x (by simp [hx])⟩
theorem wts_le {n m : Nat} : ∀ {l : List D}, (∀ d ∈ l, D.wt n d ≤ m) → D.wts n l ≤ l.length * (m + 1)
  | [], _ => by unfold D.wts; omega
  | d :: r, h => by
    unfold D.wts
    have h1 := h d (by simp)
    have h2 := wts_le (l := r) fun x hx => h x (by simp [hx])
    rw [List.length_cons, Nat.succ_mul]
    omega
theorem st_show {st : List Int} (h : ∀ x ∈ st, intBits x ≤ 210) (hl : st.length ≤ 10) : D.small 210 (stI st) ∧ D.wt 210 (stI st) ≤ 2110 ∧ D.depth (stI st) ≤ 1 := by
  refine ⟨?_, ?_, ?_⟩
  · unfold stI D.small
    refine smalls_of fun d hd => ?_
    obtain ⟨x, hx, rfl⟩ := List.mem_map.1 hd
    exact absBits (h x hx)
  · unfold stI D.wt
    have := wts_le (n := 210) (m := 210) (l := st.map D.int) fun d hd => by
      obtain ⟨x, hx, rfl⟩ := List.mem_map.1 hd
      exact Nat.le_refl _
    rw [List.length_map] at this
    omega
  · unfold stI D.depth
    have := depths_le (n := 0) (l := st.map D.int) fun d hd => by
      obtain ⟨x, hx, rfl⟩ := List.mem_map.1 hd
      exact Nat.le_refl _
    omega
theorem st_ok {st : List Int} (h : ∀ x ∈ st, intBits x ≤ 210) (hl : st.length ≤ 10) : ShowOk 210 (stI st) := by
  obtain ⟨a, b, c⟩ := st_show h hl
  exact ⟨⟨_, .inl rfl⟩, a, by decide, by decide, by omega, by omega⟩
theorem set_bits {st : List Int} {j : Nat} {n : Int} (h : ∀ x ∈ st, intBits x ≤ 210) (hn : intBits n ≤ 210) : ∀ x ∈ st.set j n, intBits x ≤ 210 := fun x hx => by
  rcases List.mem_or_eq_of_mem_set hx with h1 | rfl
  · exact h x h1
  · exact hn
theorem ways_show {st ws : List Int} {j : Nat} {tot : Int} (h : ∀ x ∈ st, intBits x ≤ 210) (hl : st.length ≤ 10) (hw : ∀ w ∈ ws, intBits w ≤ 200) (h9 : ws.length ≤ 9) (ht : intBits tot ≤ 210) : ShowOk 210 (.lst (waysD st j tot 0 ws)) := by
  have each : ∀ d ∈ waysD st j tot 0 ws, D.small 210 d ∧ D.wt 210 d ≤ 2600 ∧ D.depth d ≤ 2 := fun d hd => by
    obtain ⟨w, k, hwm, _, hk, rfl⟩ := ways_mem hd
    obtain ⟨a, b, c⟩ := st_show (set_bits (j := j) (n := (k : Int)) h (leBits (ltBits (m := 10) (by omega)))) (by rw [List.length_set]; exact hl)
    have b1 : intBits (low1 w tot) ≤ 210 := low1_bits (leBits (hw w hwm))
    have b2 : intBits (low2 w tot) ≤ 210 := low2_bits ht
    refine ⟨?_, ?_, ?_⟩
    · unfold D.small
      refine smalls_of fun d hd => ?_
      rcases List.mem_cons.1 hd with rfl | hd
      · unfold dQ D.small
        refine smalls_of fun d hd => ?_
        rcases List.mem_cons.1 hd with rfl | hd
        · exact absBits b1
        · rw [List.mem_singleton.1 hd]
          exact absBits b2
      · rw [List.mem_singleton.1 hd]
        exact a
    · have e1 : D.wt 210 (dQ (low1 w tot) (low2 w tot)) = 422 := by simp [dQ, D.wt, D.wts]
      have e2 : D.wt 210 (.tup [dQ (low1 w tot) (low2 w tot), stI (st.set j (k : Int))]) = D.wt 210 (dQ (low1 w tot) (low2 w tot)) + 1 + (D.wt 210 (stI (st.set j (k : Int))) + 1 + 0) := by
        conv => lhs; unfold D.wt
        conv => lhs; unfold D.wts
        conv => lhs; rhs; unfold D.wts
        conv => lhs; rhs; rhs; unfold D.wts
      rw [e2, e1]
      omega
    · have e1 : D.depth (dQ (low1 w tot) (low2 w tot)) = 1 := by simp [dQ, D.depth, D.depths]
      unfold D.depth
      have := depths_le (n := 1) (l := [dQ (low1 w tot) (low2 w tot), stI (st.set j (k : Int))]) fun d hd => by
        rcases List.mem_cons.1 hd with rfl | hd
        · omega
        · rw [List.mem_singleton.1 hd]
          exact c
      omega
  refine ⟨⟨_, .inr rfl⟩, ?_, by decide, by decide, ?_, ?_⟩
  · unfold D.small
    exact smalls_of fun d hd => (each d hd).1
  · unfold D.depth
    have := depths_le (n := 2) (l := waysD st j tot 0 ws) fun d hd => (each d hd).2.2
    omega
  · unfold D.wt
    have h1 := wts_le (n := 210) (m := 2600) (l := waysD st j tot 0 ws) fun d hd => (each d hd).2.1
    have h2 := ways_len st j tot 0 ws
    have h3 : (waysD st j tot 0 ws).length * 2601 ≤ 9 * 2601 := Nat.mul_le_mul_right _ (by omega)
    omega
theorem ok__law_ways_right (T : Tx K mg) : FnOk P w K mg base CX0 2 T.a__law_ways_right T.fd__law_ways_right ["_law_found", "_law_state_here", "_law_at", "_law_weights_here"] (sP K (fun x : (List Int × Nat) × Int × List Int => [.lst (waysD x.1.1 x.1.2 x.2.2.sum 0 x.2.2), stI x.1.1, .int (x.1.2 : Int), stI x.2.2]) (fun x => ((∀ y ∈ x.1.1, intBits y ≤ 210) ∧ x.1.1.length ≤ 10) ∧ WtOk x.2.1 x.2.2) (fun _ r => r = .bl true)) := by
  refine T.F__law_ways_right.ok sc__law_ways_right (fun vs H Q E h => sP_len (n := 4) (fun _ => rfl) h) (fun cdv A outer s H vs Q E hr h => ?_)
  obtain ⟨⟨⟨st, j⟩, sz, ws⟩, hi, ⟨⟨hb, h10⟩, wo⟩, k⟩ := h
  have hb : ∀ y ∈ st, intBits y ≤ 210 := hb
  have h10 : st.length ≤ 10 := h10
  have wo : WtOk sz ws := wo
  have w9 := wo.few
  have tb : intBits ws.sum ≤ 210 := sum_bits (fun w hw => (wo.each w hw).2) w9
  have t1 := wo.tot
  have sh := ways_show (j := j) hb h10 (fun w hw => (wo.each w hw).2) w9 tb
  obtain ⟨x, r, rfl, hx, hi⟩ := hi.cons_inv
  obtain ⟨y, z, u, rfl, hy, hz, hu⟩ := hi.d3
  obtain rfl := hz.int_inv
  obtain ⟨fa, fvs, rfl, hfS, hfL⟩ := id hx.lst_inv
  obtain ⟨wa, wvs, rfl, hwS, hwL⟩ := id hu.tup_inv
  obtain rfl := IsL.ints_inv hwL
  have hwS : SqT K H wa (ws.map V.int) := hwS
  refine ⟨_, (pss_cons (ps_set (i := 4) sc__law_ways_right.nd rfl (Or.inl rfl) (pe_callB (call_sumTK (K := K) rfl) rfl T.n_sum PyProof.Rows.Boot.«sum» (pa_cons (pv 3) pa_nil))) (pss_cons (ps_set (i := 5) sc__law_ways_right.nd rfl (Or.inl rfl) (pe_lst pa_nil)) (pss_cons (ps_for PassesOwn.never rfl (pi_enumT (K := K) rfl T.n_enumerate (pa_cons (pv 3) pa_nil)) (pg_tupK (K := K) (n := 2) rfl (pgs_cons (pg_name (i := 6) sc__law_ways_right.nd rfl (Or.inl rfl)) (pgs_cons (pg_name (i := 7) sc__law_ways_right.nd rfl (Or.inl rfl)) pgs_nil))) (pss_one (ps_if (pt_cmp (pc_gt (pv 7) pe_int)) (pss_cons (ps_set (i := 8) sc__law_ways_right.nd rfl (Or.inl rfl) (pe_call (ok__law_common T) (hr.mono (by decide)) rfl T.m__law_common T.F__law_common.kp T.b__law_common .nil pass0 (pa_cons (pv 7) (pa_cons (pv 4) pa_nil)))) (pss_one (ps_expr (pe_bm PySem.F.plainAttrs_list PySem.F.slot_list_append PySem.F.type_list_append mt_append (pv 5) (pa_cons (pe_tup (pa_cons (pe_tup (pa_cons (pe_op op_fdivB (pv 7) (pv 8)) (pa_cons (pe_op op_fdivB (pv 4) (pv 8)) pa_nil))) (pa_cons (pe_call (ok__law_put T) (hr.mono (by decide)) rfl T.m__law_put T.F__law_put.kp T.b__law_put .nil pass0 (pa_cons (pv 1) (pa_cons (pv 2) (pa_cons (pv 6) pa_nil)))) pa_nil))) pa_nil))))) pss_nil))) (pss_one (ps_ret (pe_and (pe_callB (call_isiK (K := K)) rfl T.n_isinstance boot_isinstance (pa_cons (pv 0) (pa_cons (pe_bltn (v := .ty "list") rfl T.n_list boot_list rfl) pa_nil))) (pe_one (pe_cmpR op_eq (pe_callB (call_reprK (K := K) hr) rfl T.n_repr boot_repr (pa_cons (pv 0) pa_nil)) (pe_callB (call_reprK (K := K) hr) rfl T.n_repr boot_repr (pa_cons (pv 5) pa_nil)) (by rfl))))))))), ?_⟩
  walk_at "rd"
  refine i_sumT hwS ?_
  walk_at "rd"
  refine ⟨by show 0 ≤ sizeLine; decide, fun g hg => ?_⟩
  walk_at "rd"
  refine i_enumT ?_
  walk_at "rd"
  have S0 := same_upd (o := .lst []) hg
  refine ⟨wa, rfl, ⟨_, S0.tup hwS⟩, ?_⟩
  refine forN_pairs (pairs_enumT (xs := ws.map V.int)) (fun i σ H' => ∃ (v1 v2 v3 : Option V) (ys : List V), σ = [some (.ref fa), some y, some (.int (j : Int)), some (.ref wa), some (.int ws.sum), some (.ref g), v1, v2, v3] ∧ H' g = some (.lst ys) ∧ L2.IsL K H' ys (waysD st j ws.sum 0 (ws.take i)) ∧ Same H H') ?h0 (fun i σ H' _ ⟨_, _, _, _, _, _, _, S⟩ => S.tup hwS) ?_ ?_
  case h0 => exact ⟨_, _, _, _, rfl, upd_same, .nil, S0⟩
  · rintro i u v p σ H1 hf hi hp ⟨v1, v2, v3, ys, rfl, hgg, hY, S1⟩
    rw [List.length_map] at hi
    obtain ⟨rfl, rfl⟩ : u = .int i ∧ v = .int ws[i] := by
      rw [List.getElem?_map, List.getElem?_eq_getElem hi] at hf
      cases hf
      exact ⟨rfl, rfl⟩
    have tk : ws.take (i + 1) = ws.take i ++ [ws[i]] := by rw [List.take_add_one, List.getElem?_eq_getElem hi]; rfl
    have tl : (ws.take i).length = i := by rw [List.length_take]; omega
    have wp := ways_push st j ws.sum ws[i] 0 (ws.take i)
    rw [tl, Nat.zero_add, ← tk] at wp
    have Sp := same_upd (o := .tup [.int i, .int ws[i]]) hp
    have S2 := S1.trans Sp
    refine i_gTup2 (SqT.of upd_same) ?_
    walk_at "rd"
    refine ite2 (fun h => ?_) (fun h => ?_)
    · have hw0 : 0 < ws[i] := by simpa using h
      walk_at "rd"
      refine i_sPi (ws[i], ws.sum) (.cons (.int _) (.cons (.int _) .nil)) ⟨show 0 ≤ ws[i] by omega, show 0 ≤ ws.sum by omega⟩ (fun r e => e) fun H3 S3 => ?_
      have e : ((Int.gcd ws[i] ws.sum : Nat) : Int) = gpart ws[i] ws.sum := by unfold gpart; rw [if_neg (by omega)]
      dsimp only
      rw [e]
      have hpb : CDivB ws[i] (gpart ws[i] ws.sum) ∧ CDivB ws.sum (gpart ws[i] ws.sum) := ⟨⟨gpart_ne (by omega), gpart_bits (by omega) (leBits tb)⟩, ⟨gpart_ne (by omega), gpart_bits (by omega) (leBits tb)⟩⟩
      walk_at "rd"
      refine i_bm ?_
      walk_at "rd"
      refine ⟨.inl ⟨rfl, _, SqL.of (S3 _ _ (Sp _ _ hgg))⟩, ?_⟩
      walk_at "rd"
      refine i_I hpb.1 ?_
      walk_at "rd"
      refine i_I hpb.2 ?_
      walk_at "rd"
      refine ⟨by show 2 ≤ sizeLine; decide, fun q0 hq0 => ?_⟩
      have Sq0 := same_upd (o := .tup [.int (low1 ws[i] ws.sum), .int (low2 ws[i] ws.sum)]) hq0
      walk_at "rd"
      refine i_sP (st, j, (i : Int)) (.cons (hy.mono (S2.trans (S3.trans Sq0))) (.cons (.int _) (.cons (.int _) .nil))) h10 fun r v' H4 e S4 hv' => ?_
      have e : r = stI (st.set j (i : Int)) := e
      subst e
      walk_at "rd"
      refine ⟨by show 2 ≤ sizeLine; decide, fun q hq => ?_⟩
      have Sq := same_upd (o := .tup [.ref q0, v']) hq
      have S1q := Sp.trans (S3.trans (Sq0.trans (S4.trans Sq)))
      walk_at "rd"
      refine i_append (S1q _ _ hgg) ?_ ?_
      · rw [hY.len]
        exact Nat.lt_of_le_of_lt (Nat.le_trans (ways_len _ _ _ _ _) (show (ws.take i).length ≤ 9 by omega)) (by show 9 < sizeLine; decide)
      refine ⟨_, _, _, _, rfl, upd_same, ?_, (S1.trans S1q).upd_at hg⟩
      rw [wp, if_pos hw0]
      exact IsL.push (S1q _ _ hgg) (hY.mono S1q) (nol_ways _ _ _ _ _) (.tup (SqT.of upd_same) (.cons (.q ((S4.trans Sq).tup (SqT.of upd_same))) (.cons (hv'.mono Sq) .nil))) (nol_way _ _ _)
    · have hw0 : ¬ 0 < ws[i] := by simpa using h
      refine ⟨_, _, _, _, rfl, Sp _ _ hgg, ?_, S2⟩
      rw [wp, if_neg hw0, List.append_nil]
      exact hY.mono Sp
  · rintro σ H1 ⟨v1, v2, v3, ys, rfl, hgg, hY, S1⟩
    rw [List.length_map, List.take_length] at hY
    walk_at "rd"
    refine i_isi rfl (.sql (S1.seq hfS)) kit_same ?_
    walk_at "rd"
    refine iteT ?_
    walk_at "rd"
    refine i_repr 210 _ (hx.mono S1) sh ?_
    walk_at "rd"
    refine i_repr 210 (.lst (waysD st j ws.sum 0 ws)) (.lst (SqL.of hgg) hY) sh ?_
    refine ⟨rfl, ?_⟩
    rw [decide_eq_true rfl]
    exact k _ _ _ rfl S1 (.bl _)
theorem ok_law (T : Tx K mg) : FnOk P w K mg base CX0 5 T.a_law T.fd_law ["_law_script"] (spLaw K) := by
  refine T.F_law.ok sc_law (fun vs H Q E h => ?_) (fun cdv A outer s H vs Q E hr h => ?_)
  · obtain ⟨a, ns, rfl, _⟩ := h
    rfl
  obtain ⟨a, ns, rfl, hS, hlen, k⟩ := h
  have hI : ∀ {H' : Hp}, Same H H' → Is K H' (.ref a) (.lst (ns.map D.int)) := fun S => .lst (S.seq hS) (IsL.ints ns)
  have dr : ∀ {H' : Hp} {Q' : VK} {E' : XK} {k p m : Int}, Same H H' → DrawOk k p m → (∀ H'', Same H' H'' → Q' (.int (drawN ns k p m)) H'') → sP K aDraw (fun x => DrawOk x.2.1 x.2.2.1 x.2.2.2) (fun x r => r = .int (drawN x.1 x.2.1 x.2.2.1 x.2.2.2)) [.ref a, .int k, .int p, .int m] H' Q' E' := fun {H' Q' E' k p m} S hd q =>
    i_sPi (ns, k, p, m) (.cons (hI S) (.cons (.int _) (.cons (.int _) (.cons (.int _) .nil)))) hd (fun r e => e) q
  refine ⟨_, (pss_cons (ps_set (i := 1) sc_law.nd rfl (Or.inl rfl) (pe_call (ok__law_boxes T) (hr.mono (by decide)) rfl T.m__law_boxes T.F__law_boxes.kp T.b__law_boxes .nil pass0 (pa_cons (pv 0) (pa_cons (pe_op op_add pe_int (pe_call (ok__law_draw T) (hr.mono (by decide)) rfl T.m__law_draw T.F__law_draw.kp T.b__law_draw .nil pass0 (pa_cons (pv 0) (pa_cons pe_int (pa_cons pe_int (pa_cons pe_int pa_nil)))))) (pa_cons pe_int pa_nil))))) (pss_cons (ps_set (i := 2) sc_law.nd rfl (Or.inl rfl) (pe_call (ok__law_state T) (hr.mono (by decide)) rfl T.m__law_state T.F__law_state.kp T.b__law_state .nil pass0 (pa_cons (pv 0) (pa_cons pe_int (pa_cons (pv 1) pa_nil))))) (pss_cons (ps_for PassesOwn.never rfl (pi_range1 rfl T.n_range (pa_cons (pe_callB (call_min2 rfl) rfl T.n_min boot_min (pa_cons pe_int (pa_cons (pe_callB (call_max2 rfl) rfl T.n_max boot_max (pa_cons pe_int (pa_cons (pe_callB (call_lenK (K := K)) rfl T.n_len boot_len (pa_cons (pv 0) pa_nil)) pa_nil))) pa_nil))) pa_nil)) (pg_name (i := 3) sc_law.nd rfl (Or.inl rfl)) (pss_cons (ps_set (i := 4) sc_law.nd rfl (Or.inl rfl) (pe_call (ok__law_draw T) (hr.mono (by decide)) rfl T.m__law_draw T.F__law_draw.kp T.b__law_draw .nil pass0 (pa_cons (pv 0) (pa_cons (pv 3) (pa_cons pe_int (pa_cons (pe_callB (call_lenK (K := K)) rfl T.n_len boot_len (pa_cons (pv 1) pa_nil)) pa_nil)))))) (pss_cons (ps_asg (pe_ix (ix_tupK (K := K)) (pv 1) (pv 4) (fun _ _ => rfl)) (pg_tupK (K := K) (n := 2) rfl (pgs_cons (pg_name (i := 5) sc_law.nd rfl (Or.inl rfl)) (pgs_cons (pg_name (i := 6) sc_law.nd rfl (Or.inl rfl)) pgs_nil)))) (pss_cons (ps_set (i := 7) sc_law.nd rfl (Or.inl rfl) (pe_call (ok__law_number T) (hr.mono (by decide)) rfl T.m__law_number T.F__law_number.kp T.b__law_number .nil pass0 (pa_cons (pv 0) (pa_cons (pv 3) pa_nil)))) (pss_cons (ps_set (i := 2) sc_law.nd rfl (Or.inl rfl) (pe_call (ok__law_put T) (hr.mono (by decide)) rfl T.m__law_put T.F__law_put.kp T.b__law_put .nil pass0 (pa_cons (pv 2) (pa_cons (pe_op op_mod (pe_op op_add (pv 4) pe_int) (pe_callB (call_lenK (K := K)) rfl T.n_len boot_len (pa_cons (pv 1) pa_nil))) (pa_cons (pe_call (ok__law_draw T) (hr.mono (by decide)) rfl T.m__law_draw T.F__law_draw.kp T.b__law_draw .nil pass0 (pa_cons (pv 0) (pa_cons (pv 3) (pa_cons pe_int (pa_cons (pe_ix (ix_tupK (K := K)) (pe_ix (ix_tupK (K := K)) (pv 1) (pe_op op_mod (pe_op op_add (pv 4) pe_int) (pe_callB (call_lenK (K := K)) rfl T.n_len boot_len (pa_cons (pv 1) pa_nil))) (fun _ _ => rfl)) pe_int (fun _ _ => rfl)) pa_nil))))) pa_nil))))) (pss_cons (ps_if (pt_cmpR op_ne (pe_callB (call_reprK (K := K) hr) rfl T.n_repr boot_repr (pa_cons (pe_call (ok_put_into T) (hr.mono (by decide)) rfl T.m_put_into T.F_put_into.kp T.b_put_into .nil pass0 (pa_cons (pv 1) (pa_cons (pv 2) (pa_cons (pv 5) (pa_cons (pv 7) pa_nil))))) pa_nil)) (pe_callB (call_reprK (K := K) hr) rfl T.n_repr boot_repr (pa_cons (pe_call (ok__law_put T) (hr.mono (by decide)) rfl T.m__law_put T.F__law_put.kp T.b__law_put .nil pass0 (pa_cons (pv 2) (pa_cons (pv 4) (pa_cons (pe_op op_mod (pv 7) (pv 6)) pa_nil)))) pa_nil)) (by rfl)) (pss_one (ps_ret pe_bl)) pss_nil) (pss_one (ps_if (pt_cmp (pc_eqI (pe_op op_mod (pv 3) pe_int) pe_int)) (pss_cons (ps_set (i := 8) sc_law.nd rfl (Or.inl rfl) (pe_call (ok__law_weights T) (hr.mono (by decide)) rfl T.m__law_weights T.F__law_weights.kp T.b__law_weights .nil pass0 (pa_cons (pv 0) (pa_cons (pv 3) (pa_cons (pv 6) pa_nil))))) (pss_one (ps_if (pt_not (pt_val (pe_call (ok__law_ways_right T) (hr.mono (by decide)) rfl T.m__law_ways_right T.F__law_ways_right.kp T.b__law_ways_right .nil pass0 (pa_cons (pe_call (ok_drawn T) (hr.mono (by decide)) rfl T.m_drawn T.F_drawn.kp T.b_drawn .nil pass0 (pa_cons (pv 1) (pa_cons (pv 2) (pa_cons (pv 5) (pa_cons (pv 8) pa_nil))))) (pa_cons (pv 2) (pa_cons (pv 4) (pa_cons (pv 8) pa_nil))))))) (pss_one (ps_ret pe_bl)) pss_nil))) pss_nil)))))))) (pss_one (ps_ret pe_bl))))), ?_⟩
  walk_at "rd"
  refine dr (Same.refl _) ⟨by decide, by decide, by decide, by decide⟩ fun H1 S1 => ?_
  have c0 := drawN_nonneg (ns := ns) (k := 7) (p := 10093) (m := 9) (by decide)
  have c1 := drawN_lt (ns := ns) (k := 7) (p := 10093) (m := 9) (by decide)
  generalize drawN ns 7 10093 9 = C0 at c0 c1 ⊢
  walk_at "rd"
  refine i_sP (ns, 1 + C0, 1000) (.cons (hI S1) (.cons (.int _) (.cons (.int _) .nil))) ⟨⟨by show 0 ≤ 1 + C0; omega, by show 1 + C0 ≤ 10; omega⟩, (show (1 : Int) ≤ 1000 by decide), (show (1000 : Int) ≤ 1000 by decide)⟩ fun r v H2 e S2 hv => ?_
  obtain ⟨bs, rfl, hbl, ok, atn, hnm⟩ := e
  have hbl : bs.length = (1 + C0).toNat := hbl
  have h10 := ok.len
  have hpos : 0 < bs.length := by omega
  have S02 := S1.trans S2
  walk_at "rd"
  refine i_sP (1000, ns, 8, bs) (.cons (hI S02) (.cons (.int _) (.cons hv .nil))) ⟨⟨(show (0 : Int) ≤ 8 by decide), (show (8 : Int) < 1000 by decide)⟩, ok⟩ fun r v' H3 e S3 hv' => ?_
  obtain ⟨st0, rfl, hst⟩ := e
  have S03 := S02.trans S3
  have sb : ∀ x ∈ st0, intBits x ≤ 210 := fun n hn => by
    obtain ⟨j, hj, rfl⟩ := List.getElem_of_mem hn
    have hjb : j < bs.length := by rw [← hst.len]; exact hj
    have h1 := hst.at_ j bs[j] st0[j] (List.getElem?_eq_getElem hjb) (List.getElem?_eq_getElem hj)
    have h2 := (ok.size bs[j] (List.getElem_mem hjb)).2.1
    exact ltBits (m := 210) (Nat.lt_of_lt_of_le (show st0[j].natAbs < 16 by omega) (by decide))
  obtain ⟨ba, bxs, rfl, hbS, hbL⟩ := id ((hv.mono S3).tup_inv)
  have hbS : SqT K H3 ba bxs := hbS
  have hbl2 : bxs.length = bs.length := by rw [hbL.len, List.length_map]
  have hv3 : Is K H3 (.ref ba) (.tup (bs.map boxD)) := hv.mono S3
  walk_at "rd"
  refine ⟨_, _, rfl, .inl (S03.seq hS), ?_⟩
  rw [List.length_map]
  walk_at "rd"
  refine ⟨by split <;> split <;> omega, by split <;> split <;> omega, ?_⟩
  refine forN_range (fun i σ H' => ∃ (w : V) (st : List Int) (v1 v2 v3 v4 v5 v6 : Option V), σ = [some (.ref a), some (.ref ba), some w, v1, v2, v3, v4, v5, v6] ∧ Is K H' w (stI st) ∧ st.length = bs.length ∧ (∀ x ∈ st, intBits x ≤ 210) ∧ Same H3 H') ?h0 ?_ ?_
  case h0 => exact ⟨v', st0, _, _, _, _, _, _, rfl, hv', hst.len, sb, Same.refl _⟩
  · rintro i σ H4 hi ⟨w0, st, v1, v2, v3, v4, v5, v6, rfl, hw0, hsl, hsb, S4⟩
    have hi60 : i < 60 := by
      have : ∀ x : Int, (if x < 60 then x else 60).toNat ≤ 60 := fun x => by split <;> omega
      exact Nat.lt_of_lt_of_le hi (this _)
    have S04 := S03.trans S4
    have ki : 0 ≤ 0 + (i : Int) ∧ 0 + (i : Int) < 1000000 := by omega
    walk_at "rd"
    refine ⟨_, _, rfl, .inr (S4.tup hbS), ?_⟩
    walk_at "rd"
    rw [hbl2]
    refine dr S04 ⟨ki.1, ki.2, by decide, by omega⟩ fun H5 S5 => ?_
    have d0 := drawN_nonneg (ns := ns) (k := 0 + (i : Int)) (p := 10181) (m := (bs.length : Int)) (by omega)
    have d1 := drawN_lt (ns := ns) (k := 0 + (i : Int)) (p := 10181) (m := (bs.length : Int)) (by omega)
    generalize drawN ns (0 + (i : Int)) 10181 (bs.length : Int) = D0 at d0 d1 ⊢
    obtain ⟨j, rfl⟩ := Int.eq_ofNat_of_zero_le d0
    have hj : j < bs.length := by omega
    have S35 := S4.trans S5
    have S05 := S03.trans S35
    obtain ⟨vb, hvb, hIb⟩ := (hbL.mono S35).get (i := j) (d := boxD bs[j]) (by rw [List.getElem?_map, List.getElem?_eq_getElem hj]; rfl)
    obtain ⟨p, us, rfl, hT, hU⟩ := hIb.tup_inv
    obtain ⟨u1, u2, rfl, hu1, hu2⟩ := hU.d2
    obtain rfl := hu1.str_inv
    obtain rfl := hu2.int_inv
    have bz := ok.size bs[j] (List.getElem_mem hj)
    have first : FirstAt bs bs[j].1 j := ⟨⟨bs[j], List.getElem?_eq_getElem hj, rfl⟩, fun m c hm hc => nms_ne hnm h10 hc (List.getElem?_eq_getElem hj) hm⟩
    have hbj : bs[j]? = some bs[j] := List.getElem?_eq_getElem hj
    generalize bs[j] = b at hT bz first hbj hU hIb hu1 hu2 ⊢
    walk_at "rd"
    refine i_ixT (S35.tup hbS) hvb ?_
    refine i_gTup2 hT ?_
    walk_at "rd"
    refine i_sP (ns, 0 + (i : Int)) (.cons (hI S05) (.cons (.int _) .nil)) ki fun r vn H6 e S6 hvn => ?_
    obtain ⟨num, rfl, hnb⟩ := e
    obtain rfl := hvn.int_inv
    have S36 := S35.trans S6
    have S06 := S03.trans S36
    walk_at "rd"
    refine ⟨_, _, rfl, .inr (S36.tup hbS), ?_⟩
    walk_at "rd"
    rw [hbl2]
    refine i_I (show 0 < (bs.length : Int) by omega) ?_
    walk_at "rd"
    refine ⟨_, _, rfl, .inr (S36.tup hbS), ?_⟩
    walk_at "rd"
    rw [hbl2]
    refine i_I (show 0 < (bs.length : Int) by omega) ?_
    obtain ⟨j2, ej2⟩ := Int.eq_ofNat_of_zero_le (Int.emod_nonneg ((j : Int) + 1) (show (bs.length : Int) ≠ 0 by omega))
    have hj2i := Int.emod_lt_of_pos ((j : Int) + 1) (show 0 < (bs.length : Int) by omega)
    have ej2 : ((j : Int) + 1) % (bs.length : Int) = (j2 : Int) := ej2
    have hj2 : j2 < bs.length := by omega
    rw [ej2]
    obtain ⟨vb2, hvb2, hIb2⟩ := (hbL.mono S36).get (i := j2) (d := boxD bs[j2]) (by rw [List.getElem?_map, List.getElem?_eq_getElem hj2]; rfl)
    obtain ⟨p2, us2, rfl, hT2, hU2⟩ := hIb2.tup_inv
    obtain ⟨w1, w2, rfl, hw1, hw2⟩ := hU2.d2
    obtain rfl := hw2.int_inv
    have bz2 := ok.size bs[j2] (List.getElem_mem hj2)
    generalize bs[j2] = b2 at hT2 bz2 hU2 hIb2 hw1 hw2 ⊢
    refine i_ixT (S36.tup hbS) hvb2 ?_
    walk_at "rd"
    refine dr S06 ⟨ki.1, ki.2, by decide, by have := bz2.1; omega⟩ fun H7 S7 => ?_
    have g0 := drawN_nonneg (ns := ns) (k := 0 + (i : Int)) (p := 10193) (m := b2.2) (by have := bz2.1; omega)
    have g1 := drawN_lt (ns := ns) (k := 0 + (i : Int)) (p := 10193) (m := b2.2) (by have := bz2.1; omega)
    generalize drawN ns (0 + (i : Int)) 10193 b2.2 = G0 at g0 g1 ⊢
    have S37 := S36.trans S7
    have S07 := S03.trans S37
    have S47 := S5.trans (S6.trans S7)
    walk_at "rd"
    refine i_sP (st, j2, G0) (.cons (hw0.mono S47) (.cons (.int _) (.cons (.int _) .nil))) (show st.length ≤ 10 by omega) fun r wn H8 e S8 hwn => ?_
    have e : r = stI (st.set j2 G0) := e
    subst e
    have gb : intBits G0 ≤ 210 := leBits (ltBits (m := 4) (by have := bz2.2.1; omega))
    have hsb' := set_bits (j := j2) hsb gb
    have hsl' : (st.set j2 G0).length = bs.length := by rw [List.length_set]; exact hsl
    generalize st.set j2 G0 = st' at hwn hsb' hsl'
    have S38 := S37.trans S8
    have S08 := S03.trans S38
    have pok : PutOk bs st' j b := ⟨hbj, first, hsl', h10, bz.1, bz.2.1⟩
    have b0 : 0 < b.2 := by have := bz.1; omega
    have mb1 : intBits (num % b.2) ≤ 210 := leBits (modBits (n := 4) b0 (by have := bz.2.1; omega))
    have sh := st_ok (set_bits (j := j) hsb' mb1) (by rw [List.length_set, hsl']; exact h10)
    walk_at "rd"
    refine i_sP ((bs, st'), j, b, num) (.cons (hv3.mono S38) (.cons hwn (.cons (.str _) (.cons (.int _) .nil)))) pok fun r v9 H9 e S9 hv9 => ?_
    have e : r = stI (st'.set j (num % b.2)) := e
    subst e
    walk_at "rd"
    refine i_repr 210 _ hv9 sh ?_
    walk_at "rd"
    refine i_I b0 ?_
    walk_at "rd"
    refine i_sP (st', j, num % b.2) (.cons (hwn.mono S9) (.cons (.int _) (.cons (.int _) .nil))) (show st'.length ≤ 10 by omega) fun r v10 H10 e S10 hv10 => ?_
    have e : r = stI (st'.set j (num % b.2)) := e
    subst e
    walk_at "rd"
    refine i_repr 210 _ hv10 sh ?_
    refine ⟨rfl, ?_⟩
    walk_at "rd"
    rw [decide_eq_true rfl]
    refine iteF ?_
    have S310 := S38.trans (S9.trans S10)
    have hwn10 := (hwn.mono S9).mono S10
    have next : ∀ (H' : Hp) (x6 : Option V), Same H10 H' → ∃ (w : V) (st : List Int) (v1 v2 v3 v4 v5 v6 : Option V), [some (V.ref a), some (.ref ba), some wn, some (.int (0 + (i : Int))), some (.int (j : Int)), some (.str b.1), some (.int b.2), some (.int num), x6] = [some (.ref a), some (.ref ba), some w, v1, v2, v3, v4, v5, v6] ∧ Is K H' w (stI st) ∧ st.length = bs.length ∧ (∀ x ∈ st, intBits x ≤ 210) ∧ Same H3 H' := fun H' x6 S' =>
      ⟨wn, st', _, _, _, _, _, _, rfl, hwn10.mono S', hsl', hsb', S310.trans S'⟩
    walk_at "rd"
    refine i_I (by decide) ?_
    walk_at "rd"
    refine ite2 (fun h => ?_) (fun h => ?_)
    · walk_at "rd"
      refine i_sP (ns, 0 + (i : Int), b.2) (.cons (hI (S03.trans S310)) (.cons (.int _) (.cons (.int _) .nil))) ⟨⟨by show (0 : Int) ≤ 0 + (i : Int); omega, by show 0 + (i : Int) < 1000; omega⟩, bz.1, bz.2.1⟩ fun r v11 H11 e S11 hv11 => ?_
      obtain ⟨ws, rfl, wo⟩ := e
      have wo : WtOk b.2 ws := wo
      walk_at "rd"
      refine i_sFl ((bs, st'), j, b, ws) (.cons (hv3.mono (S310.trans S11)) (.cons (hwn10.mono S11) (.cons (.str _) (.cons hv11 .nil)))) ⟨pok, wo⟩ fun ds gg ys H12 e S12 hgg hgg0 hg => ?_
      have e : ds = waysD st' j ws.sum 0 ws := e
      subst e
      walk_at "rd"
      refine i_sPb ((st', j), b.2, ws) (.cons (.lst (SqL.of hgg) hg.fr) (.cons ((hwn10.mono S11).mono S12) (.cons (.int _) (.cons (hv11.mono S12) .nil)))) ⟨⟨hsb', show st'.length ≤ 10 by omega⟩, wo⟩ (fun r e => e) fun H13 S13 => ?_
      walk_at "rd"
      refine iteF ?_
      walk_at "rd"
      exact next H13 _ (S11.trans (S12.trans S13))
    · walk_at "rd"
      exact next H10 _ (Same.refl _)
  · rintro σ H4 ⟨w0, st, v1, v2, v3, v4, v5, v6, rfl, _⟩
    walk_at "rd"
    exact k H4
end
theorem all_mk {l : PySem.W.OpenLaw} {w : World} {K : PySem.W.Frag} {h : Heap} {mg : Str → Option Value} {fa : Addr} (X : K.In h) (G : h.Ns mainGlobals mg) (hfa : mg "law" = some (.ref fa))
     {f0 : Addr} {od0 an0 : Option Addr} {sl0 : Array (Option Value)} {oc0 kV0 dc0 pm0 cd0 ct0 : Value} {f1 : Addr} {od1 an1 : Option Addr} {sl1 : Array (Option Value)} {oc1 kV1 dc1 pm1 cd1 ct1 : Value} {f2 : Addr} {od2 an2 : Option Addr} {sl2 : Array (Option Value)} {oc2 kV2 dc2 pm2 cd2 ct2 : Value} {f3 : Addr} {od3 an3 : Option Addr} {sl3 : Array (Option Value)} {oc3 kV3 dc3 pm3 cd3 ct3 : Value} {f4 : Addr} {od4 an4 : Option Addr} {sl4 : Array (Option Value)} {oc4 kV4 dc4 pm4 cd4 ct4 : Value} {f5 : Addr} {od5 an5 : Option Addr} {sl5 : Array (Option Value)} {oc5 kV5 dc5 pm5 cd5 ct5 : Value} {f6 : Addr} {od6 an6 : Option Addr} {sl6 : Array (Option Value)} {oc6 kV6 dc6 pm6 cd6 ct6 : Value} {f7 : Addr} {od7 an7 : Option Addr} {sl7 : Array (Option Value)} {oc7 kV7 dc7 pm7 cd7 ct7 : Value} {f8 : Addr} {od8 an8 : Option Addr} {sl8 : Array (Option Value)} {oc8 kV8 dc8 pm8 cd8 ct8 : Value} {f9 : Addr} {od9 an9 : Option Addr} {sl9 : Array (Option Value)} {oc9 kV9 dc9 pm9 cd9 ct9 : Value} {f10 : Addr} {od10 an10 : Option Addr} {sl10 : Array (Option Value)} {oc10 kV10 dc10 pm10 cd10 ct10 : Value} {f11 : Addr} {od11 an11 : Option Addr} {sl11 : Array (Option Value)} {oc11 kV11 dc11 pm11 cd11 ct11 : Value} {f12 : Addr} {od12 an12 : Option Addr} {sl12 : Array (Option Value)} {oc12 kV12 dc12 pm12 cd12 ct12 : Value} {f13 : Addr} {od13 an13 : Option Addr} {sl13 : Array (Option Value)} {oc13 kV13 dc13 pm13 cd13 ct13 : Value} {f14 : Addr} {od14 an14 : Option Addr} {sl14 : Array (Option Value)} {oc14 kV14 dc14 pm14 cd14 ct14 : Value} {f15 : Addr} {od15 an15 : Option Addr} {sl15 : Array (Option Value)} {oc15 kV15 dc15 pm15 cd15 ct15 : Value} {f16 : Addr} {od16 an16 : Option Addr} {sl16 : Array (Option Value)} {oc16 kV16 dc16 pm16 cd16 ct16 : Value} {g_LotsError : Addr} {g_NoNumber : Addr}
    (A0 : PySem.W.nsIn K mainGlobals "is_whole" = some (some (.ref f0))) (L0 : K.lookup f0 = some ⟨oc0, od0, .func (PySem.W.fnOf "is_whole" "is_whole" (defArgs s_is_whole) (defBody s_is_whole) (defScope s_is_whole) .none kV0 dc0 pm0 an0 cd0 ct0), sl0⟩) (C0 : PySem.W.codeIn K cd0 "is_whole" = true) (K0 : PySem.W.keepIn K (.ref f0) = true)
    (A1 : PySem.W.nsIn K mainGlobals "common_part" = some (some (.ref f1))) (L1 : K.lookup f1 = some ⟨oc1, od1, .func (PySem.W.fnOf "common_part" "common_part" (defArgs s_common_part) (defBody s_common_part) (defScope s_common_part) .none kV1 dc1 pm1 an1 cd1 ct1), sl1⟩) (C1 : PySem.W.codeIn K cd1 "common_part" = true) (K1 : PySem.W.keepIn K (.ref f1) = true)
    (A2 : PySem.W.nsIn K mainGlobals "lowest" = some (some (.ref f2))) (L2 : K.lookup f2 = some ⟨oc2, od2, .func (PySem.W.fnOf "lowest" "lowest" (defArgs s_lowest) (defBody s_lowest) (defScope s_lowest) .none kV2 dc2 pm2 an2 cd2 ct2), sl2⟩) (C2 : PySem.W.codeIn K cd2 "lowest" = true) (K2 : PySem.W.keepIn K (.ref f2) = true)
    (A3 : PySem.W.nsIn K mainGlobals "fraction" = some (some (.ref f3))) (L3 : K.lookup f3 = some ⟨oc3, od3, .func (PySem.W.fnOf "fraction" "fraction" (defArgs s_fraction) (defBody s_fraction) (defScope s_fraction) .none kV3 dc3 pm3 an3 cd3 ct3), sl3⟩) (C3 : PySem.W.codeIn K cd3 "fraction" = true) (K3 : PySem.W.keepIn K (.ref f3) = true)
    (A4 : PySem.W.nsIn K mainGlobals "place_of" = some (some (.ref f4))) (L4 : K.lookup f4 = some ⟨oc4, od4, .func (PySem.W.fnOf "place_of" "place_of" (defArgs s_place_of) (defBody s_place_of) (defScope s_place_of) .none kV4 dc4 pm4 an4 cd4 ct4), sl4⟩) (C4 : PySem.W.codeIn K cd4 "place_of" = true) (K4 : PySem.W.keepIn K (.ref f4) = true)
    (A5 : PySem.W.nsIn K mainGlobals "put_into" = some (some (.ref f5))) (L5 : K.lookup f5 = some ⟨oc5, od5, .func (PySem.W.fnOf "put_into" "put_into" (defArgs s_put_into) (defBody s_put_into) (defScope s_put_into) .none kV5 dc5 pm5 an5 cd5 ct5), sl5⟩) (C5 : PySem.W.codeIn K cd5 "put_into" = true) (K5 : PySem.W.keepIn K (.ref f5) = true)
    (A6 : PySem.W.nsIn K mainGlobals "drawn" = some (some (.ref f6))) (L6 : K.lookup f6 = some ⟨oc6, od6, .func (PySem.W.fnOf "drawn" "drawn" (defArgs s_drawn) (defBody s_drawn) (defScope s_drawn) .none kV6 dc6 pm6 an6 cd6 ct6), sl6⟩) (C6 : PySem.W.codeIn K cd6 "drawn" = true) (K6 : PySem.W.keepIn K (.ref f6) = true)
    (A7 : PySem.W.nsIn K mainGlobals "_law_draw" = some (some (.ref f7))) (L7 : K.lookup f7 = some ⟨oc7, od7, .func (PySem.W.fnOf "_law_draw" "_law_draw" (defArgs s__law_draw) (defBody s__law_draw) (defScope s__law_draw) .none kV7 dc7 pm7 an7 cd7 ct7), sl7⟩) (C7 : PySem.W.codeIn K cd7 "_law_draw" = true) (K7 : PySem.W.keepIn K (.ref f7) = true)
    (A8 : PySem.W.nsIn K mainGlobals "_law_name" = some (some (.ref f8))) (L8 : K.lookup f8 = some ⟨oc8, od8, .func (PySem.W.fnOf "_law_name" "_law_name" (defArgs s__law_name) (defBody s__law_name) (defScope s__law_name) .none kV8 dc8 pm8 an8 cd8 ct8), sl8⟩) (C8 : PySem.W.codeIn K cd8 "_law_name" = true) (K8 : PySem.W.keepIn K (.ref f8) = true)
    (A9 : PySem.W.nsIn K mainGlobals "_law_boxes" = some (some (.ref f9))) (L9 : K.lookup f9 = some ⟨oc9, od9, .func (PySem.W.fnOf "_law_boxes" "_law_boxes" (defArgs s__law_boxes) (defBody s__law_boxes) (defScope s__law_boxes) .none kV9 dc9 pm9 an9 cd9 ct9), sl9⟩) (C9 : PySem.W.codeIn K cd9 "_law_boxes" = true) (K9 : PySem.W.keepIn K (.ref f9) = true)
    (A10 : PySem.W.nsIn K mainGlobals "_law_number" = some (some (.ref f10))) (L10 : K.lookup f10 = some ⟨oc10, od10, .func (PySem.W.fnOf "_law_number" "_law_number" (defArgs s__law_number) (defBody s__law_number) (defScope s__law_number) .none kV10 dc10 pm10 an10 cd10 ct10), sl10⟩) (C10 : PySem.W.codeIn K cd10 "_law_number" = true) (K10 : PySem.W.keepIn K (.ref f10) = true)
    (A11 : PySem.W.nsIn K mainGlobals "_law_state" = some (some (.ref f11))) (L11 : K.lookup f11 = some ⟨oc11, od11, .func (PySem.W.fnOf "_law_state" "_law_state" (defArgs s__law_state) (defBody s__law_state) (defScope s__law_state) .none kV11 dc11 pm11 an11 cd11 ct11), sl11⟩) (C11 : PySem.W.codeIn K cd11 "_law_state" = true) (K11 : PySem.W.keepIn K (.ref f11) = true)
    (A12 : PySem.W.nsIn K mainGlobals "_law_put" = some (some (.ref f12))) (L12 : K.lookup f12 = some ⟨oc12, od12, .func (PySem.W.fnOf "_law_put" "_law_put" (defArgs s__law_put) (defBody s__law_put) (defScope s__law_put) .none kV12 dc12 pm12 an12 cd12 ct12), sl12⟩) (C12 : PySem.W.codeIn K cd12 "_law_put" = true) (K12 : PySem.W.keepIn K (.ref f12) = true)
    (A13 : PySem.W.nsIn K mainGlobals "_law_common" = some (some (.ref f13))) (L13 : K.lookup f13 = some ⟨oc13, od13, .func (PySem.W.fnOf "_law_common" "_law_common" (defArgs s__law_common) (defBody s__law_common) (defScope s__law_common) .none kV13 dc13 pm13 an13 cd13 ct13), sl13⟩) (C13 : PySem.W.codeIn K cd13 "_law_common" = true) (K13 : PySem.W.keepIn K (.ref f13) = true)
    (A14 : PySem.W.nsIn K mainGlobals "_law_weights" = some (some (.ref f14))) (L14 : K.lookup f14 = some ⟨oc14, od14, .func (PySem.W.fnOf "_law_weights" "_law_weights" (defArgs s__law_weights) (defBody s__law_weights) (defScope s__law_weights) .none kV14 dc14 pm14 an14 cd14 ct14), sl14⟩) (C14 : PySem.W.codeIn K cd14 "_law_weights" = true) (K14 : PySem.W.keepIn K (.ref f14) = true)
    (A15 : PySem.W.nsIn K mainGlobals "_law_ways_right" = some (some (.ref f15))) (L15 : K.lookup f15 = some ⟨oc15, od15, .func (PySem.W.fnOf "_law_ways_right" "_law_ways_right" (defArgs s__law_ways_right) (defBody s__law_ways_right) (defScope s__law_ways_right) .none kV15 dc15 pm15 an15 cd15 ct15), sl15⟩) (C15 : PySem.W.codeIn K cd15 "_law_ways_right" = true) (K15 : PySem.W.keepIn K (.ref f15) = true)
    (A16 : PySem.W.nsIn K mainGlobals "law" = some (some (.ref f16))) (L16 : K.lookup f16 = some ⟨oc16, od16, .func (PySem.W.fnOf "law" "law" (defArgs s_law) (defBody s_law) (defScope s_law) .none kV16 dc16 pm16 an16 cd16 ct16), sl16⟩) (C16 : PySem.W.codeIn K cd16 "law" = true) (K16 : PySem.W.keepIn K (.ref f16) = true)
    (N_abs : PySem.W.nsIn K mainGlobals "abs" = some none)
    (N_bool : PySem.W.nsIn K mainGlobals "bool" = some none)
    (N_enumerate : PySem.W.nsIn K mainGlobals "enumerate" = some none)
    (N_int : PySem.W.nsIn K mainGlobals "int" = some none)
    (N_isinstance : PySem.W.nsIn K mainGlobals "isinstance" = some none)
    (N_len : PySem.W.nsIn K mainGlobals "len" = some none)
    (N_list : PySem.W.nsIn K mainGlobals "list" = some none)
    (N_max : PySem.W.nsIn K mainGlobals "max" = some none)
    (N_min : PySem.W.nsIn K mainGlobals "min" = some none)
    (N_range : PySem.W.nsIn K mainGlobals "range" = some none)
    (N_repr : PySem.W.nsIn K mainGlobals "repr" = some none)
    (N_sum : PySem.W.nsIn K mainGlobals "sum" = some none)
    (N_tuple : PySem.W.nsIn K mainGlobals "tuple" = some none)
    (sp0 : PySem.W.specialIn K (.builtin "object.__class__") "__get__" = some (some (.builtin "getset_descriptor.__get__"))) (tk0 : PySem.W.takesIn K (.builtin "object.__class__") = some true)
    (a_LotsError : PySem.W.nsIn K mainGlobals "LotsError" = some (some (.ref g_LotsError))) (x_LotsError : PySem.W.excIn K g_LotsError [.type "ValueError", .type "Exception", .type "BaseException", .type "object"] "ValueError.__new__" = true) (p_LotsError : PySem.W.findIn K (.ref g_LotsError) "__getattribute__" = some (some (.builtin "BaseException.__getattribute__"))) (q_LotsError : PySem.W.findIn K (.ref g_LotsError) "__getattr__" = some none) (c_LotsError : PySem.W.isClsIn K g_LotsError = true) (h_LotsError : PySem.W.findIn K (.ref g_LotsError) "__class__" = some (some (.builtin "object.__class__"))) (o_LotsError : PySem.W.mroIn K g_LotsError (.type "object") = some true) (t_LotsError : PySem.W.typeIn K (.ref g_LotsError) = some (.type "type")) (e_LotsError : PySem.W.mroIn K g_LotsError (.type "BaseException") = some true) (v_LotsError : PySem.W.mroIn K g_LotsError (.type "ValueError") = some true)
    (a_NoNumber : PySem.W.nsIn K mainGlobals "NoNumber" = some (some (.ref g_NoNumber))) (x_NoNumber : PySem.W.excIn K g_NoNumber [.type "ValueError", .type "Exception", .type "BaseException", .type "object"] "ValueError.__new__" = true) (p_NoNumber : PySem.W.findIn K (.ref g_NoNumber) "__getattribute__" = some (some (.builtin "BaseException.__getattribute__"))) (q_NoNumber : PySem.W.findIn K (.ref g_NoNumber) "__getattr__" = some none) (c_NoNumber : PySem.W.isClsIn K g_NoNumber = true) (h_NoNumber : PySem.W.findIn K (.ref g_NoNumber) "__class__" = some (some (.builtin "object.__class__"))) (o_NoNumber : PySem.W.mroIn K g_NoNumber (.type "object") = some true) (t_NoNumber : PySem.W.typeIn K (.ref g_NoNumber) = some (.type "type")) (e_NoNumber : PySem.W.mroIn K g_NoNumber (.type "BaseException") = some true) (v_NoNumber : PySem.W.mroIn K g_NoNumber (.type "ValueError") = some true)
    (r_NoNumber_LotsError : PySem.W.mroIn K g_NoNumber (.ref g_LotsError) = some true)
    (r_NoNumber_NoNumber : PySem.W.mroIn K g_NoNumber (.ref g_NoNumber) = some true) :
    ∃ fd : FuncData, (∀ (s : Shared) (v : Value), BindsTo s fd ⟨[v], []⟩ [("_law_script", v)]) ∧ ∀ base : Heap, K.In base → base.Ns mainGlobals mg → FnOk l.prog w K mg base CX0 5 fa fd ["_law_script"] (spLaw K) := by
  have e := hfa.symm.trans (PySem.W.mg_of X G A16)
  cases e
  let T : Tx K mg := { a_is_whole := f0, fd_is_whole := _, F_is_whole := fun_mk (st := s_is_whole) L0 C0 K0, m_is_whole := PySem.W.mg_of X G A0, b_is_whole := (fun_mk (st := s_is_whole) L0 C0 K0).binds (ps := ["thing"]) fun _ _ _ _ _ _ us hl => match us, hl with | [_], _ => rfl, a_common_part := f1, fd_common_part := _, F_common_part := fun_mk (st := s_common_part) L1 C1 K1, m_common_part := PySem.W.mg_of X G A1, b_common_part := (fun_mk (st := s_common_part) L1 C1 K1).binds (ps := ["one", "other"]) fun _ _ _ _ _ _ us hl => match us, hl with | [_, _], _ => rfl, a_lowest := f2, fd_lowest := _, F_lowest := fun_mk (st := s_lowest) L2 C2 K2, m_lowest := PySem.W.mg_of X G A2, b_lowest := (fun_mk (st := s_lowest) L2 C2 K2).binds (ps := ["top", "bottom"]) fun _ _ _ _ _ _ us hl => match us, hl with | [_, _], _ => rfl, a_fraction := f3, fd_fraction := _, F_fraction := fun_mk (st := s_fraction) L3 C3 K3, m_fraction := PySem.W.mg_of X G A3, b_fraction := (fun_mk (st := s_fraction) L3 C3 K3).binds (ps := ["top", "bottom"]) fun _ _ _ _ _ _ us hl => match us, hl with | [_, _], _ => rfl, a_place_of := f4, fd_place_of := _, F_place_of := fun_mk (st := s_place_of) L4 C4 K4, m_place_of := PySem.W.mg_of X G A4, b_place_of := (fun_mk (st := s_place_of) L4 C4 K4).binds (ps := ["boxes", "name"]) fun _ _ _ _ _ _ us hl => match us, hl with | [_, _], _ => rfl, a_put_into := f5, fd_put_into := _, F_put_into := fun_mk (st := s_put_into) L5 C5 K5, m_put_into := PySem.W.mg_of X G A5, b_put_into := (fun_mk (st := s_put_into) L5 C5 K5).binds (ps := ["boxes", "state", "name", "number"]) fun _ _ _ _ _ _ us hl => match us, hl with | [_, _, _, _], _ => rfl, a_drawn := f6, fd_drawn := _, F_drawn := fun_mk (st := s_drawn) L6 C6 K6, m_drawn := PySem.W.mg_of X G A6, b_drawn := (fun_mk (st := s_drawn) L6 C6 K6).binds (ps := ["boxes", "state", "name", "weights"]) fun _ _ _ _ _ _ us hl => match us, hl with | [_, _, _, _], _ => rfl, a__law_draw := f7, fd__law_draw := _, F__law_draw := fun_mk (st := s__law_draw) L7 C7 K7, m__law_draw := PySem.W.mg_of X G A7, b__law_draw := (fun_mk (st := s__law_draw) L7 C7 K7).binds (ps := ["_law_script", "_law_k", "_law_prime", "_law_many"]) fun _ _ _ _ _ _ us hl => match us, hl with | [_, _, _, _], _ => rfl, a__law_name := f8, fd__law_name := _, F__law_name := fun_mk (st := s__law_name) L8 C8 K8, m__law_name := PySem.W.mg_of X G A8, b__law_name := (fun_mk (st := s__law_name) L8 C8 K8).binds (ps := ["_law_script", "_law_k", "_law_at"]) fun _ _ _ _ _ _ us hl => match us, hl with | [_, _, _], _ => rfl, a__law_boxes := f9, fd__law_boxes := _, F__law_boxes := fun_mk (st := s__law_boxes) L9 C9 K9, m__law_boxes := PySem.W.mg_of X G A9, b__law_boxes := (fun_mk (st := s__law_boxes) L9 C9 K9).binds (ps := ["_law_script", "_law_count", "_law_most"]) fun _ _ _ _ _ _ us hl => match us, hl with | [_, _, _], _ => rfl, a__law_number := f10, fd__law_number := _, F__law_number := fun_mk (st := s__law_number) L10 C10 K10, m__law_number := PySem.W.mg_of X G A10, b__law_number := (fun_mk (st := s__law_number) L10 C10 K10).binds (ps := ["_law_script", "_law_k"]) fun _ _ _ _ _ _ us hl => match us, hl with | [_, _], _ => rfl, a__law_state := f11, fd__law_state := _, F__law_state := fun_mk (st := s__law_state) L11 C11 K11, m__law_state := PySem.W.mg_of X G A11, b__law_state := (fun_mk (st := s__law_state) L11 C11 K11).binds (ps := ["_law_script", "_law_k", "_law_boxes_here"]) fun _ _ _ _ _ _ us hl => match us, hl with | [_, _, _], _ => rfl, a__law_put := f12, fd__law_put := _, F__law_put := fun_mk (st := s__law_put) L12 C12 K12, m__law_put := PySem.W.mg_of X G A12, b__law_put := (fun_mk (st := s__law_put) L12 C12 K12).binds (ps := ["_law_state_here", "_law_at", "_law_number_here"]) fun _ _ _ _ _ _ us hl => match us, hl with | [_, _, _], _ => rfl, a__law_common := f13, fd__law_common := _, F__law_common := fun_mk (st := s__law_common) L13 C13 K13, m__law_common := PySem.W.mg_of X G A13, b__law_common := (fun_mk (st := s__law_common) L13 C13 K13).binds (ps := ["_law_one", "_law_other"]) fun _ _ _ _ _ _ us hl => match us, hl with | [_, _], _ => rfl, a__law_weights := f14, fd__law_weights := _, F__law_weights := fun_mk (st := s__law_weights) L14 C14 K14, m__law_weights := PySem.W.mg_of X G A14, b__law_weights := (fun_mk (st := s__law_weights) L14 C14 K14).binds (ps := ["_law_script", "_law_k", "_law_size"]) fun _ _ _ _ _ _ us hl => match us, hl with | [_, _, _], _ => rfl, a__law_ways_right := f15, fd__law_ways_right := _, F__law_ways_right := fun_mk (st := s__law_ways_right) L15 C15 K15, m__law_ways_right := PySem.W.mg_of X G A15, b__law_ways_right := (fun_mk (st := s__law_ways_right) L15 C15 K15).binds (ps := ["_law_found", "_law_state_here", "_law_at", "_law_weights_here"]) fun _ _ _ _ _ _ us hl => match us, hl with | [_, _, _, _], _ => rfl, a_law := fa, fd_law := _, F_law := fun_mk (st := s_law) L16 C16 K16, m_law := PySem.W.mg_of X G A16, b_law := (fun_mk (st := s_law) L16 C16 K16).binds (ps := ["_law_script"]) fun _ _ _ _ _ _ us hl => match us, hl with | [_], _ => rfl, n_abs := PySem.W.mg_none_of X G N_abs, n_bool := PySem.W.mg_none_of X G N_bool, n_enumerate := PySem.W.mg_none_of X G N_enumerate, n_int := PySem.W.mg_none_of X G N_int, n_isinstance := PySem.W.mg_none_of X G N_isinstance, n_len := PySem.W.mg_none_of X G N_len, n_list := PySem.W.mg_none_of X G N_list, n_max := PySem.W.mg_none_of X G N_max, n_min := PySem.W.mg_none_of X G N_min, n_range := PySem.W.mg_none_of X G N_range, n_repr := PySem.W.mg_none_of X G N_repr, n_sum := PySem.W.mg_none_of X G N_sum, n_tuple := PySem.W.mg_none_of X G N_tuple, a_LotsError := g_LotsError, m_LotsError := PySem.W.mg_of X G a_LotsError, x_LotsError := ⟨PySem.W.mg_of X G a_LotsError, x_LotsError⟩, i_LotsError := ⟨p_LotsError, q_LotsError, e_LotsError, c_LotsError, h_LotsError, sp0, tk0, o_LotsError⟩, t_LotsError := t_LotsError, e_LotsError := e_LotsError, v_LotsError := v_LotsError, a_NoNumber := g_NoNumber, m_NoNumber := PySem.W.mg_of X G a_NoNumber, x_NoNumber := ⟨PySem.W.mg_of X G a_NoNumber, x_NoNumber⟩, i_NoNumber := ⟨p_NoNumber, q_NoNumber, e_NoNumber, c_NoNumber, h_NoNumber, sp0, tk0, o_NoNumber⟩, t_NoNumber := t_NoNumber, e_NoNumber := e_NoNumber, v_NoNumber := v_NoNumber, r_NoNumber_LotsError := r_NoNumber_LotsError, r_NoNumber_NoNumber := r_NoNumber_NoNumber }
  exact ⟨_, fun s v => .of_eq rfl, fun base _ _ => ok_law T⟩
theorem walk {l : PySem.W.OpenLaw} {q : Program} {loose : List Str} {XP : (Str → Option Value) → Heap → Prop} {YP : World → Heap → Prop} {d : DefRec} {K : Params → PySem.W.Frag} (hn : l.most = some 63) (hdf : d.params.defaults = [])
    (hY : ∀ (w : World) (h : Heap), YP w h → (K w.params).In h)
    (F : ∀ (w : World) (mg : Str → Option Value) (fa : Addr) (h : Heap), (K w.params).In h → h.Ns mainGlobals mg → mg d.name = some (.ref fa) →
      ∃ fd : FuncData, (∀ (s : Shared) (u : Value), BindsTo s fd ⟨[u], []⟩ [("_law_script", u)]) ∧ ∀ base : Heap, (K w.params).In base → base.Ns mainGlobals mg → FnOk l.prog w (K w.params) mg base CX0 5 fa fd ["_law_script"] (spLaw (K w.params))) :
    PySem.W.WalkO q loose XP YP l.row.toRowW d [] (fun f vs => PySem.call f vs) :=
  L2.walk_of (n := 63) (k := 5) (x := "_law_script") (CX := fun _ => CX0) (sp := fun w => spLaw (K w.params)) hn (by decide) hdf ⟨rfl, by decide, by decide, rfl⟩ hY F (fun _ _ a ns hl _ hS => ⟨a, ns, rfl, hS, hl, fun _ => rfl⟩) fun _ _ _ _ _ z => z
end Prf
open PySem PySem.W PyProof.Rows
set_option maxRecDepth 100000 in
set_option maxHeartbeats 0 in
theorem PySem.Challenge.cw_lots_k13_put_and_drawn_holds : PySem.Challenge.rw_lots_k13_put_and_drawn.Holds := by
  w_on; o_law; k_head; (case hw => w_witness2)
  k_fill
  refine Prf.walk (l := PySem.Challenge.rw_lots_k13_put_and_drawn) rfl rfl (fun w h Y => PySem.W.kIn_of Y) ?F
  case F =>
    intro w mg fa h KX G hmg
    refine' Prf.all_mk KX G hmg ?A0 ?L0 ?C0 ?K0 ?A1 ?L1 ?C1 ?K1 ?A2 ?L2 ?C2 ?K2 ?A3 ?L3 ?C3 ?K3 ?A4 ?L4 ?C4 ?K4 ?A5 ?L5 ?C5 ?K5 ?A6 ?L6 ?C6 ?K6 ?A7 ?L7 ?C7 ?K7 ?A8 ?L8 ?C8 ?K8 ?A9 ?L9 ?C9 ?K9 ?A10 ?L10 ?C10 ?K10 ?A11 ?L11 ?C11 ?K11 ?A12 ?L12 ?C12 ?K12 ?A13 ?L13 ?C13 ?K13 ?A14 ?L14 ?C14 ?K14 ?A15 ?L15 ?C15 ?K15 ?A16 ?L16 ?C16 ?K16 ?N_abs ?N_bool ?N_enumerate ?N_int ?N_isinstance ?N_len ?N_list ?N_max ?N_min ?N_range ?N_repr ?N_sum ?N_tuple ?sp0 ?tk0 ?a_LotsError ?x_LotsError ?p_LotsError ?q_LotsError ?c_LotsError ?h_LotsError ?o_LotsError ?t_LotsError ?e_LotsError ?v_LotsError ?a_NoNumber ?x_NoNumber ?p_NoNumber ?q_NoNumber ?c_NoNumber ?h_NoNumber ?o_NoNumber ?t_NoNumber ?e_NoNumber ?v_NoNumber ?r_NoNumber_LotsError ?r_NoNumber_NoNumber
    (case A0 => k_is); (case L0 => k_is); (case C0 => k_is); (case K0 => k_is); (case A1 => k_is); (case L1 => k_is)
    (case C1 => k_is); (case K1 => k_is); (case A2 => k_is); (case L2 => k_is); (case C2 => k_is); (case K2 => k_is)
    (case A3 => k_is); (case L3 => k_is); (case C3 => k_is); (case K3 => k_is); (case A4 => k_is); (case L4 => k_is)
    (case C4 => k_is); (case K4 => k_is); (case A5 => k_is); (case L5 => k_is); (case C5 => k_is); (case K5 => k_is)
    (case A6 => k_is); (case L6 => k_is); (case C6 => k_is); (case K6 => k_is); (case A7 => k_is); (case L7 => k_is)
    (case C7 => k_is); (case K7 => k_is); (case A8 => k_is); (case L8 => k_is); (case C8 => k_is); (case K8 => k_is)
    (case A9 => k_is); (case L9 => k_is); (case C9 => k_is); (case K9 => k_is); (case A10 => k_is); (case L10 => k_is)
    (case C10 => k_is); (case K10 => k_is); (case A11 => k_is); (case L11 => k_is); (case C11 => k_is); (case K11 => k_is)
    (case A12 => k_is); (case L12 => k_is); (case C12 => k_is); (case K12 => k_is); (case A13 => k_is); (case L13 => k_is)
    (case C13 => k_is); (case K13 => k_is); (case A14 => k_is); (case L14 => k_is); (case C14 => k_is); (case K14 => k_is)
    (case A15 => k_is); (case L15 => k_is); (case C15 => k_is); (case K15 => k_is); (case A16 => k_is); (case L16 => k_is)
    (case C16 => k_is); (case K16 => k_is); (case N_abs => k_is); (case N_bool => k_is); (case N_enumerate => k_is); (case N_int => k_is)
    (case N_isinstance => k_is); (case N_len => k_is); (case N_list => k_is); (case N_max => k_is); (case N_min => k_is); (case N_range => k_is)
    (case N_repr => k_is); (case N_sum => k_is); (case N_tuple => k_is); (case sp0 => k_is); (case tk0 => k_is); (case a_LotsError => k_is)
    (case x_LotsError => k_exc); (case p_LotsError => k_is); (case q_LotsError => k_is); (case c_LotsError => k_is); (case h_LotsError => k_is); (case o_LotsError => k_is)
    (case t_LotsError => k_is); (case e_LotsError => k_is); (case v_LotsError => k_is); (case a_NoNumber => k_is); (case x_NoNumber => k_exc); (case p_NoNumber => k_is)
    (case q_NoNumber => k_is); (case c_NoNumber => k_is); (case h_NoNumber => k_is); (case o_NoNumber => k_is); (case t_NoNumber => k_is); (case e_NoNumber => k_is)
    (case v_NoNumber => k_is); (case r_NoNumber_LotsError => k_is); (case r_NoNumber_NoNumber => k_is)
