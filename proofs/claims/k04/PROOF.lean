import PyProof.Rows.All
import Wide.All
import OpenK.AllK
import Wide.FinOn
import Lean
import PyProof.EqAt
import PyProof.EqKinds
import PyProof.TupleCall
import PySem.Challenge.RW_lots_k04_gathered
set_option Elab.async false
set_option linter.all false
set_option maxRecDepth 100000
namespace PySem.W.Fast
theorem tw10060482606933234524 : True := trivial
theorem tw10120110373273486821 : True := trivial
theorem tw10166210315536153443 : True := trivial
theorem tw10315208427448212517 : True := trivial
theorem tw10461466754850094564 : True := trivial
theorem tw10559372940537841874 : True := trivial
theorem tw10907736632157011872 : True := trivial
theorem tw11086388214689909651 : True := trivial
theorem tw11275201760526396917 : True := trivial
theorem tw11371007413316159462 : True := trivial
theorem tw11384682274298958223 : True := trivial
theorem tw11514782083962640107 : True := trivial
theorem tw11643964818361386127 : True := trivial
theorem tw12120052562022324242 : True := trivial
theorem tw1212991098236550208 : True := trivial
theorem tw12358507024368637700 : True := trivial
theorem tw12430542880108649494 : True := trivial
theorem tw12779303318048372725 : True := trivial
theorem tw12867385961394206256 : True := trivial
theorem tw12873775786697065958 : True := trivial
theorem tw13167808546582997541 : True := trivial
theorem tw13613210029277864101 : True := trivial
theorem tw13722066637017091298 : True := trivial
theorem tw14004348683135742583 : True := trivial
theorem tw14018355956535236576 : True := trivial
theorem tw14308294454657433214 : True := trivial
theorem tw14334958420142822654 : True := trivial
theorem tw14375925430057481659 : True := trivial
theorem tw1461607627330233272 : True := trivial
theorem tw14810657867293201505 : True := trivial
theorem tw15022370839326149102 : True := trivial
theorem tw15061750538620045185 : True := trivial
theorem tw15306491638101990859 : True := trivial
theorem tw15588804813504732853 : True := trivial
theorem tw15820318299448919934 : True := trivial
theorem tw16110489795676695921 : True := trivial
theorem tw16354632014609483083 : True := trivial
theorem tw16730792372066072488 : True := trivial
theorem tw17378109013345113467 : True := trivial
theorem tw17390525710470483331 : True := trivial
theorem tw17543732064354198176 : True := trivial
theorem tw17654670344476842618 : True := trivial
theorem tw17951229910190901697 : True := trivial
theorem tw18089979043990484451 : True := trivial
theorem tw18241237343311164604 : True := trivial
theorem tw18312408578298290706 : True := trivial
theorem tw18377460550584664961 : True := trivial
theorem tw1995295136890696796 : True := trivial
theorem tw2199482068844339518 : True := trivial
theorem tw2372727732154105196 : True := trivial
theorem tw2660684586846997823 : True := trivial
theorem tw2720130623919806125 : True := trivial
theorem tw2752544225273567342 : True := trivial
theorem tw2861096018794952014 : True := trivial
theorem tw2879140459758723380 : True := trivial
theorem tw2923001951017716168 : True := trivial
theorem tw3138264614567193267 : True := trivial
theorem tw3243125674074574506 : True := trivial
theorem tw3313223307229841198 : True := trivial
theorem tw3649673338282044058 : True := trivial
theorem tw4351122080276134592 : True := trivial
theorem tw4361884725075670764 : True := trivial
theorem tw4641921540638355376 : True := trivial
theorem tw471252312337513830 : True := trivial
theorem tw4766347035176264446 : True := trivial
theorem tw50284727944435336 : True := trivial
theorem tw5063573577479265651 : True := trivial
theorem tw517789170124848229 : True := trivial
theorem tw5272036639694143371 : True := trivial
theorem tw5646316908292048966 : True := trivial
theorem tw5942256842472071472 : True := trivial
theorem tw5975461730502710579 : True := trivial
theorem tw6421408086404547687 : True := trivial
theorem tw6752818523283177526 : True := trivial
theorem tw6939278803036635859 : True := trivial
theorem tw7379092432394670286 : True := trivial
theorem tw7636791934491553509 : True := trivial
theorem tw7655417868235198715 : True := trivial
theorem tw7839199800813397266 : True := trivial
theorem tw8054590914515075432 : True := trivial
theorem tw8134727343134285581 : True := trivial
theorem tw8226976015870609851 : True := trivial
theorem tw8371453514980385570 : True := trivial
theorem tw8536769125293716215 : True := trivial
theorem tw8597257481792824235 : True := trivial
theorem tw8597309078599909234 : True := trivial
theorem tw8863722505304144266 : True := trivial
theorem tw9230765429258498418 : True := trivial
theorem tw9351254633602758131 : True := trivial
theorem tw991508335236730046 : True := trivial
end PySem.W.Fast
namespace L2
open PySem PySem.Spec PyProof.Rows

noncomputable abbrev Key := Sum Int Str
noncomputable def keyIs : Key → Value → Bool
 | .inl k, v => Value.isInt k v
 | .inr x, v => Value.isStrOf x v
noncomputable def keyH (w : World) : Key → Int
 | .inl k => hashInt k
 | .inr x => hashStr w x
theorem keyIs_shape : ∀ {k : Key} {v : Value}, keyIs k v = true → (∃ i t, k = Sum.inl i ∧ v = Value.int i t) ∨ (∃ x t, k = Sum.inr x ∧ v = Value.str x t)
 | .inl i, v, h => by
  obtain ⟨t, e⟩ := Value.isInt_shape (k := i) (v := v) h
  exact .inl ⟨i, t, rfl, e⟩
 | .inr x, v, h => by
  obtain ⟨t, e⟩ := Value.isStrOf_shape (x := x) (v := v) h
  exact .inr ⟨x, t, rfl, e⟩
theorem keyIs_int (i : Int) (t : Tok) : keyIs (.inl i) (.int i t) = true := by simp [keyIs, Value.isInt]
theorem keyIs_str (x : Str) (t : Tok) : keyIs (.inr x) (.str x t) = true := by simp [keyIs, Value.isStrOf]
theorem key_ll (a b : Int) : decide ((Sum.inl a : Key) = Sum.inl b) = (a == b) := by
 by_cases e : a = b
 ·subst e; simp
 ·have h : ¬ (Sum.inl a : Key) = Sum.inl b := fun q => e (Sum.inl.inj q)
  rw [decide_eq_false h]
  exact (beq_eq_false_iff_ne.mpr e).symm
theorem key_rr (a b : Str) : decide ((Sum.inr a : Key) = Sum.inr b) = decide (a = b) := by
 by_cases e : a = b
 ·subst e; simp
 ·have h : ¬ (Sum.inr a : Key) = Sum.inr b := fun q => e (Sum.inr.inj q)
  rw [decide_eq_false h, decide_eq_false e]
theorem key_lr (a : Int) (b : Str) : decide ((Sum.inl a : Key) = Sum.inr b) = false := decide_eq_false (fun q => nomatch q)
theorem key_rl (a : Str) (b : Int) : decide ((Sum.inr a : Key) = Sum.inl b) = false := decide_eq_false (fun q => nomatch q)

noncomputable def mixKind (prog : Program) (w : World) : PySem.KeyKind prog w Key where
 is := keyIs
 hash := keyH w
 inj := fun v a b ha hb => by
  rcases keyIs_shape ha with ⟨i, t, rfl, rfl⟩ | ⟨x, t, rfl, rfl⟩
  ·rcases keyIs_shape hb with ⟨j, u, rfl, e⟩ | ⟨y, u, rfl, e⟩
   ·injection e with e1 _; rw [e1]
   ·exact nomatch e
  ·rcases keyIs_shape hb with ⟨j, u, rfl, e⟩ | ⟨y, u, rfl, e⟩
   ·exact nomatch e
   ·injection e with e1 _; rw [e1]
 byValue := fun k v h => by
  rcases keyIs_shape h with ⟨i, t, rfl, rfl⟩ | ⟨x, t, rfl, rfl⟩ <;> rfl
 pyHash := fun hv h => by
  rcases keyIs_shape hv with ⟨i, t, rfl, rfl⟩ | ⟨x, t, rfl, rfl⟩
  ·exact wpAny_pyHash_int h
  ·exact wpAny_pyHash_str h
 eqBool := fun hu hv h => by
  rcases keyIs_shape hu with ⟨i, t, rfl, rfl⟩ | ⟨x, t, rfl, rfl⟩
  ·rcases keyIs_shape hv with ⟨j, u, rfl, rfl⟩ | ⟨y, u, rfl, rfl⟩
   ·rw [key_ll] at h; exact wpAny_eqBool_int h
   ·rw [key_lr] at h; exact SeqAt.EqAt.int_str i t y u _ _ _ _ h
  ·rcases keyIs_shape hv with ⟨j, u, rfl, rfl⟩ | ⟨y, u, rfl, rfl⟩
   ·rw [key_rl] at h; exact SeqAt.EqAt.str_int x t j u _ _ _ _ h
   ·rw [key_rr] at h; exact wpAny_eqBool_str h
 «strs» := fun k x t v h => by
  rcases keyIs_shape h with ⟨i, u, rfl, e⟩ | ⟨y, u, rfl, e⟩
  ·exact nomatch e
  ·injection e with e1 _
   subst e1
   cases v <;> rfl

theorem mixKind_int (prog : Program) (w : World) (i : Int) (t : Tok) : (mixKind prog w).is (.inl i) (.int i t) = true := keyIs_int i t
theorem mixKind_str (prog : Program) (w : World) (x : Str) (t : Tok) : (mixKind prog w).is (.inr x) (.str x t) = true := keyIs_str x t
end L2

namespace L2
open PySem PySem.Spec PyProof.Rows

inductive V where
 | non | bl (b : Bool) | int (i : Int) | str (x : Str) | byt (b : Array UInt8) | flt (b : UInt64) | ref (a : Addr) | ty (n : String)
 deriving DecidableEq

noncomputable def RelV : V → Value → Prop
 | .non, u => u = Value.none
 | .bl b, u => u = Value.bool b
 | .int i, u => ∃ t, u = Value.int i t
 | .str x, u => ∃ t, u = Value.str x t
 | .byt b, u => ∃ t, u = Value.bytes b t
 | .flt b, u => ∃ t, u = Value.float b t
 | .ref a, u => u = Value.ref a
 | .ty n, u => u = Value.type n

noncomputable abbrev Vals : List V → List Value → Prop := Paired RelV
theorem Vals.length {xs : List V} {us : List Value} (r : Vals xs us) : xs.length = us.length := Paired.length r
theorem Vals.get : ∀ {xs : List V} {us : List Value} {i : Nat} {x : V}, Vals xs us → xs[i]? = some x → ∃ u, us[i]? = some u ∧ RelV x u
 | _, _, _, _, .nil, e => by simp at e
 | _, _, 0, _, .cons r _, e => by simp at e; subst e; exact ⟨_, rfl, r⟩
 | _, _, i + 1, x, .cons _ t, e => by
  obtain ⟨u, h1, h2⟩ := Vals.get (i := i) (x := x) t (by simpa using e)
  exact ⟨u, by simpa using h1, h2⟩
theorem Vals.append : ∀ {xs ys : List V} {us ws : List Value}, Vals xs us → Vals ys ws → Vals (xs ++ ys) (us ++ ws)
 | _, _, _, _, .nil, s => s
 | _, _, _, _, .cons r t, s => .cons r (Vals.append t s)
theorem Vals.take : ∀ {xs : List V} {us : List Value} (n : Nat), Vals xs us → Vals (xs.take n) (us.take n)
 | _, _, 0, _ => .nil
 | _, _, _ + 1, .nil => .nil
 | _, _, n + 1, .cons r t => .cons r (Vals.take n t)
theorem Vals.drop : ∀ {xs : List V} {us : List Value} (n : Nat), Vals xs us → Vals (xs.drop n) (us.drop n)
 | _, _, 0, r => r
 | _, _, _ + 1, .nil => .nil
 | _, _, n + 1, .cons _ t => Vals.drop n t

noncomputable def RelO : Option V → Option Value → Prop
 | some v, some u => RelV v u
 | none, none => True
 | _, _ => False
noncomputable def KV {κ : Type} : List (κ × V) → List (κ × Value) → Prop := Paired fun (p : κ × V) (q : κ × Value) => p.1 = q.1 ∧ RelV p.2 q.2

noncomputable def kV : Key → V
 | .inl i => .int i
 | .inr x => .str x

inductive NK where
 | int (i : Int) | str (x : Str) | tup (l : List NK)
noncomputable instance : DecidableEq NK := fun a b => Classical.propDecidable (a = b)
mutual
noncomputable def nhash (w : World) : NK → Int
 | .int i => keyH w (.inl i)
 | .str x => keyH w (.inr x)
 | .tup l => reduceHash (Builtin.Tuple.tupleHashOf (nhashL w l))
noncomputable def nhashL (w : World) : List NK → List Int
 | [] => []
 | k :: r => nhash w k :: nhashL w r
end
mutual
noncomputable def ndep : NK → Nat
 | .int _ => 0
 | .str _ => 0
 | .tup l => ndepL l + 1
noncomputable def ndepL : List NK → Nat
 | [] => 0
 | k :: r => max (ndep k) (ndepL r)
end
noncomputable def entryN (w : World) (x : NK × Addr × Value) : DictEntry := { hash := nhash w x.1, key := .ref x.2.1, val := x.2.2 }
inductive HO where
 /-- a list -/
 | lst (xs : List V)
 /-- a tuple (never changes) -/
 | tup (xs : List V)
 /-- a dict whose keys are ints and texts; one whose keys are tuples of ints and texts (the empty one is both) -/
 | dK (kvs : List (Key × V)) | dT (kvs : List (List Key × V))
 /-- a dict whose keys are tuples of any depth: key, where it stands, value -/
 | dN (ks : List (NK × Addr × V))
 /-- a set of ints: its members, its size -/
 | set (S : Int → Bool) (n : Nat)
 /-- an instance of the class at C, its dict at dx, its attributes -/
 | ins (C dx : Addr) (fs : List (Str × V))
 /-- the dict of the instance at x -/
 | own (x : Addr)
 /-- the dict of an exception -/
 | xd (fs : List (Str × V))
 /-- a bound method, f of x -/
 | met (f x : Addr)
 /-- a range object lo, lo + 1, .. below hi -/
 | rng (lo hi : Int)
 /-- a thing that is known to the object (the script; a dict while a loop walks it): read, never written while it is so -/
 | frz (o : Obj) (u : HO)
 /-- a code object's table -/
 | tbl (ps : Array Value)
 /-- any other thing, by what is true of its one object (a def of one's own: SetO a S n := HO.ext fun h => ..) -/
 | ext (φ : Heap → Prop)

noncomputable abbrev Hp := Addr → Option HO
noncomputable def upd (H : Hp) (a : Addr) (o : HO) : Hp := fun b => if b = a then some o else H b
theorem upd_same {H : Hp} {a : Addr} {o : HO} : upd H a o a = some o := by unfold upd; rw [if_pos rfl]
theorem upd_ne {H : Hp} {a b : Addr} {o : HO} (h : b ≠ a) : upd H a o b = H b := by unfold upd; rw [if_neg h]
theorem ne_of {H : Hp} {a b : Addr} {o u : HO} (h : H a = some o) (h' : H b = some u) (d : o ≠ u) : a ≠ b := by
 intro e; subst e; rw [h] at h'; exact d (Option.some.inj h')
theorem ne_of_none {H : Hp} {a b : Addr} {o : HO} (h : H a = some o) (h' : H b = none) : a ≠ b := by
 intro e; subst e; rw [h] at h'; cases h'

section
variable (P : Program) (w : World)
noncomputable def ObjOk (H : Hp) (h : Heap) (a : Addr) : HO → Prop
 | .lst xs => xs.length ≤ sizeLine ∧ ∃ (its : List Value) (n : Nat), Vals xs its ∧ h.get? a = some { cls := .type "list", data := .seq its.toArray n }
 | .tup xs => xs.length ≤ sizeLine ∧ ∃ its : List Value, Vals xs its ∧ IsTup h a its.toArray
 | .dK kvs => kvs.length ≤ sizeLine ∧ (a == sysModules) = false ∧ ∃ vs, KV kvs vs ∧ h.DictOf (mixKind P w) a vs
 | .dT kvs => kvs.length ≤ sizeLine ∧ (a == sysModules) = false ∧ ∃ xs : List (List Key × Addr × Value),
   Paired (fun (p : List Key × V) (q : List Key × Addr × Value) => p.1 = q.1 ∧ H q.2.1 = some (.tup (p.1.map kV)) ∧ RelV p.2 q.2.2) kvs xs ∧
   ∃ o es ep, h.get? a = some o ∧ o.ExactDict ∧ o.data = .dict es ep ∧ es.toList = xs.map (entryOfKey (tupleKind (mixKind P w))) ∧ (xs.map (·.1)).Nodup
 | .dN ks => ks.length ≤ sizeLine ∧ (a == sysModules) = false ∧ ∃ xs : List (NK × Addr × Value), Paired (fun (p : NK × Addr × V) (q : NK × Addr × Value) => p.1 = q.1 ∧ p.2.1 = q.2.1 ∧ RelV p.2.2 q.2.2) ks xs ∧
   ∃ o es ep, h.get? a = some o ∧ o.ExactDict ∧ o.data = .dict es ep ∧ es.toList = xs.map (entryN w) ∧ (xs.map (·.1)).Nodup
 | .set S n => h.SetOf (intKind P w) a S n
 | .ins C dx fs => H dx = some (.own a) ∧ fs.length ≤ 1000 ∧ dx ≠ a ∧ h.get? a = some (PySem.W.instObj C dx) ∧
   ∃ mA, h.Ns1 dx mA ∧ (∀ f, RelO (fs.lookup f) (mA f)) ∧ PySem.Within mA (fs.map (·.1))
 | .own _ => ∃ o, h.get? a = some o
 | .xd fs => ∃ mA, h.Ns1 a mA ∧ ∀ f, RelO (fs.lookup f) (mA f)
 | .rng lo hi => ∃ t u v, h.get? a = some { cls := .type "range", data := .fields #[.int lo t, .int hi u, .int 1 v] }
 | .frz o u => h.get? a = some o ∧ ObjOk H h a u
 | .tbl ps => h.get? a = some { cls := .none, data := .fields ps }
 | .met f x => h.get? a = some (PySem.W.methodObj (.ref f) (.ref x))
 | .ext φ => φ h ∧ (∃ o, h.get? a = some o) ∧ ∀ h1 h2 : Heap, φ h1 → (∀ o, h1.get? a = some o → h2.get? a = some o) → φ h2
noncomputable def HOk (H : Hp) (h : Heap) : Prop := ∀ a o, H a = some o → ObjOk P w H h a o
end

section
variable {P : Program} {w : World} {H H' : Hp} {h h' : Heap} {a : Addr} {o : HO}
theorem ObjOk.lt (x : ObjOk P w H h a o) : a < h.objs.size := by
 cases o with
 | lst xs => obtain ⟨_, _, _, _, e⟩ := x; exact Heap.lt_size e
 | tup xs => obtain ⟨_, _, _, p⟩ := x; exact p.lt
 | dK kvs => obtain ⟨_, _, _, _, o, _, _, e, _⟩ := x; exact Heap.lt_size e
 | dT kvs => obtain ⟨_, _, _, _, o, _, _, e, _⟩ := x; exact Heap.lt_size e
 | dN ks => obtain ⟨_, _, _, _, o, _, _, e, _⟩ := x; exact Heap.lt_size e
 | set S n => obtain ⟨o, _, _, _, e, _⟩ := x; exact Heap.lt_size e
 | ins C dx fs => obtain ⟨_, _, _, e, _⟩ := x; exact Heap.lt_size e
 | own y => obtain ⟨_, e⟩ := x; exact Heap.lt_size e
 | xd fs => obtain ⟨_, ⟨_, _, _, e, _⟩, _⟩ := x; exact Heap.lt_size e
 | rng lo hi => obtain ⟨_, _, _, e⟩ := x; exact Heap.lt_size e
 | frz ob u => obtain ⟨e, _⟩ := x; exact Heap.lt_size e
 | tbl ps => exact Heap.lt_size (show h.get? a = some _ from x)
 | met f y => exact Heap.lt_size (show h.get? a = some _ from x)
 | ext φ => obtain ⟨_, ⟨_, e⟩, _⟩ := x; exact Heap.lt_size e
theorem Paired.mapP {α β : Type} {F G : α → β → Prop} : ∀ {l₁ : List α} {l₂ : List β}, Paired F l₁ l₂ → (∀ a b, F a b → G a b) → Paired G l₁ l₂
 | _, _, .nil, _ => .nil
 | _, _, .cons r t, f => .cons (f _ _ r) (Paired.mapP t f)
theorem ObjOk.stay (x : ObjOk P w H h a o) (k : ∀ b u, (b = a ∨ H b = some (.own a)) → h.get? b = some u → h'.get? b = some u)
  (ho : ∀ b, H b = some (.own a) → H' b = some (.own a)) (ht : ∀ b xs, H b = some (.tup xs) → H' b = some (.tup xs)) : ObjOk P w H' h' a o := by
 induction o with
 | lst xs => obtain ⟨z, its, n, r, e⟩ := x; exact ⟨z, its, n, r, k _ _ (.inl rfl) e⟩
 | tup xs => obtain ⟨z, its, r, ob, e, c⟩ := x; exact ⟨z, its, r, ob, k _ _ (.inl rfl) e, c⟩
 | dK kvs => obtain ⟨z, y, vs, r, ob, es, ep, e, c⟩ := x; exact ⟨z, y, vs, r, ob, es, ep, k _ _ (.inl rfl) e, c⟩
 | dT kvs =>
  obtain ⟨z, y, xs, r, ob, es, ep, e, c⟩ := x
  exact ⟨z, y, xs, Paired.mapP r fun p q z => ⟨z.1, ht _ _ z.2.1, z.2.2⟩, ob, es, ep, k _ _ (.inl rfl) e, c⟩
 | dN ks => obtain ⟨z, y, xs, r, ob, es, ep, e, c⟩ := x; exact ⟨z, y, xs, r, ob, es, ep, k _ _ (.inl rfl) e, c⟩
 | set S n => obtain ⟨ob, es, ep, t, e, c⟩ := x; exact ⟨ob, es, ep, t, k _ _ (.inl rfl) e, c⟩
 | ins C dx fs =>
  obtain ⟨d, z, ne, e, mA, ⟨od, es, ep, e2, c⟩, r⟩ := x
  exact ⟨ho _ d, z, ne, k _ _ (.inl rfl) e, mA, ⟨od, es, ep, k _ _ (.inr d) e2, c⟩, r⟩
 | own y => obtain ⟨ob, e⟩ := x; exact ⟨ob, k _ _ (.inl rfl) e⟩
 | xd fs => obtain ⟨mA, ⟨od, es, ep, e, c⟩, r⟩ := x; exact ⟨mA, ⟨od, es, ep, k _ _ (.inl rfl) e, c⟩, r⟩
 | rng lo hi => obtain ⟨t, u, v, e⟩ := x; exact ⟨t, u, v, k _ _ (.inl rfl) e⟩
 | frz ob u ih => obtain ⟨e, q⟩ := x; exact ⟨k _ _ (.inl rfl) e, ih q⟩
 | tbl ps =>
  have e : h.get? a = some { cls := .none, data := .fields ps } := x
  show h'.get? a = some { cls := .none, data := .fields ps }
  exact k a _ (.inl rfl) e
 | met f y =>
  have e : h.get? a = some (PySem.W.methodObj (.ref f) (.ref y)) := x
  show h'.get? a = some (PySem.W.methodObj (.ref f) (.ref y))
  exact k a _ (.inl rfl) e
 | ext φ => obtain ⟨p, ⟨o, e⟩, st⟩ := x; exact ⟨st _ _ p fun o q => k _ _ (.inl rfl) q, ⟨o, k _ _ (.inl rfl) e⟩, st⟩
theorem HOk.lt (x : HOk P w H h) (e : H a = some o) : a < h.objs.size := (x a o e).lt
theorem HOk.fresh (x : HOk P w H h) (e : h.objs.size ≤ a) : H a = none := by
 cases q : H a with
 | none => rfl
 | some u => exact absurd (Nat.lt_of_lt_of_le (x.lt q) e) (Nat.lt_irrefl _)
theorem HOk.kept (x : HOk P w H h) (k : ∀ b u, h.get? b = some u → h'.get? b = some u) : HOk P w H h' := fun a o e =>
 (x a o e).stay (fun b u _ q => k b u q) (fun _ q => q) fun _ _ q => q
theorem HOk.laid (x : HOk P w H h) (k : ∀ b u, h.get? b = some u → h'.get? b = some u) (hp : h.objs.size ≤ a) (new : ObjOk P w (upd H a o) h' a o) : HOk P w (upd H a o) h' := fun b u e => by
 have hn := x.fresh hp
 by_cases hb : b = a
 ·subst hb; rw [upd_same] at e; cases e; exact new
 ·rw [upd_ne hb] at e
  exact (x b u e).stay (fun c v _ q => k c v q) (fun c q => by rw [upd_ne (ne_of_none q hn)]; exact q) fun c xs q => by rw [upd_ne (ne_of_none q hn)]; exact q
end

noncomputable def Rd (H : Hp) (a : Addr) (u : HO) : Prop := H a = some u ∨ ∃ o, H a = some (.frz o u)
theorem Rd.ok {P : Program} {w : World} {H : Hp} {h : Heap} {a : Addr} {u : HO} (r : Rd H a u) (x : HOk P w H h) : ObjOk P w H h a u := by
 rcases r with r | ⟨o, r⟩
 ·exact x a u r
 ·obtain ⟨_, q⟩ := x a _ r
  exact q
noncomputable def Mut : Option HO → Prop
 | some (.lst _) => True
 | some (.dK _) => True
 | some (.dT _) => True
 | some (.dN _) => True
 | some (.set _ _) => True
 | some (.ins _ _ _) => True
 | some (.ext _) => True
 | _ => False
section
variable {P : Program} {w : World} {H : Hp} {h h' : Heap} {x e : Addr} {o' : HO}
theorem HOk.write (ok : HOk P w H h) (mu : Mut (H x)) (he : e = x ∨ H e = some (.own x)) (k : ∀ b u, b ≠ e → h.get? b = some u → h'.get? b = some u) (heo : ∃ u, h'.get? e = some u)
  (new : ObjOk P w (upd H x o') h' x o') : HOk P w (upd H x o') h' := fun b u q => by
 have nown : ∀ c y, H c = some (.own y) → c ≠ x := fun c y r z => by subst z; rw [r] at mu; exact mu
 have ntup : ∀ c xs, H c = some (.tup xs) → c ≠ x := fun c xs r z => by subst z; rw [r] at mu; exact mu
 by_cases hb : b = x
 ·subst hb; rw [upd_same] at q; cases q; exact new
 ·rw [upd_ne hb] at q
  by_cases hbe : b = e
  ·have q' : H b = some (.own x) := by
    rcases he with z | z
    ·exact absurd (hbe.trans z) hb
    ·rw [hbe]; exact z
   rw [q] at q'; cases q'
   obtain ⟨v, hv⟩ := heo
   exact ⟨v, by rw [hbe]; exact hv⟩
  ·refine (ok b u q).stay (fun c v hc r => k c v ?_ r) (fun c r => by rw [upd_ne (nown c b r)]; exact r) fun c xs r => by rw [upd_ne (ntup c xs r)]; exact r
   rcases hc with rfl | hc
   ·exact hbe
   ·rintro rfl
    rcases he with z | z
    ·exact nown c b hc z
    ·rw [hc] at z; cases z; exact hb rfl
end

structure Un (fs ex : List Addr) (H H' : Hp) (h h' : Heap) : Prop where
 keep : ∀ b o, h.get? b = some o → H b = none → b ∉ fs → b ∉ ex → h'.get? b = some o
 slot : ∀ b o, h.get? b = some o → H b = none → b ∈ fs → b ∉ ex → ∃ sl, h'.get? b = some { o with slots := sl }
 free : ∀ b o, h.get? b = some o → H b = none → b ∉ ex → H' b = none
 there : ∀ b o, h.get? b = some o → b ∉ ex → ∃ o', h'.get? b = some o'
 tups : ∀ b xs, H b = some (.tup xs) → H' b = some (.tup xs)
 frzs : ∀ b o u, H b = some (.frz o u) → H' b = some (.frz o u)
 tbls : ∀ b ps, H b = some (.tbl ps) → ∃ more, H' b = some (.tbl (ps ++ more))
section
variable {fs fs' ex ex' : List Addr} {H H1 H2 : Hp} {h h1 h2 h' : Heap} {a x e : Addr} {o : HO}
theorem Un.any (u : Un fs ex H H1 h h1) {b : Addr} {ob : Obj} (q : h.get? b = some ob) (n : H b = none) (hx : b ∉ ex) : ∃ sl, h1.get? b = some { ob with slots := sl } := by
 by_cases hb : b ∈ fs
 ·exact u.slot b ob q n hb hx
 ·exact ⟨ob.slots, u.keep b ob q n hb hx⟩
theorem Un.trans (a : Un fs ex H H1 h h1) (b : Un fs ex H1 H2 h1 h2) : Un fs ex H H2 h h2 where
 keep := fun c ob q n hc hx => b.keep c ob (a.keep c ob q n hc hx) (a.free c ob q n hx) hc hx
 slot := fun c ob q n hc hx => by
  obtain ⟨sl, e1⟩ := a.slot c ob q n hc hx
  obtain ⟨sl', e2⟩ := b.slot c _ e1 (a.free c ob q n hx) hc hx
  exact ⟨sl', e2⟩
 free := fun c ob q n hx => by
  obtain ⟨o', e1⟩ := a.there c ob q hx
  exact b.free c o' e1 (a.free c ob q n hx) hx
 there := fun c ob q hx => by
  obtain ⟨o', e1⟩ := a.there c ob q hx
  exact b.there c o' e1 hx
 tups := fun c xs q => b.tups c xs (a.tups c xs q)
 frzs := fun c ob xs q => b.frzs c ob xs (a.frzs c ob xs q)
 tbls := fun c ps q => by
  obtain ⟨m1, e1⟩ := a.tbls c ps q
  obtain ⟨m2, e2⟩ := b.tbls c _ e1
  exact ⟨m1 ++ m2, by rw [e2, Array.append_assoc]⟩
theorem Un.kept (k : ∀ b u, h.get? b = some u → h'.get? b = some u) : Un fs ex H H h h' :=
 ⟨fun b ob q _ _ _ => k b ob q, fun b ob q _ _ _ => ⟨ob.slots, k b ob q⟩, fun _ _ _ n _ => n, fun b ob q _ => ⟨ob, k b ob q⟩, fun _ _ q => q, fun _ _ _ q => q, fun _ ps q => ⟨#[], by rw [q]; simp⟩⟩
theorem Un.refl : Un fs ex H H h h := Un.kept fun _ _ q => q
theorem Un.laid (k : ∀ b u, h.get? b = some u → h'.get? b = some u) (hp : h.objs.size ≤ a) (hn : H a = none) : Un fs ex H (upd H a o) h h' where
 keep := fun b u q _ _ _ => k b u q
 slot := fun b u q _ _ _ => ⟨u.slots, k b u q⟩
 free := fun b u q n _ => by rw [upd_ne (Nat.ne_of_lt (Nat.lt_of_lt_of_le (Heap.lt_size q) hp))]; exact n
 there := fun b u q _ => ⟨u, k b u q⟩
 tups := fun b xs q => by rw [upd_ne (ne_of_none q hn)]; exact q
 frzs := fun b u xs q => by rw [upd_ne (ne_of_none q hn)]; exact q
 tbls := fun b ps q => ⟨#[], by rw [upd_ne (ne_of_none q hn), q]; simp⟩
theorem Un.write (mu : Mut (H x)) (he : e = x ∨ H e = some (.own x)) (k : ∀ b u, b ≠ e → h.get? b = some u → h'.get? b = some u) (heo : ∃ u, h'.get? e = some u) : Un fs ex H (upd H x o) h h' := by
 have hx : ∀ b, H b = none → b ≠ x := fun b n z => by subst z; rw [n] at mu; exact mu
 have hb : ∀ b, H b = none → b ≠ e := fun b n z => by
  subst z
  rcases he with r | r
  ·exact hx b n r
  ·rw [n] at r; cases r
 have hm : ∀ b u, H b = some u → ¬ Mut (some u) → b ≠ x := fun b u q nm z => by subst z; rw [q] at mu; exact nm mu
 refine ⟨fun b u q n _ _ => k b u (hb b n) q, fun b u q n _ _ => ⟨u.slots, k b u (hb b n) q⟩, fun b u q n _ => by rw [upd_ne (hx b n)]; exact n, fun b u q _ => ?_,
  fun b xs q => by rw [upd_ne (hm b _ q fun z => z)]; exact q, fun b u xs q => by rw [upd_ne (hm b _ q fun z => z)]; exact q, fun b ps q => ⟨#[], by rw [upd_ne (hm b _ q fun z => z), q]; simp⟩⟩
 by_cases hbe : b = e
 ·subst hbe; exact heo
 ·exact ⟨u, k b u hbe q⟩
end

noncomputable def trk (h : Heap) (H : Hp) : List Addr := (List.range h.objs.size).filter fun a => (H a).isSome
noncomputable def hidT (h : Heap) (H : Hp) : Heap := PySem.W.hideAll h (trk h H)
theorem hidT_size (h : Heap) (H : Hp) : (hidT h H).objs.size = h.objs.size := PySem.W.hideAll_size _ _
theorem hidT_get {h : Heap} {H : Hp} {b : Addr} {o : Obj} (e : h.get? b = some o) (n : H b = none) : (hidT h H).get? b = some o :=
 PySem.W.hideAll_get _ e fun hm => by
  have q : (H b).isSome = true := (List.mem_filter.mp hm).2
  rw [n] at q; simp at q
theorem of_hidT {h : Heap} {H : Hp} {b : Addr} {o : Obj} (e : (hidT h H).get? b = some o) : h.get? b = some o ∧ H b = none := by
 have e' : h.get? b = some o := PySem.W.of_hideAll (trk h H) e
 refine ⟨e', ?_⟩
 cases q : H b with
 | none => rfl
 | some x =>
  have hm : b ∈ trk h H := List.mem_filter.mpr ⟨List.mem_range.mpr (Heap.lt_size e'), by simp [q]⟩
  have z : (hidT h H).get? b = none := PySem.W.hideAll_none (trk h H) hm
  rw [z] at e; cases e

end L2

namespace L2
open PySem PySem.Spec PyProof.Rows

structure Mod (K : PySem.W.Frag) (mg : Str → Option Value) (base : Heap) : Prop where
 kin : K.In base
 glob : base.Ns mainGlobals mg
 blt : ∃ mb, base.Ns builtinsNs mb ∧ ∀ x : Str, x ≠ "__name__" → mb x = bootBuiltins x
 nolimit : base.NoLimit

/-- the context: a def's body (or a comprehension's block) running. base: fixed through the whole law; s₀, H₀: the entry; outer: the frames whose slots others may change (a def's callers); stack: all frames that run;
   ex: iterators that were made ahead of the entry and are walked here (a comprehension's); fn: the names whose cells were made at the entry (a def: all; a comprehension's block: its own); calm: not within an except suite; pn: pins that every state bears; xe: what is wanted of an exception that leaves the code -/
structure Cx where
 prog : Program
 w : World
 K : PySem.W.Frag
 mg : Str → Option Value
 base : Heap
 A : Around
 N : List Str
 s₀ : Shared
 H₀ : Hp
 env : Env
 outer : List Env
 stack : List Env
 ex : List Addr
 fn : Str → Bool
 calm : Bool
 pn : List (Addr × Obj)
 xe : Value → Shared → Prop
noncomputable def frs (l : List Env) : List Addr := l.filterMap (·.frame)
noncomputable abbrev Cx.fs (X : Cx) : List Addr := frs X.outer

noncomputable def Vis (sc : Scope) (x : Str) : Prop := sc.names.lookup x = some .local ∨ sc.names.lookup x = some .cell ∨ sc.names.lookup x = some .free
noncomputable def Loc (sc : Scope) (x : Str) : Prop := sc.names.lookup x = some .local ∨ sc.names.lookup x = some .cell
noncomputable def Look (env : Env) (h : Heap) (m : Str → Option Value) (x : Str) (u : Value) : Prop :=
 (env.kindOf x = some .local ∧ m x = some u) ∨ ((env.kindOf x = some .cell ∨ env.kindOf x = some .free) ∧ ∃ c, env.cells.lookup x = some c ∧ h.IsCell c (some u))

structure Cx.Ok (X : Cx) : Prop where
 mod : Mod X.K X.mg X.base
 kind : X.env.scope.kind = .function
 glob : X.env.globals = mainGlobals
 blt : X.env.builtins = builtinsNs
 above : X.s₀.heap.objs.size ≤ X.env.locals
 inj : ∀ x y c, X.env.cells.lookup x = some c → X.env.cells.lookup y = some c → x = y
 has : ∀ x, (X.env.kindOf x = some .cell ∨ X.env.kindOf x = some .free) → ∃ c, X.env.cells.lookup x = some c
 cab : ∀ x c, X.fn x = true → X.env.cells.lookup x = some c → X.s₀.heap.objs.size ≤ c
 hd : X.calm = true → X.A.handled = none
 frames : X.A.frames = some X.stack
 stk : X.stack = X.outer ∨ (X.stack = X.env :: X.outer ∧ X.env.frame = some X.env.locals)
 exf : ∀ b ∈ X.ex, b ≠ X.env.locals ∧ ∀ x c, X.env.cells.lookup x = some c → c ≠ b
 bs : ∀ b o, X.base.get? b = some o → X.s₀.heap.get? b = some o ∧ X.H₀ b = none
 bsz : X.base.objs.size ≤ X.s₀.heap.objs.size
 noex : ∀ b o, X.base.get? b = some o → b ∉ X.ex
 exfs : ∀ b ∈ X.ex, b ∉ X.fs
 funs : X.s₀.heap.FunFrames X.base X.outer
 frf : ∀ b ∈ X.fs, X.H₀ b = none

structure Inv (X : Cx) (pins : List (Addr × Obj)) (σ : List (Option V)) (H : Hp) (s : Shared) : Prop where
 ok : X.Ok
 os : s.os = X.s₀.os
 bare : AllBare s.gens
 base : Un X.fs X.ex X.H₀ H X.s₀.heap s.heap
 loc : ∃ m, s.heap.Ns X.env.locals m ∧ ∀ (i : Nat) (x : Str) (v : V), X.N[i]? = some x → σ[i]? = some (some v) → Vis X.env.scope x → ∃ u, RelV v u ∧ Look X.env s.heap m x u
 cell : ∀ x c, X.env.cells.lookup x = some c → ∃ v, s.heap.IsCell c v
 free : H X.env.locals = none
 freeC : ∀ x c, X.env.cells.lookup x = some c → H c = none
 pin : ∀ p ∈ X.pn ++ pins, s.heap.get? p.1 = some p.2 ∧ H p.1 = none ∧ p.1 ≠ X.env.locals ∧ p.1 ∉ X.fs ∧ ∀ v, p.2.data ≠ .cell v
 hok : HOk X.prog X.w H s.heap
 len : σ.length = X.N.length

section
variable {X : Cx} {pins : List (Addr × Obj)} {σ : List (Option V)} {H H' : Hp} {s : Shared} {h' : Heap}

theorem Cx.Ok.nofr (ok : X.Ok) {b : Addr} {o : Obj} (e : X.base.get? b = some o) : b ∉ X.fs := fun hb => by
 have := (ok.funs.mem hb).1
 rw [e] at this; cases this
theorem Inv.bs (I : Inv X pins σ H s) : ∀ b o, X.base.get? b = some o → s.heap.get? b = some o ∧ H b = none := fun b o e =>
 ⟨I.base.keep b o (I.ok.bs b o e).1 (I.ok.bs b o e).2 (I.ok.nofr e) (I.ok.noex b o e), I.base.free b o (I.ok.bs b o e).1 (I.ok.bs b o e).2 (I.ok.noex b o e)⟩
theorem Inv.bk (I : Inv X pins σ H s) : ∀ b o, X.base.get? b = some o → s.heap.get? b = some o := fun b o e => (I.bs b o e).1
theorem Inv.mod (I : Inv X pins σ H s) : Mod X.K X.mg X.base := I.ok.mod
theorem Inv.kIn (I : Inv X pins σ H s) : X.K.In s.heap := I.ok.mod.kin.keeps I.bk
theorem Inv.lt (I : Inv X pins σ H s) : X.env.locals < s.heap.objs.size := let ⟨_, hn, _⟩ := I.loc; hn.lt
theorem Inv.sz (I : Inv X pins σ H s) : X.s₀.heap.objs.size ≤ s.heap.objs.size := Nat.le_trans I.ok.above (Nat.le_of_lt I.lt)
theorem Inv.nofs (I : Inv X pins σ H s) {a : Addr} (h : s.heap.objs.size ≤ a) : a ∉ X.fs := fun hb => by
 obtain ⟨_, o, ho, _⟩ := I.ok.funs.mem hb
 exact absurd (Nat.lt_of_lt_of_le (Heap.lt_size ho) (Nat.le_trans I.sz h)) (Nat.lt_irrefl _)
theorem Inv.cne (I : Inv X pins σ H s) : ∀ x c, X.env.cells.lookup x = some c → c ≠ X.env.locals := fun x c e z => by
 obtain ⟨v, o, ho, hd⟩ := I.cell x c e
 obtain ⟨m, ⟨o', es, ep, ho', hd', _⟩, _⟩ := I.loc
 rw [z, ho'] at ho; cases ho; rw [hd'] at hd; cases hd
theorem Inv.funs (I : Inv X pins σ H s) : s.heap.FunFrames X.base X.outer := by
 have all : ∀ (l : List Env), (∀ b ∈ frs l, b ∈ X.fs) → X.s₀.heap.FunFrames X.base l → s.heap.FunFrames X.base l := by
  intro l
  induction l with
  | nil => intro _ _; trivial
  | cons env r ih =>
   intro hs hl
   obtain ⟨hk, ⟨L, o, hf, hn, ho, hd⟩, hr⟩ := hl
   have hL : L ∈ X.fs := hs L (by unfold frs; rw [List.filterMap_cons, hf]; exact List.mem_cons_self)
   obtain ⟨sl, e⟩ := I.base.slot L o ho (I.ok.frf L hL) hL fun z => I.ok.exfs L z hL
   exact ⟨hk, ⟨L, _, hf, hn, e, hd⟩, ih (fun b hb => hs b (by unfold frs; rw [List.filterMap_cons, hf]; exact List.mem_cons_of_mem _ hb)) hr⟩
 exact all X.outer (fun _ hb => hb) I.ok.funs

theorem Inv.stack (I : Inv X pins σ H s) : s.heap.FunFrames X.base X.stack := by
 rcases I.ok.stk with e | ⟨e, hf⟩
 ·rw [e]; exact I.funs
 ·rw [e]
  obtain ⟨m, hn, _⟩ := I.loc
  refine .cons (by rw [I.ok.kind]; decide) hf hn ?_ I.funs
  exact Heap.get?_none_of_le (Nat.le_trans I.ok.bsz I.ok.above)
theorem Inv.stkSub (I : Inv X pins σ H s) : ∀ b ∈ frs X.stack, b ∈ X.env.locals :: X.fs := fun b hb => by
 rcases I.ok.stk with e | ⟨e, hf⟩
 ·rw [e] at hb; exact List.mem_cons_of_mem _ hb
 ·rw [e] at hb
  unfold frs at hb
  rw [List.filterMap_cons, hf] at hb
  exact hb
theorem Inv.stkFree (I : Inv X pins σ H s) : ∀ b ∈ frs X.stack, H b = none := fun b hb => by
 rcases List.mem_cons.mp (I.stkSub b hb) with e | hb
 ·rw [e]; exact I.free
 ·obtain ⟨_, o, ho, _⟩ := I.ok.funs.mem hb
  exact I.base.free b o ho (I.ok.frf b hb) fun z => I.ok.exfs b z hb

theorem Inv.step {g' : Array GenState} {t' : Nat} {d' : Drawn} {ch : List Addr} (I : Inv X pins σ H s)
  (hch : ∀ b ∈ ch, (b ∈ X.ex ∨ X.s₀.heap.objs.size ≤ b) ∧ b ≠ X.env.locals ∧ (∀ x c, X.env.cells.lookup x = some c → c ≠ b) ∧ ∀ p ∈ X.pn ++ pins, p.1 ≠ b)
  (keep : ∀ b o, b ≠ X.env.locals → b ∉ X.fs → b ∉ ch → s.heap.get? b = some o → H b = none → h'.get? b = some o)
  (slot : ∀ b o, b ≠ X.env.locals → b ∈ X.fs → b ∉ ch → s.heap.get? b = some o → H b = none → ∃ sl, h'.get? b = some { o with slots := sl }) (free : ∀ b o, b ∉ ch → s.heap.get? b = some o → H b = none → H' b = none)
  (there : ∀ b o, b ∉ ch → s.heap.get? b = some o → ∃ o', h'.get? b = some o')
  (tups : ∀ b xs, H b = some (.tup xs) → H' b = some (.tup xs)) (frzs : ∀ b o u, H b = some (.frz o u) → H' b = some (.frz o u)) (tbls : ∀ b ps, H b = some (.tbl ps) → ∃ more, H' b = some (.tbl (ps ++ more)))
  (ns : ∀ m, s.heap.Ns X.env.locals m → h'.Ns X.env.locals m) (hok : HOk X.prog X.w H' h') (hg : AllBare g') :
  Inv X pins σ H' { s with heap := h', gens := g', drawn := d', toks := t' } := by
 have neL : ∀ b o, X.s₀.heap.get? b = some o → b ≠ X.env.locals := fun b o e => Nat.ne_of_lt (Nat.lt_of_lt_of_le (Heap.lt_size e) I.ok.above)
 have neC : ∀ b o, X.s₀.heap.get? b = some o → b ∉ X.ex → b ∉ ch := fun b o e hx hb => by
  rcases (hch b hb).1 with z | z
  ·exact hx z
  ·exact absurd (Nat.lt_of_lt_of_le (Heap.lt_size e) z) (Nat.lt_irrefl _)
 have cellK : ∀ x c, X.env.cells.lookup x = some c → ∀ v, s.heap.IsCell c v → h'.IsCell c v := fun x c e v ⟨o, ho, hd⟩ => by
  have nch : c ∉ ch := fun z => (hch c z).2.2.1 x c e rfl
  by_cases hc : c ∈ X.fs
  ·obtain ⟨sl, q⟩ := slot c o (I.cne x c e) hc nch ho (I.freeC x c e)
   exact ⟨_, q, hd⟩
  ·exact ⟨o, keep c o (I.cne x c e) hc nch ho (I.freeC x c e), hd⟩
 refine ⟨I.ok, I.os, hg, ⟨fun b o e n hb hx => ?_, fun b o e n hb hx => ?_, fun b o e n hx => ?_, fun b o e hx => ?_, fun b xs e => tups b xs (I.base.tups b xs e), fun b o xs e => frzs b o xs (I.base.frzs b o xs e), fun b ps e => ?_⟩, ?_, fun x c e => ?_, ?_, fun x c e => ?_, fun p hp => ?_, hok, I.len⟩
 ·exact keep b o (neL b o e) hb (neC b o e hx) (I.base.keep b o e n hb hx) (I.base.free b o e n hx)
 ·obtain ⟨sl, e1⟩ := I.base.slot b o e n hb hx
  obtain ⟨sl', e2⟩ := slot b _ (neL b o e) hb (neC b o e hx) e1 (I.base.free b o e n hx)
  exact ⟨sl', e2⟩
 ·obtain ⟨o', e1⟩ := I.base.there b o e hx
  exact free b o' (neC b o e hx) e1 (I.base.free b o e n hx)
 ·obtain ⟨o', e1⟩ := I.base.there b o e hx
  exact there b o' (neC b o e hx) e1
 ·obtain ⟨m1, e1⟩ := I.base.tbls b ps e
  obtain ⟨m2, e2⟩ := tbls b _ e1
  exact ⟨m1 ++ m2, by rw [e2, Array.append_assoc]⟩
 ·obtain ⟨m, hn, hl⟩ := I.loc
  refine ⟨m, ns m hn, fun i x v e1 e2 e3 => ?_⟩
  obtain ⟨u, r, l⟩ := hl i x v e1 e2 e3
  refine ⟨u, r, ?_⟩
  rcases l with l | ⟨k, c, e, z⟩
  ·exact .inl l
  ·exact .inr ⟨k, c, e, cellK x c e _ z⟩
 ·obtain ⟨v, z⟩ := I.cell x c e
  exact ⟨v, cellK x c e v z⟩
 ·obtain ⟨m, ⟨o, _, _, ho, _⟩, _⟩ := I.loc
  exact free _ o (fun z => (hch _ z).2.1 rfl) ho I.free
 ·obtain ⟨v, o, ho, hd⟩ := I.cell x c e
  exact free c o (fun z => (hch c z).2.2.1 x c e rfl) ho (I.freeC x c e)
 ·obtain ⟨e, n, ne, nf, d⟩ := I.pin p hp
  have nch : p.1 ∉ ch := fun z => (hch p.1 z).2.2.2 p hp rfl
  exact ⟨keep p.1 p.2 ne nf nch e n, free p.1 p.2 nch e n, ne, nf, d⟩
theorem Inv.un {t' : Nat} (I : Inv X pins σ H s) (u : Un X.fs [] H H' s.heap h') (hok : HOk X.prog X.w H' h') : Inv X pins σ H' { s with heap := h', toks := t' } := by
 obtain ⟨m, ⟨o, es, ep, ho, r⟩, _⟩ := id I.loc
 obtain ⟨sl, hL⟩ := u.any ho I.free (by simp)
 exact I.step (g' := s.gens) (d' := s.drawn) (ch := []) (fun _ z => nomatch z) (fun b o _ hb _ e n => u.keep b o e n hb (by simp)) (fun b o _ hb _ e n => u.slot b o e n hb (by simp)) (fun b o _ e n => u.free b o e n (by simp)) (fun b o _ e => u.there b o e (by simp)) u.tups u.frzs u.tbls (fun m' hm => by
  obtain ⟨o', es', ep', ho', r'⟩ := hm
  rw [ho] at ho'; cases ho'
  exact ⟨_, es', ep', hL, r'⟩) hok I.bare
theorem Inv.call {g' : Array GenState} {t' : Nat} {d' : Drawn} {ch : List Addr} (I : Inv X pins σ H s) (u : Un (frs X.stack) ch H H' s.heap h') (hok : HOk X.prog X.w H' h') (hg : AllBare g')
  (hch : ∀ b ∈ ch, (b ∈ X.ex ∨ X.s₀.heap.objs.size ≤ b) ∧ b ≠ X.env.locals ∧ (∀ x c, X.env.cells.lookup x = some c → c ≠ b) ∧ ∀ p ∈ X.pn ++ pins, p.1 ≠ b) :
  Inv X pins σ H' { s with heap := h', gens := g', drawn := d', toks := t' } := by
 obtain ⟨m, ⟨o, es, ep, ho, r⟩, _⟩ := id I.loc
 obtain ⟨sl, hL⟩ := u.any ho I.free fun z => (hch _ z).2.1 rfl
 exact I.step (ch := ch) hch (fun b o hL hb hc e n => u.keep b o e n (fun z => (List.mem_cons.mp (I.stkSub b z)).elim hL hb) hc) (fun b o _ _ hc e n => u.any e n hc) (fun b o hc e n => u.free b o e n hc) (fun b o hc e => u.there b o e hc) u.tups u.frzs u.tbls (fun m' hm => by
  obtain ⟨o', es', ep', ho', r'⟩ := hm
  rw [ho] at ho'; cases ho'
  exact ⟨_, es', ep', hL, r'⟩) hok hg
theorem Inv.turned {t' : Nat} {it : Addr} (I : Inv X pins σ H s) (k : ∀ b o, b ≠ it → s.heap.get? b = some o → h'.get? b = some o) (hn : H it = none) (hL : it ≠ X.env.locals)
  (h1 : it ∈ X.ex ∨ X.s₀.heap.objs.size ≤ it) (h2 : ∀ x c, X.env.cells.lookup x = some c → c ≠ it) (h3 : ∀ p ∈ X.pn ++ pins, p.1 ≠ it) : Inv X pins σ H { s with heap := h', toks := t' } := by
 have nit : ∀ b u, H b = some u → b ≠ it := fun b u e z => by rw [z, hn] at e; cases e
 refine I.step (g' := s.gens) (d' := s.drawn) (ch := [it]) (fun b hb => ?_) (fun b o _ _ hc e _ => k b o (fun z => hc (by simp [z])) e) (fun b o _ _ hc e _ => ⟨o.slots, k b o (fun z => hc (by simp [z])) e⟩) (fun _ _ _ _ n => n)
  (fun b o hc e => ⟨o, k b o (fun z => hc (by simp [z])) e⟩) (fun _ _ e => e) (fun _ _ _ e => e) (fun b ps e => ⟨#[], by rw [e]; simp⟩) (fun m hm => ?_) (fun b u e => ?_) I.bare
 ·have e : b = it := by simpa using hb
  subst e
  exact ⟨h1, hL, h2, h3⟩
 ·obtain ⟨o, es, ep, ho, r⟩ := hm
  exact ⟨o, es, ep, k _ o (Ne.symm hL) ho, r⟩
 ·refine (I.hok b u e).stay (fun c v hc q => k c v ?_ q) (fun _ q => q) fun _ _ q => q
  rcases hc with z | z
  ·rw [z]; exact nit b u e
  ·exact nit c _ z
theorem Inv.tok (I : Inv X pins σ H s) (t : Nat) : Inv X pins σ H { s with toks := t } := I.un (h' := s.heap) (t' := t) Un.refl I.hok
theorem Inv.kept {t' : Nat} (I : Inv X pins σ H s) (k : ∀ b u, s.heap.get? b = some u → h'.get? b = some u) : Inv X pins σ H { s with heap := h', toks := t' } := I.un (Un.kept k) (I.hok.kept k)
theorem Inv.laid {a : Addr} {o : HO} {t' : Nat} (I : Inv X pins σ H s) (k : ∀ b u, s.heap.get? b = some u → h'.get? b = some u) (hp : s.heap.objs.size ≤ a) (new : ObjOk X.prog X.w (upd H a o) h' a o) :
  Inv X pins σ (upd H a o) { s with heap := h', toks := t' } := I.un (Un.laid k hp (I.hok.fresh hp)) (I.hok.laid k hp new)
theorem Inv.write {x e : Addr} {o : HO} {t' : Nat} (I : Inv X pins σ H s) (mu : Mut (H x)) (he : e = x ∨ H e = some (.own x)) (k : ∀ b u, b ≠ e → s.heap.get? b = some u → h'.get? b = some u) (heo : ∃ u, h'.get? e = some u)
  (new : ObjOk X.prog X.w (upd H x o) h' x o) : Inv X pins σ (upd H x o) { s with heap := h', toks := t' } := I.un (Un.write mu he k heo) (I.hok.write mu he k heo new)
theorem Inv.weak {σ' : List (Option V)} (I : Inv X pins σ H s) (hl : σ'.length = σ.length) (w : ∀ (i : Nat) v, σ'[i]? = some (some v) → σ[i]? = some (some v)) : Inv X pins σ' H s :=
 ⟨I.ok, I.os, I.bare, I.base, let ⟨m, hn, hl'⟩ := I.loc; ⟨m, hn, fun i x v e1 e2 e3 => hl' i x v e1 (w i v e2) e3⟩, I.cell, I.free, I.freeC, I.pin, I.hok, hl.trans I.len⟩
theorem Inv.pins_of {pins' : List (Addr × Obj)} (I : Inv X pins σ H s) (h : ∀ p ∈ pins', s.heap.get? p.1 = some p.2 ∧ H p.1 = none ∧ p.1 ≠ X.env.locals ∧ p.1 ∉ X.fs ∧ ∀ v, p.2.data ≠ .cell v) : Inv X pins' σ H s :=
 ⟨I.ok, I.os, I.bare, I.base, I.loc, I.cell, I.free, I.freeC, fun p hp => (List.mem_append.mp hp).elim (fun z => I.pin p (List.mem_append_left _ z)) (h p), I.hok, I.len⟩

theorem nodup_ix {N : List Str} (hN : N.Nodup) {i j : Nat} {x : Str} (a : N[i]? = some x) (b : N[j]? = some x) : i = j := by
 obtain ⟨h1, e1⟩ := List.getElem?_eq_some_iff.mp a
 obtain ⟨h2, e2⟩ := List.getElem?_eq_some_iff.mp b
 exact (List.getElem_inj hN).mp (e1.trans e2.symm)

theorem store_ok2 {M : Model} {A : Around} {E : Value → Shared → Prop} {i : Nat} {x : Str} {v : V} {u : Value} {Q : Unit → Shared → Prop} (I : Inv X pins σ H s) (hN : X.N.Nodup) (hi : X.N[i]? = some x) (hx : Loc X.env.scope x) (r : RelV v u)
  (h : ∀ s', Inv X pins (σ.set i (some v)) H s' → (∃ a, Heap.SameBut a s.heap s'.heap ∧ (a = X.env.locals ∨ X.env.cells.lookup x = some a)) → Q () s') (hf : X.fn x = true ∨ X.env.scope.names.lookup x = some .local := by first | exact .inl rfl | exact .inr rfl | assumption) : wpAny M A (storeName X.env x u) Q E s := by
 obtain ⟨m, hn, hl⟩ := id I.loc
 have hcls : (X.env.scope.kind == .class || (X.env.scope.kind == .module && X.env.locals != X.env.globals)) = false := by rw [I.ok.kind]; rfl
 have hiσ : i < σ.length := by rw [I.len]; exact (List.getElem?_eq_some_iff.mp hi).1
 have cne := I.cne
 have tracked : ∀ {a : Addr} {h' : Heap}, (∃ o, s.heap.get? a = some o ∧ H a = none) → Heap.SameBut a s.heap h' → HOk X.prog X.w H h' := fun {a h'} ha hs b ob e => by
  obtain ⟨_, _, hfree⟩ := ha
  refine (I.hok b ob e).stay (fun c w' hc q => (hs.2 c ?_).trans q) (fun _ q => q) fun _ _ q => q
  rintro rfl
  rcases hc with rfl | hc
  ·rw [hfree] at e; cases e
  ·rw [hfree] at hc; cases hc
 rcases hx with hk | hk
 ·refine wpAny_storeName_local hk hn (fun h' hn' hs => ?_) hcls
  obtain ⟨oL, _, _, hoL, _⟩ := id hn
  refine h _ ⟨I.ok, I.os, I.bare, ⟨fun b o e n hb hx => ?_, fun b o e n hb hx => ?_, I.base.free, fun b o e hx => ?_, I.base.tups, I.base.frzs, I.base.tbls⟩, ⟨_, hn', fun j y v' e1 e2 e3 => ?_⟩, fun y c e => ?_, I.free, I.freeC, fun p hp => ?_, tracked ⟨oL, hoL, I.free⟩ hs, by simpa using I.len⟩ ⟨_, hs, .inl rfl⟩
  ·exact (hs.2 b (Nat.ne_of_lt (Nat.lt_of_lt_of_le (Heap.lt_size e) I.ok.above))).trans (I.base.keep b o e n hb hx)
  ·obtain ⟨sl, e1⟩ := I.base.slot b o e n hb hx
   exact ⟨sl, (hs.2 b (Nat.ne_of_lt (Nat.lt_of_lt_of_le (Heap.lt_size e) I.ok.above))).trans e1⟩
  ·obtain ⟨o', e1⟩ := I.base.there b o e hx
   exact ⟨o', (hs.2 b (Nat.ne_of_lt (Nat.lt_of_lt_of_le (Heap.lt_size e) I.ok.above))).trans e1⟩
  ·by_cases hj : j = i
   ·subst hj
    rw [hi] at e1; cases e1
    rw [List.getElem?_set_self hiσ] at e2
    cases e2
    exact ⟨u, r, .inl ⟨hk, by simp⟩⟩
   ·rw [List.getElem?_set_ne (Ne.symm hj)] at e2
    obtain ⟨u', r', q⟩ := hl j y v' e1 e2 e3
    refine ⟨u', r', ?_⟩
    rcases q with ⟨k, e⟩ | ⟨k, c, e, z⟩
    ·refine .inl ⟨k, ?_⟩
     have : y ≠ x := fun e => hj (nodup_ix hN e1 (e ▸ hi))
     simp [this, e]
    ·exact .inr ⟨k, c, e, z.sameBut hs (cne y c e)⟩
  ·obtain ⟨w', z⟩ := I.cell y c e
   exact ⟨w', z.sameBut hs (cne y c e)⟩
  ·obtain ⟨e, n, ne, nf, d⟩ := I.pin p hp
   exact ⟨(hs.2 p.1 ne).trans e, n, ne, nf, d⟩
 ·have hfn : X.fn x = true := by
   rcases hf with z | z
   ·exact z
   ·rw [z] at hk; cases hk
  obtain ⟨c, hc⟩ := I.ok.has x (.inl hk)
  obtain ⟨w', z⟩ := I.cell x c hc
  refine wpAny_storeName_cell I.ok.kind hk hc z (fun h' hc' hs => ?_)
  obtain ⟨oc, hoc, hocd⟩ := id z
  refine h { s with heap := h' } ⟨I.ok, I.os, I.bare, ⟨fun b o e n hb hx => ?_, fun b o e n hb hx => ?_, I.base.free, fun b o e hx => ?_, I.base.tups, I.base.frzs, I.base.tbls⟩, ⟨m, hn.sameBut hs (Ne.symm (cne x c hc)), fun j y v' e1 e2 e3 => ?_⟩, fun y c' e => ?_, I.free, I.freeC, fun p hp => ?_, tracked ⟨oc, hoc, I.freeC x c hc⟩ hs, by simpa using I.len⟩ ⟨c, hs, .inr hc⟩
  ·exact (hs.2 b (Nat.ne_of_lt (Nat.lt_of_lt_of_le (Heap.lt_size e) (I.ok.cab x c hfn hc)))).trans (I.base.keep b o e n hb hx)
  ·obtain ⟨sl, e1⟩ := I.base.slot b o e n hb hx
   exact ⟨sl, (hs.2 b (Nat.ne_of_lt (Nat.lt_of_lt_of_le (Heap.lt_size e) (I.ok.cab x c hfn hc)))).trans e1⟩
  ·obtain ⟨o', e1⟩ := I.base.there b o e hx
   exact ⟨o', (hs.2 b (Nat.ne_of_lt (Nat.lt_of_lt_of_le (Heap.lt_size e) (I.ok.cab x c hfn hc)))).trans e1⟩
  ·by_cases hj : j = i
   ·subst hj
    rw [hi] at e1; cases e1
    rw [List.getElem?_set_self hiσ] at e2
    cases e2
    exact ⟨u, r, .inr ⟨.inl hk, c, hc, hc'⟩⟩
   ·rw [List.getElem?_set_ne (Ne.symm hj)] at e2
    obtain ⟨u', r', q⟩ := hl j y v' e1 e2 e3
    refine ⟨u', r', ?_⟩
    rcases q with q | ⟨k, c', e, z'⟩
    ·exact .inl q
    ·refine .inr ⟨k, c', e, z'.sameBut hs ?_⟩
     rintro rfl
     exact hj (nodup_ix hN e1 (I.ok.inj _ _ _ e hc ▸ hi))
  ·by_cases hcc : c' = c
   ·subst hcc; exact ⟨_, hc'⟩
   ·obtain ⟨w2, z2⟩ := I.cell y c' e
    exact ⟨w2, z2.sameBut hs hcc⟩
  ·obtain ⟨e, n, ne, nf, d⟩ := I.pin p hp
   refine ⟨(hs.2 p.1 ?_).trans e, n, ne, nf, d⟩
   intro q
   rw [q, hoc] at e
   have q' : oc = p.2 := Option.some.inj e
   exact d w' (by rw [← q']; exact hocd)
theorem store_ok {M : Model} {A : Around} {E : Value → Shared → Prop} {i : Nat} {x : Str} {v : V} {u : Value} {Q : Unit → Shared → Prop} (I : Inv X pins σ H s) (hN : X.N.Nodup) (hi : X.N[i]? = some x) (hx : Loc X.env.scope x) (r : RelV v u)
  (h : ∀ s', Inv X pins (σ.set i (some v)) H s' → Q () s') (hf : X.fn x = true ∨ X.env.scope.names.lookup x = some .local := by first | exact .inl rfl | exact .inr rfl | assumption) : wpAny M A (storeName X.env x u) Q E s :=
 store_ok2 I hN hi hx r (fun s' I' _ => h s' I') hf
theorem Inv.call' {s' : Shared} {ch : List Addr} (I : Inv X pins σ H s) (ho : s'.os = s.os) (u : Un (frs X.stack) ch H H' s.heap s'.heap) (hok : HOk X.prog X.w H' s'.heap) (hg : AllBare s'.gens)
  (hch : ∀ b ∈ ch, (b ∈ X.ex ∨ X.s₀.heap.objs.size ≤ b) ∧ b ≠ X.env.locals ∧ (∀ x c, X.env.cells.lookup x = some c → c ≠ b) ∧ ∀ p ∈ X.pn ++ pins, p.1 ≠ b) : Inv X pins σ H' s' := by
 obtain ⟨h', g', d', t', o'⟩ := s'
 have e : o' = s.os := ho
 subst e
 exact I.call (g' := g') (t' := t') (d' := d') u hok hg hch
end

noncomputable abbrev XK := Value → Option Addr → Hp → Prop
noncomputable abbrev St := List (Option V)
noncomputable abbrev VK := V → Hp → Prop
noncomputable abbrev TE := St → Hp → VK → Prop
noncomputable abbrev TT := St → Hp → (Bool → Hp → Prop) → Prop
noncomputable abbrev TA := St → Hp → (List V → Hp → Prop) → Prop
structure Ends where
 nx : St → Hp → Prop
 rt : VK
 bk : St → Hp → Prop := fun _ _ => False
 ct : St → Hp → Prop := fun _ _ => False
noncomputable abbrev TS := Ends → St → Hp → Prop

noncomputable def EP (X : Cx) (pins : List (Addr × Obj)) (σ : St) (Q : VK) (u : Value) (s' : Shared) : Prop := ∃ v H', Inv X pins σ H' s' ∧ RelV v u ∧ Q v H'
noncomputable def TP (X : Cx) (pins : List (Addr × Obj)) (σ : St) (Q : Bool → Hp → Prop) (b : Bool) (s' : Shared) : Prop := ∃ H', Inv X pins σ H' s' ∧ Q b H'
noncomputable def AP (X : Cx) (pins : List (Addr × Obj)) (σ : St) (Q : List V → Hp → Prop) (us : List Value) (s' : Shared) : Prop := ∃ vs H', Inv X pins σ H' s' ∧ Vals vs us ∧ Q vs H'
noncomputable def SP (X : Cx) (pins : List (Addr × Obj)) (D : Ends) (f : Flow) (s' : Shared) : Prop :=
 match f with
 | .next => ∃ σ' H', Inv X pins σ' H' s' ∧ D.nx σ' H'
 | .brk => ∃ σ' H', Inv X pins σ' H' s' ∧ D.bk σ' H'
 | .cont => ∃ σ' H', Inv X pins σ' H' s' ∧ D.ct σ' H'
 | .ret u => ∃ v σ' H', Inv X pins σ' H' s' ∧ RelV v u ∧ D.rt v H'

noncomputable def PE (X : Cx) (e : Expr) (t : TE) : Prop :=
 ∀ (pins : List (Addr × Obj)) (s : Shared) (σ : St) (H : Hp) (Q : VK), Inv X pins σ H s → t σ H Q → wpAny (model X.prog X.w) X.A (eval e X.env) (EP X pins σ Q) X.xe s
noncomputable def PT (X : Cx) (e : Expr) (t : TT) : Prop :=
 ∀ (pins : List (Addr × Obj)) (s : Shared) (σ : St) (H : Hp) (Q : Bool → Hp → Prop), Inv X pins σ H s → t σ H Q → wpAny (model X.prog X.w) X.A (isTrue e X.env (eval e X.env)) (TP X pins σ Q) X.xe s
noncomputable def PW (X : Cx) (e : Expr) (t : TT) : Prop :=
 ∀ (whole : Sem Value) (pins : List (Addr × Obj)) (s : Shared) (σ : St) (H : Hp) (Q : Bool → Hp → Prop), Inv X pins σ H s → t σ H Q → wpAny (model X.prog X.w) X.A (isTrue e X.env whole) (TP X pins σ Q) X.xe s
theorem PW.pt {X : Cx} {e : Expr} {t : TT} (h : PW X e t) : PT X e t := h _
noncomputable def PA (X : Cx) (es : List Expr) (t : TA) : Prop :=
 ∀ (pos : Pos) (pins : List (Addr × Obj)) (s : Shared) (σ : St) (H : Hp) (Q : List V → Hp → Prop), Inv X pins σ H s → t σ H Q → wpAny (model X.prog X.w) X.A (spliced (backTo pos (starEach es X.env))) (AP X pins σ Q) X.xe s
noncomputable def PS (X : Cx) (st : Stmt) (t : TS) : Prop :=
 ∀ (pins : List (Addr × Obj)) (s : Shared) (σ : St) (H : Hp) (D : Ends), Inv X pins σ H s → t D σ H → wpAny (model X.prog X.w) X.A (exec st X.env) (SP X pins D) X.xe s
noncomputable def PSs (X : Cx) (st : List Stmt) (t : TS) : Prop :=
 ∀ (pins : List (Addr × Obj)) (s : Shared) (σ : St) (H : Hp) (D : Ends), Inv X pins σ H s → t D σ H → wpAny (model X.prog X.w) X.A (execs st X.env) (SP X pins D) X.xe s
theorem thn {α : Type} {t : Sem α} {Q Q' : α → Shared → Prop} {M : Model} {A : Around} {E : Value → Shared → Prop} {s : Shared} (h : wpAny M A t Q E s) (hQ : ∀ a s, Q a s → Q' a s) : wpAny M A t Q' E s := wpAny_mono h hQ fun _ _ x => x
end L2

namespace L2
open PySem PySem.Spec PyProof.Rows
section
variable {X : Cx}

theorem bin {a b : Expr} {ta tb : TE} (ha : PE X a ta) (hb : PE X b tb) {pins : List (Addr × Obj)} {s : Shared} {σ : St} {H : Hp} {R : V → V → Hp → Prop} (I : Inv X pins σ H s) (h : ta σ H fun x H1 => tb σ H1 fun y H2 => R x y H2)
  {α : Type} {Q : α → Shared → Prop} {f : Value → Value → Sem α}
  (hf : ∀ v u s2 x y H2, Inv X pins σ H2 s2 → RelV x v → RelV y u → R x y H2 → wpAny (model X.prog X.w) X.A (f v u) Q X.xe s2) :
  wpAny (model X.prog X.w) X.A (eval a X.env) (fun v s₁ => wpAny (model X.prog X.w) X.A (eval b X.env) (fun u s₂ => wpAny (model X.prog X.w) X.A (f v u) Q X.xe s₂) X.xe s₁) X.xe s := by
 refine thn (ha pins s σ H _ I h) fun v s1 ⟨x, H1, I1, r1, q1⟩ => ?_
 refine thn (hb pins s1 σ H1 _ I1 q1) fun u s2 ⟨y, H2, I2, r2, q2⟩ => ?_
 exact hf v u s2 x y H2 I2 r1 r2 q2

noncomputable def tVar (i : Nat) : TE := fun σ H Q => ∃ v, σ[i]? = some (some v) ∧ Q v H
noncomputable def tC (v : V) : TE := fun _ H Q => Q v H
theorem pe_var {i : Nat} {x : Str} {pos : Pos} (hN : X.N[i]? = some x) (hv : Vis X.env.scope x) (hd : (x == ("__debug__" : Str)) = false := by decide) (hcd : (x == ("__classdict__" : Str)) = false := by decide) : PE X (.Name x pos) (tVar i) := by
 intro pins s σ H Q I h
 obtain ⟨v, e, h⟩ := h
 obtain ⟨m, hn, hl⟩ := I.loc
 obtain ⟨u, r, l⟩ := hl i x v hN e hv
 have fin : EP X pins σ Q u s := ⟨v, H, I, r, h⟩
 rcases l with ⟨hk, hm⟩ | ⟨hk, c, hc, hcell⟩
 ·exact wpAny_Name (wpAny_loadName_local I.ok.kind hk hn hm fin) hd
 ·rcases hk with hk | hk
  ·exact wpAny_Name (wpAny_loadName_cell I.ok.kind hk hc hcell fin) hd
  ·exact wpAny_Name (wpAny_loadName_free I.ok.kind hk hc hcell fin hcd) hd
theorem pe_int {i j pos} : PE X (.Constant (.int i) j pos) (tC (.int i)) := fun _ _ _ H _ I h => wpAny_Constant_int ⟨.int i, H, I.tok _, ⟨_, rfl⟩, h⟩
theorem pe_bl {b j pos} : PE X (.Constant (.bool b) j pos) (tC (.bl b)) := fun _ _ _ H _ I h => Constant_bool ⟨.bl b, H, I, rfl, h⟩

noncomputable def Gl (X : Cx) (x : Str) : Prop := X.env.kindOf x = some .globalImplicit
theorem ld_glob {E : Value → Shared → Prop} {pins : List (Addr × Obj)} {s : Shared} {σ : St} {H : Hp} {x : Str} {u : Value} {pos : Pos} {Q : Value → Shared → Prop} (I : Inv X pins σ H s) (hg : Gl X x) (hm : X.mg x = some u) (h : Q u s)
  (hd : (x == ("__debug__" : Str)) = false := by decide) : wpAny (model X.prog X.w) X.A (eval (.Name x pos) X.env) Q E s :=
 Calls.Name_function_global I.ok.kind hg (Calls.loadGlobal_global (by rw [I.ok.glob]; exact I.mod.glob.keeps I.bk) hm h) hd
theorem ld_blt {E : Value → Shared → Prop} {pins : List (Addr × Obj)} {s : Shared} {σ : St} {H : Hp} {x : Str} {u : Value} {pos : Pos} {Q : Value → Shared → Prop} (I : Inv X pins σ H s) (hg : Gl X x) (hm : X.mg x = none) (hv : bootBuiltins x = some u) (h : Q u s)
  (hn : x ≠ "__name__" := by decide) (hd : (x == ("__debug__" : Str)) = false := by decide) : wpAny (model X.prog X.w) X.A (eval (.Name x pos) X.env) Q E s := by
 obtain ⟨mb, h1, h2⟩ := I.mod.blt
 exact Calls.Name_function_global I.ok.kind hg (Calls.loadGlobal_builtin (by rw [I.ok.glob]; exact I.mod.glob.keeps I.bk) hm (by rw [I.ok.blt]; exact h1.keeps I.bk) ((h2 x hn).trans hv) h) hd
theorem pe_glob {x : Str} {v : V} {u : Value} {pos : Pos} (hg : Gl X x) (hm : X.mg x = some u) (r : RelV v u) (hd : (x == ("__debug__" : Str)) = false := by decide) : PE X (.Name x pos) (tC v) :=
 fun _ _ _ H _ I h => ld_glob I hg hm ⟨v, H, I, r, h⟩ hd
theorem pe_bltn {x : Str} {v : V} {u : Value} {pos : Pos} (hg : Gl X x) (hm : X.mg x = none) (hv : bootBuiltins x = some u) (r : RelV v u) (hn : x ≠ "__name__" := by decide) (hd : (x == ("__debug__" : Str)) = false := by decide) : PE X (.Name x pos) (tC v) :=
 fun _ _ _ H _ I h => ld_blt I hg hm hv ⟨v, H, I, r, h⟩ hn hd

noncomputable def t2I (ta tb : TE) (k : Int → Int → Hp → Prop) : St → Hp → Prop := fun σ H => ta σ H fun x H1 => tb σ H1 fun y H2 => ∃ i j, x = .int i ∧ y = .int j ∧ k i j H2
variable {a b : Expr} {ta tb : TE} {pos : Pos}

noncomputable def PC (X : Cx) (op : CmpOp) (a b : Expr) (t : TE) : Prop :=
 ∀ (pins : List (Addr × Obj)) (s : Shared) (σ : St) (H : Hp) (Q : VK), Inv X pins σ H s → t σ H Q →
  wpAny (model X.prog X.w) X.A (eval a X.env) (fun v s₁ => wpAny (model X.prog X.w) X.A (eval b X.env) (fun u s₂ => wpAny (model X.prog X.w) X.A (compareOp op v u) (EP X pins σ Q) X.xe s₂) X.xe s₁) X.xe s
theorem nobehind (b : Expr) {op : CmpOp} (h : op ≠ .In) (h2 : op ≠ .NotIn) : behindInMarks op b = false := by
 have e1 : (op == CmpOp.In) = false := by cases op <;> first | rfl | exact absurd rfl h
 have e2 : (op == CmpOp.NotIn) = false := by cases op <;> first | rfl | exact absurd rfl h2
 cases b <;> simp [behindInMarks, e1, e2]
noncomputable def tCmp (p : Int → Int → Bool) (ta tb : TE) : TE := fun σ H Q => t2I ta tb (fun i j H2 => Q (.bl (p i j)) H2) σ H
noncomputable abbrev tLt : TE → TE → TE := tCmp fun i j => decide (i < j)
noncomputable abbrev tLe : TE → TE → TE := tCmp fun i j => decide (i ≤ j)
noncomputable abbrev tGt : TE → TE → TE := tCmp fun i j => decide (j < i)
noncomputable abbrev tGe : TE → TE → TE := tCmp fun i j => decide (j ≤ i)
noncomputable abbrev tEqI : TE → TE → TE := tCmp fun i j => decide (i = j)
noncomputable abbrev tNeI : TE → TE → TE := tCmp fun i j => !decide (i = j)
theorem pc_int {op : CmpOp} {p : Int → Int → Bool} (ha : PE X a ta) (hb : PE X b tb)
  (rule : ∀ (i j : Int) (t u : Tok) (Q : Value → Shared → Prop) (s : Shared), Q (.bool (p i j)) s → wpAny (model X.prog X.w) X.A (compareOp op (.int i t) (.int j u)) Q X.xe s) : PC X op a b (tCmp p ta tb) := by
 intro pins s σ H Q I h
 refine bin ha hb I h fun v u s2 x y H2 I2 rx ry q => ?_
 obtain ⟨i, j, rfl, rfl, q⟩ := q
 obtain ⟨t, rfl⟩ := rx
 obtain ⟨t', rfl⟩ := ry
 exact rule i j t t' _ s2 ⟨.bl _, H2, I2, rfl, q⟩
theorem pc_lt (ha : PE X a ta) (hb : PE X b tb) : PC X .Lt a b (tLt ta tb) := pc_int ha hb fun _ _ _ _ _ _ h => lt_int h
theorem pc_gt (ha : PE X a ta) (hb : PE X b tb) : PC X .Gt a b (tGt ta tb) := pc_int ha hb fun _ _ _ _ _ _ h => gt_int h
theorem pc_eqI (ha : PE X a ta) (hb : PE X b tb) : PC X .Eq a b (tEqI ta tb) := pc_int ha hb fun _ _ _ _ _ _ h => eq_int (by rw [Bool.beq_eq_decide_eq]; exact h)
theorem pc_neI (ha : PE X a ta) (hb : PE X b tb) : PC X .NotEq a b (tNeI ta tb) := pc_int ha hb fun _ _ _ _ _ _ h => ne_int (by rw [bne, Bool.beq_eq_decide_eq]; exact h)
noncomputable def tB (t : TE) : TT := fun σ H Q => t σ H fun x H1 => ∃ c, x = .bl c ∧ Q c H1
theorem pt_cmp {op : CmpOp} {t : TE} (h : PC X op a b t) (h1 : behindInMarks op b = false := by first | exact nobehind _ (by decide) (by decide) | rfl) : PT X (.Compare a [op] [b] pos) (tB t) := by
 intro pins s σ H Q I hw
 refine wpAny_isTrue_Compare1 (thn (h pins s σ H _ I hw) fun v s1 h1 => thn h1 fun u s2 h2 => thn h2 fun c s3 ⟨x, H1, I1, r1, q1⟩ => ?_) h1
 obtain ⟨d, rfl, q⟩ := q1
 cases r1
 exact wpAny_truthy_bool ⟨H1, I1, q⟩
theorem pt_val {e : Expr} {t : TE} (h : PE X e t) (he : ∀ whole, isTrue e X.env whole = (do let v ← whole; standAt e.pos; holding [v] (truthy v)) := by intro _; rfl) : PT X e (tB t) := by
 intro pins s σ H Q I hw
 refine isTrue_plain (thn (h pins s σ H _ I hw) fun v s1 ⟨x, H1, I1, r1, q1⟩ => ?_) (he _)
 obtain ⟨d, rfl, q⟩ := q1
 cases r1
 exact wpAny_truthy_bool ⟨H1, I1, q⟩

variable {tA tB' : TT} {rest : List Expr}
noncomputable def tAnd (t u : TT) : TT := fun σ H Q => t σ H fun c H1 => if c = true then u σ H1 Q else Q false H1
noncomputable def tOr (t u : TT) : TT := fun σ H Q => t σ H fun c H1 => if c = true then Q true H1 else u σ H1 Q
noncomputable def tNot (t : TT) : TT := fun σ H Q => t σ H fun c H1 => Q (!c) H1
theorem pw_and1 (ha : PT X a tA) : PW X (.BoolOp .And [a] pos) tA := by
 intro wh pins s σ H Q I h
 refine isTrue_and (thn (ha pins s σ H Q I h) fun c s1 e => ?_)
 cases c with
 | true => exact isTrue_and_nil e
 | false => exact e
theorem pw_or1 (ha : PT X a tA) : PW X (.BoolOp .Or [a] pos) tA := by
 intro wh pins s σ H Q I h
 refine isTrue_or (thn (ha pins s σ H Q I h) fun c s1 e => ?_)
 cases c with
 | false => exact isTrue_or_nil e
 | true => exact e
theorem pw_and (ha : PT X a tA) (hb : PW X (.BoolOp .And (b :: rest) pos) tB') : PW X (.BoolOp .And (a :: b :: rest) pos) (tAnd tA tB') := by
 intro wh pins s σ H Q I h
 refine isTrue_and (thn (ha pins s σ H _ I h) fun c s1 ⟨H1, I1, q1⟩ => ?_)
 cases c with
 | true => exact hb wh pins s1 σ H1 Q I1 q1
 | false => exact ⟨H1, I1, q1⟩
theorem pw_or (ha : PT X a tA) (hb : PW X (.BoolOp .Or (b :: rest) pos) tB') : PW X (.BoolOp .Or (a :: b :: rest) pos) (tOr tA tB') := by
 intro wh pins s σ H Q I h
 refine isTrue_or (thn (ha pins s σ H _ I h) fun c s1 ⟨H1, I1, q1⟩ => ?_)
 cases c with
 | true => exact ⟨H1, I1, q1⟩
 | false => exact hb wh pins s1 σ H1 Q I1 q1
theorem pt_not (ha : PT X a tA) : PT X (.UnaryOp .Not a pos) (tNot tA) := by
 intro pins s σ H Q I h
 exact isTrue_not (ha pins s σ H (fun c H1 => Q (!c) H1) I h)
noncomputable def tAndV (ta tb : TE) : TE := fun σ H Q => ta σ H fun x H1 => ∃ c, x = .bl c ∧ if c = true then tb σ H1 Q else Q (.bl false) H1
theorem pe_one {op} {t : TE} (h : PE X a t) : PE X (.BoolOp op [a] pos) t := fun pins s σ H Q I hw => BoolOp_one (h pins s σ H Q I hw)
theorem pe_and (ha : PE X a ta) (hb : PE X (.BoolOp .And (b :: rest) pos) tb) : PE X (.BoolOp .And (a :: b :: rest) pos) (tAndV ta tb) := by
 intro pins s σ H Q I h
 refine BoolOp_and (thn (ha pins s σ H _ I h) fun v s1 ⟨x, H1, I1, r1, q1⟩ => ?_)
 obtain ⟨c, rfl, q1⟩ := q1
 cases r1
 refine wpAny_truthy_bool ?_
 cases c with
 | true => exact hb pins s1 σ H1 Q I1 q1
 | false => exact ⟨.bl false, H1, I1, rfl, q1⟩
end
end L2

namespace L2
open PySem PySem.Spec PyProof.Rows

noncomputable def SqL (K : PySem.W.Frag) (H : Hp) (a : Addr) (xs : List V) : Prop :=
 Rd H a (.lst xs) ∨
  ∃ (o : Obj) (its : Array Value) (n : Nat), K.lookup a = some o ∧ o.cls = .type "list" ∧ o.dict = none ∧ o.data = .seq its n ∧ its.size ≤ sizeLine ∧ Vals xs its.toList
noncomputable def SqT (K : PySem.W.Frag) (H : Hp) (a : Addr) (xs : List V) : Prop :=
 Rd H a (.tup xs) ∨
  ∃ (o : Obj) (its : Array Value) (n : Nat), K.lookup a = some o ∧ o.cls = .type "tuple" ∧ o.data = .seq its n ∧ its.size ≤ sizeLine ∧ Vals xs its.toList
noncomputable def SqX (K : PySem.W.Frag) (H : Hp) (a : Addr) (xs : List V) : Prop :=
 Rd H a (.lst xs) ∨ ∃ (its : Array Value) (n : Nat), K.lookup a = some { cls := .type "list", data := .seq its n } ∧ its.size ≤ sizeLine ∧ Vals xs its.toList
theorem SqX.sql {K : PySem.W.Frag} {H : Hp} {a : Addr} {xs : List V} (h : SqX K H a xs) : SqL K H a xs := by
 rcases h with h | ⟨its, n, hk, hz, r⟩
 ·exact .inl h
 ·exact .inr ⟨_, its, n, hk, rfl, rfl, rfl, hz, r⟩
theorem SqX.of {K : PySem.W.Frag} {H : Hp} {a : Addr} {xs : List V} (h : H a = some (.lst xs)) : SqX K H a xs := .inl (.inl h)
noncomputable def absV : Value → Option V
 | .none => some .non
 | .bool b => some (.bl b)
 | .int i _ => some (.int i)
 | .str x _ => some (.str x)
 | .bytes b _ => some (.byt b)
 | .float b _ => some (.flt b)
 | .ref a => some (.ref a)
 | .type n => some (.ty n)
 | _ => none
theorem RelV.abs {x : V} {u : Value} (r : RelV x u) : absV u = some x := by
 cases x with
 | non => cases r; rfl
 | bl _ => cases r; rfl
 | int _ => obtain ⟨t, rfl⟩ := r; rfl
 | str _ => obtain ⟨t, rfl⟩ := r; rfl
 | byt _ => obtain ⟨t, rfl⟩ := r; rfl
 | flt _ => obtain ⟨t, rfl⟩ := r; rfl
 | ref _ => cases r; rfl
 | ty _ => cases r; rfl
theorem RelV.inj {x y : V} {u : Value} (r : RelV x u) (q : RelV y u) : x = y := Option.some.inj (r.abs.symm.trans q.abs)
theorem Vals.inj : ∀ {xs ys : List V} {us : List Value}, Vals xs us → Vals ys us → xs = ys
 | _, _, _, .nil, .nil => rfl
 | _, _, _, .cons r t, .cons r' t' => by rw [r.inj r', Vals.inj t t']
section
variable {X : Cx} {pins : List (Addr × Obj)} {σ : St} {H : Hp} {s : Shared} {a : Addr} {xs ys : List V}
theorem SqT.of {K : PySem.W.Frag} (h : H a = some (.tup xs)) : SqT K H a xs := .inl (.inl h)
theorem Inv.list (I : Inv X pins σ H s) (h : SqL X.K H a xs) : ∃ its : List Value, Vals xs its ∧ PlainL s.heap a its.toArray ∧ xs.length ≤ sizeLine := by
 rcases h with h | ⟨o, its, n, hk, hc, hd, hs, hz, r⟩
 ·obtain ⟨z, its, n, r, e⟩ := h.ok I.hok
  exact ⟨its, r, ⟨_, n, e, rfl, rfl, rfl⟩, z⟩
 ·refine ⟨its.toList, r, ⟨o, n, I.kIn a o hk, hc, hd, by simpa using hs⟩, ?_⟩
  have e := r.length
  simp only [Array.length_toList] at e
  omega
theorem Inv.tuple (I : Inv X pins σ H s) (h : SqT X.K H a xs) : ∃ its : List Value, Vals xs its ∧ IsTup s.heap a its.toArray ∧ xs.length ≤ sizeLine := by
 rcases h with h | ⟨o, its, n, hk, hc, hs, hz, r⟩
 ·obtain ⟨z, its, r, p⟩ := h.ok I.hok
  exact ⟨its, r, p, z⟩
 ·refine ⟨its.toList, r, ⟨o, I.kIn a o hk, hc, n, by simpa using hs⟩, ?_⟩
  have e := r.length
  simp only [Array.length_toList] at e
  omega
theorem Inv.list_inj (I : Inv X pins σ H s) (h : SqL X.K H a xs) (h' : SqL X.K H a ys) : xs = ys := by
 obtain ⟨its, r, ⟨o, n, e, _, _, d⟩, _⟩ := I.list h
 obtain ⟨its', r', ⟨o', n', e', _, _, d'⟩, _⟩ := I.list h'
 rw [e] at e'; cases e'
 rw [d] at d'
 injection d' with d1 _
 have : its = its' := by simpa using congrArg Array.toList d1
 subst this
 exact r.inj r'
theorem Inv.tuple_inj (I : Inv X pins σ H s) (h : SqT X.K H a xs) (h' : SqT X.K H a ys) : xs = ys := by
 obtain ⟨its, r, ⟨o, e, _, n, d⟩, _⟩ := I.tuple h
 obtain ⟨its', r', ⟨o', e', _, n', d'⟩, _⟩ := I.tuple h'
 rw [e] at e'; cases e'
 rw [d] at d'
 injection d' with d1 _
 have : its = its' := by simpa using congrArg Array.toList d1
 subst this
 exact r.inj r'
end

noncomputable abbrev Cx.wish (X : Cx) (E : Value → Shared → Prop) : Cx := { X with xe := E }
noncomputable abbrev Cx.nox (X : Cx) : Cx := X.wish fun _ _ => False
section
variable {X : Cx} {pins : List (Addr × Obj)} {σ : St} {H : Hp} {s : Shared} {E : Value → Shared → Prop}
end

section
variable {X : Cx} {st : Stmt} {rest : List Stmt} {t u : TS} {e : Expr} {te : TE} {pos : Pos}
noncomputable def tNext : TS := fun D σ H => D.nx σ H
noncomputable def tSeq (t u : TS) : TS := fun D σ H => t { D with nx := u D } σ H
theorem pss_nil : PSs X [] tNext := fun _ _ σ H _ I h => wpAny_execs_nil ⟨σ, H, I, h⟩
theorem pss_cons (h1 : PS X st t) (h2 : PSs X rest u) : PSs X (st :: rest) (tSeq t u) := by
 intro pins s σ H D I h
 refine wpAny_execs_cons (thn (h1 pins s σ H { D with nx := u D } I h) fun f s1 q => ?_)
 cases f with
 | next =>
  obtain ⟨σ', H', I', q⟩ := q
  exact h2 pins s1 σ' H' D I' q
 | ret v => exact q
 | brk => exact q
 | cont => exact q
theorem pss_one (h1 : PS X st t) : PSs X [st] t := by
 intro pins s σ H D I h
 refine wpAny_execs_cons (thn (h1 pins s σ H D I h) fun f s1 q => ?_)
 cases f with
 | next => exact wpAny_execs_nil q
 | ret v => exact q
 | brk => exact q
 | cont => exact q
theorem Inv.quiet {pins : List (Addr × Obj)} {σ : St} {H : Hp} {s : Shared} (I : Inv X pins σ H s) : interactive X.env = false := by simp [interactive, I.ok.kind]
noncomputable def tDrop (te : TE) : TS := fun D σ H => te σ H fun _ H1 => D.nx σ H1
theorem ps_expr (he : PE X e te) (hs : swapsWith e none pos.line X.env = pure false := by rfl) : PS X (.Expr e pos) (tDrop te) := by
 intro pins s σ H D I h
 exact wpAny_Expr_any (thn (he pins s σ H _ I h) fun v s1 ⟨x, H1, I1, r1, q1⟩ => ⟨σ, H1, I1, q1⟩) I.quiet hs
noncomputable def tRet (te : TE) : TS := fun D σ H => te σ H D.rt
theorem ps_ret (he : PE X e te) : PS X (.Return (some e) pos) (tRet te) := by
 intro pins s σ H D I h
 exact wpAny_Return_some (thn (he pins s σ H _ I h) fun v s1 ⟨x, H1, I1, r1, q1⟩ => ⟨x, σ, H1, I1, r1, q1⟩)
noncomputable def tIfS (c : TT) (t u : TS) : TS := fun D σ H => c σ H fun b H1 => if b = true then t D σ H1 else u D σ H1
theorem ps_if {c : Expr} {a b : List Stmt} {tc : TT} (hc : PT X c tc) (ha : PSs X a t) (hb : PSs X b u) : PS X (.If c a b pos) (tIfS tc t u) := by
 intro pins s σ H D I h
 refine wpAny_If (thn (hc pins s σ H _ I h) fun d s1 ⟨H1, I1, q1⟩ => ?_)
 cases d with
 | true => exact ha pins s1 σ H1 D I1 q1
 | false => exact hb pins s1 σ H1 D I1 q1
end

noncomputable abbrev TG := V → St → Hp → (St → Hp → Prop) → Prop
noncomputable abbrev TGs := List V → St → Hp → (St → Hp → Prop) → Prop
noncomputable def PG (X : Cx) (target : Expr) (t : TG) : Prop :=
 ∀ (pins : List (Addr × Obj)) (s : Shared) (σ : St) (H : Hp) (v : V) (u : Value) (Q : St → Hp → Prop), Inv X pins σ H s → RelV v u → t v σ H Q →
  wpAny (model X.prog X.w) X.A (assign target X.env u) (fun _ s' => ∃ σ' H', Inv X pins σ' H' s' ∧ Q σ' H') X.xe s
noncomputable def PGs (X : Cx) (ts : List Expr) (t : TGs) : Prop :=
 ∀ (pins : List (Addr × Obj)) (s : Shared) (σ : St) (H : Hp) (vs : List V) (us : List Value) (Q : St → Hp → Prop), Inv X pins σ H s → Vals vs us → t vs σ H Q →
  wpAny (model X.prog X.w) X.A (assignInOrder ((assignEach ts X.env).map (·.2)) us) (fun _ s' => ∃ σ' H', Inv X pins σ' H' s' ∧ Q σ' H') X.xe s
noncomputable abbrev TSet := V → V → V → Hp → (Hp → Prop) → Prop
noncomputable abbrev TIp := V → V → Hp → VK → Prop
section
variable {X : Cx} {pos : Pos}
noncomputable def gName (i : Nat) : TG := fun v σ H Q => Q (σ.set i (some v)) H
theorem pg_name {i : Nat} {x : Str} (hN : X.N.Nodup) (hi : X.N[i]? = some x) (hx : Loc X.env.scope x) (hf : X.fn x = true ∨ X.env.scope.names.lookup x = some .local := by first | exact .inl rfl | exact .inr rfl | assumption) : PG X (.Name x pos) (gName i) := by
 intro pins s σ H v u Q I r h
 exact wpAny_assign_Name (store_ok I hN hi hx r (fun s' I' => ⟨_, H, I', h⟩) hf)
noncomputable def gNil : TGs := fun vs σ H Q => vs = [] ∧ Q σ H
noncomputable def gCons (t : TG) (u : TGs) : TGs := fun vs σ H Q => ∃ v r, vs = v :: r ∧ t v σ H fun σ' H' => u r σ' H' Q
theorem pgs_nil : PGs X [] gNil := by
 intro pins s σ H vs us Q I r h
 obtain ⟨e, h⟩ := h
 subst e
 cases r
 exact assignInOrder_nil ⟨σ, H, I, h⟩
theorem pgs_cons {e : Expr} {es : List Expr} {t : TG} {u : TGs} (h1 : PG X e t) (h2 : PGs X es u)
  (hs : (assignEach (e :: es) X.env).map (·.2) = assign e X.env :: (assignEach es X.env).map (·.2) := by rfl) : PGs X (e :: es) (gCons t u) := by
 intro pins s σ H vs us Q I r h
 obtain ⟨v, vr, e1, h⟩ := h
 subst e1
 cases r with
 | cons r rr =>
  rw [hs]
  refine assignInOrder_cons (thn (h1 pins s σ H _ _ _ I r h) fun _ s1 ⟨σ1, H1, I1, q1⟩ => ?_)
  exact h2 pins s1 σ1 H1 _ _ Q I1 rr q1
noncomputable def gTup (K : PySem.W.Frag) (n : Nat) (t : TGs) : TG := fun v σ H Q => ∃ a xs, v = .ref a ∧ SqT K H a xs ∧ xs.length = n ∧ t xs σ H Q
theorem pg_tup {es : List Expr} {k : Nat} {t : TGs} {n : Nat} (hc : X.calm = true) (h : PGs X es t)
  (hn : (assignEach es X.env).length = n := by rfl) (hst : (assignEach es X.env).findIdx? (·.1) = none := by rfl) : PG X (.Tuple es k pos) (gTup X.K n t) := by
 intro pins s σ H v u Q I r hw
 obtain ⟨a, xs, e1, hq, hl, hw⟩ := hw
 subst e1
 cases r
 obtain ⟨its, rv, ht, hz⟩ := I.tuple hq
 refine assign_Tuple_tuple (I.ok.hd hc) ht (by simp [hn, ← hl, rv.length]) hst fun h' hx => ?_
 have I1 : Inv X pins σ H { s with heap := h' } := I.kept (t' := s.toks) fun b o e => hx b o (Nat.ne_of_lt (Heap.lt_size e)) e
 exact h pins _ σ H xs _ Q I1 (by simpa using rv) hw
noncomputable def tAsg (te : TE) (g : TG) : TS := fun D σ H => te σ H fun x H1 => g x σ H1 D.nx
theorem ps_asg {tg e : Expr} {te : TE} {g : TG} (he : PE X e te) (hg : PG X tg g) (hs : swapsWithSole [tg] e pos.line X.env = pure false := by rfl) (hw : swappedStores [tg] e X.env = pure none := by rfl)
  (h1 : (assignEach [tg] X.env).map (·.2) = [assign tg X.env] := by rfl) : PS X (.Assign [tg] e pos) (tAsg te g) := by
 intro pins s σ H D I h
 refine wpAny_Assign_stores (thn (he pins s σ H _ I h) fun v s1 ⟨x, H1, I1, r1, q1⟩ => ?_) hs hw
 rw [h1]
 exact thn (hg pins s1 σ H1 x v _ I1 r1 q1) fun _ s2 q => q
theorem ps_set {i : Nat} {x : Str} {e : Expr} {te : TE} {pos' : Pos} (hN : X.N.Nodup) (hi : X.N[i]? = some x) (hx : Loc X.env.scope x) (he : PE X e te) (hs : swapsWith e (some (.Name x pos')) pos.line X.env = pure false := by rfl) (hf : X.fn x = true ∨ X.env.scope.names.lookup x = some .local := by first | exact .inl rfl | exact .inr rfl | assumption) :
  PS X (.Assign [.Name x pos'] e pos) (tAsg te (gName i)) := by
 intro pins s σ H D I h
 refine wpAny_Assign_Name (thn (he pins s σ H _ I h) fun v s1 ⟨y, H1, I1, r1, q1⟩ => ?_) hs
 exact store_ok I1 hN hi hx r1 (fun s2 I2 => ⟨_, H1, I2, q1⟩) hf
noncomputable def tPar (i j : Nat) (ta : TA) : TS := fun D σ H => ta σ H fun vs H1 => ∃ v w, vs = [v, w] ∧ D.nx ((σ.set i (some v)).set j (some w)) H1
theorem ps_par {i j : Nat} {x y : Str} {a b : Expr} {ta : TA} {px py pt : Pos} {kt k2 pt2} (hc : X.calm = true) (hN : X.N.Nodup) (hi : X.N[i]? = some x) (hj : X.N[j]? = some y) (hij : i ≠ j)
  (hx : X.env.scope.names.lookup x = some .local) (hy : X.env.scope.names.lookup y = some .local) (ha : PA X [a, b] ta)
  (hw : swappedStores [.Tuple [.Name x px, .Name y py] kt pt] (.Tuple [a, b] k2 pt2) X.env = pure (some [x, y]))
  (hs : swapsWithSole [.Tuple [.Name x px, .Name y py] kt pt] (.Tuple [a, b] k2 pt2) pos.line X.env = pure false := by rfl) :
  PS X (.Assign [.Tuple [.Name x px, .Name y py] kt pt] (.Tuple [a, b] k2 pt2) pos) (tPar i j ta) := by
 intro pins s σ H D I h
 rw [exec_Assign_arm]
 refine wpAny_bind (wpAny_standAt ?_)
 rw [hs]
 refine wpAny_bind (wpAny_pure ?_)
 rw [if_neg (by decide)]
 refine wpAny_bind (Tuple_ (thn (ha _ pins s σ H _ I h) fun us s1 ⟨vs, H1, I1, r1, q1⟩ => ?_))
 obtain ⟨v, w, e1, q1⟩ := q1
 subst e1
 obtain ⟨u1, u2, rfl, rv, rw'⟩ : ∃ u1 u2, us = [u1, u2] ∧ RelV v u1 ∧ RelV w u2 := by
  cases r1 with
  | cons p q =>
   cases q with
   | cons p' q' =>
    cases q'
    exact ⟨_, _, rfl, p, p'⟩
 refine wpAny_newObj_type ?_ (by show 2 ≤ sizeLine; decide)
 have I2 : Inv X pins σ H1 { s1 with heap := s1.heap.push { cls := .type "tuple", data := .seq [u1, u2].toArray } } := I1.kept (t' := s1.toks) fun b o e => Heap.get?_push_of_some _ e
 rw [hw]
 refine wpAny_bind (wpAny_pure ?_)
 show wpAny (model X.prog X.w) X.A (do rule "assign.swapped-stores"; let items ← unpackItems (.ref s1.heap.objs.size) 2 none; assignInOrder [fun v => bindName X.env y v, fun v => bindName X.env x v] items.reverse; pure Flow.next) _ _ _
 refine wpAny_bind (wpAny_rule (wpAny_bind (unpackItems_tuple (items := #[u1, u2]) (I.ok.hd hc) (IsTup.new s1.heap _) fun h' hx' => ?_)))
 have I3 := I2.kept (h' := h') (t' := s1.toks) fun b o e => hx' b o (Nat.ne_of_lt (Heap.lt_size e)) e
 show wpAny _ _ (assignInOrder [fun v => bindName X.env y v, fun v => bindName X.env x v] [u2, u1] >>= fun _ => pure Flow.next) _ _ _
 refine wpAny_bind (assignInOrder_cons (wpAny_bindName (store_ok I3 hN hj (.inl hy) rw' (fun s2 I4 => ?_) (.inr hy))))
 refine assignInOrder_cons (wpAny_bindName (store_ok I4 hN hi (.inl hx) rv (fun s3 I5 => assignInOrder_nil (wpAny_pure ?_)) (.inr hx)))
 rw [List.set_comm _ _ (Ne.symm hij)] at I5
 exact ⟨_, H1, I5, q1⟩
end

section
variable {X : Cx} {pos : Pos}
noncomputable def tWhile (c : TT) (tb : TS) : TS := fun D σ H => ∃ W : Nat → St → Hp → Prop, (∃ m, W m σ H) ∧ ∀ m σ H, W m σ H →
 c σ H fun b H1 => if b = true then ∃ N : St → Hp → Prop, (∀ σ' H', N σ' H' → ∃ m', m' < m ∧ W m' σ' H') ∧ tb { D with nx := N, ct := N, bk := D.nx } σ H1 else D.nx σ H1
theorem ps_while {c : Expr} {body : List Stmt} {tc : TT} {tb : TS} (hp : PassesOwn (model X.prog X.w) X.A X.env X.xe) (hc : PT X c tc) (hb : PSs X body tb) : PS X (.While c body [] pos) (tWhile tc tb) := by
 intro pins s σ H D I h
 obtain ⟨W, ⟨m0, w0⟩, turn⟩ := h
 refine wpAny_While (codeAny_whileLoop (fun n s' => ∃ σ' H', Inv X pins σ' H' s' ∧ W n σ' H') ?_ m0 ⟨σ, H, I, w0⟩)
 rintro n s1 ⟨σ1, H1, I1, w1⟩
 refine wpAny_passesOwn hp (thn (hc pins s1 σ1 H1 _ I1 (turn n σ1 H1 w1)) fun b s2 ⟨H2, I2, q2⟩ => ?_)
 cases b with
 | true =>
  obtain ⟨N, hN, q2⟩ := q2
  rw [if_pos rfl]
  refine wpAny_passesOwn hp (thn (hb pins s2 σ1 H2 _ I2 q2) fun f s3 q3 => ?_)
  cases f with
  | next =>
   obtain ⟨σ3, H3, I3, n3⟩ := q3
   obtain ⟨m', hm, w3⟩ := hN σ3 H3 n3
   exact ⟨m', hm, σ3, H3, I3, w3⟩
  | cont =>
   obtain ⟨σ3, H3, I3, n3⟩ := q3
   obtain ⟨m', hm, w3⟩ := hN σ3 H3 n3
   exact ⟨m', hm, σ3, H3, I3, w3⟩
  | brk => exact q3
  | ret v => exact q3
 | false =>
  rw [if_neg Bool.false_ne_true]
  exact wpAny_execs_nil ⟨σ1, H2, I2, q2⟩
end

structure It where
 go : Nat → Hp → Prop
 yld : Nat → Hp → V → Hp → Prop
 stop : Nat → Hp → Prop
noncomputable def FpOk (X : Cx) (pins : List (Addr × Obj)) (H : Hp) (b : Addr) : Prop :=
 H b = none ∧ b ≠ X.env.locals ∧ b ∉ X.fs ∧ (b ∈ X.ex ∨ X.s₀.heap.objs.size ≤ b) ∧ (∀ x c, X.env.cells.lookup x = some c → c ≠ b) ∧ ∀ p ∈ X.pn ++ pins, p.1 ≠ b
theorem Inv.fpOk {X : Cx} {pins : List (Addr × Obj)} {σ : St} {H H' : Hp} {s : Shared} {b : Addr} (I : Inv X pins σ H s) (hb : s.heap.objs.size ≤ b) (hn : H' b = none) : FpOk X pins H' b := by
 refine ⟨hn, Nat.ne_of_gt (Nat.lt_of_lt_of_le I.lt hb), I.nofs hb, .inr (Nat.le_trans I.sz hb), fun x c e z => ?_, fun p hp z => ?_⟩
 ·obtain ⟨v, q⟩ := I.cell x c e
  exact absurd (Nat.lt_of_lt_of_le q.lt (by rw [z]; exact hb)) (Nat.lt_irrefl _)
 ·exact absurd (Nat.lt_of_lt_of_le (Heap.lt_size (I.pin p hp).1) (by rw [z]; exact hb)) (Nat.lt_irrefl _)
structure Turn (P : Program) (w : World) (K : PySem.W.Frag) (tg : Expr) (J : It) (fp : List Addr) (it : Addr) (tn : Nat → Heap → Prop) : Prop where
 mem : it ∈ fp
 obj : ∀ i h, tn i h → ∀ b ∈ fp, ∃ o, h.get? b = some o ∧ ∀ v, o.data ≠ .cell v
 keep : ∀ i h h', tn i h → (∀ b ∈ fp, ∀ o, h.get? b = some o → h'.get? b = some o) → tn i h'
 item : ∀ (X : Cx), X.prog = P → X.w = w → X.K = K → X.calm = true → ∀ (i : Nat) (pins : List (Addr × Obj)) (s : Shared) (σ : St) (H : Hp) (E : Value → Shared → Prop), Inv X pins σ H s → (∀ b ∈ fp, FpOk X pins H b) → tn i s.heap → J.go i H →
  wpAny (model P w) X.A (pyNext (.ref it)) (fun r s1 => ∃ u, r = some u ∧
   wpAny (model P w) X.A (letOwnedTupleGo tg (.ref it) u) (fun _ s2 => ∃ x H', Inv X pins σ H' s2 ∧ RelV x u ∧ J.yld i H x H' ∧ tn (i + 1) s2.heap ∧ ∀ b ∈ fp, H' b = none) E s1) E s
 done : ∀ (X : Cx), X.prog = P → X.w = w → X.K = K → X.calm = true → ∀ (i : Nat) (pins : List (Addr × Obj)) (s : Shared) (σ : St) (H : Hp) (E : Value → Shared → Prop), Inv X pins σ H s → (∀ b ∈ fp, FpOk X pins H b) → tn i s.heap → J.stop i H →
  wpAny (model P w) X.A (pyNext (.ref it)) (fun r s1 => r = none ∧ Inv X pins σ H s1) E s
 self : ∀ (A : Around) (i : Nat) (s : Shared) (Q : Value → Shared → Prop) (E : Value → Shared → Prop), tn i s.heap → Q (.ref it) s → wpAny (model P w) A (pyIter (.ref it)) Q E s
noncomputable abbrev TI := St → Hp → (It → Hp → Prop) → Prop
noncomputable def PIE (X : Cx) (pins : List (Addr × Obj)) (σ : St) (tg : Expr) (R : It → Hp → Prop) (itv : Value) (s2 : Shared) : Prop :=
 ∃ (it : Addr) (fp : List Addr) (tn : Nat → Heap → Prop) (J : It) (H' : Hp), itv = .ref it ∧ Inv X pins σ H' s2 ∧ Turn X.prog X.w X.K tg J fp it tn ∧ tn 0 s2.heap ∧ (∀ b ∈ fp, FpOk X pins H' b) ∧ R J H'
noncomputable def PI (X : Cx) (tg iter : Expr) (wi : TI) : Prop :=
 ∀ (pins : List (Addr × Obj)) (s : Shared) (σ : St) (H : Hp) (R : It → Hp → Prop), Inv X pins σ H s → wi σ H R →
  wpAny (model X.prog X.w) X.A (eval iter X.env) (fun v s1 => wpAny (model X.prog X.w) X.A (pyIter v) (PIE X pins σ tg R) X.xe s1) X.xe s

theorem go_of {M : Model} {A : Around} {E : Value → Shared → Prop} {s : Shared} {tg : Expr} {it : Addr} {u : Value} {o : Obj} {n : String} {vs : Array Value} {Q : Unit → Shared → Prop} (ho : s.heap.get? it = some o) (hc : o.cls = .type n) (hd : o.data = .fields vs)
    (hn : ["enumerate", "zip", "dict_itemiterator", "dict_reverseitemiterator", "odict_iterator", "itertools.zip_longest", "itertools.pairwise"].contains n = false) (hQ : Q () s) : wpAny M A (letOwnedTupleGo tg (.ref it) u) Q E s := by
  unfold letOwnedTupleGo
  cases tg <;> first
    | exact wpAny_pure hQ
    | (cases u <;> first
        | exact wpAny_pure hQ
        | (refine wpAny_bind (wpAny_load ho ?_)
           rw [hc, hd]
           show wpAny M A (if (["enumerate", "zip", "dict_itemiterator", "dict_reverseitemiterator", "odict_iterator", "itertools.zip_longest", "itertools.pairwise"].contains n && vs[0]? == some (rawInt _)) = true then _ else _) Q E s
           rw [if_neg (by intro h; rw [hn, Bool.false_and] at h; cases h)]
           exact wpAny_pure hQ))

noncomputable def Itl (K : PySem.W.Frag) (a : Addr) : It :=
 ⟨fun i H => ∃ xs x, SqL K H a xs ∧ xs[i]? = some x, fun i H x H' => H' = H ∧ ∀ xs, SqL K H a xs → xs[i]? = some x, fun i H => ∃ xs, SqL K H a xs ∧ xs.length ≤ i⟩
noncomputable def Itr (lo : Int) (n : Nat) : It := ⟨fun i _ => i < n, fun i H x H' => H' = H ∧ x = .int (lo + i), fun i _ => n ≤ i⟩
theorem turn_list {P : Program} {w : World} {K : PySem.W.Frag} {tg : Expr} (a it : Addr) : Turn P w K tg (Itl K a) [it] it (fun i h => h.IsListIter it a i) where
 mem := by simp
 obj := fun i h st b hb => by
  have e : b = it := by simpa using hb
  subst e
  obtain ⟨o, e, c, d⟩ := st
  exact ⟨o, e, fun v z => by rw [d] at z; cases z⟩
 keep := fun i h h' st k => st.at fun o e => k it (by simp) o e
 item := by
  intro X hP hw hK hc i pins s σ H E I hf st hg
  subst hP hw hK
  obtain ⟨xs, x, hq, hx⟩ := hg
  obtain ⟨its, rv, p, hz⟩ := I.list hq
  obtain ⟨u, hu, ru⟩ := rv.get hx
  obtain ⟨f0, f1, f2, f3, f4, f5⟩ := hf it (by simp)
  refine wpAny_pyNext_list_item st p.isList (x := u) (by simpa using hu) fun h' st' sb => ?_
  have I1 : Inv X pins σ H { s with heap := h' } := I.turned (t' := s.toks) (fun b o hb e => (sb.2 b hb).trans e) f0 f1 f3 f4 f5
  obtain ⟨o, e, c, d⟩ := id st'
  exact ⟨u, rfl, go_of (s := { s with heap := h' }) e c d (by decide) ⟨x, H, I1, ru, ⟨rfl, fun ys hy => by rw [I.list_inj hy hq]; exact hx⟩, st', fun b hb => (hf b hb).1⟩⟩
 done := by
  intro X hP hw hK hc i pins s σ H E I hf st hg
  subst hP hw hK
  obtain ⟨xs, hq, hx⟩ := hg
  obtain ⟨its, rv, p, hz⟩ := I.list hq
  obtain ⟨f0, f1, f2, f3, f4, f5⟩ := hf it (by simp)
  have hl := rv.length
  exact wpAny_pyNext_list_end (I.ok.hd hc) st p.isList (by simp; omega) fun h' eb => ⟨rfl, I.turned (t' := s.toks) (fun b o hb e => eb b o hb e) f0 f1 f3 f4 f5⟩
 self := fun _ _ _ _ _ st h => wpAny_pyIter_listiter st h
theorem turn_range {P : Program} {w : World} {K : PySem.W.Frag} {tg : Expr} (it : Addr) (lo : Int) (n : Nat) : Turn P w K tg (Itr lo n) [it] it (fun i h => IsRangeIter h it (lo + (i : Nat) * 1) ((n : Int) - (i : Nat)) 1) where
 mem := by simp
 obj := fun i h st b hb => by
  have e : b = it := by simpa using hb
  subst e
  exact ⟨_, st, fun v z => by
   have z' : Data.fields _ = Data.cell v := z
   cases z'⟩
 keep := fun i h h' st k => k it (by simp) _ st
 item := by
  intro X hP hw hK hc i pins s σ H E I hf st hg
  subst hP hw hK
  obtain ⟨f0, f1, f2, f3, f4, f5⟩ := hf it (by simp)
  have W := Walks.range (prog := X.prog) (w := X.w) (I.ok.hd hc) it lo 1 n
  refine W.item i s _ _ hg st fun v h' tk hv st' kk => ?_
  obtain ⟨t, rfl⟩ := hv
  have I1 : Inv X pins σ H { s with heap := h', toks := tk } := I.turned (fun b o hb e => kk b o (by simpa using hb) e) f0 f1 f3 f4 f5
  refine ⟨_, rfl, go_of (s := { s with heap := h', toks := tk }) (n := "range_iterator") st' rfl rfl (by decide) ⟨.int (lo + i), H, I1, ⟨t, ?_⟩, ⟨rfl, rfl⟩, st', fun b hb => (hf b hb).1⟩⟩
  rw [Int.mul_one]
 done := by
  intro X hP hw hK hc i pins s σ H E I hf st hg
  subst hP hw hK
  obtain ⟨f0, f1, f2, f3, f4, f5⟩ := hf it (by simp)
  exact wpAny_pyNext_range_end (I.ok.hd hc) st (by have : n ≤ i := hg; omega) fun h' eb => ⟨rfl, I.turned (t' := s.toks) (fun b o hb e => eb b o hb e) f0 f1 f3 f4 f5⟩
 self := fun _ _ _ _ _ st h => wpAny_pyIter_rangeiter st h
end L2

namespace L2
open PySem PySem.Spec PyProof.Rows
section
variable {X : Cx} {tg : Expr}
noncomputable def iList (K : PySem.W.Frag) (tl : TE) : TI := fun σ H R => tl σ H fun x H1 => ∃ a, x = .ref a ∧ (∃ xs, SqL K H1 a xs) ∧ R (Itl K a) H1
theorem pi_list {l : Expr} {tl : TE} (hl : PE X l tl) : PI X tg l (iList X.K tl) := by
 intro pins s σ H R I h
 refine thn (hl pins s σ H _ I h) fun v s1 ⟨x, H1, I1, r1, q1⟩ => ?_
 obtain ⟨a, e, ⟨xs, hq⟩, q⟩ := q1
 subst e
 cases r1
 obtain ⟨its, rv, p, hz⟩ := I1.list hq
 refine wpAny_pyIter_list p.isList ?_
 refine ⟨s1.heap.objs.size, [s1.heap.objs.size], _, _, H1, rfl, I1.kept (t' := s1.toks) fun b o e => Heap.get?_push_of_some _ e, turn_list a _, ⟨_, Heap.get?_push_size _ rfl, rfl, rfl⟩, fun b hb => ?_, q⟩
 have e : b = s1.heap.objs.size := by simpa using hb
 subst e
 exact I1.fpOk (Nat.le_refl _) (I1.hok.fresh (Nat.le_refl _))
theorem range_it {pins : List (Addr × Obj)} {σ : St} {H : Hp} {s : Shared} {R : It → Hp → Prop} {E : Value → Shared → Prop} {lo hi : Int} {t u v : Tok} {tk : Nat} (I : Inv X pins σ H s) (h1 : -(2 ^ 62) ≤ lo) (h2 : lo < 2 ^ 62) (h3 : -(2 ^ 62) ≤ hi) (h4 : hi < 2 ^ 62)
  (q : R (Itr lo (hi - lo).toNat) H) : wpAny (model X.prog X.w) X.A (pyIter (.ref s.heap.objs.size)) (PIE X pins σ tg R) E { s with heap := s.heap.push { cls := .type "range", data := .fields #[.int lo t, .int hi u, .int 1 v] }, toks := tk } := by
 refine wpAny_pyIter_range (IsRange.new ..) (small_one h1 h2 h3 h4) ?_
 have I1 : Inv X pins σ H { s with heap := s.heap.push { cls := .type "range", data := .fields #[.int lo t, .int hi u, .int 1 v] }, toks := tk } := I.kept fun b o e => Heap.get?_push_of_some _ e
 refine ⟨(s.heap.push { cls := .type "range", data := .fields #[.int lo t, .int hi u, .int 1 v] }).objs.size, [(s.heap.push { cls := .type "range", data := .fields #[.int lo t, .int hi u, .int 1 v] }).objs.size], _, _, H, rfl,
  I1.kept (t' := tk) fun b o e => Heap.get?_push_of_some _ e, turn_range _ lo (hi - lo).toNat, ?_, fun b hb => ?_, q⟩
 ·have e1 : lo + ((0 : Nat) : Int) * 1 = lo := by simp
  have e2 : (((hi - lo).toNat : Nat) : Int) - ((0 : Nat) : Int) = Builtin.Range.rangeSize lo hi 1 := by rw [rangeSize_one]; split <;> omega
  show IsRangeIter _ _ (lo + ((0 : Nat) : Int) * 1) ((((hi - lo).toNat : Nat) : Int) - ((0 : Nat) : Int)) 1
  rw [e1, e2]
  exact Heap.get?_push_size _ rfl
 ·have e : b = (s.heap.push { cls := .type "range", data := .fields #[.int lo t, .int hi u, .int 1 v] }).objs.size := by simpa using hb
  subst e
  exact I1.fpOk (Nat.le_refl _) (I1.hok.fresh (Nat.le_refl _))
noncomputable def iRng1 (ta : TA) : TI := fun σ H R => ta σ H fun vs H1 => ∃ j : Int, vs = [.int j] ∧ -(2 ^ 62) ≤ j ∧ j < 2 ^ 62 ∧ R (Itr 0 j.toNat) H1
theorem pi_range1 {a : Expr} {ta : TA} {p pos : Pos} (hg : Gl X "range") (hm : X.mg "range" = none) (ha : PA X [a] ta) (hs : starEach [a] X.env = [(false, eval a X.env)] := by rfl) : PI X tg (.Call (.Name "range" p) [a] [] pos) (iRng1 ta) := by
 intro pins s σ H R I h
 refine Call_ (ld_blt I hg hm boot_range (PyProof.Rows.callWith_type1 (thn (ha pos pins s σ H _ I h) fun us s1 ⟨vs, H1, I1, r1, q1⟩ => ?_) hs rfl))
 obtain ⟨j, e, q1, q2, q⟩ := q1
 subst e
 cases r1 with
 | cons r rr =>
  cases rr
  obtain ⟨t, rfl⟩ := r
  exact call_range_1 (range_it I1 (by omega) (by omega) q1 q2 (by simpa using q))

noncomputable def tFor (wi : TI) (g : TG) (tb : TS) : TS := fun D σ H => wi σ H fun J H1 => ∃ W : Nat → Nat → St → Hp → Prop, (∃ m, W 0 m σ H1) ∧ ∀ i m σ H, W i m σ H →
 (J.stop i H ∧ D.nx σ H) ∨ (J.go i H ∧ ∃ N : St → Hp → Prop, (∀ σ' H', N σ' H' → ∃ m', m' < m ∧ W (i + 1) m' σ' H') ∧ ∀ x H', J.yld i H x H' → g x σ H' fun σ2 H2 => tb { D with nx := N, ct := N, bk := D.nx } σ2 H2)
noncomputable def pinsAt (fp : List Addr) (h : Heap) : List (Addr × Obj) := fp.filterMap fun b => (h.get? b).map fun o => (b, o)
theorem mem_pinsAt {fp : List Addr} {h : Heap} {b : Addr} {o : Obj} (hb : b ∈ fp) (e : h.get? b = some o) : (b, o) ∈ pinsAt fp h := List.mem_filterMap.mpr ⟨b, hb, by rw [e]; rfl⟩
theorem of_pinsAt {fp : List Addr} {h : Heap} {p : Addr × Obj} (hp : p ∈ pinsAt fp h) : p.1 ∈ fp ∧ h.get? p.1 = some p.2 := by
 obtain ⟨b, hb, e⟩ := List.mem_filterMap.mp hp
 cases q : h.get? b with
 | none => rw [q] at e; cases e
 | some o =>
  rw [q] at e
  have e' : (b, o) = p := Option.some.inj e
  subst e'
  exact ⟨hb, q⟩
theorem Inv.pinned {pins : List (Addr × Obj)} {σ : St} {H : Hp} {s : Shared} {fp : List Addr} (I : Inv X pins σ H s) (hf : ∀ b ∈ fp, FpOk X pins H b) (ho : ∀ b ∈ fp, ∃ o, s.heap.get? b = some o ∧ ∀ v, o.data ≠ .cell v) : Inv X (pins ++ pinsAt fp s.heap) σ H s :=
 I.pins_of fun p hp => (List.mem_append.mp hp).elim (fun z => I.pin p (List.mem_append_right _ z)) fun z => by
  obtain ⟨hb, e⟩ := of_pinsAt z
  obtain ⟨f0, f1, f2, _⟩ := hf p.1 hb
  obtain ⟨o, e', d⟩ := ho p.1 hb
  rw [e] at e'; cases e'
  exact ⟨e, f0, f1, f2, d⟩
theorem Inv.unpinned {pins pl : List (Addr × Obj)} {σ : St} {H : Hp} {s : Shared} (I : Inv X (pins ++ pl) σ H s) : Inv X pins σ H s := I.pins_of fun p hp => I.pin p (List.mem_append_right _ (List.mem_append_left _ hp))
theorem ps_for {iter : Expr} {body : List Stmt} {wi : TI} {g : TG} {tb : TS} {pos : Pos} (hp : PassesOwn (model X.prog X.w) X.A X.env X.xe) (hc : X.calm = true) (hi : PI X tg iter wi) (hg : PG X tg g) (hb : PSs X body tb)
  (hs : ∀ x, foldedSetIterable iter X.env x = pure x := by intro _; rfl) : PS X (.For tg iter body [] pos) (tFor wi g tb) := by
 intro pins s σ H D I h
 refine wpAny_For (thn (hi pins s σ H _ I h) fun v s1 h1 => thn h1 fun itv s2 h2 => ?_) hs
 obtain ⟨it, fp, tn, J, H2, e, I2, T, st2, f2, W, ⟨m0, w0⟩, turn⟩ := h2
 subst e
 have stat : ∀ {H' : Hp}, (∀ b ∈ fp, H' b = none) → ∀ b ∈ fp, FpOk X pins H' b := fun hn b hb => ⟨hn b hb, (f2 b hb).2⟩
 refine codeAny_forLoop_any (fun n s' => ∃ i σ' H', Inv X pins σ' H' s' ∧ tn i s'.heap ∧ (∀ b ∈ fp, H' b = none) ∧ W i n σ' H') ?_ m0 ⟨0, σ, H2, I2, st2, fun b hb => (f2 b hb).1, w0⟩
 rintro n s3 ⟨i, σ3, H3, I3, st3, fr3, w3⟩
 rcases turn i n σ3 H3 w3 with ⟨stop, qn⟩ | ⟨go, N, hN, step⟩
 ·refine wpAny_passesOwn hp (thn (T.done X rfl rfl rfl hc i pins s3 σ3 H3 X.xe I3 (stat fr3) st3 stop) fun r s4 ⟨hr, I4⟩ => ?_)
  subst hr
  exact wpAny_execs_nil ⟨σ3, H3, I4, qn⟩
 ·refine wpAny_passesOwn hp (thn (T.item X rfl rfl rfl hc i pins s3 σ3 H3 X.xe I3 (stat fr3) st3 go) fun r s4 ⟨u, hr, h4⟩ => ?_)
  subst hr
  refine wpAny_passesOwn hp (thn h4 fun _ s5 ⟨x, H5, I5, r5, y5, st5, fr5⟩ => ?_)
  have I5' := I5.pinned (stat fr5) (T.obj _ _ st5)
  refine wpAny_passesOwn hp (thn (hg _ s5 σ3 H5 x u _ I5' r5 (step x H5 y5)) fun _ s6 ⟨σ6, H6, I6, q6⟩ => ?_)
  refine wpAny_passesOwn hp (thn (hb _ s6 σ6 H6 _ I6 q6) fun f s7 q7 => ?_)
  have again : ∀ {σ7 : St} {H7 : Hp}, Inv X (pins ++ pinsAt fp s5.heap) σ7 H7 s7 → N σ7 H7 → ∃ m, m < n ∧ ∃ i σ' H', Inv X pins σ' H' s7 ∧ tn i s7.heap ∧ (∀ b ∈ fp, H' b = none) ∧ W i m σ' H' := fun {σ7 H7} I7 n7 => by
   obtain ⟨m', hm, w7⟩ := hN σ7 H7 n7
   refine ⟨m', hm, i + 1, σ7, H7, I7.unpinned, T.keep _ _ _ st5 fun b hb o e => (I7.pin (b, o) (List.mem_append_right _ (List.mem_append_right _ (mem_pinsAt hb e)))).1, fun b hb => ?_, w7⟩
   obtain ⟨o, e, d⟩ := T.obj _ _ st5 b hb
   exact (I7.pin (b, o) (List.mem_append_right _ (List.mem_append_right _ (mem_pinsAt hb e)))).2.1
  cases f with
  | next => obtain ⟨σ7, H7, I7, n7⟩ := q7; exact again I7 n7
  | cont => obtain ⟨σ7, H7, I7, n7⟩ := q7; exact again I7 n7
  | brk => obtain ⟨σ7, H7, I7, q7⟩ := q7; exact ⟨σ7, H7, I7.unpinned, q7⟩
  | ret v => obtain ⟨x7, σ7, H7, I7, r7, q7⟩ := q7; exact ⟨x7, σ7, H7, I7.unpinned, r7, q7⟩
end

end L2

namespace L2
open PySem PySem.Spec PyProof.Rows

noncomputable abbrev R2 := V → V → Hp → VK → Prop
noncomputable def OpR (X : Cx) (f : Value → Value → Sem Value) (r : R2) : Prop :=
 ∀ (pins : List (Addr × Obj)) (s : Shared) (σ : St) (H : Hp) (x y : V) (v u : Value) (Q : VK), Inv X pins σ H s → RelV x v → RelV y u → r x y H Q →
  wpAny (model X.prog X.w) X.A (f v u) (EP X pins σ Q) X.xe s
noncomputable def UnR (X : Cx) (f : Value → Sem Value) (r : V → Hp → VK → Prop) : Prop :=
 ∀ (pins : List (Addr × Obj)) (s : Shared) (σ : St) (H : Hp) (x : V) (v : Value) (Q : VK), Inv X pins σ H s → RelV x v → r x H Q →
  wpAny (model X.prog X.w) X.A (f v) (EP X pins σ Q) X.xe s
noncomputable def CallR (X : Cx) (f : Value) (r : List V → Hp → VK → Prop) : Prop :=
 ∀ (pins : List (Addr × Obj)) (s : Shared) (σ : St) (H : Hp) (xs : List V) (us : List Value) (Q : VK), Inv X pins σ H s → Vals xs us → r xs H Q →
  wpAny (model X.prog X.w) X.A (call f us) (EP X pins σ Q) X.xe s

noncomputable def tOp (r : R2) (ta tb : TE) : TE := fun σ H Q => ta σ H fun x H1 => tb σ H1 fun y H2 => r x y H2 Q
noncomputable def tUn (r : V → Hp → VK → Prop) (ta : TE) : TE := fun σ H Q => ta σ H fun x H1 => r x H1 Q
noncomputable def rI (C : Int → Int → Prop) (g : Int → Int → V) : R2 := fun x y H Q => ∃ i j, x = .int i ∧ y = .int j ∧ C i j ∧ Q (g i j) H
noncomputable def rI0 (g : Int → Int → V) : R2 := fun x y H Q => ∃ i j, x = .int i ∧ y = .int j ∧ Q (g i j) H
noncomputable def rU (g : Int → V) : V → Hp → VK → Prop := fun x H Q => ∃ i, x = .int i ∧ Q (g i) H

section
variable {X : Cx} {a b c : Expr} {ta tb tc : TE} {pos : Pos}

theorem binT (ha : PE X a ta) (hb : PE X b tb) {pins : List (Addr × Obj)} {s : Shared} {σ : St} {H : Hp} {R : V → V → Hp → Prop} (I : Inv X pins σ H s)
  (h : ta σ H fun x H1 => tb σ H1 fun y H2 => R x y H2) {Q : Value → Shared → Prop} {f : Value → Value → Sem Value}
  (hf : ∀ v u s2 x y H2, Inv X pins σ H2 s2 → RelV x v → RelV y u → R x y H2 → wpAny (model X.prog X.w) X.A (f v u) Q X.xe s2) :
  wpAny (model X.prog X.w) X.A (eval a X.env) (fun v s₁ => wpAny (model X.prog X.w) X.A (eval b X.env) (fun u s₂ => wpAny (model X.prog X.w) X.A (f v u) Q X.xe s₂) X.xe s₁) X.xe s := by
 refine thn (ha pins s σ H _ I h) fun v s1 ⟨x, H1, I1, r1, q1⟩ => ?_
 refine thn (hb pins s1 σ H1 _ I1 q1) fun u s2 ⟨y, H2, I2, r2, q2⟩ => ?_
 exact hf v u s2 x y H2 I2 r1 r2 q2

theorem pe_op {op : Operator} {r : R2} (ho : OpR X (binaryOp op) r) (ha : PE X a ta) (hb : PE X b tb) : PE X (.BinOp a op b pos) (tOp r ta tb) := by
 intro pins s σ H Q I h
 exact wpAny_BinOp (binT ha hb I h fun v u s2 x y H2 I2 rx ry q => ho pins s2 σ H2 x y v u Q I2 rx ry q)
theorem pe_un {op : UnaryOp} {r : V → Hp → VK → Prop} (ho : UnR X (unaryOp op) r) (ha : PE X a ta) : PE X (.UnaryOp op a pos) (tUn r ta) := by
 intro pins s σ H Q I h
 exact UnaryOp_ (thn (ha pins s σ H _ I h) fun v s1 ⟨x, H1, I1, r1, q1⟩ => ho pins s1 σ H1 x v Q I1 r1 q1)

theorem opI {f : Value → Value → Sem Value} {C : Int → Int → Prop} {g : Int → Int → Int}
  (rule : ∀ (i j : Int) (t u : Tok) (s : Shared) (Q : Value → Shared → Prop) (E : Value → Shared → Prop), C i j → Q (.int (g i j) s.toks) { s with toks := s.toks + 1 } → wpAny (model X.prog X.w) X.A (f (.int i t) (.int j u)) Q E s) :
  OpR X f (rI C fun i j => .int (g i j)) := by
 intro pins s σ H x y v u Q I rx ry h
 obtain ⟨i, j, rfl, rfl, hc, q⟩ := h
 obtain ⟨t, rfl⟩ := rx
 obtain ⟨t', rfl⟩ := ry
 exact rule i j t t' s _ _ hc ⟨.int (g i j), H, I.tok _, ⟨_, rfl⟩, q⟩
theorem opI0 {f : Value → Value → Sem Value} {g : Int → Int → Int}
  (rule : ∀ (i j : Int) (t u : Tok) (s : Shared) (Q : Value → Shared → Prop) (E : Value → Shared → Prop), Q (.int (g i j) s.toks) { s with toks := s.toks + 1 } → wpAny (model X.prog X.w) X.A (f (.int i t) (.int j u)) Q E s) :
  OpR X f (rI0 fun i j => .int (g i j)) := by
 intro pins s σ H x y v u Q I rx ry h
 obtain ⟨i, j, rfl, rfl, q⟩ := h
 obtain ⟨t, rfl⟩ := rx
 obtain ⟨t', rfl⟩ := ry
 exact rule i j t t' s _ _ ⟨.int (g i j), H, I.tok _, ⟨_, rfl⟩, q⟩

noncomputable def CPow (i j : Int) : Prop := 0 ≤ j ∧ j ≤ 1000000 ∧ i.natAbs < 2 ^ 64
noncomputable def CMul (i j : Int) : Prop := (-(2 ^ 64) < i ∧ i < 2 ^ 64) ∨ (-(2 ^ 64) < j ∧ j < 2 ^ 64)
theorem CMul.ok {i j : Int} (h : CMul i j) : IntMulOk i j := by
 rcases h with ⟨h1, h2⟩ | ⟨h1, h2⟩
 ·exact .of_left (intBits_le_64 h1 h2)
 ·exact .of_right (intBits_le_64 h1 h2)

theorem op_add : OpR X (binaryOp .Add) (rI0 fun i j => .int (i + j)) := opI0 fun _ _ _ _ _ _ _ q => add_int q
theorem op_sub : OpR X (binaryOp .Sub) (rI0 fun i j => .int (i - j)) := opI0 fun _ _ _ _ _ _ _ q => sub_int q
theorem op_mul : OpR X (binaryOp .Mult) (rI CMul fun i j => .int (i * j)) := opI fun _ _ _ _ _ _ _ hc q => mul_int q hc.ok
theorem op_mod : OpR X (binaryOp .Mod) (rI (fun _ j => 0 < j) fun i j => .int (i % j)) := opI fun i j _ _ _ _ _ hc q => by
 have h1 : (0 : Int) < j := hc
 exact mod_int' (by omega) (by rw [Int.fmod_eq_emod_of_nonneg i (by omega)]; exact q)
theorem op_pow : OpR X (binaryOp .Pow) (rI CPow fun i j => .int (i ^ j.toNat)) := opI fun _ _ _ _ _ _ _ hc q => pow_int_small hc.1 hc.2.1 hc.2.2 q


theorem unI {f : Value → Sem Value} {g : Int → Int}
  (rule : ∀ (i : Int) (t : Tok) (s : Shared) (Q : Value → Shared → Prop) (E : Value → Shared → Prop), Q (.int (g i) s.toks) { s with toks := s.toks + 1 } → wpAny (model X.prog X.w) X.A (f (.int i t)) Q E s) :
  UnR X f (rU fun i => .int (g i)) := by
 intro pins s σ H x v Q I rx h
 obtain ⟨i, rfl, q⟩ := h
 obtain ⟨t, rfl⟩ := rx
 exact rule i t s _ _ ⟨.int (g i), H, I.tok _, ⟨_, rfl⟩, q⟩
theorem un_neg : UnR X (unaryOp .USub) (rU fun i => .int (-i)) := unI fun _ _ _ _ _ q => neg_int q

end

noncomputable def scal : V → V → Bool
 | .non, .non => true | .non, .int _ => true | .int _, .non => true | .non, .bl _ => true | .bl _, .non => true | .non, .str _ => true | .str _, .non => true
 | .int _, .int _ => true | .bl _, .bl _ => true | .str _, .str _ => true | .byt _, .byt _ => true
 | .int _, .str _ => true | .str _, .int _ => true | .bl _, .str _ => true | .str _, .bl _ => true
 | _, _ => false
noncomputable def rEq : R2 := fun x y H Q => scal x y = true ∧ Q (.bl (decide (x = y))) H

theorem dec_int {i j : Int} : decide (V.int i = V.int j) = (i == j) := by
 rw [Bool.eq_iff_iff]
 simp
theorem dec_bl {i j : Bool} : decide (V.bl i = V.bl j) = (i == j) := by
 rw [Bool.eq_iff_iff]
 simp
theorem dec_str {i j : Str} : decide (V.str i = V.str j) = (i == j) := by
 rw [Bool.eq_iff_iff]
 simp
theorem dec_byt {i j : Array UInt8} : decide (V.byt i = V.byt j) = (i.toList == j.toList) := by
 rw [Bool.eq_iff_iff]
 cases i
 cases j
 simp

section
variable {X : Cx} {a b c : Expr} {ta tb tc : TE} {pos : Pos}
theorem fin_bl {pins : List (Addr × Obj)} {σ : St} {H : Hp} {s : Shared} {Q : VK} {k k' : Bool} (I : Inv X pins σ H s) (q : Q (.bl k) H) (e : k = k') : EP X pins σ Q (.bool k') s := by
 subst e
 exact ⟨.bl k, H, I, rfl, q⟩
theorem op_eq : OpR X (compareOp .Eq) rEq := by
 intro pins s σ H x y v u Q I rx ry h
 obtain ⟨hs, q⟩ := h
 cases x with
 | non =>
  cases rx
  cases y with
  | non => cases ry; exact PySem.EqNone.eq_none_none (fin_bl I q (by simp))
  | bl j => cases ry; exact PySem.EqNone.eq_none_bool (fin_bl I q (by simp))
  | int j => obtain ⟨t', rfl⟩ := ry; exact PySem.EqNone.eq_none_int (fin_bl I q (by simp))
  | str j => obtain ⟨t', rfl⟩ := ry; exact PySem.EqNone.eq_none_str (fin_bl I q (by simp))
  | _ => exact absurd (show false = true from hs) Bool.false_ne_true
 | bl i =>
  cases rx
  cases y with
  | non => cases ry; exact PySem.EqNone.eq_bool_none (fin_bl I q (by simp))
  | bl j => cases ry; exact eq_bool (fin_bl I q dec_bl)
  | str j => obtain ⟨t', rfl⟩ := ry; exact PySem.EqMixed.eq_bool_str (fin_bl I q (by simp))
  | _ => exact absurd (show false = true from hs) Bool.false_ne_true
 | int i =>
  obtain ⟨t, rfl⟩ := rx
  cases y with
  | non => cases ry; exact PySem.EqNone.eq_int_none (fin_bl I q (by simp))
  | int j => obtain ⟨t', rfl⟩ := ry; exact eq_int (fin_bl I q dec_int)
  | str j => obtain ⟨t', rfl⟩ := ry; exact PySem.EqMixed.eq_int_str (fin_bl I q (by simp))
  | _ => exact absurd (show false = true from hs) Bool.false_ne_true
 | str i =>
  obtain ⟨t, rfl⟩ := rx
  cases y with
  | non => cases ry; exact PySem.EqNone.eq_str_none (fin_bl I q (by simp))
  | bl j => cases ry; exact PySem.EqMixed.eq_str_bool (fin_bl I q (by simp))
  | int j => obtain ⟨t', rfl⟩ := ry; exact PySem.EqMixed.eq_str_int (fin_bl I q (by simp))
  | str j => obtain ⟨t', rfl⟩ := ry; exact eq_str (fin_bl I q dec_str)
  | _ => exact absurd (show false = true from hs) Bool.false_ne_true
 | byt i =>
  obtain ⟨t, rfl⟩ := rx
  cases y with
  | byt j => obtain ⟨t', rfl⟩ := ry; exact PySem.W.eq_bytes (fin_bl I q dec_byt)
  | _ => exact absurd (show false = true from hs) Bool.false_ne_true
 | _ => cases y <;> exact absurd (show false = true from hs) Bool.false_ne_true





theorem pe_cmpR {op : CmpOp} {r : R2} (ho : OpR X (compareOp op) r) (ha : PE X a ta) (hb : PE X b tb) (hm : behindInMarks op b = false) : PE X (.Compare a [op] [b] pos) (tOp r ta tb) := by
 intro pins s σ H Q I h
 exact wpAny_Compare1 (binT ha hb I h fun v u s2 x y H2 I2 rx ry q => ho pins s2 σ H2 x y v u Q I2 rx ry q) hm
noncomputable def tTest (t : TE) : TT := fun σ H Q => t σ H fun x H' => ∃ k, x = .bl k ∧ Q k H'
theorem pt_cmpR {op : CmpOp} {r : R2} (ho : OpR X (compareOp op) r) (ha : PE X a ta) (hb : PE X b tb) (hm : behindInMarks op b = false) : PT X (.Compare a [op] [b] pos) (tTest (tOp r ta tb)) := by
 intro pins s σ H Q I h
 refine wpAny_isTrue_Compare1 (thn (ha pins s σ H _ I h) fun v s1 ⟨x, H1, I1, r1, q1⟩ => thn (hb pins s1 σ H1 _ I1 q1) fun u s2 ⟨y, H2, I2, r2, q2⟩ =>
  thn (ho pins s2 σ H2 x y v u _ I2 r1 r2 q2) fun c s3 ⟨z, H3, I3, r3, k, e, q3⟩ => ?_) hm
 subst e
 cases r3
 exact wpAny_truthy_bool ⟨H3, I3, q3⟩

theorem line63 : (sizeLine : Nat) < 2 ^ 63 := by rw [sizeLine_eq]; decide



theorem vals1 {x : V} {us : List Value} (r : Vals [x] us) : ∃ u, us = [u] ∧ RelV x u := by
 cases r with
 | cons r1 r2 => cases r2; exact ⟨_, rfl, r1⟩
theorem vals2 {x y : V} {us : List Value} (r : Vals [x, y] us) : ∃ u w', us = [u, w'] ∧ RelV x u ∧ RelV y w' := by
 cases r with
 | cons r1 r2 =>
  cases r2 with
  | cons r3 r4 => cases r4; exact ⟨_, _, rfl, r1, r3⟩
theorem call_abs : CallR X (.builtin "abs") (fun xs H Q => ∃ i, xs = [.int i] ∧ Q (.int (if i < 0 then -i else i)) H) := by
 intro pins s σ H xs us Q I r h
 obtain ⟨i, rfl, q⟩ := h
 obtain ⟨u, rfl, t, rfl⟩ := vals1 r
 exact call_abs_int fun u tk => ⟨.int (if i < 0 then -i else i), H, I.tok _, ⟨_, rfl⟩, q⟩
end
end L2

namespace L2
open PySem PySem.Spec PyProof.Rows

structure ObjM (h : Heap) (x dx C : Addr) (mA : Str → Option Value) : Prop where
 obj : h.get? x = some (PySem.W.instObj C dx)
 ns : h.Ns1 dx mA
 ne : dx ≠ x

theorem lookIn_ns {h : Heap} {dx : Addr} {mA : Str → Option Value} (n : h.Ns1 dx mA) : ∃ od, h.get? dx = some od ∧ ∀ name, PySem.W.lookIn name od = some (mA name) := by
 obtain ⟨o, es, ep, ho, hd, hk, _, hm⟩ := n
 refine ⟨o, ho, fun name => ?_⟩
 have e := hm name
 unfold nsFind findBy at e
 rw [← Array.find?_toList] at e
 unfold PySem.W.lookIn
 rw [hd]
 dsimp only
 split
 ·rename_i y q
  rw [q] at e
  exact congrArg some e
 ·rename_i q
  rw [q] at e
  have a : es.toList.any (·.refKey) = false := by
   rw [List.any_eq_false]
   intro y hy
   obtain ⟨z, t, hkey⟩ := hk y (Array.mem_toList_iff.mp hy)
   simp [DictEntry.refKey, hkey]
  have a' : ¬ es.toList.any (·.refKey) = true := by rw [a]; exact Bool.false_ne_true
  rw [if_neg a']
  exact congrArg some e

theorem ObjM.look {h : Heap} {x dx C : Addr} {mA : Str → Option Value} (I : ObjM h x dx C mA) : ∃ od, PySem.W.InstAt h x (PySem.W.instObj C dx) C (some od) ∧ ∀ name, PySem.W.lookIn name od = some (mA name) :=
 let ⟨od, ho, hl⟩ := lookIn_ns I.ns
 ⟨od, ⟨I.obj, rfl, rfl, ho⟩, hl⟩

section
variable {prog : Program} {w : World} {A : Around} {E : Value → Shared → Prop} {s : Shared} {K : PySem.W.Frag} {x dx C f : Addr} {mA : Str → Option Value} {name : Str} {v : Value}





end


theorem RelO.some_of {v : V} {o : Option Value} (r : RelO (some v) o) : ∃ u, o = some u ∧ RelV v u := by
 cases o with
 | none => exact (show False from r).elim
 | some u => exact ⟨u, rfl, r⟩

section
variable {P : Program} {w : World} {H H' : Hp} {h h' : Heap} {a C dx : Addr} {fs fs' : List (Str × V)}
theorem ins_get (hok : HOk P w H h) (e : H a = some (.ins C dx fs)) : ∃ mA, ObjM h a dx C mA ∧ (∀ f, RelO (fs.lookup f) (mA f)) ∧ PySem.Within mA (fs.map (·.1)) ∧ fs.length ≤ 1000 ∧ H dx = some (.own a) := by
 obtain ⟨d, z, ne, ob, mA, n, r, q⟩ := (show ObjOk P w H h a (.ins C dx fs) from hok a _ e)
 exact ⟨mA, ⟨ob, n, ne⟩, r, q, z, d⟩
end

structure Cls (K : PySem.W.Frag) (C : Addr) : Prop where
 pg : PySem.W.plainGet K C Str.empty = true
 hd : PySem.W.hasDictIn K C = true
 po : PySem.W.plainOver K C = true
 sa : PySem.W.findIn K (.ref C) "__setattr__" = some (some (.builtin "object.__setattr__"))
theorem Cls.get {K : PySem.W.Frag} {C : Addr} (c : Cls K C) (f : Str) : PySem.W.plainGet K C f = true := c.pg
structure Con (K : PySem.W.Frag) (C : Addr) (f : Str) (v : V) (u : Value) : Prop where
 at_ : PySem.W.findIn K (.ref C) f = some (some u)
 rel : RelV v u
 get : PySem.W.specialIn K u "__get__" = some none
 cp : PySem.W.copiedNames.contains f = false
structure Meth (K : PySem.W.Frag) (C : Addr) (m : Str) (f : Addr) : Prop where
 at_ : PySem.W.findIn K (.ref C) m = some (some (.ref f))
 fn : PySem.W.isFn K (.ref f) = true
 kp : PySem.W.keepIn K (.ref f) = true

section
variable {X : Cx} {pins : List (Addr × Obj)} {σ : St} {H : Hp} {s : Shared} {a C dx : Addr} {fs : List (Str × V)} {f : Str} {v : V} {A : Around} {E : Value → Shared → Prop}






end


section
variable {X : Cx} {o e value : Expr} {f : Str} {pos pos' tpos : Pos} {ta tv : TE}

end

section
variable {X : Cx} {pins : List (Addr × Obj)} {σ : St} {H : Hp} {s : Shared} {A : Around} {E : Value → Shared → Prop} {Q : Value → Shared → Prop} {c : Value} {b : Bool}
inductive TyOf (K : PySem.W.Frag) (H : Hp) : V → Value → Prop where
 | non : TyOf K H .non (.type "NoneType")
 | bl (x : Bool) : TyOf K H (.bl x) (.type "bool")
 | int (i : Int) : TyOf K H (.int i) (.type "int")
 | str (x : Str) : TyOf K H (.str x) (.type "str")
 | flt (x : UInt64) : TyOf K H (.flt x) (.type "float")
 | lst {a : Addr} {xs : List V} (e : H a = some (.lst xs)) : TyOf K H (.ref a) (.type "list")
 | frz {a : Addr} {o : Obj} {xs : List V} (e : H a = some (.frz o (.lst xs))) : TyOf K H (.ref a) (.type "list")
 | tup {a : Addr} {xs : List V} (e : H a = some (.tup xs)) : TyOf K H (.ref a) (.type "tuple")
 | dK {a : Addr} {kvs : List (Key × V)} (e : H a = some (.dK kvs)) : TyOf K H (.ref a) (.type "dict")
 | dT {a : Addr} {kvs : List (List Key × V)} (e : H a = some (.dT kvs)) : TyOf K H (.ref a) (.type "dict")
 | ins {a C dx : Addr} {fs : List (Str × V)} (e : H a = some (.ins C dx fs)) (cl : Cls K C) (ha : PySem.W.findIn K (.ref C) "__class__" = some (some (.builtin "object.__class__")))
   (hn : PySem.W.specialIn K (.builtin "object.__class__") "__get__" = some (some (.builtin "getset_descriptor.__get__"))) (htk : PySem.W.takesIn K (.builtin "object.__class__") = some true)
   (hm : PySem.W.mroIn K C (.type "object") = some true) : TyOf K H (.ref a) (.ref C)
end
end L2

namespace L2
open PySem PySem.Spec PyProof.Rows

structure Room (k : Nat) (A : Around) : Prop where
 hd : A.handled = none
 dp : A.depth + 3 * k + 5 < recursionLimit
 un : A.units + 16 * k + 200 < cLine
 gd : A.guards = some []
theorem Room.mono {j k : Nat} {A : Around} (r : Room k A) (h : j ≤ k) : Room j A := ⟨r.hd, by have := r.dp; omega, by have := r.un; omega, r.gd⟩
theorem Room.deeper {k : Nat} {A : Around} (r : Room (k + 1) A) (env : Env) : Room k (A.deeper env) :=
 ⟨r.hd, by have := r.dp; show A.depth + 1 + 3 * k + 5 < _; omega, by have := r.un; show A.units + 3 + 16 * k + 200 < _; omega, r.gd⟩
theorem Room.depth {k : Nat} {A : Around} (r : Room k A) : A.depth < recursionLimit := by have := r.dp; omega
theorem Room.units {k : Nat} {A : Around} (r : Room k A) : A.units + 64 < cLine := by have := r.un; omega

noncomputable def tNil : TA := fun _ H Q => Q [] H
noncomputable def tCons (ta : TE) (tr : TA) : TA := fun σ H Q => ta σ H fun x H1 => tr σ H1 fun xs H2 => Q (x :: xs) H2
section
variable {X : Cx} {e : Expr} {es : List Expr} {te : TE} {t : TA} {pos : Pos}
theorem pa_nil : PA X [] tNil := fun _ _ _ _ H Q I h => Calls.spliced_nil ⟨[], H, I, .nil, h⟩
theorem pa_cons (ha : PE X e te) (hr : PA X es t) (hs : starEach (e :: es) X.env = (false, eval e X.env) :: starEach es X.env := by rfl) : PA X (e :: es) (tCons te t) := by
 intro pos pins s σ H Q I h
 rw [hs]
 show wpAny _ _ (spliced ((false, eval e X.env) :: backTo pos (starEach es X.env))) _ _ s
 refine Calls.spliced_cons (thn (ha pins s σ H _ I h) fun u s1 ⟨x, H1, I1, r1, q1⟩ => ?_)
 exact thn (hr pos pins s1 σ H1 _ I1 q1) fun us s2 ⟨xs, H2, I2, r2, q2⟩ => ⟨x :: xs, H2, I2, .cons r1 r2, q2⟩

noncomputable def tTup (t : TA) : TE := fun σ H Q => t σ H fun xs H1 => xs.length ≤ sizeLine ∧ ∀ p, H1 p = none → Q (.ref p) (upd H1 p (.tup xs))
noncomputable def tLst (t : TA) : TE := fun σ H Q => t σ H fun xs H1 => xs.length ≤ sizeLine ∧ ∀ p, H1 p = none → Q (.ref p) (upd H1 p (.lst xs))
theorem pe_tup {x1} (h : PA X es t) : PE X (.Tuple es x1 pos) (tTup t) := by
 intro pins s σ H Q I hq
 refine wpAny_Tuple_spliced (thn (h pos pins s σ H _ I hq) fun us s1 ⟨xs, H1, I1, r, z, q⟩ => ⟨by rw [← r.length]; exact z, ?_⟩)
 have hf : H1 s1.heap.objs.size = none := I1.hok.fresh (Nat.le_refl _)
 refine ⟨.ref s1.heap.objs.size, upd H1 s1.heap.objs.size (.tup xs), I1.laid (t' := s1.toks) (fun b u e => Heap.get?_push_of_some _ e) (Nat.le_refl _) ?_, rfl, q _ hf⟩
 exact ⟨z, us, r, ⟨_, Heap.get?_push_size _ rfl, rfl, _, rfl⟩⟩
theorem pe_lst (h : PA X es t) : PE X (.List es pos) (tLst t) := by
 intro pins s σ H Q I hq
 refine wpAny_List_spliced (thn (h pos pins s σ H _ I hq) fun us s1 ⟨xs, H1, I1, r, z, q⟩ => ⟨by rw [← r.length]; exact z, ?_⟩)
 have hf : H1 s1.heap.objs.size = none := I1.hok.fresh (Nat.le_refl _)
 refine ⟨.ref s1.heap.objs.size, upd H1 s1.heap.objs.size (.lst xs), I1.laid (t' := s1.toks) (fun b u e => Heap.get?_push_of_some _ e) (Nat.le_refl _) ?_, rfl, q _ hf⟩
 exact ⟨z, us, 0, r, Heap.get?_push_size _ rfl⟩
end

noncomputable abbrev Sp := List V → Hp → VK → XK → Prop
noncomputable abbrev CXT := List Env → Hp → Shared → XK → Value → Shared → Prop

structure Env0 (P : Program) (w : World) (K : PySem.W.Frag) (mg : Str → Option Value) (base : Heap) (A : Around) (outer : List Env) (s : Shared) (H : Hp) : Prop where
 frames : A.frames = some outer
 mod : Mod K mg base
 bs : ∀ b o, base.get? b = some o → s.heap.get? b = some o ∧ H b = none
 bsz : base.objs.size ≤ s.heap.objs.size
 funs : s.heap.FunFrames base outer
 frf : ∀ b ∈ frs outer, H b = none
 hok : HOk P w H s.heap
 bare : AllBare s.gens
noncomputable def CE (outer : List Env) (P : Program) (w : World) (H : Hp) (s : Shared) (Q : VK) (u : Value) (s' : Shared) : Prop :=
 ∃ v H', s'.os = s.os ∧ AllBare s'.gens ∧ Un (frs outer) [] H H' s.heap s'.heap ∧ HOk P w H' s'.heap ∧ RelV v u ∧ Q v H'
noncomputable def CR (CX : CXT) (outer : List Env) (P : Program) (w : World) (H : Hp) (s : Shared) (Q : VK) (E : XK) (r : Result) (s' : Shared) : Prop :=
 match r with
 | .ok (.ret u) => CE outer P w H s Q u s'
 | .ok _ => False
 | .error e => CX outer H s E e s'
structure FnOk (P : Program) (w : World) (K : PySem.W.Frag) (mg : Str → Option Value) (base : Heap) (CX : CXT) (k : Nat) (f : Addr) (fd : FuncData) (ps : List Str) (sp : Sp) : Prop where
 len : ∀ vs H Q E, sp vs H Q E → vs.length = ps.length
 run : ∀ (A : Around) (outer : List Env) (s : Shared) (H : Hp) (args : Args) (us : List Value) (vs : List V) (Q : VK) (E : XK), Room k A → Env0 P w K mg base A outer s H → BindsTo s fd args (ps.zip us) → Vals vs us → sp vs H Q E →
  codeAny (model P w) A (.call (.ref f) args) (CR CX outer P w H s Q E) s
theorem FnOk.imp {P : Program} {w : World} {K : PySem.W.Frag} {mg : Str → Option Value} {base : Heap} {CX : CXT} {k : Nat} {f : Addr} {fd : FuncData} {ps : List Str} {sp sp' : Sp} (F : FnOk P w K mg base CX k f fd ps sp)
  (h : ∀ vs H Q E, sp' vs H Q E → sp vs H Q E) : FnOk P w K mg base CX k f fd ps sp' :=
 ⟨fun vs H Q E q => F.len vs H Q E (h _ _ _ _ q), fun A outer s H args us vs Q E hr he hb hv hs => F.run A outer s H args us vs Q E hr he hb hv (h _ _ _ _ hs)⟩


section
variable {X : Cx} {pins : List (Addr × Obj)} {σ : St} {H : Hp} {s s' : Shared}
theorem Inv.env0 (I : Inv X pins σ H s) : Env0 X.prog X.w X.K X.mg X.base X.A X.stack s H :=
 ⟨I.ok.frames, I.ok.mod, I.bs, Nat.le_trans I.ok.bsz I.sz, I.stack, I.stkFree, I.hok, I.bare⟩
theorem Inv.after {Q : VK} {u : Value} (I : Inv X pins σ H s) (h : CE X.stack X.prog X.w H s Q u s') : EP X pins σ Q u s' := by
 obtain ⟨v, H', os, bare, un, hok, r, q⟩ := h
 obtain ⟨hh, g, d, t, os'⟩ := s'
 obtain rfl : os' = s.os := os
 exact ⟨v, H', I.call (h' := hh) (g' := g) (d' := d) (t' := t) (ch := []) un hok bare (fun b z => absurd z (by simp)), r, q⟩
end

noncomputable def tCall (sp : Sp) (dvs : List V) (E : XK) (t : TA) : TE := fun σ H Q => t σ H fun vs H1 => sp (vs ++ dvs) H1 Q E

noncomputable def Binds (K : PySem.W.Frag) (fd : FuncData) (ps : List Str) (ds : List Value) : Prop :=
 ∀ (s : Shared) (us : List Value), K.In s.heap → (us ++ ds).length = ps.length → BindsTo s fd ⟨us, []⟩ (ps.zip (us ++ ds))
theorem Binds.all {K : PySem.W.Frag} {fd : FuncData} {ps : List Str} (h : ∀ us : List Value, us.length = ps.length → bindArgs fd ⟨us, []⟩ = pure (ps.zip us)) : Binds K fd ps [] := fun s us _ hl => by
 rw [List.append_nil] at hl ⊢
 exact .of_eq (h us hl)

noncomputable def Passes (CX : CXT) (X : Cx) (E : XK) : Prop := ∀ (pins : List (Addr × Obj)) (σ : St) (H : Hp) (s : Shared) (e : Value) (s' : Shared), Inv X pins σ H s → CX X.stack H s E e s' → X.xe e s'

section
variable {X : Cx} {CX : CXT} {k : Nat} {f C : Addr} {fd : FuncData} {ps : List Str} {sp : Sp} {dvs : List V} {ds : List Value} {E : XK} {x m : Str} {p pos apos : Pos} {e o : Expr} {es : List Expr} {ta : TE} {t : TA}

theorem run_fn {pins : List (Addr × Obj)} {σ : St} {H : Hp} {s : Shared} {Q : VK} {us : List Value} {vs : List V} (F : FnOk X.prog X.w X.K X.mg X.base CX k f fd ps sp) (hr : Room k X.A) (hb : Binds X.K fd ps ds) (hd : Vals dvs ds) (hx : Passes CX X E)
  (I : Inv X pins σ H s) (r : Vals vs us) (h : sp (vs ++ dvs) H Q E) : wpAny (model X.prog X.w) X.A (call (.ref f) us) (EP X pins σ Q) X.xe s := by
 have r2 : Vals (vs ++ dvs) (us ++ ds) := r.append hd
 have hl : (us ++ ds).length = ps.length := by rw [← r2.length]; exact F.len _ _ _ _ h
 refine wpAny_call (codeAny_mono (F.run X.A X.stack s H ⟨us, []⟩ (us ++ ds) (vs ++ dvs) Q E hr I.env0 (hb s us I.kIn hl) r2 h) fun r s' hq => ?_)
 cases r with
 | error e => exact hx pins σ H s e s' I hq
 | ok fl =>
  cases fl with
  | ret u => exact I.after hq
  | next => exact False.elim hq
  | brk => exact False.elim hq
  | cont => exact False.elim hq

theorem pe_call (F : FnOk X.prog X.w X.K X.mg X.base CX k f fd ps sp) (hr : Room k X.A) (hg : Gl X x) (hm : X.mg x = some (.ref f)) (hk : PySem.W.keepIn X.K (.ref f) = true) (hb : Binds X.K fd ps ds) (hd : Vals dvs ds) (hx : Passes CX X E)
  (ha : PA X (e :: es) t) (hdb : (x == ("__debug__" : Str)) = false := by decide) (he : starEach (e :: es) X.env = (false, eval e X.env) :: starEach es X.env := by rfl) (hpl : (backTo pos (starEach es X.env)).any (·.1) = false := by rfl) :
  PE X (.Call (.Name x p) (e :: es) [] pos) (tCall sp dvs E t) := by
 intro pins s σ H Q I h
 refine wpAny_Call_Name_kw (ld_glob I hg hm ?_ hdb)
 refine PySem.W.callWith_K (h₀ := X.base) I.ok.mod.kin hk (thn (ha pos pins s σ H _ I h) fun us s1 ⟨vs, H1, I1, r, q⟩ => ⟨I1.kIn, ?_⟩) he hpl
 exact run_fn F hr hb hd hx I1 r q


structure Mk (K : PySem.W.Frag) (C f : Addr) : Prop where
 makes : PySem.W.makesIn K C = true
 init : PySem.W.findIn K (.ref C) "__init__" = some (some (.ref f))
 fn : PySem.W.isFn K (.ref f) = true
 kp : PySem.W.keepIn K (.ref C) = true

end

section
variable {X : Cx} {CX : CXT} {k : Nat} {f C : Addr} {fd : FuncData} {ps ks : List Str} {sp : Sp} {E : XK} {x m : Str} {p pos apos kpos : Pos} {e o : Expr} {es : List Expr} {kws : List Keyword} {te ta : TE} {t tk : TA} {nm : Option Str}

structure KBinds (K : PySem.W.Frag) (fd : FuncData) (ps ks : List Str) (g : List Value → List Value → List Value) (gV : List V → List V → List V) : Prop where
 to : ∀ (s : Shared) (us ws : List Value), K.In s.heap → (g us ws).length = ps.length → BindsTo s fd ⟨us, ks.zip ws⟩ (ps.zip (g us ws))
 rel : ∀ {vs : List V} {us : List Value} {zs : List V} {ws : List Value}, Vals vs us → Vals zs ws → Vals (gV vs zs) (g us ws)
variable {g : List Value → List Value → List Value} {gV : List V → List V → List V}
end

structure FnScope (N P : List Str) (sc : Scope) : Prop where
 kind : sc.kind = .function
 co : sc.isCoroutine = false
 gen : sc.isGenerator = false
 nd : N.Nodup
 pre : N.take P.length = P
 par : ∀ x ∈ P, sc.names.lookup x = some .local ∨ sc.names.lookup x = some .cell
 nofree : ∀ y ∈ sc.names, y.2 ≠ .free

theorem bindL_out {kindOf : Str → Option NameKind} {x : Str} : ∀ {binds : List (Str × Value)} {m : Str → Option Value}, (∀ v, (x, v) ∉ binds) → bindL kindOf binds m x = m x
 | [], _, _ => rfl
 | (n, v) :: r, m, h => by
  unfold bindL
  rw [bindL_out fun w hw => h w (List.mem_cons_of_mem _ hw)]
  split
  ·have : x ≠ n := by rintro rfl; exact h v List.mem_cons_self
   simp [this]
  ·rfl
theorem bindC_out {kindOf : Str → Option NameKind} {x : Str} : ∀ {binds : List (Str × Value)} {m : Str → Option Value}, (∀ v, (x, v) ∉ binds) → bindC kindOf binds m x = m x
 | [], _, _ => rfl
 | (n, v) :: r, m, h => by
  unfold bindC
  rw [bindC_out fun w hw => h w (List.mem_cons_of_mem _ hw)]
  split
  ·rfl
  ·have : x ≠ n := by rintro rfl; exact h v List.mem_cons_self
   simp [this]
theorem bindL_get {kindOf : Str → Option NameKind} {x : Str} {v : Value} : ∀ {P : List Str} {vs : List Value} {i : Nat} {m : Str → Option Value}, P.Nodup → P[i]? = some x → vs[i]? = some v → kindOf x = some .local →
  bindL kindOf (P.zip vs) m x = some v
 | [], _, _, _, _, h, _, _ => by simp at h
 | _ :: _, [], _, _, _, _, h, _ => by simp at h
 | p :: P, w :: vs, 0, m, nd, h1, h2, hk => by
  simp at h1 h2; subst h1; subst h2
  show bindL kindOf ((p, w) :: P.zip vs) m p = _
  unfold bindL
  rw [bindL_out fun v hv => (List.nodup_cons.mp nd).1 (List.of_mem_zip hv).1, if_pos hk]
  simp
 | p :: P, w :: vs, i + 1, m, nd, h1, h2, hk => by
  show bindL kindOf ((p, w) :: P.zip vs) m x = _
  unfold bindL
  exact bindL_get (i := i) (List.nodup_cons.mp nd).2 (by simpa using h1) (by simpa using h2) hk
theorem bindC_get {kindOf : Str → Option NameKind} {x : Str} {v : Value} : ∀ {P : List Str} {vs : List Value} {i : Nat} {m : Str → Option Value}, P.Nodup → P[i]? = some x → vs[i]? = some v → kindOf x ≠ some .local →
  bindC kindOf (P.zip vs) m x = some v
 | [], _, _, _, _, h, _, _ => by simp at h
 | _ :: _, [], _, _, _, _, h, _ => by simp at h
 | p :: P, w :: vs, 0, m, nd, h1, h2, hk => by
  simp at h1 h2; subst h1; subst h2
  show bindC kindOf ((p, w) :: P.zip vs) m p = _
  unfold bindC
  rw [bindC_out fun v hv => (List.nodup_cons.mp nd).1 (List.of_mem_zip hv).1, if_neg hk]
  simp
 | p :: P, w :: vs, i + 1, m, nd, h1, h2, hk => by
  show bindC kindOf ((p, w) :: P.zip vs) m x = _
  unfold bindC
  exact bindC_get (i := i) (List.nodup_cons.mp nd).2 (by simpa using h1) (by simpa using h2) hk

noncomputable def start (N : List Str) (vs : List V) : St := vs.map some ++ List.replicate (N.length - vs.length) none

noncomputable def cxOf (CX : CXT) (P : Program) (w : World) (K : PySem.W.Frag) (mg : Str → Option Value) (base : Heap) (N : List Str) (qual : Str) (scope : Scope) (f : Addr) (cd : Value) (A : Around) (outer : List Env) (s : Shared) (H : Hp) (E : XK) : Cx where
 prog := P
 w := w
 K := K
 mg := mg
 base := base
 A := A.deeper (envOfC qual scope s.heap.objs.size f cd)
 N := N
 s₀ := s
 H₀ := H
 env := envOfC qual scope s.heap.objs.size f cd
 outer := outer
 stack := envOfC qual scope s.heap.objs.size f cd :: outer
 ex := []
 calm := true
 fn := fun _ => true
 pn := []
 xe := fun e s' => wpAny (model P w) (A.deeper (envOfC qual scope s.heap.objs.size f cd)) (leaving (envOfC qual scope s.heap.objs.size f cd) e) (fun _ s'' => CX outer H s E e s'') (fun e' s'' => CX outer H s E e' s'') s'

theorem cell_has {sc : Scope} {n : Nat} {x : Str} (h : sc.names.lookup x = some .cell) : ∃ c, (cellsFrom n sc.names []).lookup x = some c := by
 have q := PySem.W.cellsFrom_some sc.names n [] (.inl h)
 exact Option.isSome_iff_exists.mp q

theorem inv_start {CX : CXT} {P : Program} {w : World} {K : PySem.W.Frag} {mg : Str → Option Value} {base : Heap} {N ps : List Str} {qual : Str} {scope : Scope} {f : Addr} {cd : Value} {A : Around} {outer : List Env} {s s1 : Shared} {H : Hp} {E : XK} {us : List Value} {vs : List V}
  (S : FnScope N ps scope) (hd : A.handled = none) (e0 : Env0 P w K mg base A outer s H) (hl : vs.length = ps.length) (r : Vals vs us)
  (x : InCallC s s.heap.objs.size (bindL (envOfC qual scope s.heap.objs.size f cd).kindOf (ps.zip us) fun _ => none) (cellsFrom (s.heap.objs.size + 1) scope.names []) (bindC (envOfC qual scope s.heap.objs.size f cd).kindOf (ps.zip us) fun _ => none) s1) :
  Inv (cxOf CX P w K mg base N qual scope f cd A outer s H E) [] (start N vs) H s1 := by
 have hpl : ps.length ≤ N.length := by have := congrArg List.length S.pre; rw [List.length_take] at this; omega
 obtain ⟨h1, tk, rfl, hk⟩ := x.done
 have noA : ∀ b : Addr, b ∉ (cxOf CX P w K mg base N qual scope f cd A outer s H E).ex := fun b z => absurd (show b ∈ ([] : List Addr) from z) (by simp)
 refine ⟨⟨e0.mod, S.kind, rfl, rfl, Nat.le_refl _, fun y z c h1 h2 => ?_, fun y hy => ?_, fun y c _ h => ?_, fun _ => hd, Around.frames_deeper e0.frames, .inr ⟨rfl, rfl⟩, fun b z => absurd z (noA b), e0.bs, e0.bsz, fun b _ _ => noA b, fun b z => absurd z (noA b), e0.funs, e0.frf⟩,
  rfl, e0.bare, Un.kept hk, ⟨_, x.toInCall.ns, fun i y v h1 h2 h3 => ?_⟩, fun y c h => ⟨_, x.cell y c h⟩, e0.hok.fresh (Nat.le_refl _), fun y c h => ?_, fun p hp => absurd (show p ∈ ([] : List (Addr × Obj)) from hp) (by simp), e0.hok.kept hk, ?_⟩
 ·exact name_of_addr x.apart (PySem.mem_of_lookup h1) (PySem.mem_of_lookup h2)
 ·have hy : scope.names.lookup y = some .cell ∨ scope.names.lookup y = some .free := hy
  rcases hy with hy | hy
  ·exact cell_has hy
  ·exact absurd rfl (S.nofree _ (PySem.mem_of_lookup hy))
 ·exact Nat.le_of_lt (x.above y c (PySem.mem_of_lookup h))
 ·have hi : i < vs.length := by
   unfold start at h2
   by_cases hi : i < vs.length
   ·exact hi
   ·rw [List.getElem?_append_right (by simpa using hi)] at h2
    rw [List.getElem?_replicate] at h2
    split at h2 <;> cases h2
  have ha : vs[i]? = some v := by
   unfold start at h2
   rw [List.getElem?_append_left (by simpa using hi), List.getElem?_map] at h2
   cases e : vs[i]? with
   | none => rw [e] at h2; cases h2
   | some a => rw [e] at h2; cases h2; rfl
  obtain ⟨u, hu, rv⟩ := r.get ha
  have hp : ps[i]? = some y := by
   rw [← S.pre, List.getElem?_take_of_lt (by omega)]; exact h1
  have ndP : ps.Nodup := by rw [← S.pre]; exact S.nd.sublist (List.take_sublist _ _)
  refine ⟨u, rv, ?_⟩
  rcases S.par y (List.mem_of_getElem? hp) with k | k
  ·exact .inl ⟨k, bindL_get ndP hp hu k⟩
  ·obtain ⟨c, e⟩ := cell_has (n := s.heap.objs.size + 1) k
   refine .inr ⟨.inl k, c, e, ?_⟩
   have q := x.cell y c e
   rw [bindC_get ndP hp hu (by show scope.names.lookup y ≠ _; rw [k]; decide)] at q
   exact q
 ·exact e0.hok.fresh (Nat.le_of_lt (x.above y c (PySem.mem_of_lookup h)))
 ·unfold start
  show _ = N.length
  rw [List.length_append, List.length_map, List.length_replicate]
  omega

theorem fn_of {CX : CXT} {P : Program} {w : World} {K : PySem.W.Frag} {mg : Str → Option Value} {base : Heap} {k : Nat} {f : Addr} {name qual : Str} {params : Arguments} {body : List Stmt} {scope : Scope} {dV kV doc pm cdv ct oc : Value} {an od : Option Addr}
  {osl : Array (Option Value)} {N ps : List Str} {sp : Sp} (lk : K.lookup f = some ⟨oc, od, .func (PySem.W.fnOf name qual params body scope dV kV doc pm an cdv ct), osl⟩) (hcd : PySem.W.codeIn K cdv qual = true) (S : FnScope N ps scope)
  (len : ∀ vs H Q E, sp vs H Q E → vs.length = ps.length)
  (hbody : ∀ (A : Around) (outer : List Env) (s : Shared) (H : Hp) (vs : List V) (Q : VK) (E : XK), Room k (A.deeper (envOfC qual scope s.heap.objs.size f cdv)) → sp vs H Q E →
   ∃ t, PSs (cxOf CX P w K mg base N qual scope f cdv A outer s H E) body t ∧ t { nx := fun _ H' => Q .non H', rt := Q } (start N vs) H) :
  FnOk P w K mg base CX (k + 1) f (PySem.W.fnOf name qual params body scope dV kV doc pm an cdv ct) ps sp := by
 refine ⟨len, fun A outer s H args us vs Q E hr e0 hb r hsp => ?_⟩
 have hl := len _ _ _ _ hsp
 have KX : K.In s.heap := e0.mod.kin.keeps fun b o e => (e0.bs b o e).1
 have lim : s.heap.NoLimit := e0.mod.nolimit.keeps fun b o e => (e0.bs b o e).1
 have hkind : ∀ y ∈ ps.zip us, scope.names.lookup y.1 = some .local ∨ (scope.names.lookup y.1 = some .cell ∧ ((cellsFrom (s.heap.objs.size + 1) scope.names []).lookup y.1).isSome = true) := fun ⟨n, v⟩ hy => by
  rcases S.par n (List.of_mem_zip hy).1 with q | q
  ·exact .inl q
  ·exact .inr ⟨q, PySem.W.cellsFrom_some _ _ _ (.inl q)⟩
 refine codeAny_call_function hr.depth (KX _ _ lk) rfl S.co S.gen rfl (PySem.W.codeRec_of KX hcd) (hb _ _ _ _ ?_)
 refine wpAny_newFunctionEnv_cells S.kind hkind fun env he s1 x => ?_
 subst he
 refine ⟨lim.keeps x.toInCall.keep, codeAny_func ?_⟩
 obtain ⟨t, ht, hq⟩ := hbody A outer s H vs Q E (hr.deeper _) hsp
 have I : Inv (cxOf CX P w K mg base N qual scope f cdv A outer s H E) [] (start N vs) H s1 := inv_start S hr.hd e0 hl r x
 refine wpAny_mono (ht [] s1 (start N vs) H _ I hq) (fun fl s' hs => ?_) fun e s' hs => hs
 have fin : ∀ {σ' : St} {H' : Hp} {v : V} {u : Value}, Inv (cxOf CX P w K mg base N qual scope f cdv A outer s H E) [] σ' H' s' → RelV v u → Q v H' → CE outer P w H s Q u s' :=
  fun {σ' H' v u} J rv q => ⟨v, H', J.os, J.bare, J.base, J.hok, rv, q⟩
 cases fl with
 | ret u =>
  obtain ⟨v, σ', H', J, rv, q⟩ := hs
  exact fin J rv q
 | next =>
  obtain ⟨σ', H', J, q⟩ := hs
  exact fin (v := V.non) (u := Value.none) J rfl q
 | brk =>
  obtain ⟨_, _, _, q⟩ := hs
  exact False.elim q
 | cont =>
  obtain ⟨_, _, _, q⟩ := hs
  exact False.elim q
end L2

namespace L2
open PySem PySem.Spec PyProof.Rows
section
variable {X : Cx} {x : Str} {p pos : Pos} {e : Expr} {es : List Expr} {t : TA} {id T : String} {r : List V → Hp → VK → Prop}

noncomputable def tCB (r : List V → Hp → VK → Prop) (t : TA) : TE := fun σ H Q => t σ H fun vs H1 => r vs H1 Q
theorem pe_callB (hc : CallR X (.builtin id) r) (hg : Gl X x) (hm : X.mg x = none) (hv : bootBuiltins x = some (.builtin id)) (ha : PA X (e :: es) t) (hn : x ≠ "__name__" := by decide) (hdb : (x == ("__debug__" : Str)) = false := by decide)
  (he : starEach (e :: es) X.env = (false, eval e X.env) :: starEach es X.env := by rfl) (hpl : (backTo pos (starEach es X.env)).any (·.1) = false := by rfl) : PE X (.Call (.Name x p) (e :: es) [] pos) (tCB r t) := by
 intro pins s σ H Q I h
 refine wpAny_Call_Name_kw (ld_blt I hg hm hv ?_ hn hdb)
 exact PyProof.Rows.callWith_builtin1 (thn (ha pos pins s σ H _ I h) fun us s1 ⟨vs, H1, I1, r1, q1⟩ => hc pins s1 σ H1 vs us Q I1 r1 q1) he hpl
theorem pe_callTy (hc : CallR X (.type T) r) (hg : Gl X x) (hm : X.mg x = none) (hv : bootBuiltins x = some (.type T)) (ha : PA X (e :: es) t) (hn : x ≠ "__name__" := by decide) (hdb : (x == ("__debug__" : Str)) = false := by decide)
  (he : starEach (e :: es) X.env = (false, eval e X.env) :: starEach es X.env := by rfl) (hpl : (backTo pos (starEach es X.env)).any (·.1) = false := by rfl) : PE X (.Call (.Name x p) (e :: es) [] pos) (tCB r t) := by
 intro pins s σ H Q I h
 refine wpAny_Call_Name_kw (ld_blt I hg hm hv ?_ hn hdb)
 exact PyProof.Rows.callWith_type1 (thn (ha pos pins s σ H _ I h) fun us s1 ⟨vs, H1, I1, r1, q1⟩ => hc pins s1 σ H1 vs us Q I1 r1 q1) he hpl
end
end L2
namespace HT
open PySem PyProof.Rows



section
open PySem.SeqAt
open PySem.AutoSeq1 (wpAny_loadPart')
open PySem.MeetsSeq PySem.MeetsSeq2 PySem.MeetsSeq3

end

section
variable {prog : Program} {w : World} {A : Around} {E : Value → Shared → Prop} {s : Shared}


theorem cat_tup {t b : Addr} {vs ws : List Value} {Q : Value → Shared → Prop} (ht : IsTup s.heap t vs.toArray) (hb : IsTup s.heap b ws.toArray) (hv : vs ≠ [])
  (h1 : ws = [] → Q (.ref t) s) (h2 : ws ≠ [] → Q (.ref s.heap.objs.size) { s with heap := s.heap.push { cls := .type "tuple", data := .seq (vs ++ ws).toArray } })
  (hsz : vs.length + ws.length ≤ sizeLine) : wpAny (model prog w) A (binaryOp .Add (.ref t) (.ref b)) Q E s := by
 obtain ⟨⟨cls, dd, data, sl⟩, ho, hc, n, hd⟩ := id ht
 obtain ⟨⟨cls2, dd2, data2, sl2⟩, ho2, hc2, n2, hd2⟩ := id hb
 simp only at hc hd hc2 hd2
 subst hc hd hc2 hd2
 have e : vs.toArray ++ ws.toArray = (vs ++ ws).toArray := by simp
 by_cases hw : ws = []
 ·exact concat_meets ⟨_, ho, rfl⟩ ⟨_, ho2, rfl⟩ noFill_tuple_add seq_tuple_add PySem.F.slot_tuple_add PySem.F.entry_tuple_add (PySem.F.args_tuple_add_2 _ _)
   (tuple_addW1 t b vs.toArray ws.toArray n n2 dd dd2 sl sl2 (by simpa using hv) (by simp [hw])) ⟨ho, ho2, h1 hw⟩
 ·refine concat_meets ⟨_, ho, rfl⟩ ⟨_, ho2, rfl⟩ noFill_tuple_add seq_tuple_add PySem.F.slot_tuple_add PySem.F.entry_tuple_add (PySem.F.args_tuple_add_2 _ _)
   (tuple_addW2 t b vs.toArray ws.toArray n n2 dd dd2 sl sl2 (by simpa using hv) (by simpa using hw) (by rw [List.size_toArray, List.size_toArray]; exact hsz)) ⟨ho, ho2, ?_⟩
  rw [e]
  exact h2 hw

noncomputable def sIx (n d : Nat) : Option Int → Nat
 | none => d
 | some v => if v < 0 then (v + (n : Int)).toNat else min v.toNat n
theorem sIx_le (n d : Nat) (hd : d ≤ n) (o : Option Int) : sIx n d o ≤ n := by
 cases o with
 | none => exact hd
 | some v =>
  show (if v < 0 then (v + (n : Int)).toNat else min v.toNat n) ≤ n
  by_cases hv : v < 0
  ·rw [if_pos hv]; omega
  ·rw [if_neg hv]; exact Nat.min_le_right _ _
theorem clip_eq (v : Int) (n d : Nat) : (if v < 0 then max (v + (n : Int)) 0 else min v (n : Int)) = ((sIx n d (some v) : Nat) : Int) := by
 show (if v < 0 then max (v + (n : Int)) 0 else min v (n : Int)) = (((if v < 0 then (v + (n : Int)).toNat else min v.toNat n) : Nat) : Int)
 by_cases hv : v < 0
 ·simp only [if_pos hv]; omega
 ·simp only [if_neg hv]; omega
theorem adjust_gen (lo hi : Option Int) (n : Nat) : Builtin.Slice.sliceAdjust lo hi 1 (n : Int) = (((sIx n 0 lo : Nat) : Int), ((sIx n n hi : Nat) : Int)) := by
 have h1 : ¬ ((1 : Int) < 0) := by omega
 unfold Builtin.Slice.sliceAdjust
 simp only [h1, if_false]
 refine Prod.ext ?_ ?_
 ·cases lo with
  | none => rfl
  | some v => exact clip_eq v n 0
 ·cases hi with
  | none => rfl
  | some v => exact clip_eq v n n
theorem places_gen (i j : Nat) : Builtin.Slice.slicePlaces (i : Int) (j : Int) 1 = j - i := by
 unfold Builtin.Slice.slicePlaces
 have h1 : (1 : Int) > 0 := by omega
 simp only [h1, if_true, Int.ediv_one]
 split <;> omega
theorem slicePart_ {v : Value} {o : Option Int} {Q : Option Int → Shared → Prop} (p : IsPart v o) (h : Q o s) : wpAny (model prog w) A (Builtin.Slice.slicePartIndex v) Q E s := by
 cases p with
 | none => exact slicePart_none h
 | int i t => exact slicePart_int h
theorem sliceApplied_gen {sl : Addr} {vl vu : Value} {lo hi : Option Int} {n : Nat} {Q : Int × Int × Nat → Shared → Prop} (hs : s.heap.IsSliceOf sl vl vu .none) (pl : IsPart vl lo) (pu : IsPart vu hi)
  (h : Q (((sIx n 0 lo : Nat) : Int), 1, sIx n n hi - sIx n 0 lo) s) : wpAny (model prog w) A (Builtin.Slice.sliceApplied (.ref sl) (pure (n : Int))) Q E s := by
 obtain ⟨os, hos, hcs, hds⟩ := id hs
 unfold Builtin.Slice.sliceApplied Builtin.Slice.sliceFields
 refine wpAny_bind (wpAny_bind (wpAny_field hos hds (x := vl) rfl (wpAny_bind (wpAny_field hos hds (x := vu) rfl (wpAny_bind (wpAny_field hos hds (x := .none) rfl (wpAny_pure ?_)))))))
 refine wpAny_bind (slicePart_none ?_)
 show wpAny _ _ (if ((1 : Int) == 0) = true then _ else _) _ _ s
 rw [if_neg (by decide)]
 refine wpAny_bind (slicePart_ pl (wpAny_bind (slicePart_ pu (wpAny_bind (wpAny_pure ?_)))))
 show wpAny _ _ (match Builtin.Slice.sliceAdjust lo hi 1 (n : Int) with | (lo, hi) => pure (lo, (1 : Int), Builtin.Slice.slicePlaces lo hi 1)) _ _ s
 rw [adjust_gen lo hi n]
 show wpAny _ _ (pure (((sIx n 0 lo : Nat) : Int), (1 : Int), Builtin.Slice.slicePlaces ((sIx n 0 lo : Nat) : Int) ((sIx n n hi : Nat) : Int) 1)) _ _ s
 rw [places_gen]
 exact wpAny_pure h
theorem pick_gen (xs : Array Value) (i k : Nat) : ((List.range k).filterMap fun (m : Nat) => xs[((i : Int) + (m : Int) * 1).toNat]?).toArray = ((xs.toList.drop i).take k).toArray := by
 have e : (fun (m : Nat) => xs[((i : Int) + (m : Int) * 1).toNat]?) = fun m => xs[i + m]? := by
  funext m
  have : ((i : Int) + (m : Int) * 1).toNat = i + m := by omega
  rw [this]
 rw [e]
 have := pick_run xs i k
 rw [List.filterMap_map] at this
 have e2 : ((fun x => xs[x]?) ∘ fun x => i + x) = fun m => xs[i + m]? := rfl
 rw [e2] at this
 rw [this]

theorem getItem_tuple_cut {t sl : Addr} {items : Array Value} {vl vu : Value} {lo hi : Option Int} {Q : Value → Shared → Prop} (ht : IsTup s.heap t items) (hs : s.heap.IsSliceOf sl vl vu .none) (pl : IsPart vl lo) (pu : IsPart vu hi)
  (hw : ¬ (sIx items.size 0 lo = 0 ∧ sIx items.size items.size hi = items.size))
  (h : Q (.ref s.heap.objs.size) { s with heap := s.heap.push { cls := .type "tuple", data := .seq ((items.toList.drop (sIx items.size 0 lo)).take (sIx items.size items.size hi - sIx items.size 0 lo)).toArray } })
  (hsz : items.size ≤ sizeLine) : wpAny (model prog w) A (getItem (.ref t) (.ref sl)) Q E s := by
 have htake : sizeOk (.seq ((items.toList.drop (sIx items.size 0 lo)).take (sIx items.size items.size hi - sIx items.size 0 lo)).toArray) := by
  show ((items.toList.drop (sIx items.size 0 lo)).take (sIx items.size items.size hi - sIx items.size 0 lo)).toArray.size ≤ sizeLine
  rw [List.size_toArray, List.length_take, List.length_drop, Array.length_toList]
  omega
 have hj : sIx items.size items.size hi ≤ items.size := sIx_le _ _ (Nat.le_refl _) hi
 obtain ⟨os, hos, hcs, hds⟩ := id hs
 have hTs : s.TypeIs (.ref sl) "slice" := ⟨os, hos, hcs⟩
 unfold getItem
 try with_reducible refine wpAny_holding ?_
 first | refine wpAny_bind (wpAny_pure ?_) | skip
 refine wpAny_bind (wpAny_sequenceKey ht.typeIs (by decide) ?_)
 refine wpAny_bind (wpAny_callSpecial?_slot (name := Str.ofString "__getitem__") ht.typeIs PyProof.Rows.slot_tuple_getitem
  (wpAny_call_entry PyProof.Rows.slot_tuple_getitem ht.typeIs entry_tuple_getitem ?_ (args_tuple_getitem _ _)))
 show wpAny _ _ (Builtin.Tuple.tupleItemsOf (.ref t) >>= _) _ _ s
 refine wpAny_bind (tupleItemsOf_ ht ?_)
 refine wpAny_bind (wpAny_typeOf hTs ?_)
 rw [if_pos (by decide)]
 refine wpAny_bind (sliceApplied_gen hs pl pu ?_)
 have hno : ¬ ((((sIx items.size 0 lo : Nat) : Int) == 0 && (1 : Int) == 1 && (sIx items.size items.size hi - sIx items.size 0 lo) == items.size) = true) := by
  intro q
  rw [Bool.and_eq_true, Bool.and_eq_true] at q
  have q1 : ((sIx items.size 0 lo : Nat) : Int) = 0 := eq_of_beq q.1.1
  have q2 : sIx items.size items.size hi - sIx items.size 0 lo = items.size := eq_of_beq q.2
  exact hw ⟨by omega, by omega⟩
 show wpAny _ _ (if (((sIx items.size 0 lo : Nat) : Int) == 0 && (1 : Int) == 1 && (sIx items.size items.size hi - sIx items.size 0 lo) == items.size) = true then _ else _) _ _ s
 rw [if_neg hno, pick_gen]
 first
  | exact wpAny_bind (m := Builtin.Tuple.tupleExact _) (wpAny_newObj_type (wpAny_pure ⟨_, rfl, wpAny_pure h⟩) htake)
  | exact wpAny_bind (m := Builtin.Tuple.tupleExact _) (wpAny_newObj_type (wpAny_bind (wpAny_pure (wpAny_pure ⟨_, rfl, wpAny_pure h⟩))) htake)
  | exact wpAny_bind (wpAny_bind (m := Builtin.Tuple.tupleExact _) (wpAny_newObj_type (wpAny_pure (wpAny_pure ⟨_, rfl, wpAny_pure h⟩)) htake))
  | exact wpAny_bind (wpAny_bind (m := Builtin.Tuple.tupleExact _) (wpAny_newObj_type (wpAny_pure ⟨_, rfl, wpAny_pure h⟩) htake))
end
end HT

namespace L2
open PySem PySem.Spec PyProof.Rows

noncomputable abbrev TO := St → Hp → (Option Int → Hp → Prop) → Prop
noncomputable def PO (X : Cx) (e : Option Expr) (t : TO) : Prop :=
 ∀ (pins : List (Addr × Obj)) (s : Shared) (σ : St) (H : Hp) (Q : Option Int → Hp → Prop), Inv X pins σ H s → t σ H Q →
  wpAny (model X.prog X.w) X.A (evalPart e X.env) (fun u s' => ∃ o H', Inv X pins σ H' s' ∧ IsPart u o ∧ Q o H') X.xe s
noncomputable def tNoPart : TO := fun _ H Q => Q none H
noncomputable def tPart (t : TE) : TO := fun σ H Q => t σ H fun x H1 => ∃ i, x = .int i ∧ Q (some i) H1


section
variable {X : Cx} {e : Expr} {te : TE} {lo hi : Option Expr} {tl th : TO} {pos p2 : Pos}

theorem po_none : PO X none tNoPart := by
 intro pins s σ H Q I h
 rw [evalPart_none]
 exact wpAny_pure ⟨none, H, I, .none, h⟩
theorem po_some (h : PE X e te) : PO X (some e) (tPart te) := by
 intro pins s σ H Q I hw
 rw [evalPart_some]
 refine thn (h pins s σ H _ I hw) fun u s1 ⟨x, H1, I1, r1, q1⟩ => ?_
 obtain ⟨i, rfl, q⟩ := q1
 obtain ⟨t, rfl⟩ := r1
 exact ⟨some i, H1, I1, .int i t, q⟩

noncomputable def SlR (X : Cx) (r : V → Option Int → Option Int → Hp → VK → Prop) : Prop :=
 ∀ (pins : List (Addr × Obj)) (s : Shared) (σ : St) (H : Hp) (x : V) (v vl vu : Value) (lo hi : Option Int) (sl : Addr) (Q : VK), Inv X pins σ H s → RelV x v → s.heap.IsSliceOf sl vl vu .none → IsPart vl lo → IsPart vu hi → r x lo hi H Q →
  ∃ T id, typeLookup (.type T) "__getitem__" = pure (some (.builtin id)) ∧ s.TypeIs v T ∧ wpAny (model X.prog X.w) X.A (getItem v (.ref sl)) (EP X pins σ Q) X.xe s
noncomputable def tSl (r : V → Option Int → Option Int → Hp → VK → Prop) (te : TE) (tl th : TO) : TE := fun σ H Q => te σ H fun x H1 => tl σ H1 fun l H2 => th σ H2 fun u H3 => r x l u H3 Q
theorem pe_slice {r : V → Option Int → Option Int → Hp → VK → Prop} (hr : SlR X r) (he : PE X e te) (hl : PO X lo tl) (hu : PO X hi th) : PE X (.Subscript e (.Slice lo hi none p2) pos) (tSl r te tl th) := by
 intro pins s σ H Q I h
 refine Subscript_ (thn (he pins s σ H _ I h) fun v s1 ⟨x, H1, I1, r1, q1⟩ => ?_)
 refine wpAny_Slice (thn (hl pins s1 σ H1 _ I1 q1) fun vl s2 ⟨l, H2, I2, pl, q2⟩ => thn (hu pins s2 σ H2 _ I2 q2) fun vu s3 ⟨u, H3, I3, pu, q3⟩ => ?_)
 rw [evalPart_none]
 refine wpAny_pure ?_
 have I4 : Inv X pins σ H3 { s3 with heap := s3.heap.push { cls := .type "slice", data := .fields #[vl, vu, .none] } } := I3.kept (t' := s3.toks) fun b ob q => Heap.get?_push_of_some _ q
 obtain ⟨T, id, hT, ht, hg⟩ := hr pins { s3 with heap := s3.heap.push { cls := .type "slice", data := .fields #[vl, vu, .none] } } σ H3 x v vl vu l u s3.heap.objs.size Q I4 r1 (Heap.IsSliceOf.new ..) pl pu q3
 show wpAny (model X.prog X.w) X.A (subscriptTail e (.Slice lo hi none p2) v (.ref s3.heap.objs.size)) (EP X pins σ Q) X.xe { s3 with heap := s3.heap.push { cls := .type "slice", data := .fields #[vl, vu, .none] } }
 exact tail_any (ops := [.ref s3.heap.objs.size, v]) ht hT hg (by with_unfolding_all rfl)

noncomputable def cutV (xs : List V) (lo hi : Option Int) : List V := (xs.drop (HT.sIx xs.length 0 lo)).take (HT.sIx xs.length xs.length hi - HT.sIx xs.length 0 lo)
theorem cutV_length (xs : List V) (lo hi : Option Int) : (cutV xs lo hi).length ≤ xs.length := by
 unfold cutV
 rw [List.length_take, List.length_drop]
 omega
noncomputable def rSlT (K : PySem.W.Frag) : V → Option Int → Option Int → Hp → VK → Prop := fun x lo hi H Q => ∃ a xs, x = .ref a ∧ SqT K H a xs ∧
 ¬ (HT.sIx xs.length 0 lo = 0 ∧ HT.sIx xs.length xs.length hi = xs.length) ∧ ∀ p, H p = none → Q (.ref p) (upd H p (.tup (cutV xs lo hi)))
theorem sl_tup : SlR X (rSlT X.K) := by
 intro pins s σ H x v vl vu lo hi sl Q I rx hs pl pu h
 obtain ⟨a, xs, rfl, hx, hw, q⟩ := h
 cases rx
 obtain ⟨its, r, ht, hz⟩ := I.tuple hx
 have hlen : its.toArray.size = xs.length := by rw [List.size_toArray]; exact r.length.symm
 refine ⟨"tuple", _, PyProof.Rows.slot_tuple_getitem.lookup, ht.typeIs, ?_⟩
 refine HT.getItem_tuple_cut ht hs pl pu (by rw [hlen]; exact hw) ?_ (by rw [hlen]; exact hz)
 rw [hlen]
 refine ⟨.ref s.heap.objs.size, _, I.laid (t' := s.toks) (o := .tup (cutV xs lo hi)) (fun b ob q => Heap.get?_push_of_some _ q) (Nat.le_refl _) ?_, rfl, q _ (I.hok.fresh (Nat.le_refl _))⟩
 exact ⟨Nat.le_trans (cutV_length xs lo hi) hz, _, (r.drop (HT.sIx xs.length 0 lo)).take (HT.sIx xs.length xs.length hi - HT.sIx xs.length 0 lo), IsTup.new _ _⟩

noncomputable def rCatT (K : PySem.W.Frag) : R2 := fun x y H Q => ∃ a b xs ys, x = .ref a ∧ y = .ref b ∧ SqT K H a xs ∧ SqT K H b ys ∧ xs ≠ [] ∧ xs.length + ys.length ≤ sizeLine ∧
 (ys = [] → Q (.ref a) H) ∧ (ys ≠ [] → ∀ p, H p = none → Q (.ref p) (upd H p (.tup (xs ++ ys))))
theorem Vals.nil_iff {xs : List V} {us : List Value} (r : Vals xs us) : us = [] ↔ xs = [] := by
 cases r with
 | nil => simp
 | cons _ _ => simp
theorem op_catT : OpR X (binaryOp .Add) (rCatT X.K) := by
 intro pins s σ H x y v u Q I rx ry h
 obtain ⟨a, b, xs, ys, rfl, rfl, ha, hb, hx, hz, q1, q2⟩ := h
 cases rx
 cases ry
 obtain ⟨its, r1, p1, _⟩ := I.tuple ha
 obtain ⟨its2, r2, p2, _⟩ := I.tuple hb
 refine HT.cat_tup p1 p2 (fun z => hx (r1.nil_iff.mp z)) (fun z => ⟨.ref a, H, I, rfl, q1 (r2.nil_iff.mp z)⟩) (fun z => ?_) (by rw [← r1.length, ← r2.length]; exact hz)
 refine ⟨.ref s.heap.objs.size, _, I.laid (t' := s.toks) (o := .tup (xs ++ ys)) (fun b ob q => Heap.get?_push_of_some _ q) (Nat.le_refl _) ?_, rfl, q2 (fun w => z (r2.nil_iff.mpr w)) _ (I.hok.fresh (Nat.le_refl _))⟩
 exact ⟨by rw [List.length_append]; exact hz, _, r1.append r2, IsTup.new _ _⟩
end
end L2

namespace L2
open PySem PySem.Spec PyProof.Rows

noncomputable def ixN (n : Nat) (i : Int) : Option Nat := if 0 ≤ i then (if i < n then some i.toNat else none) else if -(n : Int) ≤ i then some (i + n).toNat else none
noncomputable def atI {α : Type} (xs : List α) (i : Int) : Option α := (ixN xs.length i).bind fun j => xs[j]?
theorem ixN_seq {n : Nat} {i : Int} {j : Nat} (h : ixN n i = some j) : seqIndex? i n = some j ∧ j < n ∧ -(n : Int) ≤ i ∧ i < n := by
 unfold ixN at h
 by_cases h0 : 0 ≤ i
 ·rw [if_pos h0] at h
  by_cases h1 : i < n
  ·rw [if_pos h1] at h
   have e : i.toNat = j := Option.some.inj h
   exact ⟨by rw [seqIndex_of h0 h1, e], by omega, by omega, h1⟩
  ·rw [if_neg h1] at h; cases h
 ·rw [if_neg h0] at h
  by_cases h1 : -(n : Int) ≤ i
  ·rw [if_pos h1] at h
   have e : (i + n).toNat = j := Option.some.inj h
   exact ⟨by rw [seqIndex_neg (by omega) h1, e], by omega, h1, by omega⟩
  ·rw [if_neg h1] at h; cases h
theorem atI_get {α : Type} {xs : List α} {i : Int} {v : α} (h : atI xs i = some v) : ∃ j, seqIndex? i xs.length = some j ∧ xs[j]? = some v ∧ j < xs.length ∧ -(xs.length : Int) ≤ i ∧ i < xs.length := by
 unfold atI at h
 cases e : ixN xs.length i with
 | none => rw [e] at h; cases h
 | some j =>
  rw [e] at h
  obtain ⟨h1, h2, h3, h4⟩ := ixN_seq e
  exact ⟨j, h1, h, h2, h3, h4⟩

noncomputable def PlainIx (b : Expr) : Prop := ∀ o i, subscripted b false o i = operate [o, i] (getItem o i)
noncomputable def IxR (X : Cx) (r : R2) : Prop :=
 ∀ (value slice : Expr) (pins : List (Addr × Obj)) (s : Shared) (σ : St) (H : Hp) (x y : V) (v u : Value) (Q : VK), Inv X pins σ H s → RelV x v → RelV y u → r x y H Q →
  subscripted slice false v u = operate [v, u] (getItem v u) → wpAny (model X.prog X.w) X.A (subscriptTail value slice v u) (EP X pins σ Q) X.xe s
noncomputable def MtR (X : Cx) (id : String) (r : V → List V → Hp → VK → Prop) : Prop :=
 ∀ (pins : List (Addr × Obj)) (s : Shared) (σ : St) (H : Hp) (x : V) (xs : List V) (v : Value) (us : List Value) (Q : VK), Inv X pins σ H s → RelV x v → Vals xs us → r x xs H Q →
  wpAny (model X.prog X.w) X.A (call (.builtin id) (v :: us)) (EP X pins σ Q) X.xe s
section
variable {X : Cx} {a b : Expr} {ta tb : TE} {pos : Pos}
theorem pe_ix {r : R2} (hr : IxR X r) (ha : PE X a ta) (hb : PE X b tb) (hs : PlainIx b) : PE X (.Subscript a b pos) (tOp r ta tb) := by
 intro pins s σ H Q I h
 exact Subscript_ (binT ha hb I h fun v u s2 x y H2 I2 rx ry q => hr a b pins s2 σ H2 x y v u Q I2 rx ry q (hs _ _))

noncomputable def rIxL (K : PySem.W.Frag) : R2 := fun x y H Q => ∃ p xs i v, x = .ref p ∧ y = .int i ∧ SqL K H p xs ∧ atI xs i = some v ∧ Q v H
noncomputable def rIxT (K : PySem.W.Frag) : R2 := fun x y H Q => ∃ p xs i v, x = .ref p ∧ y = .int i ∧ SqT K H p xs ∧ atI xs i = some v ∧ Q v H
theorem ix_list : IxR X (rIxL X.K) := by
 intro value slice pins s σ H x y v u Q I rx ry h hs
 obtain ⟨p, xs, i, z, rfl, rfl, hq, he, q⟩ := h
 cases rx
 obtain ⟨t, rfl⟩ := ry
 obtain ⟨its, r, pl, hz⟩ := I.list hq
 obtain ⟨j, h1, h2, h3, h4, h5⟩ := atI_get he
 obtain ⟨w, ew, rw'⟩ := r.get h2
 have hl := r.length
 have hn := line63
 have fin : EP X pins σ Q w s := ⟨z, H, I, rw', q⟩
 by_cases h0 : 0 ≤ i
 ·have hj : i.toNat = j := by
   rw [seqIndex_of h0 h5] at h1
   exact Option.some.inj h1
  exact item_listR pl.isList h0 (by omega) (by rw [hj]; simpa using ew) fin hs
 ·have hj : (i + (its.toArray.size : Int)).toNat = j := by
   rw [seqIndex_neg (by omega) h4] at h1
   rw [List.size_toArray, ← hl]
   exact Option.some.inj h1
  exact subscriptTail_builtinR (x := w) pl.isList.typeIs slot_list_getitem.lookup
   (wpAny_getItem_list_neg (Q := fun r s' => r = w ∧ EP X pins σ Q r s') pl.isList (by omega) (by rw [List.size_toArray] <;> omega) (by omega) (by rw [hj]; simpa using ew) ⟨rfl, fin⟩) hs
theorem ix_tup : IxR X (rIxT X.K) := by
 intro value slice pins s σ H x y v u Q I rx ry h hs
 obtain ⟨p, xs, i, z, rfl, rfl, hq, he, q⟩ := h
 cases rx
 obtain ⟨t, rfl⟩ := ry
 obtain ⟨its, r, pl, hz⟩ := I.tuple hq
 obtain ⟨j, h1, h2, h3, h4, h5⟩ := atI_get he
 obtain ⟨w, ew, rw'⟩ := r.get h2
 have hl := r.length
 have hn := line63
 have fin : EP X pins σ Q w s := ⟨z, H, I, rw', q⟩
 exact subscriptTail_builtinR (x := w) pl.typeIs slot_tuple_getitem.lookup
  (getItem_tuple (j := j) (Q := fun r s' => r = w ∧ EP X pins σ Q r s') pl (by omega) (by omega) (by rw [List.size_toArray, ← hl]; exact h1) (by simpa using ew) ⟨rfl, fin⟩) hs


theorem slice_bounds (lo hi : Option Int) (n : Nat) : (sliceBounds lo hi none n).1 = ((HT.sIx n 0 lo : Nat) : Int) ∧ (sliceBounds lo hi none n).2.1 = ((HT.sIx n n hi : Nat) : Int) ∧ (sliceBounds lo hi none n).2.2 = 1 := by
 refine ⟨?_, ?_, rfl⟩
 ·cases lo with
  | none => simp [sliceBounds, HT.sIx]
  | some i =>
   simp only [sliceBounds, HT.sIx, Option.getD_none, show (1 : Int) > 0 by decide, if_true]
   by_cases h : i < 0
   ·simp only [h, if_true] <;> omega
   ·simp only [h, if_false] <;> omega
 ·cases hi with
  | none => simp [sliceBounds, HT.sIx]
  | some i =>
   simp only [sliceBounds, HT.sIx, Option.getD_none, show (1 : Int) > 0 by decide, if_true]
   by_cases h : i < 0
   ·simp only [h, if_true] <;> omega
   ·simp only [h, if_false] <;> omega
theorem slicePick_cut (its : List Value) (lo hi : Option Int) : slicePick its.toArray lo hi none = ((its.drop (HT.sIx its.length 0 lo)).take (HT.sIx its.length its.length hi - HT.sIx its.length 0 lo)).toArray := by
 obtain ⟨h1, h2, h3⟩ := slice_bounds lo hi its.toArray.size
 unfold slicePick
 rw [h1, h2, h3]
 simp only [sliceRange_one, pick_run, List.size_toArray] <;> rfl
noncomputable def rSlL (K : PySem.W.Frag) : V → Option Int → Option Int → Hp → VK → Prop := fun x lo hi H Q => ∃ a xs, x = .ref a ∧ SqL K H a xs ∧ ∀ p, H p = none → Q (.ref p) (upd H p (.lst (cutV xs lo hi)))
theorem sl_list : SlR X (rSlL X.K) := by
 intro pins s σ H x v vl vu lo hi sl Q I rx hs pl pu h
 obtain ⟨a, xs, rfl, hx, q⟩ := h
 cases rx
 obtain ⟨its, r, ht, hz⟩ := I.list hx
 have hlen := r.length
 refine ⟨"list", _, slot_list_getitem.lookup, ht.isList.typeIs, ?_⟩
 refine wpAny_getItem_list_slice ht.isList hs pl pu .none (by simp) ?_ (by rw [List.size_toArray] <;> omega)
 rw [slicePick_cut, ← hlen]
 refine ⟨.ref s.heap.objs.size, _, I.laid (t' := s.toks) (o := .lst (cutV xs lo hi)) (fun b ob q => Heap.get?_push_of_some _ q) (Nat.le_refl _) ?_, rfl, q _ (I.hok.fresh (Nat.le_refl _))⟩
 exact ⟨Nat.le_trans (cutV_length xs lo hi) hz, _, 0, (r.drop (HT.sIx xs.length 0 lo)).take (HT.sIx xs.length xs.length hi - HT.sIx xs.length 0 lo), Heap.get?_push_size _ rfl⟩


theorem call_len_seq : CallR X (.builtin "len") (fun xs H Q => ∃ p ys, xs = [.ref p] ∧ (SqL X.K H p ys ∨ SqT X.K H p ys) ∧ Q (.int ys.length) H) := by
 intro pins s σ H xs us Q I r h
 obtain ⟨p, ys, rfl, hq, q⟩ := h
 obtain ⟨u, rfl, rx⟩ := vals1 r
 cases rx
 have hn := line63
 rcases hq with hq | hq
 ·obtain ⟨its, r', pl, hz⟩ := I.list hq
  have hlen := r'.length
  exact Calls.call_len_list pl.isList (by simp only [List.size_toArray] <;> omega) ⟨.int ys.length, H, I.tok _, ⟨s.toks + 1, by rw [List.size_toArray, hlen]⟩, q⟩
 ·obtain ⟨its, r', pl, hz⟩ := I.tuple hq
  have hlen := r'.length
  exact len_tuple pl (by simp only [List.size_toArray] <;> omega) ⟨.int ys.length, H, I.tok _, ⟨s.toks + 1, by rw [List.size_toArray, hlen]⟩, q⟩
theorem call_list_of : CallR X (.type "list") (fun xs H Q => ∃ p ys, xs = [.ref p] ∧ (SqL X.K H p ys ∨ SqT X.K H p ys) ∧ ∀ l, H l = none → Q (.ref l) (upd H l (.lst ys))) := by
 intro pins s σ H xs us Q I r h
 obtain ⟨p, ys, rfl, hq, q⟩ := h
 obtain ⟨u, rfl, rx⟩ := vals1 r
 cases rx
 have fin : ∀ (its : List Value), Vals ys its → ys.length ≤ sizeLine → ∀ (h' : Heap) (c' : Nat), (∀ b o', s.heap.get? b = some o' → h'.get? b = some o') →
   h'.get? s.heap.objs.size = some { cls := .type "list", dict := none, data := .seq its.toArray c', slots := #[] } → EP X pins σ Q (.ref s.heap.objs.size) { s with heap := h' } := fun its r' hz h' c' kp e =>
  ⟨.ref s.heap.objs.size, _, I.laid (t' := s.toks) kp (Nat.le_refl _) (show ObjOk X.prog X.w _ h' _ (.lst ys) from ⟨hz, its, c', r', e⟩), rfl, q _ (I.hok.fresh (Nat.le_refl _))⟩
 rcases hq with hq | hq
 ·obtain ⟨its, r', pl, hz⟩ := I.list hq
  have hlen := r'.length
  obtain ⟨o, ho, hc, n, hd⟩ := pl.isList
  exact call_list_seq p (.inl rfl) ho hc hd (fun h' c' kp e => fin its r' hz h' c' kp e) (by simp only [List.size_toArray] <;> omega)
 ·obtain ⟨its, r', pl, hz⟩ := I.tuple hq
  have hlen := r'.length
  obtain ⟨o, ho, hc, n, hd⟩ := pl
  exact call_list_seq p (.inr rfl) ho hc hd (fun h' c' kp e => fin its r' hz h' c' kp e) (by simp only [List.size_toArray] <;> omega)
theorem call_tuple_of : CallR X (.type "tuple") (fun xs H Q => ∃ p ys, xs = [.ref p] ∧ ((SqL X.K H p ys ∧ ∀ l, H l = none → Q (.ref l) (upd H l (.tup ys))) ∨ (SqT X.K H p ys ∧ Q (.ref p) H))) := by
 intro pins s σ H xs us Q I r h
 obtain ⟨p, ys, rfl, h⟩ := h
 obtain ⟨u, rfl, rx⟩ := vals1 r
 cases rx
 rcases h with ⟨hq, q⟩ | ⟨hq, q⟩
 ·obtain ⟨its, r', pl, hz⟩ := I.list hq
  have hlen := r'.length
  refine call_tuple_list pl.isList (fun h' kp => ?_) (by simp only [List.size_toArray] <;> omega)
  have I1 : Inv X pins σ H { s with heap := h' } := I.kept (t' := s.toks) kp
  have I2 : Inv X pins σ (upd H h'.objs.size (.tup ys)) { s with heap := h'.push { cls := .type "tuple", data := .seq its.toArray } } :=
   I1.laid (t' := s.toks) (fun b o e => Heap.get?_push_of_some _ e) (Nat.le_refl _) (show ObjOk X.prog X.w _ _ _ (.tup ys) from ⟨hz, its, r', IsTup.new _ _⟩)
  exact ⟨.ref h'.objs.size, _, I2, rfl, q _ (I1.hok.fresh (Nat.le_refl _))⟩
 ·obtain ⟨its, r', pl, hz⟩ := I.tuple hq
  exact call_tuple_same pl ⟨.ref p, H, I, rfl, q⟩

noncomputable def tyV (K : PySem.W.Frag) (T : String) (x : V) (H : Hp) : Prop := match x with
 | .str _ => T = "str"
 | .int _ => T = "int"
 | .ref p => (T = "list" ∧ ∃ xs, SqL K H p xs) ∨ (T = "tuple" ∧ ∃ o, K.lookup p = some o ∧ o.cls = .type "tuple" ∧ o.dict = none) ∨
   (T = "dict" ∧ ((∃ kvs, H p = some (.dK kvs)) ∨ ∃ kvs, H p = some (.dT kvs))) ∨ (T = "set" ∧ ∃ S n, H p = some (.set S n))
 | _ => False
theorem tyV_is {pins : List (Addr × Obj)} {σ : St} {H : Hp} {s : Shared} {T : String} {x : V} {v : Value} (I : Inv X pins σ H s) (r : RelV x v) (ty : tyV X.K T x H) :
  s.TypeIs v T ∧ ∀ a, v = .ref a → ∃ ob, s.heap.get? a = some ob ∧ ob.dict = none := by
 cases x with
 | str z =>
  obtain ⟨t, rfl⟩ := r
  cases (show T = "str" from ty)
  exact ⟨typeIs_str s z t, fun _ e => nomatch e⟩
 | int i =>
  obtain ⟨t, rfl⟩ := r
  cases (show T = "int" from ty)
  exact ⟨typeIs_int s i t, fun _ e => nomatch e⟩
 | ref p =>
  cases r
  rcases ty with ⟨rfl, xs, hq⟩ | ⟨rfl, o, hk, hc, hd⟩ | ⟨rfl, hk⟩ | ⟨rfl, S, n, hk⟩
  ·obtain ⟨its, _, pl, _⟩ := I.list hq
   refine ⟨pl.isList.typeIs, fun a e => ?_⟩
   cases e
   obtain ⟨o, n, e, c, hd, _⟩ := pl
   exact ⟨o, e, hd⟩
  ·refine ⟨⟨o, I.kIn p o hk, hc⟩, fun a e => ?_⟩
   cases e
   exact ⟨o, I.kIn _ o hk, hd⟩
  ·have z : ∃ o, s.heap.get? p = some o ∧ o.ExactDict := by
    rcases hk with ⟨kvs, hk⟩ | ⟨kvs, hk⟩
    ·obtain ⟨_, _, _, _, o, _, _, e, ex, _⟩ := I.hok p _ hk
     exact ⟨o, e, ex⟩
    ·obtain ⟨_, _, _, _, o, _, _, e, ex, _⟩ := I.hok p _ hk
     exact ⟨o, e, ex⟩
   obtain ⟨o, e, ex⟩ := z
   refine ⟨⟨o, e, ex.1⟩, fun a e2 => ?_⟩
   cases e2
   exact ⟨o, e, ex.2.1⟩
  ·obtain ⟨o, _, _, _, e, ex, _⟩ := I.hok p _ hk
   refine ⟨⟨o, e, ex.1⟩, fun a e2 => ?_⟩
   cases e2
   exact ⟨o, e, ex.2.1⟩
 | _ => exact False.elim ty
noncomputable def tBM0 (K : PySem.W.Frag) (T : String) (r : V → List V → Hp → VK → Prop) (to : TE) : TE := fun σ H Q => to σ H fun x H1 => tyV K T x H1 ∧ r x [] H1 Q
noncomputable def tBM (K : PySem.W.Frag) (T : String) (r : V → List V → Hp → VK → Prop) (to : TE) (t : TA) : TE := fun σ H Q => to σ H fun x H1 => tyV K T x H1 ∧ t σ H1 fun xs H2 => r x xs H2 Q
variable {o e : Expr} {es : List Expr} {to : TE} {t : TA} {name : Str} {apos cpos : Pos} {T id : String} {r : V → List V → Hp → VK → Prop}
theorem pe_bm0 (pa : PlainAttrs T) (slot : Slot T name id) (hty : typeOf (.builtin id) = pure (.type "method_descriptor")) (hm : MtR X id r) (ho : PE X o to)
  (hbase : attributeBase o name X.env (eval o X.env) = eval o X.env := by rfl) (hline : (apos.endLine == cpos.line) = true := by rfl) : PE X (.Call (.Attribute o name apos) [] [] cpos) (tBM0 X.K T r to) := by
 intro pins s σ H Q I h
 refine wpAny_Call_method0_late hbase hline (thn (ho pins s σ H _ I h) fun v s1 ⟨x, H1, I1, r1, ty, q1⟩ => ?_)
 obtain ⟨h1, h2⟩ := tyV_is I1 r1 ty
 exact ⟨T, id, pa, slot, hty, h1, h2, Calls.callWith_builtin rfl (PySem.evalArgs_none (hm pins s1 σ H1 x [] v [] Q I1 r1 .nil q1))⟩
theorem pe_bm (pa : PlainAttrs T) (slot : Slot T name id) (hty : typeOf (.builtin id) = pure (.type "method_descriptor")) (hm : MtR X id r) (ho : PE X o to) (ha : PA X (e :: es) t)
  (hbase : attributeBase o name X.env (eval o X.env) = eval o X.env := by rfl)
  (hfew : ((backTo cpos (starEach (e :: es) X.env)).all (fun x => !x.1) && (backToKw cpos (keywordEach [] X.env)).all (fun x => x.1.isSome)
   && decide ((e :: es).length + ([] : List Keyword).length + (if ([] : List Keyword).isEmpty then 0 else 1) < 30)) = true := by rfl)
  (hline : (apos.endLine == cpos.line) = true := by rfl) (hs : starEach (e :: es) X.env = (false, eval e X.env) :: starEach es X.env := by rfl) (hplain : (backTo cpos (starEach es X.env)).any (·.1) = false := by rfl) :
  PE X (.Call (.Attribute o name apos) (e :: es) [] cpos) (tBM X.K T r to t) := by
 intro pins s σ H Q I h
 refine wpAny_Call_method_late hbase hfew hline rfl (thn (ho pins s σ H _ I h) fun v s1 ⟨x, H1, I1, r1, ty, q1⟩ => ?_)
 obtain ⟨h1, h2⟩ := tyV_is I1 r1 ty
 refine ⟨T, id, pa, slot, hty, h1, h2, ?_⟩
 have hA := ha cpos pins s1 σ H1 _ I1 q1
 rw [hs] at hA ⊢
 refine Calls.callWith_builtin (by show (false || (backTo cpos (starEach es X.env)).any (·.1)) = false; rw [hplain] <;> rfl) (Calls.evalArgs_plain ?_)
 exact thn hA fun us s2 ⟨vs, H2, I2, r2, q2⟩ => hm pins s2 σ H2 x vs v us Q I2 r1 r2 q2
/- xs.append(e), list.index on a module's tuple .. are MtR facts of 06m -/
end
end L2

namespace L2
open PySem PySem.Spec PyProof.Rows

noncomputable def MtM (X : Cx) (id : String) (r : V → List V → Hp → VK → Prop) : Prop :=
 ∀ (pins : List (Addr × Obj)) (s : Shared) (σ : St) (H : Hp) (x : V) (xs : List V) (v : Value) (us : List Value) (Q : VK), Inv X pins σ H s → RelV x v → Vals xs us → r x xs H Q →
  wpAny (model X.prog X.w) X.A (call (.builtin id) (v :: us)) (EP X pins σ Q) X.xe s

theorem Vals.one : ∀ {x : V} {us : List Value}, Vals [x] us → ∃ u, us = [u] ∧ RelV x u
 | _, _, .cons r .nil => ⟨_, rfl, r⟩
theorem Vals.zero : ∀ {us : List Value}, Vals [] us → us = []
 | _, .nil => rfl
theorem Vals.reverse {xs : List V} {us : List Value} (h : Vals xs us) : Vals xs.reverse us.reverse := by
 induction h with
 | nil => exact .nil
 | cons r t ih => rw [List.reverse_cons, List.reverse_cons]; exact Vals.append ih (.cons r .nil)

section
variable {X : Cx} {pins : List (Addr × Obj)} {σ : St} {H : Hp} {s : Shared} {l b : Addr} {xs ys zs : List V}

theorem Inv.lset {its its' : List Value} {n : Nat} {f : Array Value → Array Value} {t' : Nat} (I : Inv X pins σ H s) (hH : H l = some (.lst xs))
  (e : s.heap.get? l = some { cls := .type "list", data := .seq its.toArray n }) (hf : f its.toArray = its'.toArray) (hv : Vals ys its') (hz : ys.length ≤ sizeLine) :
  Inv X pins σ (upd H l (.lst ys)) { s with heap := s.heap.update l (Obj.mapSeq f), toks := t' } := by
 have q := PySem.IsL.update e f
 rw [hf] at q
 refine I.write (x := l) (e := l) (by rw [hH]; exact trivial) (.inl rfl) (fun b' u hb hu => (Heap.get?_update_other s.heap (Obj.mapSeq f) (Ne.symm hb)).trans hu) ⟨_, q⟩ ?_
 exact ⟨hz, its', _, hv, q⟩
theorem Inv.lstM (I : Inv X pins σ H s) (hH : H l = some (.lst xs)) : xs.length ≤ sizeLine ∧ ∃ (its : List Value) (n : Nat), Vals xs its ∧ xs.length = its.length ∧ s.heap.get? l = some { cls := .type "list", data := .seq its.toArray n } := by
 obtain ⟨z, its, n, r, e⟩ := I.hok l _ hH
 exact ⟨z, its, n, r, r.length, e⟩

end

section
variable {X : Cx}

noncomputable def rAppend : V → List V → Hp → VK → Prop := fun x vs H Q => ∃ l xs y, x = .ref l ∧ vs = [y] ∧ H l = some (.lst xs) ∧ xs.length < sizeLine ∧ Q .non (upd H l (.lst (xs ++ [y])))
theorem mt_append : MtM X "list.append" rAppend := by
 intro pins s σ H x vs v us Q I rx rv h
 obtain ⟨l, xs, y, rfl, rfl, hH, hz, q⟩ := h
 cases rx
 obtain ⟨u, rfl, ru⟩ := rv.one
 obtain ⟨z, its, n, r, hl, e⟩ := I.lstM hH
 refine call_meets F.slot_list_append ⟨_, e, rfl⟩ F.entry_list_append (F.args_list_append_2 _ _) (PySem.list_append l its.toArray n u (by rw [List.size_toArray]; omega)) ⟨e, ?_⟩
 refine ⟨.non, _, I.lset (its' := its ++ [u]) hH e (by simp) (r.append (.cons ru .nil)) ?_, rfl, q⟩
 rw [List.length_append, List.length_singleton]
 omega




noncomputable def rReverse : V → List V → Hp → VK → Prop := fun x vs H Q => ∃ l xs, x = .ref l ∧ vs = [] ∧ H l = some (.lst xs) ∧ Q .non (upd H l (.lst xs.reverse))
theorem mt_reverse : MtM X "list.reverse" rReverse := by
 intro pins s σ H x vs v us Q I rx rv h
 obtain ⟨l, xs, rfl, rfl, hH, q⟩ := h
 cases rx
 have hus := rv.zero
 subst hus
 obtain ⟨z, its, n, r, hl, e⟩ := I.lstM hH
 refine call_meets F.slot_list_reverse ⟨_, e, rfl⟩ F.entry_list_reverse (F.args_list_reverse_1 _) (AutoSeq1.list_reverse_list_0 l its.toArray n (by rw [List.size_toArray]; omega)) ⟨e, ?_⟩
 refine ⟨.non, _, I.lset (its' := its.reverse) hH e (by simp) r.reverse ?_, rfl, q⟩
 rw [List.length_reverse]
 omega



end

section
variable {prog : Program} {w : World} {A : Around} {E : Value → Shared → Prop} {s : Shared}
end

section
variable {X : Cx}
end
end L2
namespace L2
open PySem PySem.Spec PyProof.Rows

section
variable {κ : Type} [DecidableEq κ]
noncomputable def valV (kvs : List (κ × V)) (k : κ) : Option V := (kvs.find? fun kv => decide (kv.1 = k)).map (·.2)
noncomputable def putK (kvs : List (κ × V)) (k : κ) (v : V) : List (κ × V) :=
 if (kvs.any fun kv => decide (kv.1 = k)) = true then kvs.map (fun kv => if kv.1 = k then (kv.1, v) else kv) else kvs ++ [(k, v)]

theorem valV_pos {p : κ × V} {r : List (κ × V)} {k : κ} (e : p.1 = k) : valV (p :: r) k = some p.2 := by simp [valV, List.find?_cons, e]
theorem valV_neg {p : κ × V} {r : List (κ × V)} {k : κ} (e : ¬ p.1 = k) : valV (p :: r) k = valV r k := by simp [valV, List.find?_cons, e]
theorem valV_any (k : κ) : ∀ kvs : List (κ × V), (kvs.any fun kv => decide (kv.1 = k)) = (valV kvs k).isSome
 | [] => rfl
 | p :: r => by
  rw [List.any_cons]
  by_cases e : p.1 = k
  ·simp only [valV_pos e, decide_eq_true e, Bool.true_or, Option.isSome_some]
  ·rw [valV_neg e, decide_eq_false e, Bool.false_or]; exact valV_any k r
theorem length_putK (kvs : List (κ × V)) (k : κ) (v : V) : (putK kvs k v).length ≤ kvs.length + 1 := by
 unfold putK
 split
 ·rw [List.length_map]; omega
 ·rw [List.length_append, List.length_cons, List.length_nil]; omega

theorem RelO.isSome_eq {o : Option V} {u : Option Value} (r : RelO o u) : o.isSome = u.isSome := by
 cases o with
 | none => cases u with
  | none => rfl
  | some _ => exact (show False from r).elim
 | some _ => cases u with
  | none => exact (show False from r).elim
  | some _ => rfl
theorem RelO.getD {o : Option V} {u : Option Value} {d : V} {d' : Value} (r : RelO o u) (rd : RelV d d') : RelV (o.getD d) (u.getD d') := by
 cases o with
 | none => cases u with
  | none => exact rd
  | some _ => exact (show False from r).elim
 | some _ => cases u with
  | none => exact (show False from r).elim
  | some _ => exact r

theorem KV.val {kvs : List (κ × V)} {vs : List (κ × Value)} (r : KV kvs vs) (k : κ) : RelO (valV kvs k) (valueAt vs k) := by
 unfold KV at r
 induction r with
 | nil => exact True.intro
 | @cons p q ps qs h t ih =>
  obtain ⟨h1, h2⟩ := h
  by_cases e : p.1 = k
  ·have e' : q.1 = k := h1.symm.trans e
   have b : valueAt (q :: qs) k = some q.2 := by simp [valueAt, List.find?_cons, e']
   rw [valV_pos e, b]; exact h2
  ·have e' : ¬ q.1 = k := fun z => e (h1.trans z)
   have b : valueAt (q :: qs) k = valueAt qs k := by simp [valueAt, List.find?_cons, e']
   rw [valV_neg e, b]; exact ih
theorem KV.any {kvs : List (κ × V)} {vs : List (κ × Value)} (r : KV kvs vs) (k : κ) : (kvs.any fun kv => decide (kv.1 = k)) = vs.any fun kv => decide (kv.1 = k) := by
 unfold KV at r
 induction r with
 | nil => rfl
 | cons h t ih => rw [List.any_cons, List.any_cons, ih, h.1]
theorem KV.repl {kvs : List (κ × V)} {vs : List (κ × Value)} (r : KV kvs vs) (k : κ) {y : V} {u : Value} (ry : RelV y u) :
  KV (kvs.map fun kv => if kv.1 = k then (kv.1, y) else kv) (vs.map fun kv => if kv.1 = k then (kv.1, u) else kv) := by
 unfold KV at r ⊢
 induction r with
 | nil => exact .nil
 | @cons p q ps qs h t ih =>
  rw [List.map_cons, List.map_cons]
  refine .cons ?_ ih
  obtain ⟨h1, h2⟩ := h
  by_cases e : p.1 = k
  ·rw [if_pos e, if_pos (h1.symm.trans e)]; exact ⟨h1, ry⟩
  ·rw [if_neg e, if_neg (fun z => e (h1.trans z))]; exact ⟨h1, h2⟩
theorem KV.put {kvs : List (κ × V)} {vs : List (κ × Value)} (r : KV kvs vs) (k : κ) {y : V} {u : Value} (ry : RelV y u) : KV (putK kvs k y) (stored vs k u) := by
 unfold putK stored
 rw [r.any k]
 by_cases e : (vs.any fun kv => decide (kv.1 = k)) = true
 ·rw [if_pos e, if_pos e]; exact r.repl k ry
 ·rw [if_neg e, if_neg e]; exact Paired.snoc r ⟨rfl, ry⟩
theorem KV.keys {kvs : List (κ × V)} {vs : List (κ × Value)} (r : KV kvs vs) : kvs.map (·.1) = vs.map (·.1) := by
 unfold KV at r
 induction r with
 | nil => rfl
 | cons h t ih => rw [List.map_cons, List.map_cons, ih, h.1]
theorem KV.length {kvs : List (κ × V)} {vs : List (κ × Value)} (r : KV kvs vs) : kvs.length = vs.length := Paired.length r
end


theorem kV_is {P : Program} {w : World} {k : Key} {u : Value} (r : RelV (kV k) u) : (mixKind P w).is k u = true := by
 cases k with
 | inl i => obtain ⟨t, e⟩ := (show ∃ t, u = Value.int i t from r); subst e; exact mixKind_int P w i t
 | inr x => obtain ⟨t, e⟩ := (show ∃ t, u = Value.str x t from r); subst e; exact mixKind_str P w x t
theorem items_are {P : Program} {w : World} : ∀ {ks : List Key} {us : List Value}, Vals (ks.map kV) us → ItemsAre (mixKind P w) ks us
 | [], _, r => by rw [List.map_nil] at r; cases r; exact .nil
 | k :: ks, _, r => by
  rw [List.map_cons] at r
  cases r with
  | cons h t => exact .cons (kV_is h) (items_are t)

noncomputable abbrev KT (H : Hp) : List (List Key × V) → List (List Key × Addr × Value) → Prop := Paired fun p q => p.1 = q.1 ∧ H q.2.1 = some (.tup (p.1.map kV)) ∧ RelV p.2 q.2.2
theorem KT.val {H : Hp} {kvs : List (List Key × V)} {xs : List (List Key × Addr × Value)} (r : KT H kvs xs) (k : List Key) : RelO (valV kvs k) ((atKey xs k).map (·.2)) := by
 induction r with
 | nil => exact True.intro
 | @cons p q ps qs h t ih =>
  obtain ⟨h1, _, h2⟩ := h
  by_cases e : p.1 = k
  ·have e' : q.1 = k := h1.symm.trans e
   have b : atKey (q :: qs) k = some q.2 := by simp [atKey, List.find?_cons, e']
   rw [valV_pos e, b]; exact h2
  ·have e' : ¬ q.1 = k := fun z => e (h1.trans z)
   have b : atKey (q :: qs) k = atKey qs k := by simp [atKey, List.find?_cons, e']
   rw [valV_neg e, b]; exact ih
theorem KT.repl {H : Hp} {kvs : List (List Key × V)} {xs : List (List Key × Addr × Value)} (r : KT H kvs xs) (k : List Key) {y : V} {u : Value} (ry : RelV y u) :
  KT H (kvs.map fun kv => if kv.1 = k then (kv.1, y) else kv) (xs.map (putAt k u)) := by
 induction r with
 | nil => exact .nil
 | @cons p q ps qs h t ih =>
  rw [List.map_cons, List.map_cons]
  refine .cons ?_ ih
  obtain ⟨h1, h2, h3⟩ := h
  unfold putAt
  by_cases e : p.1 = k
  ·rw [if_pos e, if_pos (h1.symm.trans e)]; exact ⟨h1, h2, ry⟩
  ·rw [if_neg e, if_neg (fun z => e (h1.trans z))]; exact ⟨h1, h2, h3⟩
theorem KT.put {H : Hp} {kvs : List (List Key × V)} {xs : List (List Key × Addr × Value)} (r : KT H kvs xs) (k : List Key) {b : Addr} {y : V} {u : Value} (hb : H b = some (.tup (k.map kV))) (ry : RelV y u) :
  KT H (putK kvs k y) (storedH xs k b u) := by
 have e : (kvs.any fun kv => decide (kv.1 = k)) = (atKey xs k).isSome := by
  rw [valV_any, (r.val k).isSome_eq, Option.isSome_map]
 unfold putK storedH
 rw [e]
 by_cases q : (atKey xs k).isSome = true
 ·rw [if_pos q, if_pos q]; exact r.repl k ry
 ·rw [if_neg q, if_neg q]; exact Paired.snoc r ⟨rfl, hb, ry⟩
theorem KT.keeps {H H' : Hp} {kvs : List (List Key × V)} {xs : List (List Key × Addr × Value)} (r : KT H kvs xs) (ht : ∀ b ys, H b = some (.tup ys) → H' b = some (.tup ys)) : KT H' kvs xs :=
 Paired.mapP r fun _ _ z => ⟨z.1, ht _ _ z.2.1, z.2.2⟩

section
variable {P : Program} {w : World} {H : Hp} {h : Heap} {a : Addr}
theorem rd_of {u : HO} (ok : HOk P w H h) (e : Rd H a u) : ObjOk P w H h a u := e.ok ok
theorem dk_rd {kvs : List (Key × V)} (ok : HOk P w H h) (e : Rd H a (.dK kvs)) : kvs.length ≤ sizeLine ∧ (a == sysModules) = false ∧ ∃ vs, KV kvs vs ∧ h.DictOf (mixKind P w) a vs :=
 show ObjOk P w H h a (.dK kvs) from rd_of ok e
theorem dk_of {kvs : List (Key × V)} (ok : HOk P w H h) (e : H a = some (.dK kvs)) : kvs.length ≤ sizeLine ∧ (a == sysModules) = false ∧ ∃ vs, KV kvs vs ∧ h.DictOf (mixKind P w) a vs := dk_rd ok (.inl e)
theorem key_of {ks : List Key} (ok : HOk P w H h) (e : H a = some (.tup (ks.map kV))) : (tupleKind (mixKind P w)).is h ks a := by
 obtain ⟨_, its, r, o, h1, h2, n, h3⟩ := (show ObjOk P w H h a (.tup (ks.map kV)) from ok a _ e)
 exact ⟨o, its.toArray, n, h1, h2, h3, by simpa using items_are r⟩
theorem dt_rd {kvs : List (List Key × V)} (ok : HOk P w H h) (e : Rd H a (.dT kvs)) : kvs.length ≤ sizeLine ∧ (a == sysModules) = false ∧
  ∃ xs, KT H kvs xs ∧ h.DictOfH (tupleKind (mixKind P w)) a xs := by
 obtain ⟨z, y, xs, r, o, es, ep, h1, h2, h3, h4, h5⟩ := (show ObjOk P w H h a (.dT kvs) from rd_of ok e)
 refine ⟨z, y, xs, r, o, es, ep, h1, h2, h3, h4, fun x hx => ?_, h5⟩
 have all : ∀ {l : List (List Key × V)} {m : List (List Key × Addr × Value)}, KT H l m → ∀ x ∈ m, (tupleKind (mixKind P w)).is h x.1 x.2.1 := by
  intro l m q
  induction q with
  | nil => intro x hx; exact nomatch hx
  | @cons p q ps qs hq t ih =>
   intro x hx
   rcases List.mem_cons.mp hx with e | hx
   ·subst e
    exact key_of ok (by rw [← hq.1]; exact hq.2.1)
   ·exact ih x hx
 exact all r x hx
theorem dt_of {kvs : List (List Key × V)} (ok : HOk P w H h) (e : H a = some (.dT kvs)) : kvs.length ≤ sizeLine ∧ (a == sysModules) = false ∧
  ∃ xs, KT H kvs xs ∧ h.DictOfH (tupleKind (mixKind P w)) a xs := dt_rd ok (.inl e)
end

noncomputable def DGet (H : Hp) (a : Addr) (y : V) (r : Option V) : Prop :=
 (∃ kvs k, Rd H a (.dK kvs) ∧ y = kV k ∧ r = valV kvs k) ∨ ∃ kvs k b, Rd H a (.dT kvs) ∧ y = .ref b ∧ H b = some (.tup (k.map kV)) ∧ r = valV kvs k
noncomputable def DPut (H : Hp) (a : Addr) (y v : V) (H' : Hp) : Prop :=
 (∃ kvs k, H a = some (.dK kvs) ∧ y = kV k ∧ kvs.length < sizeLine ∧ H' = upd H a (.dK (putK kvs k v))) ∨
 ∃ kvs k b, H a = some (.dT kvs) ∧ y = .ref b ∧ H b = some (.tup (k.map kV)) ∧ kvs.length < sizeLine ∧ H' = upd H a (.dT (putK kvs k v))
theorem DGet.k {H : Hp} {a : Addr} {kvs : List (Key × V)} {k : Key} (e : H a = some (.dK kvs)) : DGet H a (kV k) (valV kvs k) := .inl ⟨kvs, k, .inl e, rfl, rfl⟩
theorem DPut.k {H : Hp} {a : Addr} {kvs : List (Key × V)} {k : Key} {v : V} (e : H a = some (.dK kvs)) (hl : kvs.length < sizeLine) : DPut H a (kV k) v (upd H a (.dK (putK kvs k v))) := .inl ⟨kvs, k, e, rfl, hl, rfl⟩


section
variable {X : Cx} {pins : List (Addr × Obj)} {σ : St} {H : Hp} {s : Shared} {a : Addr} {y v : V} {u r : Value} {o : Option V} {A : Around} {E : Value → Shared → Prop}

theorem Inv.big (I : Inv X pins σ H s) : sysModules < s.heap.objs.size := by
 have h : mainGlobals < s.heap.objs.size := (I.mod.glob.keeps I.bk).lt
 exact Nat.lt_trans (by decide) h

theorem d_getItem {Q : Value → Shared → Prop} (hu : A.units + 1 < cLine) (I : Inv X pins σ H s) (g : DGet H a y (some v)) (ry : RelV y u) (h : ∀ w' s', Inv X pins σ H s' → RelV v w' → Q w' s') :
  wpAny (model X.prog X.w) A (getItem (.ref a) u) Q E s := by
 rcases g with ⟨kvs, k, e, ey, l⟩ | ⟨kvs, k, b, e, ey, eb, l⟩
 ·subst ey
  obtain ⟨z, hd, vs, rel, dd⟩ := dk_rd I.hok e
  obtain ⟨w', hw, rw'⟩ := RelO.some_of (v := v) (o := valueAt vs k) (by rw [l]; exact rel.val k)
  exact wpAny_getItem_of (kV_is ry) dd.mapOf hw (h w' _ (I.tok _) rw')
 ·subst ey
  cases (show u = Value.ref b from ry)
  obtain ⟨z, hd, xs, rel, dd⟩ := dt_rd I.hok e
  obtain ⟨w', hw, rw'⟩ := RelO.some_of (v := v) (o := (atKey xs k).map (·.2)) (by rw [l]; exact rel.val k)
  obtain ⟨p, hp, hp2⟩ := Option.map_eq_some_iff.mp hw
  refine wpAny_getItem_heap (tupleKind_room_in1 hu) (key_of I.hok eb) dd hp ?_
  rw [hp2]
  exact h w' _ (I.tok _) rw'
theorem d_write {h' : Heap} {t' : Nat} {ob : HO} (I : Inv X pins σ H s) (mu : Mut (H a)) (hs : Heap.SameBut a s.heap h') (he : ∃ q, h'.get? a = some q) (new : ObjOk X.prog X.w (upd H a ob) h' a ob) :
  Inv X pins σ (upd H a ob) { s with heap := h', toks := t' } :=
 I.write (x := a) (e := a) mu (.inl rfl) (fun b q hb z => (hs.2 b hb).trans z) he new
theorem dk_new {P : Program} {w : World} {H' : Hp} {h' : Heap} {kvs : List (Key × V)} {vs : List (Key × Value)} (z : kvs.length ≤ sizeLine) (hd : (a == sysModules) = false) (rel : KV kvs vs) (dd : h'.DictOf (mixKind P w) a vs) :
  ObjOk P w H' h' a (.dK kvs) := ⟨z, hd, vs, rel, dd⟩
theorem d_setItem {H' : Hp} {Q : Unit → Shared → Prop} (hu : A.units + 1 < cLine) (I : Inv X pins σ H s) (g : DPut H a y v H') (ry : RelV y u) (rv : RelV v r) (h : ∀ s', Inv X pins σ H' s' → Q () s') :
  wpAny (model X.prog X.w) A (setItem (.ref a) u r) Q E s := by
 rcases g with ⟨kvs, k, e, ey, l, eH⟩ | ⟨kvs, k, b, e, ey, eb, l, eH⟩
 ·subst ey eH
  obtain ⟨z, hd, vs, rel, dd⟩ := dk_of I.hok e
  have hz : vs.length ≤ sizeLine := by rw [← rel.length]; exact z
  have hl : (putK kvs k v).length ≤ sizeLine := by have := length_putK kvs k v; omega
  refine wpAny_setItem_pairs (hsz := hz) (kV_is ry) dd fun h' dd' hs => h _ ?_
  have he : ∃ q, h'.get? a = some q := let ⟨q, _, _, hq, _⟩ := dd'; ⟨q, hq⟩
  exact d_write I (by rw [e]; exact True.intro) hs he (dk_new hl hd (rel.put k rv) dd')
 ·subst ey eH
  cases (show u = Value.ref b from ry)
  obtain ⟨z, hd, xs, rel, dd⟩ := dt_of I.hok e
  have hz : xs.length ≤ sizeLine := by rw [← Paired.length rel]; exact z
  have hl : (putK kvs k v).length ≤ sizeLine := by have := length_putK kvs k v; omega
  refine wpAny_setItem_heap (hsz := hz) (tupleKind_room_in1 hu) (key_of I.hok eb) dd fun h' dd' hs => h _ ?_
  obtain ⟨q, es, ep, hq, h2, h3, h4, _, h5⟩ := dd'
  refine d_write I (by rw [e]; exact True.intro) hs ⟨q, hq⟩ ⟨hl, hd, _, (rel.put k eb rv).keeps fun c ys ec => ?_, q, es, ep, hq, h2, h3, h4, h5⟩
  rw [upd_ne (ne_of ec e (fun z => nomatch z))]
  exact ec
end

section
variable {X : Cx} {pins : List (Addr × Obj)} {σ : St} {H : Hp} {s : Shared} {a : Addr} {kvs : List (Key × V)} {k : Key} {u : Value} {A : Around} {E : Value → Shared → Prop}
end


noncomputable def NoSl (i : Expr) : Prop := ∀ ov iv, subscripted i false ov iv = operate [ov, iv] (getItem ov iv)
theorem subD_of {prog : Program} {w : World} {A : Around} {E : Value → Shared → Prop} {s : Shared} {env : Env} {value slice : Expr} {pos : Pos} {T id : String} {Q : Value → Shared → Prop}
  (hl : typeLookup (.type T) "__getitem__" = pure (some (.builtin id))) (hs : NoSl slice)
  (h : wpAny (model prog w) A (eval value env) (fun o s₁ => wpAny (model prog w) A (eval slice env) (fun i s₂ => s₂.TypeIs o T ∧ wpAny (model prog w) A (getItem o i) Q E s₂) E s₁) E s) :
  wpAny (model prog w) A (eval (.Subscript value slice pos) env) Q E s := by
 refine Subscript_ (wpAny_mono h (fun o s₁ h₁ => wpAny_mono h₁ (fun i s₂ h₂ => ?_) fun _ _ x => x) fun _ _ x => x)
 obtain ⟨hT, h₂⟩ := h₂
 unfold subscriptTail
 refine wpAny_bind ?_
 rw [getitemInPython_of_ne hT.not_modules]
 refine wpAny_bind (wpAny_specialOf hT hl ?_)
 have fin : wpAny (model prog w) A (subscripted slice false o i) (fun r s₃ => wpAny (model prog w) A (letTemporaryGo value o r >>= fun _ => pure r) Q E s₃) E s₂ := by
  rw [hs o i]
  exact wpAny_operating (wpAny_mono h₂ (fun r s₃ h₃ => wpAny_bind (wpAny_letTemporaryGo (wpAny_pure h₃))) fun _ _ x => x)
 first
  | exact wpAny_pure (wpAny_bind fin)
  | exact wpAny_bind (wpAny_pure (wpAny_bind fin))
  | exact wpAny_bind fin

theorem dict_typeIs {X : Cx} {pins : List (Addr × Obj)} {σ : St} {H : Hp} {s : Shared} {a : Addr} {y : V} {o : Option V} (I : Inv X pins σ H s) (g : DGet H a y o) : s.TypeIs (.ref a) "dict" := by
 rcases g with ⟨kvs, k, e, _, _⟩ | ⟨kvs, k, b, e, _, _, _⟩
 ·obtain ⟨_, _, vs, _, dd⟩ := dk_rd I.hok e
  exact dd.typeIs
 ·obtain ⟨_, _, xs, _, dd⟩ := dt_rd I.hok e
  exact dd.typeIs


section
variable {X : Cx} {o i e value : Expr} {pos pos' tpos : Pos} {td ty tv : TE}
end


theorem dk_empty {P : Program} {w : World} {H : Hp} (h : Heap) (hb : sysModules < h.objs.size) : ObjOk P w H (h.push { cls := .type "dict", data := .dict #[] }) h.objs.size (.dK []) :=
 ⟨Nat.zero_le _, beq_eq_false_iff_ne.mpr (Ne.symm (Nat.ne_of_lt hb)), [], .nil, Heap.DictOf.new h⟩
noncomputable def tDNewK : TE := fun _ H Q => ∀ p, H p = none → Q (.ref p) (upd H p (.dK []))
section
variable {X : Cx} {pos : Pos}
theorem pe_dnewK : PE X (.Dict [] [] pos) tDNewK := fun pins s σ H Q I h =>
 wpAny_Dict_empty ⟨.ref s.heap.objs.size, _, I.laid (a := s.heap.objs.size) (o := .dK []) (t' := s.toks) (fun _ _ q => Heap.get?_push_of_some _ q) (Nat.le_refl _) (dk_empty s.heap I.big), rfl, h _ (I.hok.fresh (Nat.le_refl _))⟩
end

noncomputable abbrev VV : List (V × V) → List (Value × Value) → Prop := Paired fun p q => RelV p.1 q.1 ∧ RelV p.2 q.2



structure M1 (X : Cx) (o : Expr) (m : Str) (apos : Pos) (e : Expr) (cpos : Pos) : Prop where
 base : attributeBase o m X.env (eval o X.env) = eval o X.env
 few : ((backTo cpos (starEach [e] X.env)).all (fun x => !x.1) && (backToKw cpos (keywordEach [] X.env)).all (fun x => x.1.isSome)
  && decide (([e] : List Expr).length + ([] : List Keyword).length + (if ([] : List Keyword).isEmpty then 0 else 1) < 30)) = true
 line : (apos.endLine == cpos.line) = true
 trees : backTo cpos (starEach [e] X.env) = [(false, eval e X.env)]
structure M2 (X : Cx) (o : Expr) (m : Str) (apos : Pos) (e f : Expr) (cpos : Pos) : Prop where
 base : attributeBase o m X.env (eval o X.env) = eval o X.env
 few : ((backTo cpos (starEach [e, f] X.env)).all (fun x => !x.1) && (backToKw cpos (keywordEach [] X.env)).all (fun x => x.1.isSome)
  && decide (([e, f] : List Expr).length + ([] : List Keyword).length + (if ([] : List Keyword).isEmpty then 0 else 1) < 30)) = true
 line : (apos.endLine == cpos.line) = true
 trees : backTo cpos (starEach [e, f] X.env) = [(false, eval e X.env), (false, eval f X.env)]

noncomputable def IsD (H : Hp) (a : Addr) : Prop := (∃ kvs, Rd H a (.dK kvs)) ∨ ∃ kvs, Rd H a (.dT kvs)
theorem isD_at {X : Cx} {pins : List (Addr × Obj)} {σ : St} {H : Hp} {s : Shared} {a : Addr} (I : Inv X pins σ H s) (d : IsD H a) :
  s.TypeIs (.ref a) "dict" ∧ (∀ b, Value.ref a = .ref b → ∃ ob, s.heap.get? b = some ob ∧ ob.dict = none) ∧ (a == sysModules) = false := by
 rcases d with ⟨kvs, e⟩ | ⟨kvs, e⟩
 ·obtain ⟨_, hd, vs, _, dd⟩ := dk_rd I.hok e
  refine ⟨dd.typeIs, fun b q => ?_, hd⟩
  cases q
  obtain ⟨ob, _, _, h1, h2, _⟩ := dd
  exact ⟨ob, h1, h2.2.1⟩
 ·obtain ⟨_, hd, xs, _, dd⟩ := dt_rd I.hok e
  refine ⟨dd.typeIs, fun b q => ?_, hd⟩
  cases q
  obtain ⟨ob, _, _, h1, h2, _⟩ := dd
  exact ⟨ob, h1, h2.2.1⟩

section
variable {X : Cx} {pins : List (Addr × Obj)} {σ : St} {H : Hp} {s : Shared} {a : Addr} {y d : V} {u r : Value} {o : Option V} {A : Around} {E : Value → Shared → Prop}
theorem d_get2 {Q : Value → Shared → Prop} (hu : A.units + 1 < cLine) (I : Inv X pins σ H s) (g : DGet H a y o) (ry : RelV y u) (rd : RelV d r) (h : ∀ w' s', Inv X pins σ H s' → RelV (o.getD d) w' → Q w' s') :
  wpAny (model X.prog X.w) A (call (.builtin "dict.get") [.ref a, u, r]) Q E s := by
 rcases g with ⟨kvs, k, e, ey, l⟩ | ⟨kvs, k, b, e, ey, eb, l⟩
 ·subst ey
  obtain ⟨z, hd, vs, rel, dd⟩ := dk_rd I.hok e
  refine call_meetsIn PySem.F.slot_dict_get dd.typeIs PySem.F.entry_dict_get (PySem.F.args_dict_get_3 _ _ _) (meets_dict_get_default (mixKind X.prog X.w) a (kV_is ry) hd r) ⟨_, dd.mapOf, h _ _ (I.tok _) ?_⟩
  rw [l]
  exact (rel.val k).getD rd
 ·subst ey
  cases (show u = Value.ref b from ry)
  obtain ⟨z, hd, xs, rel, dd⟩ := dt_rd I.hok e
  refine call_meetsIn PySem.F.slot_dict_get dd.typeIs PySem.F.entry_dict_get (PySem.F.args_dict_get_3 _ _ _) (meetsH_dict_get_default (tupleKind (mixKind X.prog X.w)) a b hd r) ⟨tupleKind_room_in1 hu, k, xs, key_of I.hok eb, dd, h _ _ (I.tok _) ?_⟩
  rw [l]
  exact (rel.val k).getD rd
end

section
variable {X : Cx} {o e f : Expr} {apos cpos : Pos} {td ty tx : TE}
end

section
variable {X : Cx} {pins : List (Addr × Obj)} {σ : St} {H : Hp} {s : Shared} {a : Addr} {kvs : List (Key × V)} {A : Around} {E : Value → Shared → Prop}
end


section
variable {X : Cx} {pins : List (Addr × Obj)} {σ : St} {H : Hp} {s : Shared} {a : Addr} {y : V} {u : Value} {A : Around} {E : Value → Shared → Prop}
end
end L2
namespace Att
open PySem PySem.W PySem.Calls PyProof.Rows

theorem ints_of_wellAll {P : Params} {h : Heap} : ∀ (ns : List Int) (vs : List Value), WellAll P h vs (ns.map WData.int) → IntsAre vs ns := by
 intro ns
 induction ns with
 | nil =>
  intro vs w
  rw [List.map_nil] at w
  cases w
  exact .nil
 | cons n ns ih =>
  intro vs w
  rw [List.map_cons] at w
  cases w with
  | cons a b =>
   cases a
   exact .cons _ _ (ih _ b)

theorem script_of {l : OpenLaw} {n : Nat} (hn : l.most = some n) {P : Params} {h : Heap} {args : List WData} {vals : List Value}
  (hpre : l.row.toRowW.claim.pre args = true) (hwl : WellAll P h vals args) :
  ∃ a vs ns, vals = [Value.ref a] ∧ args = [WData.list (ns.map WData.int)] ∧ h.get? a = some { cls := .type "list", data := .seq vs.toArray } ∧ IntsAre vs ns ∧ ns.length ≤ n := by
 have hsh : WShape.hasAll [] args [.list .int] = true := (pre_splitW hpre).1
 have hc : l.pre.holds [] { args := args } = true := (pre_splitW hpre).2
 obtain ⟨d, r, rfl, h1, h2⟩ := hasAllW_cons hsh
 obtain rfl := hasAllW_nil h2
 obtain ⟨xs, rfl, h3⟩ := hasW_list h1
 obtain ⟨ns, rfl⟩ := items_int h3
 have hlen : ns.length ≤ n := by
  unfold OpenLaw.pre at hc
  have h4 : (WTm.not (.lt (.lit (.int (n : Int))) (.len (.arg 0)))).holds [] { args := [.list (ns.map .int)] } = true := by
   have h4 := (holds_andW hc).1
   rw [hn] at h4
   exact h4
  have h5 := condW_of h4 (w_not (w_lt w_lit (w_len_list (w_arg rfl))))
  rw [List.length_map] at h5
  refine Nat.le_of_not_lt fun q => ?_
  have q' : (n : Int) < ((ns.length : Nat) : Int) := by omega
  first
   | (rw [decide_eq_true q'] at h5; exact absurd h5 (by decide))
   | (simp at h5; omega)
 cases hwl with
 | cons w1 w2 =>
  cases w2
  cases w1 with
  | list ho hall => exact ⟨_, _, ns, rfl, rfl, ho, ints_of_wellAll ns _ hall, hlen⟩

theorem post_true (l : OpenLaw) (args : List WData) : l.row.toRowW.claim.post args (.bool true) args = true :=
 postW_of (r := l.row.toRowW) (X := (true == true))
  (show WShape.has [] (.bool true) .bool = true by first | rfl | decide | simp [WShape.has, WShape.arms, WShape.armsAll])
  (show (WTm.eq .res (.lit (.bool true))).value [] { args := args, res := some (.bool true), after := args } = some (.bool (true == true)) from w_eq_bool (w_res rfl) w_lit) rfl


theorem attach_call {l : OpenLaw} {n : Nat} {q : Program} {loose : List Str} {XP : (Str → Option Value) → Heap → Prop} {YP : World → Heap → Prop} {d : DefRec}
  (hn : l.most = some n) (hdf : d.params.defaults = [])
  (call : ∀ (w : World) (s₀ s₁ : Shared) (mg mb : Str → Option Value) (fa : Addr) (o : Obj) (pm cd doc : Value) (a : Addr) (vs : List Value) (ns : List Int),
   Ground q loose [] XP w s₀ mg mb s₁.heap → YP w s₁.heap →
   s₁.heap.get? fa = some o → o.data = .func (docDef d.name d.params d.body d.scope pm cd doc) → s₁.heap.CodeRec cd d.name → mg d.name = some (.ref fa) →
   s₁.heap.get? a = some { cls := .type "list", data := .seq vs.toArray } → IntsAre vs ns → ns.length ≤ n → s₁.gens = #[] →
   codeAny (model l.prog w) callerA (.call (.ref fa) ⟨[.ref a], []⟩) (fun r s' => r = .ok (.ret (.bool true)) ∧ OldK s₁.heap s'.heap ∧ s'.os = s₁.os ∧ AllBare s'.gens) s₁) :
  WalkO q loose XP YP l.row.toRowW d [] (fun f vs => PySem.call f vs) := by
 intro w s₀ s₁ mg mb G Y fa o pm cd doc dV kV ho hd hcd hD hmg hg args vals as hpre hlay hrd hwl hlo
 obtain rfl : dV = .none := Dflts.none hD hdf
 obtain rfl : kV = .none := Dflts.noKw hD
 obtain ⟨a, vs, ns, rfl, rfl, hobj, hints, hlen⟩ := script_of hn hpre hwl
 refine enter_call (codeAny_mono (call w s₀ s₁ mg mb fa o pm cd doc a vs ns G Y ho (fd_plain hd) hcd hmg hobj hints hlen hg) fun r s' hq => ?_)
 obtain ⟨rfl, h2, h3, h4⟩ := hq
 exact ⟨.inl ⟨.bool true, .bool true, [], rfl, fun _ => rfl, .bool true, post_true l _, fun _ => ⟨List.Pairwise.nil, fun _ hm => (nomatch hm)⟩⟩, h2, h3, h4⟩


section
variable {prog : Program} {w : World} {A : Around} {E : Value → Shared → Prop} {s : Shared} {K : Frag}






end
end Att

namespace L2
open PySem PySem.Spec PyProof.Rows

theorem vals_ints : ∀ {vs : List Value} {ns : List Int}, IntsAre vs ns → Vals (ns.map V.int) vs
 | _, _, .nil => .nil
 | _, _, .cons n t h => .cons ⟨t, rfl⟩ (vals_ints h)

noncomputable def Only (H : Hp) : Prop := ∀ b, H b = none ∨ ∃ o xs, H b = some (.frz o (.lst xs))

theorem law_call {P : Program} {w : World} {K : PySem.W.Frag} {mg mb : Str → Option Value} {CX : CXT} {k : Nat} {fa a : Addr} {fd : FuncData} {x : Str} {sp : Sp} {s₁ : Shared} {vs : List Value} {ns : List Int}
  (KX : K.In s₁.heap) (hns : s₁.heap.Ns mainGlobals mg) (hb : s₁.heap.Ns builtinsNs mb) (hbb : ∀ x : Str, x ≠ "__name__" → mb x = bootBuiltins x) (hlim : s₁.heap.NoLimit) (hg : s₁.gens = #[])
  (ha : s₁.heap.get? a = some { cls := .type "list", data := .seq vs.toArray }) (hi : IntsAre vs ns) (hl : ns.length ≤ sizeLine) (hr : Room k callerA)
  (F : ∀ base : Heap, K.In base → base.Ns mainGlobals mg → FnOk P w K mg base CX k fa fd [x] sp) (hbind : ∀ (s : Shared) (u : Value), BindsTo s fd ⟨[u], []⟩ [(x, u)])
  (hsp : ∀ H : Hp, Only H → SqX K H a (ns.map V.int) → sp [.ref a] H (fun v _ => v = .bl true) fun _ _ _ => False)
  (hCX : ∀ H e s', CX [] H s₁ (fun _ _ _ => False) e s' → False) :
  codeAny (model P w) callerA (.call (.ref fa) ⟨[.ref a], []⟩) (fun r s' => r = .ok (.ret (.bool true)) ∧ OldK s₁.heap s'.heap ∧ s'.os = s₁.os ∧ AllBare s'.gens) s₁ := by
 have rv := vals_ints hi
 have lenV := hi.length
 have core : ∀ H : Hp, Only H → SqX K H a (ns.map V.int) → HOk P w H s₁.heap → (∀ b, H b ≠ none → b = a) → (H a ≠ none → K.lookup a = none) →
   codeAny (model P w) callerA (.call (.ref fa) ⟨[.ref a], []⟩) (fun r s' => r = .ok (.ret (.bool true)) ∧ OldK s₁.heap s'.heap ∧ s'.os = s₁.os ∧ AllBare s'.gens) s₁ := by
  intro H hO hS hok hA hK
  have base_of : ∀ {b : Addr} {o : Obj}, s₁.heap.get? b = some o → H b = none → (hidT s₁.heap H).get? b = some o := fun e n => hidT_get e n
  have noA : ∀ {b : Addr} {o : Obj} {es : Array DictEntry} {ep : Nat}, s₁.heap.get? b = some o → o.data = .dict es ep → H b = none := fun {b o es ep} e d => by
   cases q : H b with
   | none => rfl
   | some u =>
    have e' : b = a := hA b (by rw [q]; simp)
    subst e'
    rw [ha] at e; cases e
    have d' : Data.seq vs.toArray _ = Data.dict es ep := d
    cases d'
  have nsK : ∀ {b : Addr} {m : Str → Option Value}, s₁.heap.Ns b m → (hidT s₁.heap H).Ns b m := fun {b m} ⟨o, es, ep, e, d, r⟩ => ⟨o, es, ep, base_of e (noA e d), d, r⟩
  have hKb : K.In (hidT s₁.heap H) := fun b o e => base_of (KX b o e) (by
   cases q : H b with
   | none => rfl
   | some u =>
    have e' : b = a := hA b (by rw [q]; simp)
    subst e'
    rw [hK (by rw [q]; simp)] at e; cases e)
  have hM : Mod K mg (hidT s₁.heap H) := ⟨hKb, nsK hns, ⟨mb, nsK hb, hbb⟩, let ⟨mc, h1, h2⟩ := hlim; ⟨mc, nsK h1, h2⟩⟩
  have e0 : Env0 P w K mg (hidT s₁.heap H) callerA [] s₁ H := ⟨rfl, hM, fun b o e => of_hidT e, Nat.le_of_eq (hidT_size _ _), trivial, fun b hb => absurd (show b ∈ ([] : List Addr) from hb) (by simp), hok, .of_eq hg⟩
  refine codeAny_mono ((F _ hKb (nsK hns)).run callerA [] s₁ H ⟨[.ref a], []⟩ [.ref a] [.ref a] _ _ hr e0 (hbind s₁ (.ref a)) (.cons rfl .nil) (hsp H hO hS)) fun r s' h => ?_
  cases r with
  | error e => exact (hCX H e s' h).elim
  | ok fl =>
   cases fl with
   | next => exact False.elim h
   | brk => exact False.elim h
   | cont => exact False.elim h
   | ret u =>
    obtain ⟨v, H', os, bare, un, hok', r', q⟩ := h
    have q' : v = .bl true := q
    subst q'
    obtain rfl : u = Value.bool true := r'
    refine ⟨rfl, OldK.of_keep fun b o e => ?_, os, bare⟩
    cases q : H b with
    | none => exact un.keep b o e q (by intro z; exact absurd (show b ∈ ([] : List Addr) from z) (by simp)) (by simp)
    | some u =>
     rcases hO b with z | ⟨ob, xs, z⟩
     ·rw [q] at z; cases z
     ·have z2 := un.frzs b ob _ z
      obtain ⟨e1, _⟩ := hok b _ z
      obtain ⟨e2, _⟩ := hok' b _ z2
      rw [e] at e1; cases e1
      exact e2
 cases hk : K.lookup a with
 | some o =>
  have e := KX a o hk
  rw [ha] at e
  cases e
  refine core (fun _ => none) (fun _ => .inl rfl) (.inr ⟨vs.toArray, _, hk, by rw [List.size_toArray, lenV]; exact hl, by simpa using rv⟩) (fun b u z => by have z' : (none : Option HO) = some u := z; cases z') (fun b z => absurd rfl z) fun z => absurd rfl z
 | none =>
  refine core (fun b => if b = a then some (.frz { cls := .type "list", data := .seq vs.toArray } (.lst (ns.map V.int))) else none) (fun b => ?_) (.inl (.inr ⟨{ cls := .type "list", data := .seq vs.toArray }, if_pos rfl⟩)) (fun b u z => ?_) (fun b z => ?_) fun _ => hk
  ·by_cases hb : b = a
   ·exact .inr ⟨_, _, if_pos hb⟩
   ·exact .inl (if_neg hb)
  ·by_cases hb : b = a
   ·have z' := (if_pos hb).symm.trans z
    cases z'
    subst hb
    exact ⟨ha, by rw [List.length_map]; exact hl, vs, _, rv, ha⟩
   ·have z' := (if_neg hb).symm.trans z
    cases z'
  ·by_cases hb : b = a
   ·exact hb
   ·exact absurd (if_neg hb) z
end L2

namespace L2
open PySem PySem.Spec PyProof.Rows

noncomputable abbrev KOf {K : PySem.W.Frag} {h : Heap} (_ : K.In h) : PySem.W.Frag := K

theorem walk_of {l : PySem.W.OpenLaw} {n k : Nat} {q : Program} {loose : List Str} {XP : (Str → Option Value) → Heap → Prop} {YP : World → Heap → Prop} {d : DefRec} {K : Params → PySem.W.Frag} {CX : World → CXT} {sp : World → Sp} {x : Str}
  (hn : l.most = some n) (hn2 : n ≤ sizeLine) (hdf : d.params.defaults = []) (hr : Room k callerA)
  (hY : ∀ (w : World) (h : Heap), YP w h → (K w.params).In h)
  (F : ∀ (w : World) (mg : Str → Option Value) (fa : Addr) (h : Heap), (K w.params).In h → h.Ns mainGlobals mg → mg d.name = some (.ref fa) →
   ∃ fd : FuncData, (∀ (s : Shared) (u : Value), BindsTo s fd ⟨[u], []⟩ [(x, u)]) ∧
    ∀ base : Heap, (K w.params).In base → base.Ns mainGlobals mg → FnOk l.prog w (K w.params) mg base (CX w) k fa fd [x] (sp w))
  (hsp : ∀ (w : World) (H : Hp) (a : Addr) (ns : List Int), ns.length ≤ n → Only H → SqX (K w.params) H a (ns.map V.int) → sp w [.ref a] H (fun v _ => v = .bl true) fun _ _ _ => False)
  (hCX : ∀ (w : World) (H : Hp) (s : Shared) (e : Value) (s' : Shared), CX w [] H s (fun _ _ _ => False) e s' → False) :
  PySem.W.WalkO q loose XP YP l.row.toRowW d [] (fun f vs => PySem.call f vs) := by
 refine Att.attach_call hn hdf fun w s₀ s₁ mg mb fa o pm cd doc a vs ns G Y ho hd hcd hmg hobj hints hlen hg => ?_
 have KX := hY w _ Y
 obtain ⟨fd, hb, hF⟩ := F w mg fa _ KX G.T.g hmg
 exact law_call KX G.T.g G.T.b G.T.builtins G.T.nolimit hg hobj hints (Nat.le_trans hlen hn2) hr hF hb (fun H hO hS => hsp w H a ns hlen hO hS) fun H e s' => hCX w H s₁ e s'
end L2

/- THE LAST THEOREM (shape; LID, My.* are yours):
   My.Adr: a structure of the addresses that your layer names (classes, functions); My.Txt K t: a structure (Prop) of the equations over K;
   My.txt_mk : {K} {implicit addresses ..} (e1 : nsIn K mainGlobals "law" = some (some (.ref f))) (e2 : K.lookup f = some ⟨oc, od, .func (fnOf "law" "law" params body scope dV kV doc pm an cdv ct), sl⟩) (e3 : codeIn K cdv "law" = true) .. : ∃ t, My.Txt K t

set_option maxHeartbeats 0 in
theorem PySem.Challenge.cw_LID_holds : PySem.Challenge.rw_LID.Holds := by
 w_on; o_law; k_head; (case hw => w_witness2)
 k_fill
 refine L2.walk_of (l := PySem.Challenge.rw_LID) (n := 63) (k := 40) (x := "script") (CX := fun w => ..) (sp := fun _ => My.sp_law) rfl (by decide) rfl ⟨rfl, by decide, by decide⟩ (fun w h Y => PySem.W.kIn_of Y) ?F ?S ?C
 case F =>
  intro w mg fa h KX G hmg
  have T : ∃ t, My.Txt (L2.KOf KX) t := by
   dsimp only [L2.KOf]                          -- K must stand as «<heap const> w.params» for k_is
   refine' My.txt_mk ?e1 ?e2 ?e3 ..
   (case e1 => PySem.W.k_is)                    -- in the order: a name -> its address -> its object -> its parts
   (case e2 => PySem.W.k_is)
   ..
  obtain ⟨t, T⟩ := T
  have e0 := hmg.symm.trans (PySem.W.mg_of KX G T.law)
  cases e0                                       -- fa is the law's own address
  exact ⟨_, fun s u => .of_eq rfl, fun base kb nb => My.law_fn T kb nb⟩     -- if «.of_eq rfl» comes too early: refine' ⟨_, ?b, fun base kb nb => My.law_fn T kb nb⟩; exact fun s u => .of_eq rfl
 case S => exact fun w H a ns hl hO hS => ..
 case C => exact ..
(the tactic k_is has no namespace: write k_is) -/

namespace L2
open PySem PySem.Spec PyProof.Rows

noncomputable def defArgs (s : Stmt) : Arguments := match s with
 | .FunctionDef _ a _ _ _ _ _ _ _ _ => a
 | _ => { posonlyargs := [], args := [], vararg := none, kwonlyargs := [], kw_defaults := [], kwarg := none, defaults := [] }
noncomputable def defBody (s : Stmt) : List Stmt := match s with
 | .FunctionDef _ _ b _ _ _ _ _ _ _ => b
 | _ => []
noncomputable def defScope (s : Stmt) : Scope := match s with
 | .FunctionDef _ _ _ _ _ _ sc _ _ _ => sc
 | _ => { kind := .function, names := [], isGenerator := false, isCoroutine := false }

noncomputable abbrev CX0 : CXT := fun _ _ _ _ _ _ => False
noncomputable abbrev E0 : XK := fun _ _ _ => False

structure Fun (K : PySem.W.Frag) (x qual : Str) (st : Stmt) (f : Addr) (fd : FuncData) : Prop where
 ex : ∃ (oc : Value) (od : Option Addr) (kV doc pm : Value) (an : Option Addr) (cdv ct : Value) (osl : Array (Option Value)),
  fd = PySem.W.fnOf x qual (defArgs st) (defBody st) (defScope st) .none kV doc pm an cdv ct ∧ K.lookup f = some ⟨oc, od, .func fd, osl⟩ ∧ PySem.W.codeIn K cdv qual = true
 kp : PySem.W.keepIn K (.ref f) = true
section
variable {P : Program} {w : World} {K : PySem.W.Frag} {mg : Str → Option Value} {base : Heap}
theorem Fun.binds {x qual : Str} {st : Stmt} {f : Addr} {fd : FuncData} {ps : List Str} (F : Fun K x qual st f fd)
  (h : ∀ (kV doc pm : Value) (an : Option Addr) (cdv ct : Value) (us : List Value), us.length = ps.length → bindArgs (PySem.W.fnOf x qual (defArgs st) (defBody st) (defScope st) .none kV doc pm an cdv ct) ⟨us, []⟩ = pure (ps.zip us)) : Binds K fd ps [] := by
 obtain ⟨oc, od, kV, doc, pm, an, cdv, ct, osl, rfl, lk, hcd⟩ := F.ex
 exact .all (h kV doc pm an cdv ct)
theorem fun_mk {x qual : Str} {st : Stmt} {f : Addr} {oc : Value} {od an : Option Addr} {osl : Array (Option Value)} {kV doc pm cdv ct : Value} (l : K.lookup f = some ⟨oc, od, .func (PySem.W.fnOf x qual (defArgs st) (defBody st) (defScope st) .none kV doc pm an cdv ct), osl⟩)
  (c : PySem.W.codeIn K cdv qual = true) (k : PySem.W.keepIn K (.ref f) = true) : Fun K x qual st f (PySem.W.fnOf x qual (defArgs st) (defBody st) (defScope st) .none kV doc pm an cdv ct) := ⟨⟨oc, od, kV, doc, pm, an, cdv, ct, osl, rfl, l, c⟩, k⟩
end

section
variable {X : Cx}
theorem pv (i : Nat) {x : Str} {pos : Pos} (hN : X.N[i]? = some x := by rfl) (hv : Vis X.env.scope x := by first | exact Or.inl rfl | exact Or.inr (Or.inl rfl) | exact Or.inr (Or.inr rfl)) (hd : (x == ("__debug__" : Str)) = false := by decide)
  (hcd : (x == ("__classdict__" : Str)) = false := by decide) : PE X (.Name x pos) (tVar i) := pe_var hN hv hd hcd
end


noncomputable def Same (H H' : Hp) : Prop := ∀ b o, H b = some o → H' b = some o
theorem Same.refl (H : Hp) : Same H H := fun _ _ h => h

section
variable {κ : Type} [DecidableEq κ]
end
end L2
namespace L2
open PySem PySem.Spec PyProof.Rows

theorem codeAny_compLoop_any {prog : Program} {w : World} {A : Around} {elt iter tg : Expr} {ifs : List Expr} {scope : Scope} {pos : Pos} {it acc : Value} {env : Env} {s : Shared} {R : Result → Shared → Prop} (I : Nat → Shared → Prop)
  (turn : ∀ n s, I n s → wpAny (model prog w) A (pyNext it) (fun r s₁ => match r with
   | none => R (.ok .next) s₁
   | some v => wpAny (model prog w) A (letOwnedTupleGo tg it v) (fun _ s₁' => wpAny (model prog w) A (assign tg env v) (fun _ s₂ =>
     wpAny (model prog w) A (forIn ifs true fun c r => if r = true then do let ok ← isTrue c env (eval c env); pure (ForInStep.yield ok) else pure (ForInStep.yield r)) (fun ok s₃ =>
      if ok = true then wpAny (model prog w) A (eval elt env) (fun x s₄ =>
       wpAny (model prog w) A (call (.builtin "list.append") [acc, x]) (fun _ s₅ => ∃ m, m < n ∧ I m s₅) (fun _ _ => False) s₄) (fun _ _ => False) s₃
      else ∃ m, m < n ∧ I m s₃) (fun _ _ => False) s₂)
     (fun _ _ => False) s₁') (fun _ _ => False) s₁) (fun _ _ => False) s)
  (n : Nat) (h : I n s) : codeAny (model prog w) A (.compLoop (.ListComp elt [⟨tg, iter, ifs, 0⟩] scope pos) 0 it acc env) R s := by
 refine codeAny_loop rfl I (fun n s hI => ?_) n h
 show wpAny _ A ((compTurn (.ListComp elt [⟨tg, iter, ifs, 0⟩] scope pos) 0 it acc env).onRaise (fun x => do noteFrame x env; theTreesLotGoes x)) _ _ s
 refine wpAny_noted ?_
 rw [compTurn_list]
 refine wpAny_bind (wpAny_standAt (wpAny_bind (wpAny_mono (turn n s hI) (fun r s₁ h₁ => ?_) fun _ _ h' => h'.elim)))
 cases r with
 | none => exact wpAny_pure h₁
 | some v =>
  refine wpAny_bind (wpAny_mono h₁ (fun _ s₁' h₁' => ?_) fun _ _ h' => h'.elim)
  refine wpAny_bind (wpAny_mono h₁' (fun _ s₂ h₂ => wpAny_bind (wpAny_mono h₂ (fun ok s₃ h₃ => ?_) fun _ _ h' => h'.elim)) fun _ _ h' => h'.elim)
  cases ok with
  | false => exact wpAny_pure ⟨rfl, h₃⟩
  | true =>
   exact wpAny_bind (wpAny_bind (wpAny_mono h₃ (fun x s₄ h₄ => wpAny_bind (wpAny_mono h₄ (fun _ s₅ h₅ => wpAny_pure (wpAny_pure ⟨rfl, h₅⟩)) fun _ _ h' => h'.elim)) fun _ _ h' => h'.elim))

noncomputable def clGo (env : Env) : List (Str × NameKind) → List (Str × Addr) → List (Str × Addr)
 | [], cs => cs
 | (n, k) :: r, cs => clGo env r (if k == .free then (match env.cells.lookup n with | some c => (n, c) :: cs | none => cs) else cs)
noncomputable def clOf (sc : Scope) (env : Env) : List (Str × Addr) := clGo env sc.names []
theorem clGo_mem {env : Env} : ∀ {ns : List (Str × NameKind)} {cs : List (Str × Addr)}, (∀ p ∈ cs, env.cells.lookup p.1 = some p.2) → ∀ p ∈ clGo env ns cs, env.cells.lookup p.1 = some p.2
 | [], _, h => h
 | (n, k) :: r, cs, h => by
  unfold clGo
  refine clGo_mem ?_
  by_cases hk : (k == .free) = true
  ·rw [if_pos hk]
   cases e : env.cells.lookup n with
   | none => exact h
   | some c =>
    intro p hp
    rcases List.mem_cons.mp hp with rfl | hp
    ·exact e
    ·exact h p hp
  ·rw [if_neg hk]; exact h
theorem clGo_sub {env : Env} : ∀ {ns : List (Str × NameKind)} {cs : List (Str × Addr)} {p : Str × Addr}, p ∈ cs → p ∈ clGo env ns cs
 | [], _, _, h => h
 | (n, k) :: r, cs, p, h => by
  unfold clGo
  refine clGo_sub ?_
  by_cases hk : (k == .free) = true
  ·rw [if_pos hk]
   cases env.cells.lookup n with
   | none => exact h
   | some c => exact List.mem_cons_of_mem _ h
  ·rw [if_neg hk]; exact h
theorem clGo_has {env : Env} {x : Str} {c : Addr} (e : env.cells.lookup x = some c) : ∀ {ns : List (Str × NameKind)} {cs : List (Str × Addr)}, (x, NameKind.free) ∈ ns → (x, c) ∈ clGo env ns cs
 | [], _, h => by cases h
 | (n, k) :: r, cs, h => by
  unfold clGo
  rcases List.mem_cons.mp h with h | h
  ·injection h with h1 h2
   subst h1 h2
   refine clGo_sub ?_
   rw [if_pos (by rfl), e]
   exact List.mem_cons_self
  ·exact clGo_has e h
theorem lookup_of_mem : ∀ {l : List (Str × Addr)} {x : Str} {c : Addr}, (x, c) ∈ l → ∃ d, l.lookup x = some d
 | [], _, _, h => by cases h
 | (n, d) :: r, x, c, h => by
  rw [List.lookup_cons]
  cases e : x == n with
  | true => exact ⟨d, rfl⟩
  | false =>
   rcases List.mem_cons.mp h with h | h
   ·injection h with h1 h2
    subst h1
    simp at e
   ·exact lookup_of_mem h
theorem clOf_look {sc : Scope} {env : Env} {x : Str} {c : Addr} (e : (clOf sc env).lookup x = some c) : env.cells.lookup x = some c :=
 clGo_mem (cs := []) (fun p hp => by cases hp) (x, c) (PySem.mem_of_lookup e)
theorem clOf_has {sc : Scope} {env : Env} {x : Str} {c : Addr} (h : (x, NameKind.free) ∈ sc.names) (e : env.cells.lookup x = some c) : (clOf sc env).lookup x = some c := by
 obtain ⟨d, hd⟩ := lookup_of_mem (clGo_has (cs := []) e h)
 have := clOf_look (sc := sc) hd
 rw [e] at this
 cases this
 exact hd
theorem closureFor_of {sc : Scope} {env : Env} (h : ∀ y ∈ sc.names, y.2 = .free → ∃ c, env.cells.lookup y.1 = some c) : closureFor sc env = pure (clOf sc env) := by
 unfold clOf closureFor
 generalize sc.names = ns at h
 suffices hh : ∀ cs : List (Str × Addr), (forIn ns cs (fun (x : Str × NameKind) (r : List (Str × Addr)) =>
    (match x with
     | (name, kind) => if (kind == NameKind.free) = true then (cellOf env name >>= fun c => pure (ForInStep.yield ((name, c) :: r))) else pure (ForInStep.yield r) : Sem (ForInStep (List (Str × Addr))))) >>= fun r => pure r : Sem (List (Str × Addr))) = pure (clGo env ns cs) from hh []
 induction ns with
 | nil => intro cs; rfl
 | cons p r ih =>
  intro cs
  obtain ⟨n, k⟩ := p
  rw [List.forIn_cons]
  unfold clGo
  have ih' := ih fun y hy => h y (List.mem_cons_of_mem _ hy)
  by_cases hk : (k == .free) = true
  ·obtain ⟨c, hc⟩ := h (n, k) List.mem_cons_self (by simpa using hk)
   have hc : env.cells.lookup n = some c := hc
   have h1 : cellOf env n = pure c := by unfold cellOf; rw [hc]
   simp only [hk, if_true, h1, hc, pure_bind]
   exact ih' _
  ·simp only [hk, if_false, pure_bind]
   exact ih' _

noncomputable def cxComp (X : Cx) (N' : List Str) (sc : Scope) (C : Addr) (s₀ : Shared) (H₀ : Hp) (fp : List Addr) : Cx where
 prog := X.prog
 w := X.w
 K := X.K
 mg := X.mg
 base := X.base
 A := X.A
 N := N'
 s₀ := s₀
 H₀ := H₀
 env := compEnvC sc (clOf sc X.env) C X.env
 outer := X.stack
 stack := X.stack
 ex := fp
 fn := fun _ => false
 calm := X.calm
 pn := []
 xe := fun _ _ => False

theorem lookup_relabel_free {env : Env} : ∀ {names : List (Str × NameKind)} {x : Str}, names.lookup x = some .free →
  (names.map fun (n, k) => if (k == NameKind.free && env.scope.kind == .function && env.kindOf n == some .cell) then (n, NameKind.cell) else (n, k)).lookup x = some .cell ∨
  (names.map fun (n, k) => if (k == NameKind.free && env.scope.kind == .function && env.kindOf n == some .cell) then (n, NameKind.cell) else (n, k)).lookup x = some .free
 | [], _, h => by simp at h
 | (n, k) :: r, x, h => by
  have ih := @lookup_relabel_free env r x
  show List.lookup x ((if (k == NameKind.free && env.scope.kind == .function && env.kindOf n == some .cell) = true then (n, NameKind.cell) else (n, k)) :: _) = _ ∨ List.lookup x ((if (k == NameKind.free && env.scope.kind == .function && env.kindOf n == some .cell) = true then (n, NameKind.cell) else (n, k)) :: _) = _
  cases hx : x == n with
  | true =>
   simp only [List.lookup_cons, hx] at h
   cases h
   by_cases hc : (NameKind.free == NameKind.free && env.scope.kind == .function && env.kindOf n == some .cell) = true
   ·rw [if_pos hc]; left; simp [List.lookup_cons, hx]
   ·rw [if_neg hc]; right; simp [List.lookup_cons, hx]
  | false =>
   simp only [List.lookup_cons, hx] at h
   by_cases hc : (k == NameKind.free && env.scope.kind == .function && env.kindOf n == some .cell) = true
   ·rw [if_pos hc]; simp only [List.lookup_cons, hx]; exact ih h
   ·rw [if_neg hc]; simp only [List.lookup_cons, hx]; exact ih h
theorem mem_relabel {env : Env} {x : Str} {k : NameKind} (hk : k = .cell ∨ k = .free) : ∀ {names : List (Str × NameKind)}, (∀ y ∈ names, y.2 ≠ .cell) →
  (names.map fun (n, k) => if (k == NameKind.free && env.scope.kind == .function && env.kindOf n == some .cell) then (n, NameKind.cell) else (n, k)).lookup x = some k → (x, NameKind.free) ∈ names
 | [], _, h => by simp at h
 | (n, j) :: r, hc, h => by
  have hr : ∀ y ∈ r, y.2 ≠ .cell := fun y hy => hc y (List.mem_cons_of_mem _ hy)
  have h : List.lookup x ((if (j == NameKind.free && env.scope.kind == .function && env.kindOf n == some .cell) = true then (n, NameKind.cell) else (n, j)) :: _) = _ := h
  by_cases hj : (j == NameKind.free && env.scope.kind == .function && env.kindOf n == some .cell) = true
  ·rw [if_pos hj, List.lookup_cons] at h
   have hj' : j = .free := by
    simp only [Bool.and_eq_true, beq_iff_eq] at hj
    exact hj.1.1
   cases hx : x == n with
   | true =>
    rw [eq_of_beq hx, ← hj']
    exact List.mem_cons_self
   | false =>
    rw [hx] at h
    exact List.mem_cons_of_mem _ (mem_relabel hk hr h)
  ·rw [if_neg hj, List.lookup_cons] at h
   cases hx : x == n with
   | true =>
    rw [hx] at h
    have h' : j = k := Option.some.inj h
    have hjc : j ≠ .cell := hc (n, j) List.mem_cons_self
    rcases hk with e | e
    ·exact absurd (h'.trans e) hjc
    ·rw [eq_of_beq hx]
     have : j = .free := h'.trans e
     rw [this]
     exact List.mem_cons_self
   | false =>
    rw [hx] at h
    exact List.mem_cons_of_mem _ (mem_relabel hk hr h)

noncomputable def CapOk (X : Cx) (sc : Scope) : List (Option Nat) → List Str → Prop
 | [], [] => True
 | none :: r, _ :: n => CapOk X sc r n
 | some i :: r, x :: n => (X.N[i]? = some x ∧ sc.names.lookup x = some .free) ∧ CapOk X sc r n
 | _, _ => False
noncomputable def capSt (cap : List (Option Nat)) (σ : St) : St := cap.map fun o => o.bind fun i => (σ[i]?).join
theorem CapOk.at {X : Cx} {sc : Scope} : ∀ {cap : List (Option Nat)} {N' : List Str}, CapOk X sc cap N' → ∀ (j i : Nat) (x : Str), cap[j]? = some (some i) → N'[j]? = some x → X.N[i]? = some x ∧ sc.names.lookup x = some .free
 | [], [], _, j, i, x, h, _ => by simp at h
 | none :: r, y :: n, c, 0, i, x, h, _ => by simp at h
 | none :: r, y :: n, c, j + 1, i, x, h, h2 => CapOk.at (cap := r) c j i x (by simpa using h) (by simpa using h2)
 | some k :: r, y :: n, c, 0, i, x, h, h2 => by
  simp at h h2
  subst h h2
  exact c.1
 | some k :: r, y :: n, c, j + 1, i, x, h, h2 => CapOk.at (cap := r) c.2 j i x (by simpa using h) (by simpa using h2)
theorem CapOk.len {X : Cx} {sc : Scope} : ∀ {cap : List (Option Nat)} {N' : List Str}, CapOk X sc cap N' → cap.length = N'.length
 | [], [], _ => rfl
 | none :: r, y :: n, c => by simpa using CapOk.len (cap := r) (N' := n) c
 | some k :: r, y :: n, c => by simpa using CapOk.len (cap := r) (N' := n) c.2
theorem capSt_get {cap : List (Option Nat)} {σ : St} {j : Nat} {v : V} (h : (capSt cap σ)[j]? = some (some v)) : ∃ i, cap[j]? = some (some i) ∧ σ[i]? = some (some v) := by
 unfold capSt at h
 rw [List.getElem?_map] at h
 cases e : cap[j]? with
 | none => rw [e] at h; cases h
 | some o =>
  rw [e] at h
  cases o with
  | none => simp at h
  | some i =>
   refine ⟨i, rfl, ?_⟩
   simp only [Option.map_some, Option.bind_some, Option.some.injEq] at h
   cases q : σ[i]? with
   | none => rw [q] at h; simp at h
   | some z => rw [q] at h; simp at h; rw [h]

noncomputable def PTs (X : Cx) (ifs : List Expr) (t : TT) : Prop :=
 ∀ (pins : List (Addr × Obj)) (s : Shared) (σ : St) (H : Hp) (Q : Bool → Hp → Prop), Inv X pins σ H s → t σ H Q →
  wpAny (model X.prog X.w) X.A (forIn ifs true fun c r => if r = true then do let ok ← isTrue c X.env (eval c X.env); pure (ForInStep.yield ok) else pure (ForInStep.yield r)) (TP X pins σ Q) X.xe s
theorem pts_nil {X : Cx} : PTs X [] (fun _ H Q => Q true H) := fun _ _ _ H _ I h => wpAny_tests_nil ⟨H, I, h⟩
theorem pts_one {X : Cx} {c : Expr} {t : TT} (h : PT X c t) : PTs X [c] t := fun pins s σ H Q I hw => wpAny_tests_one (h pins s σ H Q I hw)

noncomputable def CompW (cap : List (Option Nat)) (g : TG) (tt : TT) (te : TE) (J : It) (σ : St) (acc : Addr) (H0 : Hp) (Q : Hp → Prop) : Prop :=
 ∃ W : Nat → Nat → List V → Hp → Prop, (∃ m, W 0 m [] (upd H0 acc (.lst []))) ∧ ∀ i m ys H, W i m ys H →
  (J.stop i H ∧ Q H) ∨ (J.go i H ∧ ∀ x H', J.yld i H x H' → g x (capSt cap σ) H' fun σ2 H2 => tt σ2 H2 fun b H3 =>
   if b = true then te σ2 H3 fun v H4 => H4 acc = some (.lst ys) ∧ ys.length < sizeLine ∧ ∃ m', m' < m ∧ W (i + 1) m' (ys ++ [v]) (upd H4 acc (.lst (ys ++ [v])))
   else ∃ m', m' < m ∧ W (i + 1) m' ys H3)
noncomputable def tComp (cap : List (Option Nat)) (wi : TI) (g : TG) (tt : TT) (te : TE) : TE := fun σ H Q => wi σ H fun J H1 => ∀ acc, H1 acc = none → CompW cap g tt te J σ acc H1 fun H2 => Q (.ref acc) H2
noncomputable def tSetComp (i : Nat) (cap : List (Option Nat)) (wi : TI) (g : TG) (tt : TT) (te : TE) : TS := fun D σ H => wi σ H fun J H1 => ∀ acc, H1 acc = none → CompW cap g tt te J σ acc H1 fun H2 => D.nx (σ.set i (some (.ref acc))) H2

structure BlockOk (X : Cx) (sc : Scope) : Prop where
 cell : ∀ y ∈ sc.names, y.2 ≠ .cell
 kind : sc.kind = .function
 names : ∀ y ∈ sc.names, y.2 = .local → sc.names.lookup y.1 = some .local
 free : ∀ y ∈ sc.names, y.2 = .free → X.env.kindOf y.1 = some .cell ∨ X.env.kindOf y.1 = some .free

section
variable {X : Cx} {elt tg iter : Expr} {ifs : List Expr} {sc : Scope} {pos : Pos} {wi : TI} {g : TG} {tt : TT} {te : TE} {N' : List Str} {cap : List (Option Nat)}

theorem Inv.closure {pins : List (Addr × Obj)} {σ : St} {H : Hp} {s : Shared} (I : Inv X pins σ H s) (B : BlockOk X sc) : closureFor sc X.env = pure (clOf sc X.env) :=
 closureFor_of fun y hy e => I.ok.has y.1 (B.free y hy e)

theorem inv_block {pins : List (Addr × Obj)} {σ : St} {H : Hp} {s : Shared} {h₁ : Heap} {t' : Nat} {fp : List Addr} {acc C : Addr} {s₀ : Shared} {m : Str → Option Value}
  (I : Inv X pins σ H s) (B : BlockOk X sc) (cp : CapOk X sc cap N') (hf : ∀ b ∈ fp, FpOk X pins H b) (hfo : ∀ b ∈ fp, b < s.heap.objs.size) (hacc : acc = s.heap.objs.size) (ho : s₀.os = s.os) (hgen : s₀.gens = s.gens)
  (h0 : s₀.heap = s.heap.push { cls := .type "list", data := .seq #[] }) (hC : C = s₀.heap.objs.size)
  (hns : h₁.Ns C m) (hsb : ∀ b o, s₀.heap.get? b = some o → h₁.get? b = some o) :
  Inv (cxComp X N' sc C s₀ (upd H acc (.lst [])) fp) [] (capSt cap σ) (upd H acc (.lst [])) { s₀ with heap := h₁, toks := t' } := by
 have hfr : H acc = none := I.hok.fresh (Nat.le_of_eq hacc.symm)
 have up0 : ∀ b o, s.heap.get? b = some o → s₀.heap.get? b = some o := fun b o e => by rw [h0]; exact Heap.get?_push_of_some _ e
 have sz0 : s₀.heap.objs.size = s.heap.objs.size + 1 := by rw [h0, Heap.size_push]
 have I0 : Inv X pins σ (upd H acc (.lst [])) { s with heap := s₀.heap, toks := s.toks } := I.laid up0 (Nat.le_of_eq hacc.symm) ⟨Nat.zero_le _, [], 0, .nil, by rw [h0, hacc]; exact Heap.get?_push_size _ rfl⟩
 have CX' : ∀ b, b < s.heap.objs.size → b ≠ C := fun b hb => Nat.ne_of_lt (by rw [hC, sz0]; exact Nat.lt_succ_of_lt hb)
 have CA : ∀ b, b < s.heap.objs.size → b ≠ acc := fun b hb => Nat.ne_of_lt (by rw [hacc]; exact hb)
 have cellLt : ∀ x c, X.env.cells.lookup x = some c → c < s.heap.objs.size := fun x c e => by
  obtain ⟨v, o, q, _⟩ := I.cell x c e
  exact Heap.lt_size q
 refine ⟨⟨I.ok.mod, B.kind, I.ok.glob, I.ok.blt, Nat.le_of_eq hC.symm, fun x y c h1 h2 => I.ok.inj x y c (clOf_look h1) (clOf_look h2), fun x hx => ?_, fun x c h => Bool.noConfusion h, I.ok.hd, I.ok.frames, .inl rfl, fun b hb => ⟨CX' b (hfo b hb), fun x c e => (hf b hb).2.2.2.2.1 x c (clOf_look e)⟩,
   fun b o e => ?_, ?_, fun b o e hb => ?_, fun b hb hz => ?_, I0.stack, I0.stkFree⟩,
  rfl, ?_, Un.kept hsb, ⟨m, hns, fun j x v h1 h2 h3 => ?_⟩, fun x c e => ?_, ?_, fun x c e => ?_, fun p hp => absurd (show p ∈ ([] : List (Addr × Obj)) from hp) (by simp), I0.hok.kept hsb, ?_⟩
 ·have hm : (x, NameKind.free) ∈ sc.names := by
   rcases hx with hx | hx
   ·exact mem_relabel (env := X.env) (.inl rfl) B.cell hx
   ·exact mem_relabel (env := X.env) (.inr rfl) B.cell hx
  obtain ⟨c, hc⟩ := I.ok.has x (B.free _ hm rfl)
  exact ⟨c, clOf_has hm hc⟩
 ·obtain ⟨e1, e2⟩ := I.bs b o e
  exact ⟨up0 b o e1, by show upd H acc (.lst []) b = none; rw [upd_ne (CA b (Heap.lt_size e1))]; exact e2⟩
 ·exact Nat.le_trans I.ok.bsz (Nat.le_trans I.sz (by show _ ≤ s₀.heap.objs.size; omega))
 ·rcases (hf b hb).2.2.2.1 with z | z
  ·exact I.ok.noex b o e z
  ·exact absurd (Nat.lt_of_lt_of_le (Heap.lt_size e) (Nat.le_trans I.ok.bsz z)) (Nat.lt_irrefl _)
 ·rcases List.mem_cons.mp (I.stkSub b hz) with e | e
  ·exact (hf b hb).2.1 e
  ·exact (hf b hb).2.2.1 e
 ·show AllBare s₀.gens
  rw [hgen]; exact I.bare
 ·obtain ⟨i, e1, e2⟩ := capSt_get h2
  obtain ⟨e3, e4⟩ := cp.at j i x e1 h1
  have hm : (x, NameKind.free) ∈ sc.names := PySem.mem_of_lookup e4
  have hk := B.free _ hm rfl
  obtain ⟨m0, hn0, hl⟩ := I.loc
  obtain ⟨u, r, l⟩ := hl i x v e3 e2 (by rcases hk with k | k; exact .inr (.inl k); exact .inr (.inr k))
  refine ⟨u, r, .inr ?_⟩
  rcases l with ⟨k, _⟩ | ⟨_, c, hc, o, q, d⟩
  ·rcases hk with k' | k'
   ·rw [k] at k'; cases k'
   ·rw [k] at k'; cases k'
  ·exact ⟨lookup_relabel_free (env := X.env) e4, c, clOf_has hm hc, o, hsb c o (up0 c o q), d⟩
 ·obtain ⟨v, o, q, d⟩ := I.cell x c (clOf_look e)
  exact ⟨v, o, hsb c o (up0 c o q), d⟩
 ·show upd H acc (.lst []) C = none
  rw [upd_ne (by rw [hC, hacc, sz0]; exact Nat.succ_ne_self _)]
  exact I.hok.fresh (by rw [hC, sz0]; exact Nat.le_succ _)
 ·show upd H acc (.lst []) c = none
  rw [upd_ne (CA c (cellLt x c (clOf_look e)))]
  exact I.freeC x c (clOf_look e)
 ·show (capSt cap σ).length = N'.length
  unfold capSt
  rw [List.length_map]
  exact cp.len

noncomputable def Kp (σ0 σ : St) : Prop := σ.length = σ0.length ∧ ∀ (j : Nat) v, σ0[j]? = some (some v) → σ[j]? = some (some v)
noncomputable def GOwn (cap : List (Option Nat)) (g : TG) : Prop := ∀ σ0 σ x H Q, Kp (capSt cap σ0) σ → g x σ H Q → g x σ H fun σ2 H2 => Q σ2 H2 ∧ Kp (capSt cap σ0) σ2
theorem gown_name {i : Nat} (h : cap[i]? = some none) : GOwn cap (gName i) := fun σ0 σ x H Q k q => by
 refine ⟨q, by rw [List.length_set]; exact k.1, fun j v e => ?_⟩
 have : j ≠ i := by
  rintro rfl
  obtain ⟨i', e1, _⟩ := capSt_get e
  rw [h] at e1; cases e1
 rw [List.getElem?_set_ne (Ne.symm this)]
 exact k.2 j v e

theorem comp_core {pins : List (Addr × Obj)} {σ : St} {H : Hp} {s : Shared} {use : Option (Value → Sem Unit)} {Q : Value → Shared → Prop} {R : Addr → Hp → Prop} {p : Pos}
  (hc : X.calm = true) (B : BlockOk X sc) (cp : CapOk X sc cap N') (hi : PI X tg iter wi) (ow : GOwn cap g)
  (hg : ∀ C s₀ H₀ fp, PG (cxComp X N' sc C s₀ H₀ fp) tg g) (ht : ∀ C s₀ H₀ fp, PTs (cxComp X N' sc C s₀ H₀ fp) ifs tt) (he : ∀ C s₀ H₀ fp, PE (cxComp X N' sc C s₀ H₀ fp) elt te)
  (hs : ∀ x, foldedSetIterable iter X.env x = pure x)
  (I : Inv X pins σ H s) (h : wi σ H fun J H1 => ∀ acc, H1 acc = none → CompW cap g tt te J σ acc H1 (R acc))
  (fin : ∀ (acc C : Addr) (H' : Hp) (s' : Shared) (m : Str → Option Value), Inv X pins σ H' s' → s'.heap.Ns C m → C ≠ X.env.locals →
   (∀ {σ' : St} {s'' : Shared}, Inv X pins σ' H' s'' → ∀ h', Heap.SameBut C s''.heap h' → Inv X pins σ' H' { s'' with heap := h' }) →
   R acc H' → compPost (model X.prog X.w) X.A X.xe use Q (.ref acc) C (.ok .next) s') :
  wpAny (model X.prog X.w) X.A (comprehension (.ListComp elt [⟨tg, iter, ifs, 0⟩] sc pos) sc X.env p (newList []) false (eval iter X.env) use) Q X.xe s := by
 refine wpAny_comprehension_free rfl hs (I.closure B) B.kind B.names (thn (hi pins s σ H _ I h) fun xv s1 h1 => thn h1 fun itv s2 h2 => ?_)
 obtain ⟨it, fp, tn, J, H2, e, I2, T, st2, f2, r2⟩ := h2
 subst e
 have fpo : ∀ b ∈ fp, b < s2.heap.objs.size := fun b hb => by
  obtain ⟨o, e, _⟩ := T.obj _ _ st2 b hb
  exact Heap.lt_size e
 refine wpAny_newObj_type (wpAny_newFunctionEnv B.cell (by intro y hy; simp at hy) (fun h₁ hns₁ hsb₁ => ?_) B.kind)
 dsimp only at hns₁ hsb₁ ⊢
 obtain ⟨s₀, es0⟩ : ∃ s₀ : Shared, s₀ = { s2 with heap := s2.heap.push { cls := .type "list", dict := none, data := .seq ([] : List Value).toArray } } := ⟨_, rfl⟩
 have e0h : s₀.heap = s2.heap.push { cls := .type "list", data := .seq #[] } := by rw [es0]
 obtain ⟨C, eC⟩ : ∃ C : Addr, C = s₀.heap.objs.size := ⟨_, rfl⟩
 obtain ⟨acc, eA⟩ : ∃ a : Addr, a = s2.heap.objs.size := ⟨_, rfl⟩
 rw [show (s2.heap.push { cls := .type "list", dict := none, data := .seq ([] : List Value).toArray }).objs.size = C by rw [eC, e0h]] at hns₁ hsb₁ ⊢
 have keep₁ : ∀ b o, s₀.heap.get? b = some o → h₁.get? b = some o := fun b o e => by
  refine hsb₁.extBut b o ?_ ?_
  ·rw [eC]; exact Nat.ne_of_lt (Heap.lt_size e)
  ·rw [e0h] at e; exact Heap.get?_push_of_some _ e
 have szC : C = s2.heap.objs.size + 1 := by rw [eC, e0h, Heap.size_push]
 have up0 : ∀ b o, s2.heap.get? b = some o → s₀.heap.get? b = some o := fun b o e => by rw [e0h]; exact Heap.get?_push_of_some _ e
 have fr0 : H2 acc = none := I2.hok.fresh (Nat.le_of_eq eA.symm)
 show codeAny (model X.prog X.w) X.A (.compStart (.ListComp elt [⟨tg, iter, ifs, 0⟩] sc pos) 0 (.ref it) (.ref s2.heap.objs.size) (compEnvC sc (clOf sc X.env) C X.env))
  (compPost (model X.prog X.w) X.A X.xe use Q (.ref s2.heap.objs.size) C) { s2 with heap := h₁, toks := s2.toks + ([] : List (Str × Value)).length }
 rw [← eA]
 have es1 : ({ s2 with heap := h₁, toks := s2.toks + ([] : List (Str × Value)).length } : Shared) = { s₀ with heap := h₁, toks := s2.toks + ([] : List (Str × Value)).length } := by rw [es0]
 rw [es1]
 obtain ⟨W, ⟨m0, w0⟩, turn⟩ := r2 acc fr0
 have Ib : Inv (cxComp X N' sc C s₀ (upd H2 acc (.lst [])) fp) [] (capSt cap σ) (upd H2 acc (.lst [])) { s₀ with heap := h₁, toks := s2.toks + ([] : List (Str × Value)).length } :=
  inv_block I2 B cp f2 fpo eA (by rw [es0]) (by rw [es0]) e0h eC hns₁ keep₁
 have stat : ∀ {H' : Hp}, (∀ b ∈ fp, H' b = none) → ∀ b ∈ fp, FpOk (cxComp X N' sc C s₀ (upd H2 acc (.lst [])) fp) [] H' b := fun hn b hb =>
  ⟨hn b hb, (Ib.ok.exf b hb).1, Ib.ok.exfs b hb, .inl hb, fun x c e => (Ib.ok.exf b hb).2 x c e, fun p hp => absurd (show p ∈ ([] : List (Addr × Obj)) from hp) (by simp)⟩
 have fp0 : ∀ b ∈ fp, upd H2 acc (.lst []) b = none := fun b hb => by
  rw [upd_ne (by rw [eA]; exact Nat.ne_of_lt (fpo b hb))]
  exact (f2 b hb).1
 have loop : codeAny (model X.prog X.w) X.A (.compLoop (.ListComp elt [⟨tg, iter, ifs, 0⟩] sc pos) 0 (.ref it) (.ref acc) (compEnvC sc (clOf sc X.env) C X.env))
   (compPost (model X.prog X.w) X.A X.xe use Q (.ref acc) C) { s₀ with heap := h₁, toks := s2.toks + ([] : List (Str × Value)).length } := by
  refine codeAny_compLoop_any (fun n s' => ∃ i ys H', Inv (cxComp X N' sc C s₀ (upd H2 acc (.lst [])) fp) [] (capSt cap σ) H' s' ∧ tn i s'.heap ∧ (∀ b ∈ fp, H' b = none) ∧ W i n ys H') ?_ m0
   ⟨0, [], _, Ib, T.keep _ _ _ st2 fun b hb o e => keep₁ b o (up0 b o e), fp0, w0⟩
  rintro n s3 ⟨i, ys, H3, I3, st3, fr3, w3⟩
  rcases turn i n ys H3 w3 with ⟨stop, qn⟩ | ⟨go, step⟩
  ·refine thn (T.done (cxComp X N' sc C s₀ (upd H2 acc (.lst [])) fp) rfl rfl rfl hc i [] s3 _ H3 (fun _ _ => False) I3 (stat fr3) st3 stop) fun r s4 ⟨hr, I4⟩ => ?_
   subst hr
   have u0 : Un (frs X.stack) fp H2 (upd H2 acc (.lst [])) s2.heap s₀.heap := Un.laid up0 (Nat.le_of_eq eA.symm) fr0
   have un : Un (frs X.stack) fp H2 H3 s2.heap s4.heap := u0.trans I4.base
   have I5 : Inv X pins σ H3 s4 := I2.call' (by rw [I4.os]; show s₀.os = _; rw [es0]) un I4.hok I4.bare fun b hb => ⟨(f2 b hb).2.2.2.1, (f2 b hb).2.1, (f2 b hb).2.2.2.2.1, (f2 b hb).2.2.2.2.2⟩
   obtain ⟨m4, hn4, _⟩ := I4.loc
   have CL : C ≠ X.env.locals := fun z => by
    have := I2.lt
    rw [← z, szC] at this
    exact absurd this (Nat.not_lt.mpr (Nat.le_succ _))
   refine fin acc C H3 s4 m4 I5 hn4 CL (fun {σ' s''} I6 h' sb => ?_) qn
   refine I6.turned (t' := s''.toks) (fun b o hb e => (sb.2 b hb).trans e) I4.free CL (.inr ?_) (fun x c e z => ?_) fun p hp z => ?_
   ·have := I2.sz
    rw [szC]
    omega
   ·obtain ⟨v, o, q, _⟩ := I2.cell x c e
    have := Heap.lt_size q
    rw [z, szC] at this
    exact absurd this (Nat.not_lt.mpr (Nat.le_succ _))
   ·obtain ⟨q, _⟩ := I2.pin p hp
    have := Heap.lt_size q
    rw [z, szC] at this
    exact absurd this (Nat.not_lt.mpr (Nat.le_succ _))
  ·refine thn (T.item (cxComp X N' sc C s₀ (upd H2 acc (.lst [])) fp) rfl rfl rfl hc i [] s3 _ H3 (fun _ _ => False) I3 (stat fr3) st3 go) fun r s4 ⟨u, hr, h4⟩ => ?_
   subst hr
   refine thn h4 fun _ s5 ⟨x, H5, I5, r5, y5, st5, fr5⟩ => ?_
   have I5' := I5.pinned (stat fr5) (T.obj _ _ st5)
   refine thn (hg C s₀ _ fp _ s5 _ H5 x u _ I5' r5 (ow σ _ x H5 _ ⟨rfl, fun _ _ e => e⟩ (step x H5 y5))) fun _ s6 ⟨σ6, H6, I6, q6, kp6⟩ => ?_
   have again : ∀ {H7 : Hp} {s7 : Shared} {zs : List V}, Inv (cxComp X N' sc C s₀ (upd H2 acc (.lst [])) fp) ([] ++ pinsAt fp s5.heap) σ6 H7 s7 → (∃ m', m' < n ∧ W (i + 1) m' zs H7) →
     ∃ m, m < n ∧ ∃ i ys H', Inv (cxComp X N' sc C s₀ (upd H2 acc (.lst [])) fp) [] (capSt cap σ) H' s7 ∧ tn i s7.heap ∧ (∀ b ∈ fp, H' b = none) ∧ W i m ys H' := fun {H7 s7 zs} I7 w7 => by
    obtain ⟨m', hm, w7⟩ := w7
    refine ⟨m', hm, i + 1, zs, H7, (I7.unpinned).weak kp6.1.symm kp6.2, T.keep _ _ _ st5 fun b hb o e => (I7.pin (b, o) (List.mem_append_right _ (List.mem_append_right _ (mem_pinsAt hb e)))).1, fun b hb => ?_, w7⟩
    obtain ⟨o, e, d⟩ := T.obj _ _ st5 b hb
    exact (I7.pin (b, o) (List.mem_append_right _ (List.mem_append_right _ (mem_pinsAt hb e)))).2.1
   refine thn (ht C s₀ _ fp _ s6 σ6 H6 _ I6 q6) fun ok s7 ⟨H7, I7, q7⟩ => ?_
   cases ok with
   | false =>
    rw [if_neg Bool.false_ne_true] at q7 ⊢
    exact again I7 q7
   | true =>
    rw [if_pos rfl] at q7 ⊢
    refine thn (he C s₀ _ fp _ s7 σ6 H7 _ I7 q7) fun xv s8 ⟨v, H8, I8, r8, hacc8, hl8, w8⟩ => ?_
    refine thn (mt_append _ s8 σ6 H8 (.ref acc) [v] (.ref acc) [xv] (fun _ H9 => H9 = upd H8 acc (.lst (ys ++ [v]))) I8 rfl (.cons r8 .nil) ⟨acc, ys, v, rfl, rfl, hacc8, hl8, rfl⟩) fun _ s9 ⟨_, H9, I9, _, e9⟩ => ?_
    subst e9
    exact again I9 w8
 exact codeAny_compStart_list loop (T.self _ 0 _ _ _ (T.keep _ _ _ st2 fun b hb o e => keep₁ b o (up0 b o e)) loop)

theorem pe_comp (hc : X.calm = true) (B : BlockOk X sc) (cp : CapOk X sc cap N') (hi : PI X tg iter wi) (ow : GOwn cap g)
  (hg : ∀ C s₀ H₀ fp, PG (cxComp X N' sc C s₀ H₀ fp) tg g) (ht : ∀ C s₀ H₀ fp, PTs (cxComp X N' sc C s₀ H₀ fp) ifs tt) (he : ∀ C s₀ H₀ fp, PE (cxComp X N' sc C s₀ H₀ fp) elt te)
  (hs : ∀ x, foldedSetIterable iter X.env x = pure x := by intro _; rfl) : PE X (.ListComp elt [⟨tg, iter, ifs, 0⟩] sc pos) (tComp cap wi g tt te) := by
 intro pins s σ H Q I h
 rw [eval_ListComp]
 refine comp_core (use := none) (R := fun acc H2 => Q (.ref acc) H2) hc B cp hi ow hg ht he hs I h fun acc C H' s' m I' hn CL mk r => ?_
 exact ⟨m, hn, fun h' sb => ⟨.ref acc, H', mk I' h' sb, rfl, r⟩⟩
theorem ps_setComp {i : Nat} {y : Str} {py spos : Pos} (hc : X.calm = true) (B : BlockOk X sc) (cp : CapOk X sc cap N') (hi : PI X tg iter wi) (ow : GOwn cap g)
  (hg : ∀ C s₀ H₀ fp, PG (cxComp X N' sc C s₀ H₀ fp) tg g) (ht : ∀ C s₀ H₀ fp, PTs (cxComp X N' sc C s₀ H₀ fp) ifs tt) (he : ∀ C s₀ H₀ fp, PE (cxComp X N' sc C s₀ H₀ fp) elt te)
  (hN : X.N.Nodup) (hy : X.N[i]? = some y) (hl : X.env.scope.names.lookup y = some .local)
  (hsw : swapsWith (.ListComp elt [⟨tg, iter, ifs, 0⟩] sc pos) (some (.Name y py)) spos.line X.env = pure true := by rfl)
  (hs : ∀ x, foldedSetIterable iter X.env x = pure x := by intro _; rfl) : PS X (.Assign [.Name y py] (.ListComp elt [⟨tg, iter, ifs, 0⟩] sc pos) spos) (tSetComp i cap wi g tt te) := by
 intro pins s σ H D I h
 rw [exec_Assign_Name_used _ _ _ _ hsw]
 refine wpAny_bind (wpAny_standAt (wpAny_bind ?_))
 show wpAny _ X.A (do let _ ← comprehension (.ListComp elt [⟨tg, iter, ifs, 0⟩] sc pos) sc X.env _ (newList []) false (eval iter X.env) (some (assign (.Name y py) X.env))) _ _ s
 refine wpAny_bind (thn (comp_core (use := some (assign (.Name y py) X.env)) (Q := fun _ s' => SP X pins D .next s') (R := fun acc H2 => D.nx (σ.set i (some (.ref acc))) H2) hc B cp hi ow hg ht he hs I h fun acc C H' s' m I' hn CL mk r => ?_) fun _ s' hq => wpAny_pure (wpAny_pure hq))
 show wpAny _ X.A (assign (.Name y py) X.env (.ref acc)) _ _ _
 refine wpAny_assign_Name (store_ok2 I' hN hy (.inl hl) (v := .ref acc) rfl (fun s'' I'' hsb => ?_) (.inr hl))
 obtain ⟨a, sb, ha⟩ := hsb
 have hCa : C ≠ a := by
  rcases ha with ha | ha
  ·rw [ha]; exact CL
  ·intro z
   rw [← z] at ha
   obtain ⟨v, o, q, d⟩ := I'.cell y C ha
   obtain ⟨o', es, ep, q', d', _⟩ := hn
   rw [q] at q'; cases q'
   rw [d] at d'; cases d'
 exact ⟨m, hn.sameBut sb hCa, fun h' sb' => ⟨_, H', mk I'' h' sb', r⟩⟩
end
end L2
namespace L2
open PySem PySem.Spec PyProof.Rows

noncomputable def Tame {α : Type} : Sem α → Prop
 | .pure _ => True
 | .raise _ => True
 | .unsupported _ => True
 | .finish _ => True
 | .rule _ k => ∀ u, Tame (k u)
 | .at _ k => ∀ u, Tame (k u)
 | .load _ _ k => ∀ o, Tame (k o)
 | .update _ _ f k => (∀ o, (f o).dict = o.dict ∧ (f o).cls = o.cls) ∧ ∀ u, Tame (k u)
 | .alloc _ k => ∀ a, Tame (k a)
 | .loadIfAlive _ k => ∀ o, Tame (k o)
 | .point _ k => ∀ u, Tame (k u)
 | .stack k => ∀ x, Tame (k x)
 | .ask k => ∀ x, Tame (k x)
 | _ => False
noncomputable def KD (h h' : Heap) : Prop := ∀ (b : Nat) o, h.objs[b]? = some o → ∃ o', h'.objs[b]? = some o' ∧ o'.dict = o.dict ∧ o'.cls = o.cls
theorem KD.refl (h : Heap) : KD h h := fun _ o e => ⟨o, e, rfl, rfl⟩
theorem KD.trans {h h1 h2 : Heap} (x : KD h h1) (y : KD h1 h2) : KD h h2 := fun b o e => by
 obtain ⟨o1, e1, d1, c1⟩ := x b o e
 obtain ⟨o2, e2, d2, c2⟩ := y b o1 e1
 exact ⟨o2, e2, d2.trans d1, c2.trans c1⟩
theorem KD.push (h : Heap) (o : Obj) : KD h (h.push o) := fun b o' e => by
 refine ⟨o', ?_, rfl, rfl⟩
 obtain ⟨objs, l⟩ := h
 show (objs.push o)[b]? = some o'
 have e : objs[b]? = some o' := e
 rw [Array.getElem?_push]
 have hb : b < objs.size := (Array.getElem?_eq_some_iff.mp e).1
 rw [if_neg (Nat.ne_of_lt hb)]
 exact e
theorem KD.update (h : Heap) (a : Addr) {f : Obj → Obj} (hf : ∀ o, (f o).dict = o.dict ∧ (f o).cls = o.cls) : KD h (h.update a f) := fun b o e => by
 obtain ⟨objs, l⟩ := h
 show ∃ o', (objs.modify a f)[b]? = some o' ∧ _
 rw [Array.getElem?_modify]
 have e : objs[b]? = some o := e
 by_cases hab : a = b
 ·rw [if_pos hab, e]
  exact ⟨f o, rfl, hf o⟩
 ·rw [if_neg hab, e]
  exact ⟨o, rfl, rfl, rfl⟩
theorem get_objs {h : Heap} {a : Addr} {o : Obj} (e : h.get? a = some o) : h.objs[a]? = some o := by
 unfold Heap.get? at e
 split at e
 ·cases e
 ·exact e
theorem KD.at {h h' : Heap} {a : Addr} {o o' : Obj} (k : KD h h') (e : h.get? a = some o) (e' : h'.get? a = some o') : o'.dict = o.dict ∧ o'.cls = o.cls := by
 obtain ⟨o1, e1, d⟩ := k a o (get_objs e)
 rw [get_objs e'] at e1
 cases e1
 exact d
theorem tame_wp {α : Type} {M : Model} {Γ : PySem.Ctx} {t : Sem α} : ∀ {Q : α → Pos → Shared → Prop} {E : Value → Pos → Shared → Prop} {p : Pos} {s : Shared} {h₀ : Heap}, Tame t → KD h₀ s.heap → Sem.wp M Γ t Q E p s →
  Sem.wp M Γ t (fun a p' s' => Q a p' s' ∧ KD h₀ s'.heap) (fun e p' s' => E e p' s' ∧ KD h₀ s'.heap) p s := by
 induction t with
 | pure a => exact fun _ k h => ⟨h, k⟩
 | raise e => exact fun _ k h => ⟨h, k⟩
 | unsupported w => exact fun _ _ h => h.elim
 | finish e => exact fun _ _ h => h.elim
 | rule _ k ih => exact fun t z h => ih () (t ()) z h
 | «at» _ k ih => exact fun t z h => ih () (t ()) z h
 | load a _ k ih =>
  intro Q E p s h₀ t z h
  obtain ⟨o, e, h⟩ := h
  exact ⟨o, e, ih o (t o) z h⟩
 | update a _ f k ih =>
  intro Q E p s h₀ t z h
  obtain ⟨e, h⟩ := h
  exact ⟨e, ih () (t.2 ()) (z.trans (KD.update _ _ t.1)) h⟩
 | alloc o k ih => exact fun t z h => ih _ (t _) (z.trans (KD.push _ _)) h
 | loadIfAlive a k ih => exact fun t z h => ih _ (t _) z h
 | point _ k ih => exact fun t z h => ih () (t ()) z h
 | stack k ih => exact fun t z h => ih _ (t _) z h
 | ask k ih => exact fun t z h => ih _ (t _) z h
 | register _ _ _ => exact fun t => t.elim
 | fresh _ _ => exact fun t => t.elim
 | choose _ _ _ _ => exact fun t => t.elim
 | os _ _ _ _ => exact fun t => t.elim
 | call _ _ _ _ _ _ => exact fun t => t.elim
 | handled _ _ _ => exact fun t => t.elim
 | newGen _ _ _ => exact fun t => t.elim
 | genState _ _ _ => exact fun t => t.elim
 | resume _ _ _ _ _ => exact fun t => t.elim
 | yield _ _ _ _ _ => exact fun t => t.elim
 | fork _ _ _ => exact fun t => t.elim
 | thread _ _ => exact fun t => t.elim
 | await _ _ _ _ _ _ => exact fun t => t.elim
theorem tame_any {α : Type} {M : Model} {A : Around} {t : Sem α} {Q : α → Shared → Prop} {E : Value → Shared → Prop} {s : Shared} (T : Tame t) (h : wpAny M A t Q E s) : wpAny M A t (fun a s' => Q a s' ∧ KD s.heap s'.heap) (fun e s' => E e s' ∧ KD s.heap s'.heap) s :=
 fun Γ p hΓ => tame_wp T (KD.refl _) (h Γ p hΓ)
theorem tame_bind {α β : Type} {f : α → Sem β} (hf : ∀ a, Tame (f a)) : ∀ {t : Sem α}, Tame t → Tame (t.bind f) := by
 intro t
 induction t with
 | pure a => exact fun _ => hf a
 | raise e => exact fun _ => trivial
 | unsupported w => exact fun _ => trivial
 | finish e => exact fun _ => trivial
 | rule _ k ih => exact fun t u => ih u (t u)
 | «at» _ k ih => exact fun t u => ih u (t u)
 | load a _ k ih => exact fun t u => ih u (t u)
 | update a _ f k ih => exact fun t => ⟨t.1, fun u => ih u (t.2 u)⟩
 | alloc o k ih => exact fun t u => ih u (t u)
 | loadIfAlive a k ih => exact fun t u => ih u (t u)
 | point _ k ih => exact fun t u => ih u (t u)
 | stack k ih => exact fun t u => ih u (t u)
 | ask k ih => exact fun t u => ih u (t u)
 | register _ _ _ => exact fun t => t.elim
 | fresh _ _ => exact fun t => t.elim
 | choose _ _ _ _ => exact fun t => t.elim
 | os _ _ _ _ => exact fun t => t.elim
 | call _ _ _ _ _ _ => exact fun t => t.elim
 | handled _ _ _ => exact fun t => t.elim
 | newGen _ _ _ => exact fun t => t.elim
 | genState _ _ _ => exact fun t => t.elim
 | resume _ _ _ _ _ => exact fun t => t.elim
 | yield _ _ _ _ _ => exact fun t => t.elim
 | fork _ _ _ => exact fun t => t.elim
 | thread _ _ => exact fun t => t.elim
 | await _ _ _ _ _ _ => exact fun t => t.elim
theorem tb {α β : Type} {t : Sem α} {f : α → Sem β} (h : Tame t) (hf : ∀ a, Tame (f a)) : Tame (t >>= f) := tame_bind hf h
theorem tame_fieldsOf (v : Value) : Tame (fieldsOf v) := by
 unfold fieldsOf
 split
 ·refine tb (fun o => trivial) fun o => ?_
  split <;> trivial
 ·trivial
theorem tame_field (v : Value) (i : Nat) : Tame (field v i) := by
 unfold field
 refine tb (tame_fieldsOf v) fun a => ?_
 split <;> trivial
theorem mapFields_keep (g : Array Value → Array Value) (o : Obj) : (Obj.mapFields g o).dict = o.dict ∧ (Obj.mapFields g o).cls = o.cls := by
 obtain ⟨c, d, dt, sl⟩ := o
 cases dt <;> exact ⟨rfl, rfl⟩
theorem tame_setField (v : Value) (i : Nat) (x : Value) : Tame (setField v i x) := by
 unfold setField
 split
 ·unfold updateField
  refine tb (fun o => trivial) fun o => ?_
  split
  ·split
   ·exact ⟨fun o => mapFields_keep _ o, fun _ => trivial⟩
   ·trivial
  ·trivial
 ·trivial
theorem tame_setFlight (e : Value) (f : Option Addr) : Tame (setFlight e f) := by
 unfold setFlight
 refine tb (tame_field _ _) fun tb' => ?_
 split
 ·exact tame_setField _ _ _
 ·trivial
theorem tame_newFields (ty : String) (vs : List Value) : Tame (newFields ty vs) := by
 have h : Tame (newObjAsIs (Value.type ty) (Data.fields vs.toArray)) := by
  unfold newObjAsIs
  exact tb (fun a => trivial) fun a => trivial
 unfold newFields newObj
 show Tame (if vs.toArray.size > sizeLine + 2 then (unsupported "record:memory" >>= fun _ => newObjAsIs (Value.type ty) (Data.fields vs.toArray)) else newObjAsIs (Value.type ty) (Data.fields vs.toArray))
 split
 ·trivial
 ·exact h
theorem tame_behind (env : Env) (outer : List Env) : Tame (behindIsImport env outer) := by
 unfold behindIsImport
 split
 ·trivial
 ·split
  ·trivial
  ·exact tb (tame_field _ _) fun _ => trivial
theorem tame_under : Tame underTheClaimsCaller := tb (fun _ => trivial) fun _ => trivial
theorem tame_keptBack (env : Env) (i : Bool) (outer : List Env) : Tame (keptBack env i outer) := by
 cases outer with
 | nil =>
  unfold keptBack
  by_cases h : (env.scope.isGenerator || env.scope.isCoroutine) = true
  ·rw [if_pos h]; trivial
  ·rw [if_neg h]
   refine tb tame_under fun x => ?_
   trivial
 | cons c r =>
  unfold keptBack
  trivial
theorem tame_ready : ∀ l : List Env, Tame (readyFrames l)
 | [] => trivial
 | env :: outer => by
  unfold readyFrames
  split
  ·refine tb (fun o => trivial) fun o => ?_
   split
   ·trivial
   ·exact tb (tame_behind _ _) fun i => tb (tame_keptBack _ _ _) fun b => tb ⟨fun o => ⟨rfl, rfl⟩, fun _ => trivial⟩ fun _ => tame_ready outer
  ·trivial
theorem tame_frameOf (env : Env) : Tame (PySem.frameOf env) := by
 unfold PySem.frameOf
 refine tb (fun x => trivial) fun l => tb ?_ fun o => ?_
 ·generalize List.dropWhile _ l = l'
  unfold frameObject
  cases l' with
  | nil => trivial
  | cons a r => exact tb (tame_ready _) fun _ => trivial
 ·split <;> trivial
theorem tame_entryPlace (f : Addr) (b : Bool) : Tame (entryPlaceOf f b) := by
 unfold entryPlaceOf
 refine tb (fun x => trivial) fun l => ?_
 split <;> trivial
theorem tame_noteFrame (e : Value) (env : Env) : Tame (noteFrame e env) := by
 unfold noteFrame
 split
 ·rename_i f _
  have last : ∀ head : Value, Tame (do setField e 1 (← EntryCells.newEntry head (← PySem.frameOf env) .none (rawInt f) .none (← entryPlaceOf f (head != .none)))) := fun head =>
   tb (tame_frameOf env) fun a => tb (tame_entryPlace _ _) fun pl => tb (tame_newFields _ _) fun b => tame_setField _ _ _
  refine tb (tame_field _ _) fun head => ?_
  split
  ·refine tb (tame_field _ _) fun x => ?_
   split
   ·trivial
   ·exact tb (tame_setField _ _ _) fun _ => last head
  ·exact last head
 ·trivial
theorem tame_leaving (env : Env) (e : Value) : Tame (leaving env e) := tb (tame_noteFrame e env) fun _ => tame_setFlight _ _
end L2
namespace L2
open PySem PySem.Spec PyProof.Rows

theorem ObjOk.there {P : Program} {w : World} {H : Hp} {h : Heap} {a : Addr} {o : HO} (x : ObjOk P w H h a o) : ∃ ob, h.get? a = some ob := by
 cases o with
 | lst xs => obtain ⟨_, _, _, _, e⟩ := x; exact ⟨_, e⟩
 | tup xs => obtain ⟨_, _, _, ob, e, _⟩ := x; exact ⟨_, e⟩
 | dK kvs => obtain ⟨_, _, _, _, o, _, _, e, _⟩ := x; exact ⟨_, e⟩
 | dT kvs => obtain ⟨_, _, _, _, o, _, _, e, _⟩ := x; exact ⟨_, e⟩
 | dN kvs => obtain ⟨_, _, _, _, o, _, _, e, _⟩ := x; exact ⟨_, e⟩
 | set S n => obtain ⟨o, _, _, _, e, _⟩ := x; exact ⟨_, e⟩
 | ins C dx fs => obtain ⟨_, _, _, e, _⟩ := x; exact ⟨_, e⟩
 | own y => obtain ⟨_, e⟩ := x; exact ⟨_, e⟩
 | xd fs => obtain ⟨_, ⟨_, _, _, e, _⟩, _⟩ := x; exact ⟨_, e⟩
 | rng lo hi => obtain ⟨_, _, _, e⟩ := x; exact ⟨_, e⟩
 | frz ob u => obtain ⟨e, _⟩ := x; exact ⟨_, e⟩
 | tbl ps => exact ⟨_, (show h.get? a = some _ from x)⟩
 | met f y => exact ⟨_, (show h.get? a = some _ from x)⟩
 | ext φ => obtain ⟨_, ⟨_, e⟩, _⟩ := x; exact ⟨_, e⟩

noncomputable def Cov (outer : List Env) (H' : Hp) (old h' B : Heap) : Prop :=
 (∀ b o, (∃ o0, old.get? b = some o0) → b ∉ frs outer → h'.get? b = some o → B.get? b = some o) ∧ ∀ b u o, H' b = some u → h'.get? b = some o → B.get? b = some o
structure Fly (P : Program) (w : World) (outer : List Env) (H : Hp) (s : Shared) (e : Addr) (cls : Value) (H' : Hp) (s' : Shared) : Prop where
 os : s'.os = s.os
 bare : AllBare s'.gens
 un : Un (frs outer) [] H H' s.heap s'.heap
 hok : HOk P w H' s'.heap
 fly : ∃ B t, Heap.FlyingW B outer e cls (.ref t) s'.heap ∧ Cov outer H' s.heap s'.heap B
 new : s.heap.get? e = none
 free : H' e = none
 nd : ∀ o, s'.heap.get? e = some o → o.dict = none
noncomputable def CXE (P : Program) (w : World) : CXT := fun outer H s E ev s' => ∃ e cls H', ev = .ref e ∧ Fly P w outer H s e cls H' s' ∧ E cls none H'

theorem Fly.moved {P : Program} {w : World} {outer : List Env} {H H' : Hp} {s s' : Shared} {e : Addr} {cls a0 : Value} {B h2 : Heap} (F : Fly P w outer H s e cls H' s') (fl : Heap.FlyingW B outer e cls a0 s'.heap) (cov : Cov outer H' s.heap s'.heap B)
  (st : B.StaysIn h2) (sm : s'.heap.UpToSlots h2) : Un (frs outer) [] H H' s.heap h2 ∧ HOk P w H' h2 ∧ Cov outer H' s.heap h2 B := by
 have nofs : ∀ b u, H' b = some u → ∃ o, s'.heap.get? b = some o ∧ B.get? b = some o ∧ h2.get? b = some o := fun b u q => by
  obtain ⟨o, e1⟩ := (F.hok b u q).there
  have e2 := cov.2 b u o q e1
  exact ⟨o, e1, e2, st b o e2⟩
 have old : ∀ b o0, s.heap.get? b = some o0 → b ∉ frs outer → ∃ o, s'.heap.get? b = some o ∧ B.get? b = some o ∧ h2.get? b = some o := fun b o0 q hb => by
  obtain ⟨o, e1⟩ := F.un.there b o0 q (by simp)
  have e2 := cov.1 b o ⟨o0, q⟩ hb e1
  exact ⟨o, e1, e2, st b o e2⟩
 have fr : ∀ b ∈ frs outer, ∃ o sl, s'.heap.get? b = some o ∧ h2.get? b = some { o with slots := sl } := fun b hb => by
  obtain ⟨_, o, e1, d⟩ := fl.2.2.1.mem hb
  obtain ⟨sl, e2⟩ := sm b o e1 d
  exact ⟨o, sl, e1, e2⟩
 refine ⟨⟨fun b o q n hb _ => ?_, fun b o q n hb _ => ?_, fun b o q n hx => F.un.free b o q n hx, fun b o q _ => ?_, F.un.tups, F.un.frzs, F.un.tbls⟩, fun a u q => ?_, fun b o q hb e1 => ?_, fun b u o q e1 => ?_⟩
 ·obtain ⟨o1, e1, _, e3⟩ := old b o q hb
  have e4 := F.un.keep b o q n hb (by simp)
  rw [e1] at e4; cases e4
  exact e3
 ·obtain ⟨o1, sl1, e1, e2⟩ := fr b hb
  obtain ⟨sl, e4⟩ := F.un.slot b o q n hb (by simp)
  rw [e1] at e4; cases e4
  exact ⟨sl1, e2⟩
 ·by_cases hb : b ∈ frs outer
  ·obtain ⟨o1, sl1, e1, e2⟩ := fr b hb
   exact ⟨_, e2⟩
  ·obtain ⟨o1, _, _, e3⟩ := old b o q hb
   exact ⟨_, e3⟩
 ·refine (F.hok a u q).stay (fun b ob hb eb => ?_) (fun _ z => z) fun _ _ z => z
  have : ∃ u', H' b = some u' := by
   rcases hb with z | z
   ·exact ⟨u, z ▸ q⟩
   ·exact ⟨_, z⟩
  obtain ⟨u', hu⟩ := this
  obtain ⟨o1, e1, _, e3⟩ := nofs b u' hu
  rw [eb] at e1; cases e1
  exact e3
 ·obtain ⟨o0, q⟩ := q
  obtain ⟨o1, _, e2, e3⟩ := old b o0 q hb
  rw [e1] at e3; cases e3
  exact e2
 ·obtain ⟨o1, _, e2, e3⟩ := nofs b u q
  rw [e1] at e3; cases e3
  exact e2

section
variable {P : Program} {w : World} {K : PySem.W.Frag} {mg : Str → Option Value} {base : Heap} {N : List Str} {qual : Str} {scope : Scope} {f : Addr} {cdv : Value} {A : Around} {outer : List Env} {s : Shared} {H : Hp} {E : XK}


theorem passE : Passes (CXE P w) (cxOf (CXE P w) P w K mg base N qual scope f cdv A outer s H E) E := by
 rintro pins σ H1 s1 ev s' I ⟨e, cls, H', rfl, F, hE⟩
 obtain ⟨B, t, fl, cov⟩ := F.fly
 have hfs : ∀ b ∈ frs (envOfC qual scope s.heap.objs.size f cdv :: outer), b ∈ s.heap.objs.size :: frs outer := I.stkSub
 refine wpAny_mono (tame_any (tame_leaving _ _) (wpAny_leaves_onW (E := fun _ _ => False) (Q := fun _ s'' => ∃ h', s'' = { s' with heap := h' } ∧ Heap.FlyingW B outer e cls (.ref t) h' ∧ s'.heap.UpToSlots h') (L := s.heap.objs.size) I.ok.frames rfl fl fun h' x1 x2 => ⟨h', rfl, x1, x2⟩)) (fun _ s3 h3 => ?_) fun _ _ h3 => h3.1.elim
 obtain ⟨⟨h', rfl, x1, x2⟩, kd⟩ := h3
 obtain ⟨un, hok, cov'⟩ := F.moved fl cov x1.1 x2
 have exn : ∀ b : Addr, b ∉ (cxOf (CXE P w) P w K mg base N qual scope f cdv A outer s H E).ex := fun b z => absurd (show b ∈ ([] : List Addr) from z) (by simp)
 have nfs : ∀ b o, s.heap.get? b = some o → b ∉ frs outer → b ∉ frs (envOfC qual scope s.heap.objs.size f cdv :: outer) := fun b o q hb hz => by
  rcases List.mem_cons.mp (hfs b hz) with z | z
  ·exact Nat.ne_of_lt (Heap.lt_size q) z
  ·exact hb z
 have sub : ∀ b ∈ frs outer, b ∈ frs (envOfC qual scope s.heap.objs.size f cdv :: outer) := fun b hb => by
  unfold frs at hb ⊢
  rw [List.filterMap_cons]
  exact List.mem_cons_of_mem _ hb
 refine ⟨e, cls, H', rfl, ⟨F.os.trans I.os, F.bare, ⟨fun b o q n hb _ => ?_, fun b o q n hb _ => ?_, fun b o q n _ => ?_, fun b o q _ => ?_, fun b xs q => un.tups b xs (I.base.tups b xs q), fun b o xs q => un.frzs b o xs (I.base.frzs b o xs q), fun b ps q => ?_⟩, hok,
  ⟨B, t, x1, fun b o q hb e1 => ?_, cov'.2⟩, ?_, F.free, fun o q => ?_⟩, hE⟩
 ·exact un.keep b o (I.base.keep b o q n hb (exn b)) (I.base.free b o q n (exn b)) (nfs b o q hb) (by simp)
 ·obtain ⟨sl, e1⟩ := I.base.slot b o q n hb (exn b)
  obtain ⟨sl2, e2⟩ := un.slot b _ e1 (I.base.free b o q n (exn b)) (sub b hb) (by simp)
  exact ⟨sl2, e2⟩
 ·obtain ⟨o1, e1⟩ := I.base.there b o q (exn b)
  exact un.free b o1 e1 (I.base.free b o q n (exn b)) (by simp)
 ·obtain ⟨o1, e1⟩ := I.base.there b o q (exn b)
  exact un.there b o1 e1 (by simp)
 ·obtain ⟨m1, e1⟩ := I.base.tbls b ps q
  obtain ⟨m2, e2⟩ := un.tbls b _ e1
  exact ⟨m1 ++ m2, by rw [e2, Array.append_assoc]⟩
 ·obtain ⟨o0, q⟩ := q
  obtain ⟨o1, q1⟩ := I.base.there b o0 q (exn b)
  exact cov'.1 b o ⟨o1, q1⟩ (nfs b o0 q hb) e1
 ·cases q : s.heap.get? e with
  | none => rfl
  | some o =>
   obtain ⟨o', q'⟩ := I.base.there e o q (exn e)
   have := F.new
   rw [q'] at this; cases this
 ·obtain ⟨ob, hob, _⟩ := fl.there
  exact (kd.at hob q).1.trans (F.nd ob hob)
end

structure ExcCls (K : PySem.W.Frag) (mg : Str → Option Value) (x : Str) (C : Addr) (bmB : List Value) (newId : String) : Prop where
 mg : mg x = some (.ref C)
 inK : PySem.W.excIn K C bmB newId = true

end L2
namespace L2
open PySem PySem.Spec PyProof.Rows

theorem passF {P : Program} {w : World} {X : Cx} : Passes (CXE P w) X E0 := fun _ _ _ _ _ _ _ ⟨_, _, _, _, _, h⟩ => h.elim

noncomputable abbrev TEx := St → Hp → VK → (Value → Hp → Prop) → Prop
noncomputable abbrev TAx := St → Hp → (List V → Hp → Prop) → (Value → Hp → Prop) → Prop
noncomputable abbrev TSx := Ends → (Value → Hp → Prop) → St → Hp → Prop
section
variable {X : Cx} {e : Expr} {es : List Expr} {te : TE}
end

noncomputable def excO (e : Addr) (cls : Value) : HO := .ext fun h => ∃ ob, h.get? e = some ob ∧ ob.cls = cls ∧ ob.dict = none ∧ ∃ vs, ob.data = .fields vs
noncomputable abbrev Cx.hand (X : Cx) (e : Addr) : Cx := { X with A := X.A.mark (some (.ref e)), calm := false, xe := fun _ _ => False }
section
variable {X : Cx} {pins : List (Addr × Obj)} {σ : St} {H : Hp} {s : Shared}
end


end L2
namespace L2
open PySem PySem.Spec PyProof.Rows
open PySem.Builtin.Int (intBits)

noncomputable def CMulB (i j : Int) : Prop := ∃ m n : Nat, intBits i ≤ m ∧ intBits j ≤ n ∧ m + n ≤ 134217728
noncomputable def CDivB (i j : Int) : Prop := j ≠ 0 ∧ intBits j ≤ 9000
section
variable {X : Cx}
theorem op_mulB : OpR X (binaryOp .Mult) (rI CMulB fun i j => .int (i * j)) := opI fun _ _ _ _ _ _ _ hc q => by
 obtain ⟨m, n, h1, h2, h3⟩ := hc
 exact mul_int q (IntMulOk.of_le h1 h2 h3)
theorem op_fdivB : OpR X (binaryOp .FloorDiv) (rI CDivB fun i j => .int (i.fdiv j)) := opI fun i j _ _ _ _ _ hc q => floordiv_int hc.1 q (.inl (PyProof.noPylong_of_log2 (by
 have h := PySem.intBits_le_iff.mp hc.2
 by_cases z : j.natAbs = 0
 ·rw [z]; decide
 ·exact (Nat.log2_lt z).mpr h)))


end
section
variable {prog : Program} {w : World} {A : Around} {E : Value → Shared → Prop} {s : Shared} {K : PySem.W.Frag} {x D : Addr} {ox : Obj}
theorem exc_ga_check {M : Model} {nameV : Value} {Q : Unit → Shared → Prop} (X : K.In s.heap) (I : PySem.W.InstAt s.heap x ox D none) (be : PySem.W.mroIn K D (.type "BaseException") = some true) (hq : Q () s) :
  wpAny M A (checkBuiltinCall "BaseException.__getattribute__" ⟨[.ref x, nameV], []⟩) Q E s := by
 obtain ⟨hh, g, d, t, os⟩ := s
 have hk : builtinKind "BaseException.__getattribute__" = some .slot := by decide +kernel
 have hsplit : splitId "BaseException.__getattribute__" = some ("BaseException", "__getattribute__") := by decide +kernel
 have L0 := I.type (M := M)
 have L1 := PySem.W.looks_mroIn (M := M) X be
 have ha := F.args_bexc_ga (.ref x) nameV
 simp only [checkBuiltinCall, hk, hsplit]
 refine wpAny_bind ?_
 unfold isInstance
 refine wpAny_bind (L0.at (L1.at ?_))
 repeat (first | wp_step)
 exact hq
theorem exc_class {Q : Option Value → Shared → Prop} (X : K.In s.heap) (I : PySem.W.InstAt s.heap x ox D none) (ga : PySem.W.findIn K (.ref D) "__getattribute__" = some (some (.builtin "BaseException.__getattribute__"))) (noga : PySem.W.findIn K (.ref D) "__getattr__" = some none)
  (be : PySem.W.mroIn K D (.type "BaseException") = some true) (hf : PySem.W.findObj K D none "__class__" = some (.bind (.builtin "getset_descriptor.__get__") (.builtin "object.__class__"))) (hm : PySem.W.mroIn K D (.type "object") = some true)
  (h : Q (some (.ref D)) { s with toks := s.toks + 1 }) : wpAny (model prog w) A (getAttr? (.ref x) "__class__") Q E s := by
 obtain ⟨hh, g, d, t, os⟩ := s
 have L0 := I.type (M := model prog w)
 have L1 := PySem.W.looks_findIn (M := model prog w) X ga
 have L2 := PySem.W.looks_findIn (M := model prog w) X noga
 have L3 := PySem.W.looks_find (M := model prog w) X I hf
 have hb := F.attrBase_ValueError.ga.bind (.ref x)
 unfold getAttr? getAttrBy? getAttrBy
 refine wpAny_bind (wpAny_mkText (wpAny_bind (wpAny_attempt (wpAny_holding (wpAny_bind (L0.at (wpAny_bind (L1.at ?_))))))))
 dsimp only
 rw [if_neg (show ¬ (onTheHeap (Value.ref D) && (Value.builtin "BaseException.__getattribute__" == Value.builtin "object.__getattribute__")) = true by rw [show (Value.builtin "BaseException.__getattribute__" == Value.builtin "object.__getattribute__") = false by decide +kernel]; simp)]
 unfold getAttrByItsOwn hookBefore
 refine wpAny_bind ?_
 show wpAny _ _ (typeLookup (.ref D) "__getattr__") _ _ _
 refine L2.at ?_
 refine wpAny_bind (wpAny_attempt (wpAny_holding ?_))
 unfold callGetattribute boundAndCalled
 rw [if_neg (by decide), hb]
 refine wpAny_bind (wpAny_pure ?_)
 dsimp only
 refine wpAny_call (codeAny_call_builtin F.attrBase_ValueError.ga.plain F.entry_bexc_ga (exc_ga_check (ox := ox) X I be ?_))
 unfold Builtin.«object.__getattribute__»
 refine wpAny_bind (wpAny_of_eq (show slotArgs "__getattribute__" 1 { pos := [Value.ref x] ++ [Value.str (Str.ofString "__class__") t] } = pure (.ref x, [Value.str (Str.ofString "__class__") t]) from rfl) ?_)
 dsimp only
 refine wpAny_bind (wpAny_of_eq (show Builtin.ObjectAttr.attrName (Value.str (Str.ofString "__class__") t) = pure (Str.ofString "__class__") from rfl) ?_)
 refine wpAny_bind (L0.at (wpAny_bind (L3.at ?_)))
 dsimp only
 show wpAny _ _ (do ret (← holding [Value.builtin "object.__class__"] (call (.builtin "getset_descriptor.__get__") [.builtin "object.__class__", .ref x, .ref D]))) _ _ _
 refine wpAny_bind (wpAny_holding (wpAny_call (PySem.W.class_get (ox := ox) (od := none) X I hm ?_)))
 exact wpAny_pure (PySem.W.handed_on rfl (wpAny_pure h))
end
section
variable {X : Cx}
structure ExcIs (K : PySem.W.Frag) (D : Addr) : Prop where
 ga : PySem.W.findIn K (.ref D) "__getattribute__" = some (some (.builtin "BaseException.__getattribute__"))
 noga : PySem.W.findIn K (.ref D) "__getattr__" = some none
 be : PySem.W.mroIn K D (.type "BaseException") = some true
 hc : (PySem.W.clsIn K D).isSome = true
 ha : PySem.W.findIn K (.ref D) "__class__" = some (some (.builtin "object.__class__"))
 hn : PySem.W.specialIn K (.builtin "object.__class__") "__get__" = some (some (.builtin "getset_descriptor.__get__"))
 htk : PySem.W.takesIn K (.builtin "object.__class__") = some true
 hm : PySem.W.mroIn K D (.type "object") = some true
theorem kitx_exc {K : PySem.W.Frag} {x D : Addr} (e : ExcIs K D) : PySem.W.KitX K (.ref x) (.ref D) (fun h => ∃ ox, PySem.W.InstAt h x ox D none) where
 ty := fun _ _ _ ⟨_, I⟩ => I.type
 it := fun _ _ X _ => by
  obtain ⟨cd, hcd⟩ := Option.isSome_iff_exists.mp e.hc
  unfold PySem.W.clsIn at hcd
  split at hcd
  ·rename_i ho
   intro A' Q' E' s' k q
   unfold isType loadHead
   exact wpAny_bind (wpAny_loadPart (k _ _ (X _ _ ho)) (wpAny_pure q))
  ·cases hcd
 ne := fun h tp dd its n sl X htp => by
  obtain ⟨cd, hcd⟩ := Option.isSome_iff_exists.mp e.hc
  refine Bool.eq_false_iff.mpr fun q => ?_
  have z : D = tp := Value.ref.inj (beq_iff_eq.mp q)
  subst z
  unfold PySem.W.clsIn at hcd
  split at hcd
  ·rename_i ho
   have y := (X _ _ ho).symm.trans htp
   cases y
  ·cases hcd
 ca := fun {_ _ _ _ _ s} X I k => by
  obtain ⟨ox, I⟩ := I
  obtain ⟨cd, hcd⟩ := Option.isSome_iff_exists.mp e.hc
  have hf : PySem.W.findObj K D none "__class__" = some (.bind (.builtin "getset_descriptor.__get__") (.builtin "object.__class__")) := by
   unfold PySem.W.findObj
   rw [hcd, Option.bind_some, e.ha, Option.bind_some]
   simp [e.hn, e.htk]
  exact exc_class X I e.ga e.noga e.be hf e.hm k

inductive TyX (K : PySem.W.Frag) (H : Hp) : V → Value → Prop where
 | of {x : V} {t : Value} (h : TyOf K H x t) : TyX K H x t
 | exc {e D : Addr} (h : H e = some (excO e (.ref D))) (k : ExcIs K D) : TyX K H (.ref e) (.ref D)
 | sqt {a : Addr} {xs : List V} (h : SqT K H a xs) : TyX K H (.ref a) (.type "tuple")
 | sql {a : Addr} {xs : List V} (h : SqL K H a xs) : TyX K H (.ref a) (.type "list")
theorem TyX.kit {pins : List (Addr × Obj)} {σ : St} {H : Hp} {s : Shared} {x : V} {u t : Value} (I : Inv X pins σ H s) (rx : RelV x u) (ty : TyX X.K H x t) : ∃ Hh, PySem.W.KitX X.K u t Hh ∧ Hh s.heap := by
 cases ty with
 | of ty =>
  cases ty with
  | non => cases (show u = Value.none from rx); exact ⟨_, PySem.W.kitx_none, True.intro⟩
  | bl y => cases (show u = Value.bool y from rx); exact ⟨_, PySem.W.kitx_bool, True.intro⟩
  | int i => obtain ⟨t, q⟩ := (show ∃ t, u = Value.int i t from rx); cases q; exact ⟨_, PySem.W.kitx_int, True.intro⟩
  | str y => obtain ⟨t, q⟩ := (show ∃ t, u = Value.str y t from rx); cases q; exact ⟨_, PySem.W.kitx_str, True.intro⟩
  | flt y => obtain ⟨t, q⟩ := (show ∃ t, u = Value.float y t from rx); cases q; exact ⟨_, PySem.W.kitx_float, True.intro⟩
  | @lst a xs ea =>
   cases (show u = Value.ref a from rx)
   obtain ⟨_, _, n, _, h1⟩ := (show ObjOk X.prog X.w H s.heap a (.lst xs) from I.hok a _ ea)
   exact ⟨_, PySem.W.kitx_list, ⟨_, h1, rfl⟩⟩
  | @frz a ob xs ea =>
   cases (show u = Value.ref a from rx)
   obtain ⟨_, _, _, n, _, h1⟩ := (show ObjOk X.prog X.w H s.heap a (.frz ob (.lst xs)) from I.hok a _ ea)
   exact ⟨_, PySem.W.kitx_list, ⟨_, h1, rfl⟩⟩
  | @tup a xs ea =>
   cases (show u = Value.ref a from rx)
   obtain ⟨_, _, _, p⟩ := (show ObjOk X.prog X.w H s.heap a (.tup xs) from I.hok a _ ea)
   obtain ⟨o, h1, h2, _⟩ := p
   exact ⟨_, PySem.W.kitx_tuple, ⟨o, h1, h2⟩⟩
  | @dK a kvs ea =>
   cases (show u = Value.ref a from rx)
   obtain ⟨_, _, vs, _, p⟩ := (show ObjOk X.prog X.w H s.heap a (.dK kvs) from I.hok a _ ea)
   obtain ⟨o, es, ep, h1, h2, _⟩ := p
   exact ⟨_, PySem.W.kitx_dict, ⟨o, h1, h2.1⟩⟩
  | @dT a kvs ea =>
   cases (show u = Value.ref a from rx)
   obtain ⟨_, _, xs, _, o, es, ep, h1, h2, _⟩ := (show ObjOk X.prog X.w H s.heap a (.dT kvs) from I.hok a _ ea)
   exact ⟨_, PySem.W.kitx_dict, ⟨o, h1, h2.1⟩⟩
  | @ins a C dx fs ea cl ha hn htk hm =>
   cases (show u = Value.ref a from rx)
   obtain ⟨mA, O, _⟩ := ins_get I.hok ea
   obtain ⟨od, J, _⟩ := O.look
   exact ⟨_, PySem.W.kitx_own (cl.get _) cl.hd ha hn htk hm, J⟩
 | @sqt a xs h =>
  cases (show u = Value.ref a from rx)
  obtain ⟨its, _, ⟨o, h1, h2, _⟩, _⟩ := I.tuple h
  exact ⟨_, PySem.W.kitx_tuple, ⟨o, h1, h2⟩⟩
 | @sql a xs h =>
  cases (show u = Value.ref a from rx)
  obtain ⟨its, _, ⟨o, n, h1, h2, _⟩, _⟩ := I.list h
  exact ⟨_, PySem.W.kitx_list, ⟨o, h1, h2⟩⟩
 | @exc e D h k =>
  cases (show u = Value.ref e from rx)
  obtain ⟨⟨ob, h1, h2, h3, vs, h4⟩, _⟩ := (show ObjOk X.prog X.w H s.heap e (excO e (.ref D)) from I.hok e _ h)
  refine ⟨_, kitx_exc k, ob, h1, h2, ?_, ?_⟩
  ·unfold PySem.W.notCls
   rw [h4]
  ·rw [h3]; trivial
noncomputable def clsV : V → Option Value
 | .ref a => some (.ref a)
 | .ty n => some (.type n)
 | _ => none
theorem clsV_rel {c : V} {cv u : Value} (h : clsV c = some cv) (r : RelV c u) : u = cv := by
 cases c with
 | ref a => cases h; exact r
 | ty n => cases h; exact r
 | _ => cases h
theorem RelV.nb {x : V} {u : Value} (r : RelV x u) : u ≠ .builtin "__main__.__loader__#opaque" := by
 cases x with
 | non => rintro rfl; cases r
 | bl b => rintro rfl; cases r
 | int i => rintro rfl; obtain ⟨_, q⟩ := r; cases q
 | str i => rintro rfl; obtain ⟨_, q⟩ := r; cases q
 | byt i => rintro rfl; obtain ⟨_, q⟩ := r; cases q
 | flt i => rintro rfl; obtain ⟨_, q⟩ := r; cases q
 | ref a => rintro rfl; cases r
 | ty a => rintro rfl; cases r
noncomputable def rIsi (K : PySem.W.Frag) : List V → Hp → VK → Prop := fun xs H Q => ∃ x c cv t b, xs = [x, c] ∧ clsV c = some cv ∧ TyX K H x t ∧ PySem.W.kitOne K t cv = some b ∧ Q (.bl b) H
theorem call_isi : CallR X (.builtin "isinstance") (rIsi X.K) := by
 intro pins s σ H xs us Q I r h
 obtain ⟨x, c, cv, t, b, rfl, hc, ty, e, q⟩ := h
 obtain ⟨u, w', rfl, ru, rw'⟩ := vals2 r
 obtain rfl := clsV_rel hc rw'
 obtain ⟨Hh, Z, p⟩ := ty.kit I ru
 exact PySem.W.kia_one Z I.kIn p e ru.nb fun tk => ⟨.bl b, H, I.tok tk, rfl, q⟩
end
theorem kit_same {K : PySem.W.Frag} {t : Value} : PySem.W.kitOne K t t = some true := by unfold PySem.W.kitOne; rw [if_pos (by simp)]
end L2
namespace L2
open PySem PySem.Spec PyProof.Rows

inductive D where
 | non | bl (b : Bool) | int (i : Int) | str (x : Str) | tup (l : List D) | lst (l : List D) | ins (C : Addr) (ns : List Str) (l : List D)
mutual
inductive Is (K : PySem.W.Frag) (H : Hp) : V → D → Prop where
 | non : Is K H .non .non
 | bl (b : Bool) : Is K H (.bl b) (.bl b)
 | int (i : Int) : Is K H (.int i) (.int i)
 | str (x : Str) : Is K H (.str x) (.str x)
 | tup {a : Addr} {xs : List V} {ds : List D} : SqT K H a xs → IsL K H xs ds → Is K H (.ref a) (.tup ds)
 | lst {a : Addr} {xs : List V} {ds : List D} : SqL K H a xs → IsL K H xs ds → Is K H (.ref a) (.lst ds)
 | ins {a C dx : Addr} {ns : List Str} {xs : List V} {ds : List D} : H a = some (.ins C dx (ns.zip xs)) → ns.length = xs.length → IsL K H xs ds → Is K H (.ref a) (.ins C ns ds)
inductive IsL (K : PySem.W.Frag) (H : Hp) : List V → List D → Prop where
 | nil : IsL K H [] []
 | cons {v : V} {d : D} {vs : List V} {ds : List D} : Is K H v d → IsL K H vs ds → IsL K H (v :: vs) (d :: ds)
end
theorem same_upd {H : Hp} {p : Addr} {o : HO} (h : H p = none) : Same H (upd H p o) := fun b u e => by rw [upd_ne (ne_of_none e h)]; exact e
theorem IsL.len {K : PySem.W.Frag} {H : Hp} : ∀ {vs : List V} {ds : List D}, IsL K H vs ds → vs.length = ds.length
 | _, _, .nil => rfl
 | _, _, .cons _ l => by rw [List.length_cons, List.length_cons, l.len]
theorem IsL.get {K : PySem.W.Frag} {H : Hp} : ∀ {vs : List V} {ds : List D} {i : Nat} {d : D}, IsL K H vs ds → ds[i]? = some d → ∃ v, vs[i]? = some v ∧ Is K H v d
 | _, _, _, _, .nil, e => by simp at e
 | _, _, 0, _, .cons h _, e => by simp at e; subst e; exact ⟨_, rfl, h⟩
 | _, _, i + 1, d, .cons _ l, e => by
  obtain ⟨v, e1, e2⟩ := l.get (i := i) (d := d) (by simpa using e)
  exact ⟨v, by simpa using e1, e2⟩
theorem Is.int_inv {K : PySem.W.Frag} {H : Hp} {v : V} {i : Int} (h : Is K H v (.int i)) : v = .int i := by cases h; rfl
theorem Is.bl_inv {K : PySem.W.Frag} {H : Hp} {v : V} {b : Bool} (h : Is K H v (.bl b)) : v = .bl b := by cases h; rfl
theorem Is.str_inv {K : PySem.W.Frag} {H : Hp} {v : V} {b : Str} (h : Is K H v (.str b)) : v = .str b := by cases h; rfl
theorem Is.non_inv {K : PySem.W.Frag} {H : Hp} {v : V} (h : Is K H v .non) : v = .non := by cases h; rfl
theorem Is.tup_inv {K : PySem.W.Frag} {H : Hp} {v : V} {ds : List D} (h : Is K H v (.tup ds)) : ∃ a xs, v = .ref a ∧ SqT K H a xs ∧ IsL K H xs ds := by cases h with | tup a b => exact ⟨_, _, rfl, a, b⟩
theorem Is.lst_inv {K : PySem.W.Frag} {H : Hp} {v : V} {ds : List D} (h : Is K H v (.lst ds)) : ∃ a xs, v = .ref a ∧ SqL K H a xs ∧ IsL K H xs ds := by cases h with | lst a b => exact ⟨_, _, rfl, a, b⟩

noncomputable abbrev dQ (a b : Int) : D := .tup [.int a, .int b]


section
variable {σ : St} {H : Hp} {Q : VK} {ta tb tc : TE} {D' : Ends} {v : V} {i : Nat}
end
local macro_rules | `(tactic| walk_at "rd") => `(tactic| repeat (first | refine i_seq ?_ | refine i_asg ?_ | refine i_gName ?_ | refine i_var rfl ?_ | refine i_c ?_ | refine i_op ?_ | refine i_I0 ?_ | refine i_U ?_ | refine i_un ?_ | refine i_cmp ?_ | refine i_2 ?_ | refine i_B ?_ | refine i_bl ?_ | refine i_not ?_ | refine i_and ?_ | refine i_or ?_ | refine i_andV ?_ | refine i_orV ?_ | refine i_notV ?_ | refine i_ifE ?_ | refine i_next ?_ | refine i_drop ?_ | refine i_ret ?_ | refine i_retN ?_ | refine i_ifS ?_ | refine i_nil ?_ | refine i_cons ?_ | refine i_call ?_ | refine i_CB ?_ | refine i_tup ?_ | refine i_lst ?_ | refine i_par ?_ | refine i_par2 ?_ | refine i_raise ?_))
end L2
namespace L2
open PySem PySem.Spec PyProof.Rows
section
variable {σ : St} {H : Hp} {Q : VK} {D' : Ends} {E : XK}
end
theorem Fun.okE {P : Program} {w : World} {K : PySem.W.Frag} {mg : Str → Option Value} {base : Heap} {x qual : Str} {st : Stmt} {f : Addr} {fd : FuncData} {N ps : List Str} {k : Nat} {sp : Sp} (F : Fun K x qual st f fd) (S : FnScope N ps (defScope st)) (len : ∀ vs H Q E, sp vs H Q E → vs.length = ps.length)
  (hbody : ∀ (cdv : Value) (A : Around) (outer : List Env) (s : Shared) (H : Hp) (vs : List V) (Q : VK) (E : XK), Room k (A.deeper (envOfC qual (defScope st) s.heap.objs.size f cdv)) → sp vs H Q E →
   ∃ t, PSs (cxOf (CXE P w) P w K mg base N qual (defScope st) f cdv A outer s H E) (defBody st) t ∧ t { nx := fun _ H' => Q .non H', rt := Q } (start N vs) H) : FnOk P w K mg base (CXE P w) (k + 1) f fd ps sp := by
 obtain ⟨oc, od, kV, doc, pm, an, cdv, ct, osl, rfl, lk, hcd⟩ := F.ex
 exact fn_of lk hcd S len fun A outer s H vs Q E hr hsp => hbody cdv A outer s H vs Q E hr hsp
end L2
namespace L2
open PySem PySem.Spec PyProof.Rows
section
variable {σ : St} {H : Hp} {Q : VK} {D' : Ends} {E : XK} {EX : Value → Hp → Prop}
end
end L2
namespace L2
open PySem PySem.Spec PyProof.Rows
section
variable {X : Cx} {K : PySem.W.Frag}
theorem ix_tupK (h : X.K = K := by rfl) : IxR X (rIxT K) := h ▸ ix_tup
theorem ix_listK (h : X.K = K := by rfl) : IxR X (rIxL K) := h ▸ ix_list
theorem call_isiK (h : X.K = K := by rfl) : CallR X (.builtin "isinstance") (rIsi K) := h ▸ call_isi
theorem call_lenK (h : X.K = K := by rfl) : CallR X (.builtin "len") (fun xs H Q => ∃ p ys, xs = [.ref p] ∧ (SqL K H p ys ∨ SqT K H p ys) ∧ Q (.int ys.length) H) := h ▸ call_len_seq
theorem call_listK (h : X.K = K := by rfl) : CallR X (.type "list") (fun xs H Q => ∃ p ys, xs = [.ref p] ∧ (SqL K H p ys ∨ SqT K H p ys) ∧ ∀ l, H l = none → Q (.ref l) (upd H l (.lst ys))) := h ▸ call_list_of
theorem call_tupleK (h : X.K = K := by rfl) : CallR X (.type "tuple") (fun xs H Q => ∃ p ys, xs = [.ref p] ∧ ((SqL K H p ys ∧ ∀ l, H l = none → Q (.ref l) (upd H l (.tup ys))) ∨ (SqT K H p ys ∧ Q (.ref p) H))) := h ▸ call_tuple_of
theorem sl_listK (h : X.K = K := by rfl) : SlR X (rSlL K) := h ▸ sl_list
variable {tg l : Expr} {tl : TE}
theorem pi_listK (hl : PE X l tl) (h : X.K = K := by rfl) : PI X tg l (iList K tl) := h ▸ pi_list hl
theorem pg_tupK {es : List Expr} {k : Nat} {t : TGs} {n : Nat} {pos : Pos} (hc : X.calm = true) (h : PGs X es t) (hK : X.K = K := by rfl)
  (hn : (assignEach es X.env).length = n := by rfl) (hst : (assignEach es X.env).findIdx? (·.1) = none := by rfl) : PG X (.Tuple es k pos) (gTup K n t) := hK ▸ pg_tup hc h hn hst
theorem cap_nil {sc : Scope} : CapOk X sc [] [] := trivial
theorem cap_own {sc : Scope} {r : List (Option Nat)} {n : List Str} {x : Str} (h : CapOk X sc r n) : CapOk X sc (none :: r) (x :: n) := h
theorem cap_out {sc : Scope} {r : List (Option Nat)} {n : List Str} {x : Str} {i : Nat} (h1 : X.N[i]? = some x) (h2 : sc.names.lookup x = some .free) (h : CapOk X sc r n) : CapOk X sc (some i :: r) (x :: n) := ⟨⟨h1, h2⟩, h⟩
end
noncomputable def blkOk (osc sc : Scope) : Bool := sc.names.all (fun y => y.2 != .cell) && sc.kind == .function && sc.names.all (fun y => y.2 != .local || sc.names.lookup y.1 == some .local) &&
 sc.names.all (fun y => y.2 != .free || (osc.names.lookup y.1 == some .cell || osc.names.lookup y.1 == some .free))
theorem blk {X : Cx} {osc sc : Scope} (hs : X.env.scope = osc) (h : blkOk osc sc = true) : BlockOk X sc := by
 unfold blkOk at h
 simp only [Bool.and_eq_true, List.all_eq_true, bne_iff_ne, ne_eq, beq_iff_eq, Bool.or_eq_true] at h
 obtain ⟨⟨⟨h1, h2⟩, h3⟩, h4⟩ := h
 refine ⟨h1, h2, fun y hy e => (h3 y hy).resolve_left fun z => z e, fun y hy e => ?_⟩
 show X.env.scope.names.lookup y.1 = _ ∨ X.env.scope.names.lookup y.1 = _
 rw [hs]
 exact (h4 y hy).resolve_left fun z => z e
end L2
namespace L2
open PySem PySem.Spec PyProof.Rows
section
variable {g : TG} {tb : TS} {σ : St} {H : Hp} {nx : St → Hp → Prop} {rt : VK}
end
end L2
namespace L2
open PySem PySem.Spec PyProof.Rows

mutual
noncomputable def D.depth : D → Nat
 | .tup l => D.depths l + 1
 | .lst l => D.depths l + 1
 | .ins _ _ _ => 1000
 | _ => 0
noncomputable def D.depths : List D → Nat
 | [] => 0
 | d :: r => max (D.depth d) (D.depths r)
end
section
variable {X : Cx} {pins : List (Addr × Obj)} {σ : St} {H : Hp} {s : Shared}
end
end L2
namespace L2
open PySem PySem.Spec PyProof.Rows
section
variable {σ : St} {H : Hp} {Q : VK} {D' : Ends} {cap : List (Option Nat)} {wi : TI} {g : TG} {tt : TT} {te : TE}
variable {acc : Addr} {H0 : Hp} {Qh : Hp → Prop}
end
end L2
namespace L2
open PySem PySem.Spec PyProof.Rows
section
variable {X : Cx}
end
end L2
namespace L2
open PySem PySem.Spec PyProof.Rows
section
variable {X : Cx} {pins : List (Addr × Obj)} {σ : List (Option V)} {H H' : Hp} {s : Shared} {h' : Heap}
end
end L2
namespace L2
open PySem PySem.Spec PyProof.Rows
section
variable {X : Cx}
end
structure ZA (z TI TO i1 i2 : Addr) : Prop where
 TIz : TI ≠ z
 TOz : TO ≠ z
 i1z : i1 ≠ z
 i2z : i2 ≠ z
 TITO : TI ≠ TO
 TIi1 : TI ≠ i1
 TIi2 : TI ≠ i2
 TOi1 : TO ≠ i1
 TOi2 : TO ≠ i2
 i12 : i1 ≠ i2
section
variable {X : Cx}
end
section
variable {σ : St} {H : Hp} {cap : List (Option Nat)} {g : TG} {tt : TT} {te : TE} {acc : Addr} {H0 : Hp} {Qh : Hp → Prop}
structure Pairs (J : It) (n : Nat) (f : Nat → Option (V × V)) (ok : Hp → Prop) : Prop where
 go : ∀ i H, ok H → i < n → J.go i H
 stop : ∀ H, ok H → J.stop n H
 yld : ∀ i H x H', ok H → i < n → J.yld i H x H' → ∃ p u v, x = .ref p ∧ H p = none ∧ H' = upd H p (.tup [u, v]) ∧ f i = some (u, v)
end
end L2
namespace L2
open PySem PySem.Spec PyProof.Rows
section
variable {σ : St} {H : Hp} {Q : VK} {D' : Ends}
end
section
variable {σ : St} {H : Hp} {Q : VK}
end
end L2
namespace L2
open PySem PySem.Spec PyProof.Rows
open Classical in
noncomputable def frG (H H' : Hp) : Hp := fun b => match H' b with
 | some (.lst xs) => if H b = none then some (.lst xs) else none
 | o => o
noncomputable def Dom (H H' : Hp) : Prop := ∀ b, H' b = none → H b = none
structure Acc (K : PySem.W.Frag) (H0 : Hp) (acc : Addr) (ys : List V) (ds : List D) (H : Hp) : Prop where
 at_ : H acc = some (.lst ys)
 new : IsL K (frG (upd H0 acc (.lst [])) H) ys ds
 same : Same H0 H
 dom : Dom (upd H0 acc (.lst [])) H
end L2
namespace L2
open PySem PySem.Spec PyProof.Rows
section
variable {X : Cx}
end
section
variable {σ : St} {H : Hp} {Q : VK}
end
end L2
namespace L2
open PySem PySem.Spec PyProof.Rows
section
variable {σ : St} {H : Hp} {v : V}
end
end L2
namespace L2
open PySem PySem.Spec PyProof.Rows PyProof
section
variable {X : Cx}
theorem kit_no {K : PySem.W.Frag} {a b : String} (h1 : (Value.type a == Value.type b) = false) (h : (fastBuiltinMro a).map (·.contains (.type b)) = some false) (hm : PySem.W.kitMeta b = true) (hs : PySem.W.subIn K (.type a) (.type b) = (fastBuiltinMro a).map (·.contains (.type b))) : PySem.W.kitOne K (.type a) (.type b) = some false := by
 unfold PySem.W.kitOne PySem.W.kitCls
 rw [if_neg (by rw [h1]; decide)]
 show (if PySem.W.kitMeta b = true then PySem.W.subIn K (.type a) (.type b) else none) = _
 rw [if_pos hm, hs, h]
end
end L2
namespace L2
open PySem PySem.Spec PyProof.Rows
open AutoSeq1 (wpAny_loadPart')
section
variable {prog : Program} {w : World} {A : Around} {E : Value → Shared → Prop} {s : Shared}
end
section
variable {X : Cx}
end
end L2
namespace L2
open PySem PySem.Spec PyProof.Rows
section
variable {prog : Program} {w : World} {A : Around} {E : Value → Shared → Prop} {s : Shared}
noncomputable abbrev zT1 (h : Heap) (l1 : Addr) : Heap := h.push { cls := .type "tuple_iterator", data := .fields #[.ref l1, .int 0 0] }
noncomputable abbrev zT2 (h : Heap) (l1 l2 : Addr) : Heap := (zT1 h l1).push { cls := .type "tuple_iterator", data := .fields #[.ref l2, .int 0 0] }
noncomputable abbrev zT3 (h : Heap) (l1 l2 : Addr) : Heap := (zT2 h l1 l2).push { cls := .type "tuple", data := .seq #[.ref h.objs.size, .ref (zT1 h l1).objs.size] }
noncomputable abbrev zT4 (h : Heap) (l1 l2 : Addr) : Heap := (zT3 h l1 l2).push { cls := .type "tuple", data := .seq #[.none, .none] }
noncomputable abbrev zT5 (h : Heap) (l1 l2 : Addr) : Heap := (zT4 h l1 l2).push { cls := .type "zip", data := .fields #[.none, .bool false, .bool false, .ref (zT2 h l1 l2).objs.size, .ref (zT3 h l1 l2).objs.size] }
end
section
variable {X : Cx}
end
end L2
namespace L2
open PySem PySem.Spec PyProof.Rows
mutual
noncomputable def D.py : D → PyData
 | .non => .none
 | .bl b => .bool b
 | .int i => .int i
 | .str x => .str x
 | .tup l => .tuple (D.pys l)
 | .lst l => .list (D.pys l)
 | .ins _ _ _ => .none
noncomputable def D.pys : List D → List PyData
 | [] => []
 | d :: r => D.py d :: D.pys r
end
mutual
noncomputable def D.small (n : Nat) : D → Prop
 | .int i => i.natAbs < 2 ^ n
 | .tup l => D.smalls n l
 | .lst l => D.smalls n l
 | .non => True
 | .bl _ => True
 | .str _ => False
 | .ins _ _ _ => False
noncomputable def D.smalls (n : Nat) : List D → Prop
 | [] => True
 | d :: r => D.small n d ∧ D.smalls n r
end
mutual
noncomputable def D.wt (n : Nat) : D → Nat
 | .tup l => D.wts n l
 | .lst l => D.wts n l
 | .int _ => n
 | _ => 0
noncomputable def D.wts (n : Nat) : List D → Nat
 | [] => 0
 | d :: r => D.wt n d + 1 + D.wts n r
end
section
variable {X : Cx} {pins : List (Addr × Obj)} {σ : St} {H : Hp} {s : Shared}
mutual
theorem reads_of (I : Inv X pins σ H s) {n : Nat} : ∀ {v : V} {d : D}, Is X.K H v d → D.small n d → ∀ {u : Value}, RelV v u → ∃ as, Reads s.heap u (D.py d) as
 | _, _, .non, _, u, r => by cases r; exact ⟨_, .none⟩
 | _, _, .bl b, _, u, r => by cases r; exact ⟨_, .bool b⟩
 | _, _, .int i, _, u, r => by obtain ⟨t, rfl⟩ := r; exact ⟨_, .int i t⟩
 | _, _, .str x, h, u, r => absurd h (by simp [D.small])
 | _, _, .tup (a := a) h l, hs, u, r => by
  cases r
  obtain ⟨its, rv, ⟨o, ho, hc, m, hd⟩, _⟩ := I.tuple h
  obtain ⟨as, ra⟩ := readsL_of I l (by unfold D.small at hs; exact hs) rv
  refine ⟨as, ?_⟩
  show Reads s.heap (.ref a) (.tuple _) as
  exact .tuple ho hc hd (by simpa using ra)
 | _, _, .lst (a := a) h l, hs, u, r => by
  cases r
  obtain ⟨its, rv, ⟨o, m, ho, hc, _, hd⟩, _⟩ := I.list h
  obtain ⟨as, ra⟩ := readsL_of I l (by unfold D.small at hs; exact hs) rv
  refine ⟨a :: as, ?_⟩
  show Reads s.heap (.ref a) (.list _) (a :: as)
  exact .list ho hc hd (by simpa using ra)
 | _, _, .ins _ _ _, h, u, r => absurd h (by simp [D.small])
theorem readsL_of (I : Inv X pins σ H s) {n : Nat} : ∀ {vs : List V} {ds : List D}, IsL X.K H vs ds → D.smalls n ds → ∀ {us : List Value}, Vals vs us → ∃ as, ReadsAll s.heap us (D.pys ds) as
 | _, _, .nil, _, us, r => by cases r; exact ⟨_, .nil⟩
 | _, _, .cons h l, hs, us, r => by
  cases r with
  | cons r1 r2 =>
   unfold D.smalls at hs
   obtain ⟨as, ra⟩ := reads_of I h hs.1 r1
   obtain ⟨bs, rb⟩ := readsL_of I l hs.2 r2
   exact ⟨_, .cons ra rb⟩
end
end
theorem log2_small {i : Int} {n : Nat} (hn : 0 < n) (h : i.natAbs < 2 ^ n) : i.natAbs.log2 < n := by
 by_cases h0 : i.natAbs = 0
 ·rw [h0]; exact hn
 ·exact (Nat.log2_lt h0).mpr h
mutual
theorem py_show {n : Nat} (h0 : 8 ≤ n) (h1 : n ≤ 1900) : ∀ d : D, D.small n d → (D.py d).showable = true ∧ (D.py d).hasDict = false ∧ (D.py d).leavesShort (n + 1) = true ∧ (D.py d).weight ≤ D.wt n d ∧ (D.py d).depth = D.depth d
 | .non, _ => ⟨rfl, rfl, rfl, Nat.zero_le _, rfl⟩
 | .bl b, _ => ⟨rfl, rfl, rfl, Nat.zero_le _, rfl⟩
 | .int i, h => by
  have hl : i.natAbs.log2 < n := log2_small (by omega) h
  refine ⟨?_, rfl, ?_, ?_, rfl⟩
  ·show decide (i.natAbs.log2 < 1920) = true
   exact decide_eq_true (by omega)
  ·show decide ((Str.ofString (toString i)).length ≤ n + 1) = true
   refine decide_eq_true ?_
   have := int_text_length_le (k := n) (by omega) hl
   rwa [PySem.ofString_length]
  ·show (if i == 0 then 0 else i.natAbs.log2 + 1) ≤ n
   split <;> omega
 | .str x, h => absurd h (by simp [D.small])
 | .tup l, h => by
  have ⟨a, b, c, d, e⟩ := pys_show h0 h1 l (by unfold D.small at h; exact h)
  exact ⟨a, b, c, d, by show PyData.depthAll _ + 1 = D.depth (.tup l); unfold D.depth; rw [e]⟩
 | .lst l, h => by
  have ⟨a, b, c, d, e⟩ := pys_show h0 h1 l (by unfold D.small at h; exact h)
  exact ⟨a, b, c, d, by show PyData.depthAll _ + 1 = D.depth (.lst l); unfold D.depth; rw [e]⟩
 | .ins _ _ _, h => absurd h (by simp [D.small])
theorem pys_show {n : Nat} (h0 : 8 ≤ n) (h1 : n ≤ 1900) : ∀ l : List D, D.smalls n l → PyData.showableAll (D.pys l) = true ∧ PyData.hasDictAll (D.pys l) = false ∧ PyData.leavesShortAll (n + 1) (D.pys l) = true ∧ PyData.weightAll (D.pys l) ≤ D.wts n l ∧ PyData.depthAll (D.pys l) = D.depths l
 | [], _ => ⟨rfl, rfl, rfl, Nat.zero_le _, rfl⟩
 | d :: r, h => by
  unfold D.smalls at h
  obtain ⟨a, b, c, d', e⟩ := py_show h0 h1 d h.1
  obtain ⟨a2, b2, c2, d2, e2⟩ := pys_show h0 h1 r h.2
  refine ⟨?_, ?_, ?_, ?_, ?_⟩
  ·show ((D.py d).showable && PyData.showableAll (D.pys r)) = true
   rw [a, a2]; rfl
  ·show ((D.py d).hasDict || PyData.hasDictAll (D.pys r)) = false
   rw [b, b2]; rfl
  ·show ((D.py d).leavesShort (n + 1) && PyData.leavesShortAll (n + 1) (D.pys r)) = true
   rw [c, c2]; rfl
  ·show (D.py d).weight + 1 + PyData.weightAll (D.pys r) ≤ D.wts n (d :: r)
   have z : D.wts n (d :: r) = D.wt n d + 1 + D.wts n r := by conv => lhs; unfold D.wts
   omega
  ·show max (D.py d).depth (PyData.depthAll (D.pys r)) = D.depths (d :: r)
   have z : D.depths (d :: r) = max (D.depth d) (D.depths r) := by conv => lhs; unfold D.depths
   rw [e, e2, z]
end
structure ShowOk (n : Nat) (d : D) : Prop where
 seq : ∃ l, d = .tup l ∨ d = .lst l
 small : D.small n d
 n0 : 8 ≤ n
 n1 : n ≤ 1900
 deep : D.depth d ≤ 40
 size : (n + 3) * D.wt n d + n + 1 ≤ 16777216
section
variable {X : Cx}
noncomputable def rRepr (K : PySem.W.Frag) : List V → Hp → VK → Prop := fun xs H Q => ∃ (n : Nat) (x : V) (d : D), xs = [x] ∧ Is K H x d ∧ ShowOk n d ∧ Q (.str (D.py d).shown) H
theorem call_reprK {k : Nat} {K : PySem.W.Frag} (hr : Room k X.A) (hK : X.K = K := by rfl) : CallR X (.builtin "repr") (rRepr K) := by
 subst hK
 intro pins s σ H xs us Q I r h
 obtain ⟨n, x, d, rfl, hi, ok, q⟩ := h
 obtain ⟨u, rfl, ru⟩ := vals1 r
 obtain ⟨as, rd⟩ := reads_of I hi ok.small ru
 obtain ⟨a, b, c, e, f⟩ := py_show ok.n0 ok.n1 d ok.small
 have hd : isDisplay (D.py d) = true := by
  obtain ⟨l, z | z⟩ := ok.seq <;> (subst z; rfl)
 obtain ⟨p, rfl⟩ := isRef_of_reads rd hd
 have hlen : (D.py d).shown.length ≤ sizeLine := by
  have h1 := PyData.shown_le (n + 1) (by have := ok.n0; omega) (D.py d) c
  have h3 : (n + 1 + 2) * (D.py d).weight ≤ (n + 3) * D.wt n d := Nat.mul_le_mul_left _ e
  have h2 := ok.size
  exact Nat.le_trans h1 (by show _ ≤ 16777216; omega)
 have hu := hr.un
 have hdp := ok.deep
 exact repr_of_reads' rd a (PyData.noDict_hsm b) hr.gd (by rw [f]; omega) (fun _ _ e => e) (fun h' u tk hk => ⟨.str _, H, I.kept (t' := tk) hk, ⟨_, rfl⟩, q⟩) hlen
end
end L2
namespace L2
open PySem PySem.Spec PyProof.Rows
noncomputable abbrev rvObj (t : Addr) (i : Int) : Obj := { cls := .type "reversed", data := .fields #[.ref t, rawInt i] }
noncomputable abbrev IsRv (h : Heap) (a t : Addr) (i : Int) : Prop := h.get? a = some (rvObj t i)
section
variable {prog : Program} {w : World} {A : Around} {E : Value → Shared → Prop} {s : Shared}
end
section
variable {X : Cx} {tg : Expr}
noncomputable def rCatA (K : PySem.W.Frag) : R2 := fun x y H Q => ∃ a b xs ys, x = .ref a ∧ y = .ref b ∧ SqT K H a xs ∧ SqT K H b ys ∧ xs.length + ys.length ≤ sizeLine ∧ (xs = [] → Q (.ref b) H) ∧ (xs ≠ [] → ys = [] → Q (.ref a) H) ∧ (xs ≠ [] → ys ≠ [] → ∀ p, H p = none → Q (.ref p) (upd H p (.tup (xs ++ ys))))
theorem op_catA {K : PySem.W.Frag} (hK : X.K = K := by rfl) : OpR X (binaryOp .Add) (rCatA K) := by
 subst hK
 intro pins s σ H x y v u Q I rx ry h
 obtain ⟨a, b, xs, ys, e1, e2, ha, hb, hz, q1, q2, q3⟩ := h
 by_cases hx : xs = []
 ·subst e1 e2
  cases rx
  cases ry
  obtain ⟨its, r1, p1, _⟩ := I.tuple ha
  obtain ⟨its2, r2, p2, _⟩ := I.tuple hb
  obtain ⟨⟨cls, dd, data, sl⟩, ho, hc, n, hd⟩ := id p1
  obtain ⟨⟨cls2, dd2, data2, sl2⟩, ho2, hc2, n2, hd2⟩ := id p2
  simp only at hc hd hc2 hd2
  subst hc hd hc2 hd2
  exact concat_meets ⟨_, ho, rfl⟩ ⟨_, ho2, rfl⟩ noFill_tuple_add seq_tuple_add PySem.F.slot_tuple_add PySem.F.entry_tuple_add (PySem.F.args_tuple_add_2 _ _) (tuple_addW0 a b its.toArray its2.toArray n n2 dd dd2 sl sl2 (by have := r1.nil_iff.mpr hx; simp [this])) ⟨ho, ho2, ⟨.ref b, H, I, rfl, q1 hx⟩⟩
 ·exact op_catT pins s σ H x y v u Q I rx ry ⟨a, b, xs, ys, e1, e2, ha, hb, hx, hz, q2 hx, q3 hx⟩
end
end L2
namespace L2
open PySem PySem.Spec PyProof.Rows PyProof
section
variable {X : Cx}
end
end L2
namespace L2
open PySem PySem.Spec PyProof.Rows
section
variable {X : Cx}
end
end L2
namespace L2
open PySem PySem.Spec PyProof.Rows
section
variable {prog : Program} {w : World} {A : Around} {E : Value → Shared → Prop} {s : Shared}
end
section
variable {X : Cx}
end
end L2
namespace HT
open PySem PyProof.Rows
section
variable {prog : Program} {w : World} {A : Around} {E : Value → Shared → Prop} {s : Shared}
theorem getItem_tuple_whole {t sl : Addr} {items : Array Value} {vl vu : Value} {lo hi : Option Int} {Q : Value → Shared → Prop} (ht : IsTup s.heap t items) (hs : s.heap.IsSliceOf sl vl vu .none) (pl : IsPart vl lo) (pu : IsPart vu hi)
  (hw : sIx items.size 0 lo = 0 ∧ sIx items.size items.size hi = items.size) (h : Q (.ref t) s) : wpAny (model prog w) A (getItem (.ref t) (.ref sl)) Q E s := by
 obtain ⟨os, hos, hcs, hds⟩ := id hs
 have hTs : s.TypeIs (.ref sl) "slice" := ⟨os, hos, hcs⟩
 unfold getItem
 try with_reducible refine wpAny_holding ?_
 first | refine wpAny_bind (wpAny_pure ?_) | skip
 refine wpAny_bind (wpAny_sequenceKey ht.typeIs (by decide) ?_)
 refine wpAny_bind (wpAny_callSpecial?_slot (name := Str.ofString "__getitem__") ht.typeIs PyProof.Rows.slot_tuple_getitem
  (wpAny_call_entry PyProof.Rows.slot_tuple_getitem ht.typeIs entry_tuple_getitem ?_ (args_tuple_getitem _ _)))
 show wpAny _ _ (Builtin.Tuple.tupleItemsOf (.ref t) >>= _) _ _ s
 refine wpAny_bind (tupleItemsOf_ ht ?_)
 refine wpAny_bind (wpAny_typeOf hTs ?_)
 rw [if_pos (by decide)]
 refine wpAny_bind (sliceApplied_gen hs pl pu ?_)
 have hyes : ((((sIx items.size 0 lo : Nat) : Int) == 0 && (1 : Int) == 1 && (sIx items.size items.size hi - sIx items.size 0 lo) == items.size) = true) := by
  rw [hw.1, hw.2]
  simp
 show wpAny _ _ (if (((sIx items.size 0 lo : Nat) : Int) == 0 && (1 : Int) == 1 && (sIx items.size items.size hi - sIx items.size 0 lo) == items.size) = true then _ else _) _ _ s
 rw [if_pos hyes]
 refine wpAny_bind ?_
 unfold Builtin.Tuple.tupleIsExact
 refine wpAny_bind (wpAny_typeOf ht.typeIs ?_)
 refine wpAny_pure ?_
 rw [if_pos (by decide)]
 refine wpAny_bind (wpAny_rule ?_)
 exact wpAny_pure ⟨_, rfl, wpAny_pure h⟩
end
end HT
namespace L2
open PySem PySem.Spec PyProof.Rows
section
variable {X : Cx}
noncomputable def rSlA (K : PySem.W.Frag) : V → Option Int → Option Int → Hp → VK → Prop := fun x lo hi H Q => ∃ a xs, x = .ref a ∧ SqT K H a xs ∧
 (HT.sIx xs.length 0 lo = 0 ∧ HT.sIx xs.length xs.length hi = xs.length → Q (.ref a) H) ∧ (¬ (HT.sIx xs.length 0 lo = 0 ∧ HT.sIx xs.length xs.length hi = xs.length) → ∀ p, H p = none → Q (.ref p) (upd H p (.tup (cutV xs lo hi))))
theorem sl_tupA {K : PySem.W.Frag} (hK : X.K = K := by rfl) : SlR X (rSlA K) := by
 subst hK
 intro pins s σ H x v vl vu lo hi sl Q I rx hs pl pu h
 obtain ⟨a, xs, rfl, hx, q1, q2⟩ := h
 by_cases hw : HT.sIx xs.length 0 lo = 0 ∧ HT.sIx xs.length xs.length hi = xs.length
 ·cases rx
  obtain ⟨its, r, ht, hz⟩ := I.tuple hx
  have hlen : its.toArray.size = xs.length := by rw [List.size_toArray]; exact r.length.symm
  refine ⟨"tuple", _, PyProof.Rows.slot_tuple_getitem.lookup, ht.typeIs, ?_⟩
  exact HT.getItem_tuple_whole ht hs pl pu (by rw [hlen]; exact hw) ⟨.ref a, H, I, rfl, q1 hw⟩
 ·exact sl_tup pins s σ H (.ref a) v vl vu lo hi sl Q I rx hs pl pu ⟨a, xs, rfl, hx, hw, q2 hw⟩
section
variable {X : Cx} {tg : Expr}
end
end
end L2
namespace L2
open PySem PySem.Spec PyProof.Rows
section
variable {env : Env} {r : List Expr}
theorem se_Tuple {a b c} : starEach (.Tuple a b c :: r) env = (false, eval (.Tuple a b c) env) :: starEach r env := by rw [starEach]; simp
theorem se_Constant {a b c} : starEach (.Constant a b c :: r) env = (false, eval (.Constant a b c) env) :: starEach r env := by rw [starEach]; simp
theorem se_Name {a b} : starEach (.Name a b :: r) env = (false, eval (.Name a b) env) :: starEach r env := by rw [starEach]; simp
theorem se_Subscript {a b c} : starEach (.Subscript a b c :: r) env = (false, eval (.Subscript a b c) env) :: starEach r env := by rw [starEach]; simp
theorem se_BinOp {a b c d} : starEach (.BinOp a b c d :: r) env = (false, eval (.BinOp a b c d) env) :: starEach r env := by rw [starEach]; simp
theorem se_UnaryOp {a b c} : starEach (.UnaryOp a b c :: r) env = (false, eval (.UnaryOp a b c) env) :: starEach r env := by rw [starEach]; simp
theorem se_Call {a b c d} : starEach (.Call a b c d :: r) env = (false, eval (.Call a b c d) env) :: starEach r env := by rw [starEach]; simp
end
end L2
namespace L2
open PySem PySem.Spec PyProof.Rows PySem.Builtin
section
variable {X : Cx}
end
end L2
namespace L2
open PySem PySem.Spec PyProof.Rows PySem.Calls
noncomputable def sortI (ns : List Int) : List Int := ns.mergeSort fun a b => decide (a ≤ b)
theorem sortI_perm (ns : List Int) : (sortI ns).Perm ns := List.mergeSort_perm _ _
theorem sortI_sorted (ns : List Int) : (sortI ns).Pairwise (· ≤ ·) := by
 have h := List.pairwise_mergeSort (le := fun a b : Int => decide (a ≤ b)) (by intro a b c h1 h2; simp at *; omega) (by intro a b; simp; omega) ns
 exact h.imp fun h => by simpa using h
theorem sortI_eq {ns ms : List Int} (p : ms.Perm ns) (o : ms.Pairwise (· ≤ ·)) : ms = sortI ns := PySem.W.ksm_same (p.trans (sortI_perm ns).symm) o (sortI_sorted ns)
theorem sortI_len (ns : List Int) : (sortI ns).length = ns.length := (sortI_perm ns).length_eq
section
variable {X : Cx}
end
section
variable {prog : Program} {w : World} {A : Around} {E : Value → Shared → Prop} {s : Shared} {T : String} {r d : Addr} {n : Nat} {P : Nat → Value → Prop} {OK : Heap → Prop} {Q : Value → Shared → Prop}
theorem collect_src {R : List Value → Shared → Prop} (K : PySem.W.KdlSrc prog w T r d n P OK) (hh : A.handled = none) (hok : OK s.heap) (hn : n ≤ sizeLine)
  (fin : ∀ (g : Heap) (k : Nat) (xs : Array Value), (∀ b o, s.heap.get? b = some o → g.get? b = some o) → s.heap.objs.size < g.objs.size → ItemsOf P xs n → R xs.toList { s with heap := g, toks := k }) :
  wpAny (model prog w) A (collect (.ref r)) R E s := by
 obtain ⟨lr, ld⟩ := K.there _ hok
 unfold collect
 refine wpAny_bind (wpAny_runValue ?_)
 refine codeAny_builtin entry_proto_collect' ?_
 rw [Around.under_plainId PySem.F.plain_proto_collect _]
 refine wpAny_bind (m := newList []) ?_
 refine wpAny_newObj_type ?_
 refine wpAny_pure ⟨plainId_quiet PySem.F.plain_list_iadd _, ?_⟩
 refine codeAny_builtin entry_list_iadd' ?_
 rw [Around.under_plainId PySem.F.plain_list_iadd _]
 have at0 : (s.heap.push { cls := .type "list", data := .seq ([] : List Value).toArray }).get? s.heap.objs.size = some { cls := .type "list", data := .seq #[] } := Heap.get?_push_size _ rfl
 have step := PySem.W.kdl_extend (A := A) (s := { s with heap := s.heap.push { cls := .type "list", data := .seq ([] : List Value).toArray } })
  (R := fun (q : Result) (s' : Shared) => ∃ (g : Heap) (k : Nat) (xs : Array Value) (c : Nat), q = .ok (.ret (.ref s.heap.objs.size)) ∧ s' = { s with heap := g, toks := k } ∧ (∀ b o, s.heap.get? b = some o → g.get? b = some o) ∧
   g.get? s.heap.objs.size = some { cls := .type "list", dict := none, data := .seq xs c, slots := #[] } ∧ ItemsOf P xs n)
  K hh (K.keep _ _ hok fun _ _ _ e => Heap.get?_push_of_some _ e) s.heap.objs.size (Nat.ne_of_gt lr) (Nat.ne_of_gt ld) (.ref s.heap.objs.size) 0 at0
  (fun g k xs c kp ha it => ⟨g, k, xs, c, rfl, rfl, fun b o e => kp b o (Nat.ne_of_lt (Heap.lt_size e)) (Heap.get?_push_of_some _ e), ha, it⟩) hn
 refine wpAny_mono step (fun f s' x => ?_) fun e s' x => ?_
 ·cases f with
  | done f0 =>
   obtain ⟨g, k, xs, c, e, rfl, kp, ha, it⟩ := x
   cases e
   exact wpAny_bind (wpAny_load ha (wpAny_pure (fin g k xs kp (Heap.lt_size ha) it)))
  | again c0 =>
   refine ⟨x.1, codeAny_mono x.2 fun q s2 y => ?_⟩
   obtain ⟨g, k, xs, c, rfl, rfl, kp, ha, it⟩ := y
   exact wpAny_bind (wpAny_load ha (wpAny_pure (fin g k xs kp (Heap.lt_size ha) it)))
 ·obtain ⟨_, _, _, _, z, _⟩ := x
  cases z
theorem sorted_src (K : PySem.W.KdlSrc prog w T r d n P OK) (hh : A.handled = none) (hok : OK s.heap) (hn : n ≤ sizeLine) (h64 : n < 64) {ns : List Int} (hns : ∀ vs : List Value, vs.length = n → (∀ (j : Nat) (v : Value), vs[j]? = some v → P j v) → IntsAre vs ns)
  (h : ∀ (D : Addr) (h' : Heap) (tk e : Nat) (out : Array Value), (∀ b o, s.heap.get? b = some o → h'.get? b = some o) → s.heap.objs.size ≤ D → h'.get? D = some (seqObj "list" out e) → IntsAre out.toList (sortI ns) → Q (.ref D) { s with heap := h', toks := tk }) :
  wpAny (model prog w) A (call (.builtin "sorted") [.ref r]) Q E s := by
 refine call_function_entry kind_sorted plain_sorted entry_sorted (args_sorted1 _) ?_
 unfold Builtin.«sorted»
 refine wpAny_bind (m := checkCount "sorted" 1 1 _) (wpAny_pure ?_)
 refine wpAny_bind (collect_src (A := A.in1) K hh hok hn fun h' tk acc hk hlt hacc => ?_)
 have hl : acc.toList.length = n := by rw [Array.length_toList]; exact hacc.1
 have hI := hns acc.toList hl (fun j v e => hacc.2 j v (by rw [← Array.getElem?_toList]; exact e))
 refine wpAny_bind (wpAny_newList ?_ (by rw [hl]; exact hn))
 have hoL : (h'.push { cls := .type "list", data := .seq acc.toList.toArray }).get? h'.objs.size = some (seqObj "list" acc.toList.toArray 0) := Heap.get?_push_size _ rfl
 have hsz : s.heap.objs.size ≤ h'.objs.size := Nat.le_of_lt hlt
 refine wpAny_bind (wpAny_holding (wpAny_call_entry slot_list_sort ⟨_, hoL, rfl⟩ entry_list_sort (list_sort_tree hoL hI (by omega) fun out ns' a1 a2 a3 => ⟨_, rfl, ?_⟩) (args_list_sort _)))
 obtain rfl := sortI_eq a2 a3
 obtain ⟨e, he⟩ := sortedHeap_at (out := out) hoL
 refine wpAny_pure ⟨_, rfl, h _ _ tk e out (fun b o eb => ?_) hsz he a1⟩
 have hb := hk b o eb
 have lt := Heap.lt_size hb
 rw [sortedHeap_old (Nat.ne_of_lt lt) (by rw [Heap.size_push]; exact Nat.lt_succ_of_lt lt)]
 exact Heap.get?_push_of_some _ hb
end
section
variable {X : Cx}
theorem keys_ints {P : Program} {w : World} {kvs : List (Key × V)} {vs : List (Key × Value)} {ns : List Int} (rel : KV kvs vs) (hk : kvs.map (·.1) = ns.map Sum.inl) (us : List Value) (hl : us.length = vs.length)
  (hp : ∀ (i : Nat) (u : Value), us[i]? = some u → ∃ k x, vs[i]? = some (k, x) ∧ (mixKind P w).is k u = true) : IntsAre us ns := by
 have e1 : vs.map (·.1) = ns.map Sum.inl := rel.keys.symm.trans hk
 clear rel hk
 induction us generalizing vs ns with
 | nil =>
  have : vs = [] := List.length_eq_zero_iff.1 (by simpa using hl.symm)
  subst this
  cases ns with
  | nil => exact .nil
  | cons n r => simp at e1
 | cons u us ih =>
  obtain ⟨k, x, e2, e3⟩ := hp 0 u rfl
  cases vs with
  | nil => simp at e2
  | cons p vs =>
   simp at e2
   subst e2
   cases ns with
   | nil => simp at e1
   | cons n r =>
    simp only [List.map_cons, List.cons.injEq] at e1
    obtain ⟨e4, e1⟩ := e1
    have e4 : k = Sum.inl n := e4
    subst e4
    have e3 : keyIs (Sum.inl n) u = true := e3
    rcases keyIs_shape e3 with ⟨i, t, e5, rfl⟩ | ⟨i, t, e5, _⟩
    ·cases e5
     exact .cons _ _ (ih (by simpa using hl) (fun i u h => by simpa using hp (i + 1) u (by simpa using h)) e1)
    ·cases e5
noncomputable def rSortD : List V → Hp → VK → Prop := fun xs H Q => ∃ (a : Addr) (kvs : List (Key × V)) (ns : List Int), xs = [.ref a] ∧ H a = some (.dK kvs) ∧ kvs.map (·.1) = ns.map Sum.inl ∧ ns.length < 64 ∧ ∀ l, H l = none → Q (.ref l) (upd H l (.lst ((sortI ns).map V.int)))
theorem lay_list {pins : List (Addr × Obj)} {σ : St} {H : Hp} {s : Shared} {Q : VK} {D : Addr} {g : Heap} {tk e : Nat} {out : Array Value} {ms : List Int} (I : Inv X pins σ H s) (kp : ∀ b o, s.heap.get? b = some o → g.get? b = some o) (hD : s.heap.objs.size ≤ D) (ha : g.get? D = some (seqObj "list" out e)) (hi : IntsAre out.toList ms) (hz : ms.length ≤ sizeLine)
  (q : ∀ l, H l = none → Q (.ref l) (upd H l (.lst (ms.map V.int)))) : EP X pins σ Q (.ref D) { s with heap := g, toks := tk } :=
 ⟨.ref D, _, I.laid (t' := tk) kp hD (show ObjOk X.prog X.w _ _ _ (.lst (ms.map V.int)) from ⟨by rw [List.length_map]; exact hz, out.toList, e, vals_ints hi, by rw [ha]⟩), rfl, q _ (I.hok.fresh hD)⟩
theorem line64 {n : Nat} (h : n < 64) : n ≤ sizeLine := Nat.le_trans (Nat.le_of_lt h) (by decide)
theorem call_sortD (hc : X.calm = true) : CallR X (.builtin "sorted") rSortD := by
 intro pins s σ H xs us Q I r h
 obtain ⟨a, kvs, ns, rfl, ha, hk, h64, q⟩ := h
 obtain ⟨u, rfl, ru⟩ := vals1 r
 cases ru
 obtain ⟨hz, lo, vs, rel, dd⟩ := dk_of I.hok ha
 obtain ⟨ep, hat⟩ := dd.dictAt
 have hl : vs.length = ns.length := by rw [← rel.length, ← List.length_map (f := (·.1)), hk, List.length_map]
 refine sorted_src (PySem.W.kdl_dict (knd := mixKind X.prog X.w) (kvs := vs) (ep := ep) lo) (I.ok.hd hc) hat (by rw [hl]; exact line64 h64) (by rw [hl]; exact h64) (ns := ns) (fun us hu hp => keys_ints rel hk us hu hp) fun D g tk e out kp hD ha hi => ?_
 exact lay_list I kp hD ha hi (by rw [sortI_len]; exact line64 h64) q
end
section
variable {prog : Program} {w : World} {A : Around} {E : Value → Shared → Prop} {s : Shared} {T : String} {r d : Addr} {n : Nat} {P : Nat → Value → Prop} {OK : Heap → Prop} {Q : Value → Shared → Prop}
end
section
variable {X : Cx}
end
end L2
namespace L2
open PySem
inductive Xv where
 | non | bl (b : Bool) | int (i : Int) | str (x : Str) | tup (xs : List Xv) | ct (xs : List Xv) | ref (n : Nat)
inductive Ce where
 | lst (xs : List Xv)
 | frz (xs : List Xv)
 | dk (kvs : List (Key × Xv))
 | dt (kvs : List (List Key × Xv))
 | ins (nm : Str) (fs : List (Str × Xv))
 | fdk (kvs : List (Key × Xv))
 | dn (kvs : List (NK × Xv × Xv))
noncomputable abbrev Sto := List Ce
noncomputable abbrev Rho := List (Option Xv)
noncomputable def Ce.fz : Ce → Bool
 | .frz _ => true
 | .fdk _ => true
 | _ => false
noncomputable def HO.mu : HO → Bool
 | .lst _ => true
 | .dK _ => true
 | .dT _ => true
 | .dN _ => true
 | .ins _ _ _ => true
 | .set _ _ => true
 | _ => false
noncomputable def KeepI (H H' : Hp) : Prop := ∀ b u, H b = some u → u.mu = false → H' b = some u
theorem KeepI.refl (H : Hp) : KeepI H H := fun _ _ e _ => e
theorem KeepI.trans {H H1 H2 : Hp} (a : KeepI H H1) (b : KeepI H1 H2) : KeepI H H2 := fun x u e m => b x u (a x u e m) m
theorem KeepI.same {H H' : Hp} (S : Same H H') : KeepI H H' := fun b u e _ => S b u e
structure Ext (j : List Addr) (H : Hp) (j' : List Addr) (H' : Hp) : Prop where
 pre : ∀ (n : Nat) a, j[n]? = some a → j'[n]? = some a
 imm : KeepI H H'
theorem Ext.refl {j : List Addr} {H : Hp} : Ext j H j H := ⟨fun _ _ e => e, KeepI.refl _⟩
theorem Ext.trans {j j1 j2 : List Addr} {H H1 H2 : Hp} (a : Ext j H j1 H1) (b : Ext j1 H1 j2 H2) : Ext j H j2 H2 := ⟨fun n x e => b.pre n x (a.pre n x e), a.imm.trans b.imm⟩
theorem Ext.same {j : List Addr} {H H' : Hp} (S : Same H H') : Ext j H j H' := ⟨fun _ _ e => e, KeepI.same S⟩
mutual
inductive Xis (K : PySem.W.Frag) (j : List Addr) (H : Hp) : Xv → V → Prop where
 | non : Xis K j H .non .non
 | bl (b : Bool) : Xis K j H (.bl b) (.bl b)
 | int (i : Int) : Xis K j H (.int i) (.int i)
 | str (x : Str) : Xis K j H (.str x) (.str x)
 | tup {a : Addr} {vs : List V} {xs : List Xv} : H a = some (.tup vs) → XisL K j H xs vs → Xis K j H (.tup xs) (.ref a)
 | ct {a : Addr} {vs : List V} {xs : List Xv} : (∀ H, SqT K H a vs) → XisL K j H xs vs → Xis K j H (.ct xs) (.ref a)
 | ref {n : Nat} {a : Addr} : j[n]? = some a → Xis K j H (.ref n) (.ref a)
inductive XisL (K : PySem.W.Frag) (j : List Addr) (H : Hp) : List Xv → List V → Prop where
 | nil : XisL K j H [] []
 | cons {x : Xv} {v : V} {xs : List Xv} {vs : List V} : Xis K j H x v → XisL K j H xs vs → XisL K j H (x :: xs) (v :: vs)
end
mutual
theorem Xis.mono {K : PySem.W.Frag} {j j' : List Addr} {H H' : Hp} (S : Ext j H j' H') : ∀ {x : Xv} {v : V}, Xis K j H x v → Xis K j' H' x v
 | _, _, .non => .non
 | _, _, .bl b => .bl b
 | _, _, .int i => .int i
 | _, _, .str x => .str x
 | _, _, .tup h l => .tup (S.imm _ _ h rfl) (XisL.mono S l)
 | _, _, .ct h l => .ct h (XisL.mono S l)
 | _, _, .ref h => .ref (S.pre _ _ h)
theorem XisL.mono {K : PySem.W.Frag} {j j' : List Addr} {H H' : Hp} (S : Ext j H j' H') : ∀ {xs : List Xv} {vs : List V}, XisL K j H xs vs → XisL K j' H' xs vs
 | _, _, .nil => .nil
 | _, _, .cons h l => .cons (Xis.mono S h) (XisL.mono S l)
end
section
variable {K : PySem.W.Frag} {j : List Addr} {H : Hp}
theorem XisL.len : ∀ {xs : List Xv} {vs : List V}, XisL K j H xs vs → vs.length = xs.length
 | _, _, .nil => rfl
 | _, _, .cons _ l => by rw [List.length_cons, List.length_cons, l.len]
theorem XisL.get : ∀ {xs : List Xv} {vs : List V} {i : Nat} {x : Xv}, XisL K j H xs vs → xs[i]? = some x → ∃ v, vs[i]? = some v ∧ Xis K j H x v
 | _, _, _, _, .nil, e => by simp at e
 | _, _, 0, _, .cons h _, e => by simp at e; subst e; exact ⟨_, rfl, h⟩
 | _, _, i + 1, x, .cons _ l, e => by
  obtain ⟨v, e1, e2⟩ := l.get (i := i) (x := x) (by simpa using e)
  exact ⟨v, by simpa using e1, e2⟩
theorem XisL.append : ∀ {xs ys : List Xv} {vs ws : List V}, XisL K j H xs vs → XisL K j H ys ws → XisL K j H (xs ++ ys) (vs ++ ws)
 | _, _, _, _, .nil, h => h
 | _, _, _, _, .cons h l, k => .cons h (l.append k)
theorem XisL.one {v : V} {x : Xv} (h : Xis K j H x v) : XisL K j H [x] [v] := .cons h .nil
theorem XisL.take : ∀ {xs : List Xv} {vs : List V} (n : Nat), XisL K j H xs vs → XisL K j H (xs.take n) (vs.take n)
 | _, _, 0, _ => .nil
 | _, _, _ + 1, .nil => .nil
 | _, _, n + 1, .cons h l => .cons h (l.take n)
theorem XisL.drop : ∀ {xs : List Xv} {vs : List V} (n : Nat), XisL K j H xs vs → XisL K j H (xs.drop n) (vs.drop n)
 | _, _, 0, h => h
 | _, _, _ + 1, .nil => .nil
 | _, _, n + 1, .cons h l => l.drop n
theorem XisL.ints : ∀ ns : List Int, XisL K j H (ns.map Xv.int) (ns.map V.int)
 | [] => .nil
 | n :: r => .cons (.int n) (XisL.ints r)
theorem XisL.reverse : ∀ {xs : List Xv} {vs : List V}, XisL K j H xs vs → XisL K j H xs.reverse vs.reverse
 | _, _, .nil => .nil
 | _, _, .cons h l => by
  rw [List.reverse_cons, List.reverse_cons]
  exact l.reverse.append (.one h)
theorem XisL.at_ {xs : List Xv} {vs : List V} {i : Int} {x : Xv} (h : XisL K j H xs vs) (e : atI xs i = some x) : ∃ v, atI vs i = some v ∧ Xis K j H x v := by
 unfold atI at e ⊢
 rw [h.len]
 cases e1 : ixN xs.length i with
 | none => rw [e1] at e; cases e
 | some m =>
  rw [e1] at e
  obtain ⟨v, e3, e4⟩ := h.get (i := m) e
  exact ⟨v, e3, e4⟩
theorem Xis.int_inv {v : V} {i : Int} (h : Xis K j H (.int i) v) : v = .int i := by cases h; rfl
theorem Xis.bl_inv {v : V} {b : Bool} (h : Xis K j H (.bl b) v) : v = .bl b := by cases h; rfl
theorem Xis.ref_inv {v : V} {n : Nat} (h : Xis K j H (.ref n) v) : ∃ a, v = .ref a ∧ j[n]? = some a := by cases h with | ref e => exact ⟨_, rfl, e⟩
theorem Xis.tup_inv {v : V} {xs : List Xv} (h : Xis K j H (.tup xs) v) : ∃ a vs, v = .ref a ∧ H a = some (.tup vs) ∧ XisL K j H xs vs := by cases h with | tup a b => exact ⟨_, _, rfl, a, b⟩
theorem XisL.cons_inv {vs : List V} {x : Xv} {xs : List Xv} (h : XisL K j H (x :: xs) vs) : ∃ v r, vs = v :: r ∧ Xis K j H x v ∧ XisL K j H xs r := by cases h with | cons a b => exact ⟨_, _, rfl, a, b⟩
theorem XisL.nil_inv {vs : List V} (h : XisL K j H [] vs) : vs = [] := by cases h; rfl
theorem XisL.d1 {vs : List V} {a : Xv} (h : XisL K j H [a] vs) : ∃ x, vs = [x] ∧ Xis K j H a x := by
 obtain ⟨x, r, rfl, hx, h⟩ := h.cons_inv
 obtain rfl := h.nil_inv
 exact ⟨x, rfl, hx⟩
theorem XisL.d2 {vs : List V} {a b : Xv} (h : XisL K j H [a, b] vs) : ∃ x y, vs = [x, y] ∧ Xis K j H a x ∧ Xis K j H b y := by
 obtain ⟨x, r, rfl, hx, h⟩ := h.cons_inv
 obtain ⟨y, rfl, hy⟩ := h.d1
 exact ⟨x, y, rfl, hx, hy⟩
noncomputable def Xv.tupOf : Xv → Option (List Xv)
 | .tup xs => some xs
 | .ct xs => some xs
 | _ => none
theorem Xis.tupO {v : V} {x : Xv} {xs : List Xv} (h : Xis K j H x v) (e : x.tupOf = some xs) : ∃ a vs, v = .ref a ∧ SqT K H a vs ∧ XisL K j H xs vs := by
 cases h with
 | tup h l => simp [Xv.tupOf] at e; subst e; exact ⟨_, _, rfl, SqT.of h, l⟩
 | ct h l => simp [Xv.tupOf] at e; subst e; exact ⟨_, _, rfl, h H, l⟩
 | _ => simp [Xv.tupOf] at e
end
inductive KX {κ : Type} (K : PySem.W.Frag) (j : List Addr) (H : Hp) : List (κ × Xv) → List (κ × V) → Prop where
 | nil : KX K j H [] []
 | cons {k : κ} {x : Xv} {v : V} {r : List (κ × Xv)} {rs : List (κ × V)} : Xis K j H x v → KX K j H r rs → KX K j H ((k, x) :: r) ((k, v) :: rs)
theorem KX.mono {κ : Type} {K : PySem.W.Frag} {j j' : List Addr} {H H' : Hp} (S : Ext j H j' H') : ∀ {xs : List (κ × Xv)} {vs : List (κ × V)}, KX K j H xs vs → KX K j' H' xs vs
 | _, _, .nil => .nil
 | _, _, .cons h l => .cons (h.mono S) (l.mono S)
mutual
noncomputable def xkey : Xv → Option NK
 | .int i => some (.int i)
 | .str x => some (.str x)
 | .tup l => (xkeyL l).map .tup
 | .ct l => (xkeyL l).map .tup
 | .non => none
 | .bl _ => none
 | .ref _ => none
noncomputable def xkeyL : List Xv → Option (List NK)
 | [] => some []
 | x :: r => (xkey x).bind fun k => (xkeyL r).map (k :: ·)
end
inductive NX (K : PySem.W.Frag) (j : List Addr) (H : Hp) : List (NK × Xv × Xv) → List (NK × Addr × V) → Prop where
 | nil : NX K j H [] []
 | cons {k : NK} {x y : Xv} {b : Addr} {v : V} {r : List (NK × Xv × Xv)} {rs : List (NK × Addr × V)} : xkey x = some k ∧ ndep k ≤ 8 → Xis K j H x (.ref b) → Xis K j H y v → NX K j H r rs → NX K j H ((k, x, y) :: r) ((k, b, v) :: rs)
theorem NX.mono {K : PySem.W.Frag} {j j' : List Addr} {H H' : Hp} (S : Ext j H j' H') : ∀ {xs : List (NK × Xv × Xv)} {vs : List (NK × Addr × V)}, NX K j H xs vs → NX K j' H' xs vs
 | _, _, .nil => .nil
 | _, _, .cons e h1 h2 l => .cons e (h1.mono S) (h2.mono S) (l.mono S)
noncomputable def CeIs (K : PySem.W.Frag) (j : List Addr) (H : Hp) (a : Addr) : Ce → Prop
 | .lst xs => ∃ vs, H a = some (.lst vs) ∧ XisL K j H xs vs
 | .frz xs => ∃ vs, ((∃ o, H a = some (.frz o (.lst vs))) ∨ ∀ H, SqX K H a vs) ∧ XisL K j H xs vs
 | .dk kvs => ∃ ks : List (Key × V), H a = some (.dK ks) ∧ KX K j H kvs ks
 | .dt kvs => ∃ ks : List (List Key × V), H a = some (.dT ks) ∧ KX K j H kvs ks
 | .ins nm fs => ∃ (C dx : Addr) (vs : List (Str × V)), PySem.W.nsIn K mainGlobals nm = some (some (.ref C)) ∧ H a = some (.ins C dx vs) ∧ KX K j H fs vs
 | .fdk kvs => ∃ (o : Obj) (ks : List (Key × V)), H a = some (.frz o (.dK ks)) ∧ KX K j H kvs ks
 | .dn kvs => ∃ ks : List (NK × Addr × V), H a = some (.dN ks) ∧ NX K j H kvs ks
theorem CeIs.mu {K : PySem.W.Frag} {j : List Addr} {H : Hp} {a : Addr} : ∀ {c : Ce}, CeIs K j H a c → c.fz = false → ∃ o, H a = some o ∧ o.mu = true
 | .lst _, ⟨_, e, _⟩, _ => ⟨_, e, rfl⟩
 | .frz _, _, z => by cases z
 | .dk _, ⟨_, e, _⟩, _ => ⟨_, e, rfl⟩
 | .dt _, ⟨_, e, _⟩, _ => ⟨_, e, rfl⟩
 | .ins _ _, ⟨_, _, _, _, e, _⟩, _ => ⟨_, e, rfl⟩
 | .fdk _, _, z => by cases z
 | .dn _, ⟨_, e, _⟩, _ => ⟨_, e, rfl⟩
theorem CeIs.mono {K : PySem.W.Frag} {j j' : List Addr} {H H' : Hp} {a : Addr} (S : Ext j H j' H') : ∀ {c : Ce}, (c.fz = false → H' a = H a) → CeIs K j H a c → CeIs K j' H' a c
 | .lst _, h, ⟨_, e, l⟩ => ⟨_, (h rfl).trans e, l.mono S⟩
 | .frz _, _, ⟨_, .inl ⟨o, e⟩, l⟩ => ⟨_, .inl ⟨o, S.imm _ _ e rfl⟩, l.mono S⟩
 | .frz _, _, ⟨_, .inr e, l⟩ => ⟨_, .inr e, l.mono S⟩
 | .dk _, h, ⟨_, e, l⟩ => ⟨_, (h rfl).trans e, l.mono S⟩
 | .dt _, h, ⟨_, e, l⟩ => ⟨_, (h rfl).trans e, l.mono S⟩
 | .ins _ _, h, ⟨_, _, _, n, e, l⟩ => ⟨_, _, _, n, (h rfl).trans e, l.mono S⟩
 | .fdk _, _, ⟨_, _, e, l⟩ => ⟨_, _, S.imm _ _ e rfl, l.mono S⟩
 | .dn _, h, ⟨_, e, l⟩ => ⟨_, (h rfl).trans e, l.mono S⟩
structure Fm where
 H0 : Hp
 j0 : List Addr
 S0 : Sto
structure En (K : PySem.W.Frag) (F : Fm) (j : List Addr) (H : Hp) (σ : St) (ρ : Rho) (S : Sto) : Prop where
 len : σ.length = ρ.length
 slot : ∀ (i : Nat) x, ρ[i]? = some (some x) → ∃ v, σ[i]? = some (some v) ∧ Xis K j H x v
 jl : j.length = S.length
 inj : ∀ (n m : Nat) a c d, j[n]? = some a → j[m]? = some a → S[n]? = some c → S[m]? = some d → c.fz = false → d.fz = false → n = m
 cel : ∀ (n : Nat) c a, S[n]? = some c → j[n]? = some a → CeIs K j H a c
 ext : Ext F.j0 F.H0 j H
 old : ∀ (n : Nat) c, F.S0[n]? = some c → ∃ c', S[n]? = some c' ∧ (c'.fz = false → c.fz = false) ∧ (c.fz = true → c' = c)
 l0 : F.j0.length = F.S0.length
 keep : ∀ b u, F.H0 b = some u → H b = some u ∨ ∃ (n : Nat) (c : Ce), F.j0[n]? = some b ∧ F.S0[n]? = some c ∧ c.fz = false
 fresh : ∀ (n : Nat) a, F.j0.length ≤ n → j[n]? = some a → F.H0 a = none
 dom : ∀ b, H b = none → F.H0 b = none
section
variable {K : PySem.W.Frag} {F : Fm} {j j' : List Addr} {H H' : Hp} {σ σ' : St} {ρ ρ' : Rho} {S S' : Sto} {v : V} {x : Xv} {a p : Addr} {o : HO} {i n : Nat} {c c' : Ce}
theorem En.heap (E : En K F j H σ ρ S) (Sm : Same H H') : En K F j H' σ ρ S := by
 have X : Ext j H j H' := Ext.same Sm
 refine ⟨E.len, fun i x e => ?_, E.jl, E.inj, fun n c a e1 e2 => ?_, E.ext.trans X, E.old, E.l0, fun b u e => ?_, E.fresh, fun b e => E.dom b ?_⟩
 ·obtain ⟨v, e1, e2⟩ := E.slot i x e
  exact ⟨v, e1, e2.mono X⟩
 ·have h := E.cel n c a e1 e2
  refine h.mono X fun z => ?_
  obtain ⟨o, e, _⟩ := h.mu z
  exact (Sm _ _ e).trans e.symm
 ·rcases E.keep b u e with h | h
  ·exact .inl (Sm _ _ h)
  ·exact .inr h
 ·cases e' : H b with
  | none => rfl
  | some u => rw [Sm b u e'] at e; cases e
theorem En.new (E : En K F j H σ ρ S) (h : H p = none) : En K F j (upd H p o) σ ρ S ∧ Ext j H j (upd H p o) := ⟨E.heap (same_upd h), Ext.same (same_upd h)⟩
theorem En.cell (E : En K F j H σ ρ S) (h : H p = none) (hc : CeIs K (j ++ [p]) (upd H p o) p c) : En K F (j ++ [p]) (upd H p o) σ ρ (S ++ [c]) ∧ Ext j H (j ++ [p]) (upd H p o) := by
 have X : Ext j H (j ++ [p]) (upd H p o) := ⟨fun n a e => by rw [List.getElem?_append_left (List.getElem?_eq_some_iff.1 e).1]; exact e, KeepI.same (same_upd h)⟩
 have jat : ∀ {n : Nat} {a : Addr}, (j ++ [p])[n]? = some a → j[n]? = some a ∨ (n = j.length ∧ a = p) := fun {n a} e => by
  by_cases hn : n < j.length
  ·rw [List.getElem?_append_left hn] at e; exact .inl e
  ·rw [List.getElem?_append_right (by omega)] at e
   cases hm : n - j.length with
   | zero => rw [hm] at e; simp at e; exact .inr ⟨by omega, e.symm⟩
   | succ m => rw [hm] at e; simp at e
 have sat : ∀ {n : Nat} {d : Ce}, (S ++ [c])[n]? = some d → S[n]? = some d ∨ (n = S.length ∧ d = c) := fun {n d} e => by
  by_cases hn : n < S.length
  ·rw [List.getElem?_append_left hn] at e; exact .inl e
  ·rw [List.getElem?_append_right (by omega)] at e
   cases hm : n - S.length with
   | zero => rw [hm] at e; simp at e; exact .inr ⟨by omega, e.symm⟩
   | succ m => rw [hm] at e; simp at e
 have lt : ∀ {n : Nat} {d : Ce}, S[n]? = some d → n < S.length := fun e => (List.getElem?_eq_some_iff.1 e).1
 have mine : ∀ {n : Nat} {a : Addr} {d : Ce}, j[n]? = some a → S[n]? = some d → d.fz = false → a ≠ p := fun {n a d} e1 e2 z q => by
  subst q
  obtain ⟨o', e, _⟩ := (E.cel n d a e2 e1).mu z
  rw [h] at e; cases e
 refine ⟨⟨E.len, fun i x e => ?_, by simp [E.jl], fun n m a c1 c2 e1 e2 e3 e4 z1 z2 => ?_, fun n d a e1 e2 => ?_, E.ext.trans X, fun n d e => ?_, E.l0, fun b u e => ?_, fun n a hn e => ?_, fun b e => ?_⟩, X⟩
 ·obtain ⟨v, e1, e2⟩ := E.slot i x e
  exact ⟨v, e1, e2.mono X⟩
 ·rcases sat e3 with e3 | ⟨e3, _⟩
  ·have h1 : j[n]? = some a := by
    rcases jat e1 with h1 | ⟨h1, _⟩
    ·exact h1
    ·have := lt e3; rw [E.jl] at h1; omega
   rcases sat e4 with e4 | ⟨e4, _⟩
   ·have h2 : j[m]? = some a := by
     rcases jat e2 with h2 | ⟨h2, _⟩
     ·exact h2
     ·have := lt e4; rw [E.jl] at h2; omega
    exact E.inj n m a c1 c2 h1 h2 e3 e4 z1 z2
   ·have : a = p := by
     rcases jat e2 with h2 | ⟨_, h2⟩
     ·have := (List.getElem?_eq_some_iff.1 h2).1; rw [E.jl] at this; omega
     ·exact h2
    exact absurd this (mine h1 e3 z1)
  ·have : a = p := by
    rcases jat e1 with h2 | ⟨_, h2⟩
    ·have := (List.getElem?_eq_some_iff.1 h2).1; rw [E.jl] at this; omega
    ·exact h2
   rcases sat e4 with e4 | ⟨e4, _⟩
   ·have h2 : j[m]? = some a := by
     rcases jat e2 with h2 | ⟨h2, _⟩
     ·exact h2
     ·have := lt e4; rw [E.jl] at h2; omega
    exact absurd this (mine h2 e4 z2)
   ·rw [e3, e4]
 ·rcases sat e1 with e1 | ⟨e1, rfl⟩
  ·have h2 : j[n]? = some a := by
    rcases jat e2 with h2 | ⟨h2, _⟩
    ·exact h2
    ·have := lt e1; rw [E.jl] at h2; omega
   have hh := E.cel n d a e1 h2
   exact hh.mono X fun z => upd_ne (mine h2 e1 z)
  ·have : a = p := by
    rcases jat e2 with h2 | ⟨_, h2⟩
    ·have := (List.getElem?_eq_some_iff.1 h2).1; rw [E.jl] at this; omega
    ·exact h2
   subst this
   exact hc
 ·obtain ⟨d', e1, e2⟩ := E.old n d e
  exact ⟨d', by rw [List.getElem?_append_left (lt e1)]; exact e1, e2⟩
 ·rcases E.keep b u e with h' | h'
  ·exact .inl (same_upd h _ _ h')
  ·exact .inr h'
 ·rcases jat e with e | ⟨_, rfl⟩
  ·exact E.fresh n a hn e
  ·exact E.dom _ h
 ·refine E.dom b ?_
  cases e' : H b with
  | none => rfl
  | some u => rw [same_upd h b u e'] at e; cases e
theorem En.writeF (E : En K F j H σ ρ S) (hs : S[n]? = some c) (z : c.fz = false) (hj : j[n]? = some a) (hc : ∀ X : Ext j H j (upd H a o), CeIs K j (upd H a o) a c') : En K F j (upd H a o) σ ρ (S.set n c') ∧ Ext j H j (upd H a o) := by
 obtain ⟨o0, h0, m0⟩ := (E.cel n c a hs hj).mu z
 have X : Ext j H j (upd H a o) := ⟨fun _ _ e => e, fun b u e m => by
  have : b ≠ a := fun q => by subst q; rw [h0] at e; cases e; rw [m] at m0; cases m0
  rw [upd_ne this]; exact e⟩
 have sat : ∀ {m : Nat} {d : Ce}, (S.set n c')[m]? = some d → (m = n ∧ d = c') ∨ (m ≠ n ∧ S[m]? = some d) := fun {m d} e => by
  rw [List.getElem?_set] at e
  split at e
  ·rename_i q
   split at e
   ·cases e; exact .inl ⟨q.symm, rfl⟩
   ·cases e
  ·rename_i q
   exact .inr ⟨fun r => q r.symm, e⟩
 have fzq : ∀ {m : Nat} {d : Ce}, (S.set n c')[m]? = some d → ∃ d', S[m]? = some d' ∧ (d.fz = false → d'.fz = false) := fun {m d} e => by
  rcases sat e with ⟨rfl, rfl⟩ | ⟨_, e⟩
  ·exact ⟨c, hs, fun _ => z⟩
  ·exact ⟨d, e, fun y => y⟩
 refine ⟨⟨E.len, fun i x e => ?_, by simp [E.jl], fun k m b c1 c2 e1 e2 e3 e4 z1 z2 => ?_, fun m d b e1 e2 => ?_, E.ext.trans X, fun m d e => ?_, E.l0, fun b u e => ?_, E.fresh, fun b e => ?_⟩, X⟩
 ·obtain ⟨v, e1, e2⟩ := E.slot i x e
  exact ⟨v, e1, e2.mono X⟩
 ·obtain ⟨d1, f1, g1⟩ := fzq e3
  obtain ⟨d2, f2, g2⟩ := fzq e4
  exact E.inj k m b d1 d2 e1 e2 f1 f2 (g1 z1) (g2 z2)
 ·rcases sat e1 with ⟨rfl, rfl⟩ | ⟨q, e1⟩
  ·rw [hj] at e2
   cases e2
   exact hc X
  ·refine (E.cel m d b e1 e2).mono X fun zd => upd_ne fun r => ?_
   subst r
   exact q (E.inj m n b d c e2 hj e1 hs zd z)
 ·obtain ⟨d', e1, e2, e3⟩ := E.old m d e
  by_cases q : m = n
  ·subst q
   rw [hs] at e1
   cases e1
   refine ⟨c', by rw [List.getElem?_set, if_pos rfl, if_pos (List.getElem?_eq_some_iff.1 hs).1], fun _ => e2 z, fun y => ?_⟩
   rw [e2 z] at y
   cases y
  ·exact ⟨d', by rw [List.getElem?_set, if_neg (fun r => q r.symm)]; exact e1, e2, e3⟩
 ·by_cases q : b = a
  ·subst q
   by_cases hn : n < F.j0.length
   ·have hj0 : F.j0[n]? = some b := by
     have e1 : F.j0[n]? = some F.j0[n] := List.getElem?_eq_getElem hn
     have e2 := E.ext.pre n _ e1
     rw [hj] at e2
     cases e2
     exact e1
    have hn2 : n < F.S0.length := by rw [← E.l0]; exact hn
    obtain ⟨d', f1, f2, _⟩ := E.old n _ (List.getElem?_eq_getElem hn2)
    rw [hs] at f1
    cases f1
    exact .inr ⟨n, _, hj0, List.getElem?_eq_getElem hn2, f2 z⟩
   ·rw [E.fresh n b (by omega) hj] at e
    cases e
  ·rcases E.keep b u e with h | h
   ·exact .inl (by rw [upd_ne q]; exact h)
   ·exact .inr h
 ·by_cases q : b = a
  ·subst q; rw [upd_same] at e; cases e
  ·rw [upd_ne q] at e; exact E.dom b e
theorem En.write (E : En K F j H σ ρ S) (hs : S[n]? = some c) (z : c.fz = false) (hj : j[n]? = some a) (_ : c'.fz = false) (hc : ∀ X : Ext j H j (upd H a o), CeIs K j (upd H a o) a c') : En K F j (upd H a o) σ ρ (S.set n c') ∧ Ext j H j (upd H a o) := E.writeF hs z hj hc
theorem En.slots (E : En K F j H σ ρ S) (hl : σ'.length = ρ'.length) (h : ∀ (i : Nat) x, ρ'[i]? = some (some x) → ∃ v, σ'[i]? = some (some v) ∧ Xis K j H x v) : En K F j H σ' ρ' S :=
 ⟨hl, h, E.jl, E.inj, E.cel, E.ext, E.old, E.l0, E.keep, E.fresh, E.dom⟩
theorem En.set (E : En K F j H σ ρ S) (h : Xis K j H x v) : En K F j H (σ.set i (some v)) (ρ.set i (some x)) S := E.slots (by simp [E.len]) fun k y e => by
 rw [List.getElem?_set] at e ⊢
 split at e
 ·rename_i q
  subst q
  split at e
  ·rename_i hl
   cases e
   rw [if_pos rfl, if_pos (by rw [E.len]; exact hl)]
   exact ⟨v, rfl, h⟩
  ·cases e
 ·rename_i q
  rw [if_neg q]
  exact E.slot k y e
theorem En.enter (E : En K F j H σ ρ S) (hl : σ'.length = ρ'.length) (h : ∀ (i : Nat) x, ρ'[i]? = some (some x) → ∃ v, σ'[i]? = some (some v) ∧ Xis K j H x v) : En K ⟨H, j, S⟩ j H σ' ρ' S :=
 ⟨hl, h, E.jl, E.inj, E.cel, Ext.refl, fun n c e => ⟨c, e, fun z => z, fun _ => rfl⟩, E.jl, fun b u e => .inl e, fun n a hn e => by have := (List.getElem?_eq_some_iff.1 e).1; dsimp only at hn; omega, fun b e => e⟩
theorem En.leave (E : En K F j H σ ρ S) (X : En K ⟨H, j, S⟩ j' H' σ' ρ' S') : En K F j' H' σ ρ S' ∧ Ext j H j' H' := by
 have e : Ext j H j' H' := X.ext
 refine ⟨⟨E.len, fun i x h => ?_, X.jl, X.inj, X.cel, E.ext.trans e, fun n c h => ?_, E.l0, fun b u h => ?_, fun n a hn h => ?_, fun b h => E.dom b (X.dom b h)⟩, e⟩
 ·obtain ⟨v, e1, e2⟩ := E.slot i x h
  exact ⟨v, e1, e2.mono e⟩
 ·obtain ⟨c1, e1, e2, e3⟩ := E.old n c h
  obtain ⟨c2, f1, f2, f3⟩ := X.old n c1 e1
  refine ⟨c2, f1, fun z => e2 (f2 z), fun z => ?_⟩
  obtain rfl := e3 z
  exact f3 z
 ·rcases E.keep b u h with h1 | h1
  ·rcases X.keep b u h1 with h2 | ⟨n, c, h2, h3, h4⟩
   ·exact .inl h2
   ·by_cases hn : n < F.j0.length
    ·have e1 : F.j0[n]? = some F.j0[n] := List.getElem?_eq_getElem hn
     have e2 := E.ext.pre n _ e1
     have h2' : j[n]? = some b := h2
     rw [h2'] at e2
     cases e2
     have hn2 : n < F.S0.length := by rw [← E.l0]; exact hn
     obtain ⟨c1, f1, f2, _⟩ := E.old n _ (List.getElem?_eq_getElem hn2)
     have h3' : S[n]? = some c := h3
     rw [h3'] at f1
     cases f1
     exact .inr ⟨n, _, e1, List.getElem?_eq_getElem hn2, f2 h4⟩
    ·have := E.fresh n b (by omega) h2
     rw [this] at h; cases h
  ·exact .inr h1
 ·by_cases hm : n < j.length
  ·have e1 : j[n]? = some j[n] := List.getElem?_eq_getElem hm
   have e2 := e.pre n _ e1
   rw [h] at e2
   cases e2
   exact E.fresh n _ hn e1
  ·exact E.dom a (X.fresh n a (by dsimp only; omega) h)
theorem En.grow {k : Nat} (E : En K F j H σ ρ S) : En K F j H (σ ++ List.replicate k none) (ρ ++ List.replicate k none) S := E.slots (by simp [E.len]) fun i x e => by
 by_cases hi : i < ρ.length
 ·rw [List.getElem?_append_left hi] at e
  rw [List.getElem?_append_left (by rw [E.len]; exact hi)]
  exact E.slot i x e
 ·rw [List.getElem?_append_right (by omega), List.getElem?_replicate] at e
  split at e
  ·cases e
  ·cases e
end
end L2
namespace L2
open PySem
inductive Rs (α : Type) where
 | ok (a : α) (S : Sto)
 | ex (c : Str) (S : Sto)
noncomputable abbrev TwE := Rho → Sto → Option (Rs Xv)
noncomputable abbrev TwT := Rho → Sto → Option (Rs Bool)
noncomputable abbrev TwL := Rho → Sto → Option (Rs (List Xv))
noncomputable abbrev TwO := Rho → Sto → Option (Rs (Option Int))
noncomputable abbrev TwG := Xv → Rho → Sto → Option (Rs Rho)
noncomputable abbrev TwGs := List Xv → Rho → Sto → Option (Rs Rho)
noncomputable abbrev TwI := Rho → Sto → Option (Rs (Sto → Option (List Xv)))
inductive Fl where
 | nx (ρ : Rho) (S : Sto)
 | bk (ρ : Rho) (S : Sto)
 | ct (ρ : Rho) (S : Sto)
 | rt (x : Xv) (S : Sto)
 | ex (c : Str) (S : Sto)
noncomputable abbrev TwS := Rho → Sto → Option Fl
noncomputable def rb {α β : Type} (m : Option (Rs α)) (f : α → Sto → Option (Rs β)) : Option (Rs β) := match m with
 | some (.ok a S) => f a S
 | some (.ex c S) => some (.ex c S)
 | none => none
noncomputable def sb {α : Type} (m : Option (Rs α)) (f : α → Sto → Option Fl) : Option Fl := match m with
 | some (.ok a S) => f a S
 | some (.ex c S) => some (.ex c S)
 | none => none
theorem rb_some {α β : Type} {m : Option (Rs α)} {f : α → Sto → Option (Rs β)} {r : Rs β} (h : rb m f = some r) : (∃ a S, m = some (.ok a S) ∧ f a S = some r) ∨ ∃ c S, m = some (.ex c S) ∧ r = .ex c S := by
 unfold rb at h
 split at h
 ·exact .inl ⟨_, _, rfl, h⟩
 ·cases h; exact .inr ⟨_, _, rfl, rfl⟩
 ·cases h
theorem sb_some {α : Type} {m : Option (Rs α)} {f : α → Sto → Option Fl} {r : Fl} (h : sb m f = some r) : (∃ a S, m = some (.ok a S) ∧ f a S = some r) ∨ ∃ c S, m = some (.ex c S) ∧ r = .ex c S := by
 unfold sb at h
 split at h
 ·exact .inl ⟨_, _, rfl, h⟩
 ·cases h; exact .inr ⟨_, _, rfl, rfl⟩
 ·cases h
noncomputable def PX (K : PySem.W.Frag) (F : Fm) (j : List Addr) (H : Hp) (E : XK) (c : Str) (S' : Sto) : Prop :=
 ∀ j' H' σ' ρ' C, Ext j H j' H' → En K F j' H' σ' ρ' S' → PySem.W.nsIn K mainGlobals c = some (some (.ref C)) → E (.ref C) none H'
theorem PX.mono {K : PySem.W.Frag} {F : Fm} {j j1 : List Addr} {H H1 : Hp} {E : XK} {c : Str} {S' : Sto} (h : PX K F j H E c S') (e : Ext j H j1 H1) : PX K F j1 H1 E c S' := fun j' H' σ' ρ' C x y z => h j' H' σ' ρ' C (e.trans x) y z
noncomputable def Po {α : Type} (K : PySem.W.Frag) (F : Fm) (j : List Addr) (H : Hp) (σ : St) (ρ : Rho) (E : XK) (P : α → List Addr → Hp → Prop) : Rs α → Prop
 | .ok a S' => ∀ j' H', Ext j H j' H' → En K F j' H' σ ρ S' → P a j' H'
 | .ex c S' => PX K F j H E c S'
theorem Po.step {α : Type} {K : PySem.W.Frag} {F : Fm} {j j1 : List Addr} {H H1 : Hp} {σ : St} {ρ : Rho} {E : XK} {P : α → List Addr → Hp → Prop} : ∀ {r : Rs α}, Po K F j H σ ρ E P r → Ext j H j1 H1 → Po K F j1 H1 σ ρ E P r
 | .ok a S', h, e => fun j' H' x y => h j' H' (e.trans x) y
 | .ex c S', h, e => PX.mono h e
noncomputable abbrev PoV (K : PySem.W.Frag) (Q : VK) : Xv → List Addr → Hp → Prop := fun x j' H' => ∀ v, Xis K j' H' x v → Q v H'
noncomputable def RE (K : PySem.W.Frag) (E : XK) (t : TE) (m : TwE) : Prop := ∀ {F : Fm} {j : List Addr} {σ : St} {H : Hp} {ρ : Rho} {S : Sto} {r : Rs Xv} {Q : VK}, En K F j H σ ρ S → m ρ S = some r → Po K F j H σ ρ E (PoV K Q) r → t σ H Q
noncomputable def RT (K : PySem.W.Frag) (E : XK) (t : TT) (m : TwT) : Prop := ∀ {F : Fm} {j : List Addr} {σ : St} {H : Hp} {ρ : Rho} {S : Sto} {r : Rs Bool} {Q : Bool → Hp → Prop}, En K F j H σ ρ S → m ρ S = some r → Po K F j H σ ρ E (fun b _ H' => Q b H') r → t σ H Q
noncomputable def RL (K : PySem.W.Frag) (E : XK) (t : TA) (m : TwL) : Prop := ∀ {F : Fm} {j : List Addr} {σ : St} {H : Hp} {ρ : Rho} {S : Sto} {r : Rs (List Xv)} {Q : List V → Hp → Prop}, En K F j H σ ρ S → m ρ S = some r → Po K F j H σ ρ E (fun xs j' H' => ∀ vs, XisL K j' H' xs vs → Q vs H') r → t σ H Q
noncomputable def RO (K : PySem.W.Frag) (E : XK) (t : TO) (m : TwO) : Prop := ∀ {F : Fm} {j : List Addr} {σ : St} {H : Hp} {ρ : Rho} {S : Sto} {r : Rs (Option Int)} {Q : Option Int → Hp → Prop}, En K F j H σ ρ S → m ρ S = some r → Po K F j H σ ρ E (fun o _ H' => Q o H') r → t σ H Q
noncomputable def PoG (K : PySem.W.Frag) (F : Fm) (j : List Addr) (H : Hp) (E : XK) (R : St → Hp → Prop) : Rs Rho → Prop
 | .ok ρ' S' => ∀ σ' j' H', Ext j H j' H' → En K F j' H' σ' ρ' S' → R σ' H'
 | .ex c S' => PX K F j H E c S'
theorem PoG.step {K : PySem.W.Frag} {F : Fm} {j j1 : List Addr} {H H1 : Hp} {E : XK} {R : St → Hp → Prop} : ∀ {r : Rs Rho}, PoG K F j H E R r → Ext j H j1 H1 → PoG K F j1 H1 E R r
 | .ok a S', h, e => fun σ' j' H' x y => h σ' j' H' (e.trans x) y
 | .ex c S', h, e => PX.mono h e
noncomputable def RG (K : PySem.W.Frag) (E : XK) (t : TG) (g : TwG) : Prop := ∀ {F : Fm} {j : List Addr} {σ : St} {H : Hp} {ρ : Rho} {S : Sto} {r : Rs Rho} {x : Xv} {v : V} {R : St → Hp → Prop}, En K F j H σ ρ S → Xis K j H x v → g x ρ S = some r → PoG K F j H E R r → t v σ H R
noncomputable def RGs (K : PySem.W.Frag) (E : XK) (t : TGs) (g : TwGs) : Prop := ∀ {F : Fm} {j : List Addr} {σ : St} {H : Hp} {ρ : Rho} {S : Sto} {r : Rs Rho} {xs : List Xv} {vs : List V} {R : St → Hp → Prop}, En K F j H σ ρ S → XisL K j H xs vs → g xs ρ S = some r → PoG K F j H E R r → t vs σ H R
noncomputable def Post (K : PySem.W.Frag) (F : Fm) (j : List Addr) (H : Hp) (E : XK) (D' : Ends) : Fl → Prop
 | .nx ρ S => ∀ σ j' H', Ext j H j' H' → En K F j' H' σ ρ S → D'.nx σ H'
 | .bk ρ S => ∀ σ j' H', Ext j H j' H' → En K F j' H' σ ρ S → D'.bk σ H'
 | .ct ρ S => ∀ σ j' H', Ext j H j' H' → En K F j' H' σ ρ S → D'.ct σ H'
 | .rt x S => ∀ v σ ρ j' H', Ext j H j' H' → En K F j' H' σ ρ S → Xis K j' H' x v → D'.rt v H'
 | .ex c S => PX K F j H E c S
theorem Post.step {K : PySem.W.Frag} {F : Fm} {j j1 : List Addr} {H H1 : Hp} {E : XK} {D' : Ends} : ∀ {fl : Fl}, Post K F j H E D' fl → Ext j H j1 H1 → Post K F j1 H1 E D' fl
 | .nx _ _, h, e => fun σ j' H' x y => h σ j' H' (e.trans x) y
 | .bk _ _, h, e => fun σ j' H' x y => h σ j' H' (e.trans x) y
 | .ct _ _, h, e => fun σ j' H' x y => h σ j' H' (e.trans x) y
 | .rt _ _, h, e => fun v σ ρ j' H' x y z => h v σ ρ j' H' (e.trans x) y z
 | .ex _ _, h, e => PX.mono h e
noncomputable def RS (K : PySem.W.Frag) (E : XK) (t : TS) (m : TwS) : Prop := ∀ {F : Fm} {j : List Addr} {D' : Ends} {σ : St} {H : Hp} {ρ : Rho} {S : Sto} {fl : Fl}, En K F j H σ ρ S → m ρ S = some fl → Post K F j H E D' fl → t D' σ H
noncomputable def ItOk (K : PySem.W.Frag) (j : List Addr) (H : Hp) (J : It) (get : Sto → Option (List Xv)) : Prop := ∀ {F : Fm} {j' : List Addr} {H' : Hp} {σ : St} {ρ : Rho} {S : Sto} {xs : List Xv} (i : Nat), Ext j H j' H' → En K F j' H' σ ρ S → get S = some xs →
 (∀ x, xs[i]? = some x → J.go i H' ∧ ∀ v H'', J.yld i H' v H'' → Same H' H'' ∧ Xis K j' H'' x v) ∧ (i = xs.length → J.stop i H')
noncomputable def RI (K : PySem.W.Frag) (E : XK) (t : TI) (m : TwI) : Prop := ∀ {F : Fm} {j : List Addr} {σ : St} {H : Hp} {ρ : Rho} {S : Sto} {r : Rs (Sto → Option (List Xv))} {R : It → Hp → Prop}, En K F j H σ ρ S → m ρ S = some r → Po K F j H σ ρ E (fun get j' H' => ∀ J, ItOk K j' H' J get → R J H') r → t σ H R
noncomputable abbrev Op2 := Xv → Xv → Sto → Option (Xv × Sto)
noncomputable abbrev Opn := List Xv → Sto → Option (Xv × Sto)
noncomputable def R2Ok (K : PySem.W.Frag) (r : R2) (f : Op2) : Prop := ∀ {F : Fm} {j : List Addr} {σ : St} {H : Hp} {ρ : Rho} {S S' : Sto} {x y z : Xv} {u v : V} {Q : VK}, En K F j H σ ρ S → Xis K j H x u → Xis K j H y v → f x y S = some (z, S') → (∀ w j' H', Ext j H j' H' → En K F j' H' σ ρ S' → Xis K j' H' z w → Q w H') → r u v H Q
noncomputable def R1Ok (K : PySem.W.Frag) (r : V → Hp → VK → Prop) (f : Xv → Sto → Option (Xv × Sto)) : Prop := ∀ {F : Fm} {j : List Addr} {σ : St} {H : Hp} {ρ : Rho} {S S' : Sto} {x z : Xv} {u : V} {Q : VK}, En K F j H σ ρ S → Xis K j H x u → f x S = some (z, S') → (∀ w j' H', Ext j H j' H' → En K F j' H' σ ρ S' → Xis K j' H' z w → Q w H') → r u H Q
noncomputable def RcOk (K : PySem.W.Frag) (r : List V → Hp → VK → Prop) (f : Opn) : Prop := ∀ {F : Fm} {j : List Addr} {σ : St} {H : Hp} {ρ : Rho} {S S' : Sto} {xs : List Xv} {z : Xv} {vs : List V} {Q : VK}, En K F j H σ ρ S → XisL K j H xs vs → f xs S = some (z, S') → (∀ w j' H', Ext j H j' H' → En K F j' H' σ ρ S' → Xis K j' H' z w → Q w H') → r vs H Q
noncomputable def eVar (i : Nat) : TwE := fun ρ S => match ρ[i]? with
 | some (some x) => some (.ok x S)
 | _ => none
noncomputable def eC (x : Xv) : TwE := fun _ S => some (.ok x S)
noncomputable def okP (o : Option (Xv × Sto)) : Option (Rs Xv) := o.map fun p => .ok p.1 p.2
theorem okP_some {o : Option (Xv × Sto)} {r : Rs Xv} (h : okP o = some r) : ∃ z S, o = some (z, S) ∧ r = .ok z S := by
 cases o with
 | none => cases h
 | some p => cases h; exact ⟨_, _, rfl, rfl⟩
noncomputable def eOp (f : Op2) (a b : TwE) : TwE := fun ρ S => rb (a ρ S) fun x S1 => rb (b ρ S1) fun y S2 => okP (f x y S2)
noncomputable def eUn (f : Xv → Sto → Option (Xv × Sto)) (a : TwE) : TwE := fun ρ S => rb (a ρ S) fun x S1 => okP (f x S1)
noncomputable def bE (m : TwE) : TwT := fun ρ S => rb (m ρ S) fun x S1 => match x with
 | .bl b => some (.ok b S1)
 | _ => none
noncomputable def bAnd (a b : TwT) : TwT := fun ρ S => rb (a ρ S) fun x S1 => if x then b ρ S1 else some (.ok false S1)
noncomputable def bOr (a b : TwT) : TwT := fun ρ S => rb (a ρ S) fun x S1 => if x then some (.ok true S1) else b ρ S1
noncomputable def bNot (a : TwT) : TwT := fun ρ S => rb (a ρ S) fun x S1 => some (.ok (!x) S1)
noncomputable def eAnd (a b : TwE) : TwE := fun ρ S => rb (bE a ρ S) fun x S1 => if x then b ρ S1 else some (.ok (.bl false) S1)
noncomputable def evL : List TwE → TwL
 | [] => fun _ S => some (.ok [] S)
 | m :: r => fun ρ S => rb (m ρ S) fun x S1 => rb (evL r ρ S1) fun xs S2 => some (.ok (x :: xs) S2)
noncomputable def eTup (ms : List TwE) : TwE := fun ρ S => rb (evL ms ρ S) fun xs S1 => some (.ok (.tup xs) S1)
noncomputable def eLst (ms : List TwE) : TwE := fun ρ S => rb (evL ms ρ S) fun xs S1 => some (.ok (.ref S1.length) (S1 ++ [.lst xs]))
noncomputable def eFn (f : Opn) (ms : List TwE) : TwE := fun ρ S => rb (evL ms ρ S) fun xs S1 => okP (f xs S1)
section
variable {K : PySem.W.Frag} {E : XK} {F : Fm} {j : List Addr} {H : Hp} {σ : St} {ρ : Rho} {S : Sto}
theorem Po.val {Q : VK} {x : Xv} {v : V} (k : Po K F j H σ ρ E (PoV K Q) (.ok x S)) (En0 : En K F j H σ ρ S) (h : Xis K j H x v) : Q v H := k j H Ext.refl En0 v h
theorem re_var (i : Nat) : RE K E (tVar i) (eVar i) := by
 intro F j σ H ρ S r Q En0 e k
 unfold eVar at e
 split at e
 ·rename_i x ex
  cases e
  obtain ⟨v, e1, e2⟩ := En0.slot i _ ex
  exact ⟨v, e1, k.val En0 e2⟩
 ·cases e
theorem re_c {v : V} {x : Xv} (h : ∀ j H, Xis K j H x v) : RE K E (tC v) (eC x) := fun En0 e k => by
 cases e
 exact k.val En0 (h _ _)
theorem re_int (i : Int) : RE K E (tC (.int i)) (eC (.int i)) := re_c fun _ _ => .int i
theorem re_bl (b : Bool) : RE K E (tC (.bl b)) (eC (.bl b)) := re_c fun _ _ => .bl b
theorem re_op {r : R2} {f : Op2} {ta tb : TE} {a b : TwE} (ho : R2Ok K r f) (ha : RE K E ta a) (hb : RE K E tb b) : RE K E (tOp r ta tb) (eOp f a b) := by
 intro F j σ H ρ S r Q En0 e k
 rcases rb_some e with ⟨x, S1, e1, e⟩ | ⟨c, S1, e1, rfl⟩
 ·refine ha En0 e1 fun j1 H1 X1 E1 u hu => ?_
  rcases rb_some e with ⟨y, S2, e2, e⟩ | ⟨c, S2, e2, rfl⟩
  ·obtain ⟨z, S3, e3, rfl⟩ := okP_some e
   exact hb E1 e2 fun j2 H2 X2 E2 v hv => ho E2 (hu.mono X2) hv e3 fun w j3 H3 X3 E3 hw => k _ _ (X1.trans (X2.trans X3)) E3 _ hw
  ·exact hb E1 e2 (PX.mono k X1)
 ·exact ha En0 e1 k
theorem re_un {r : V → Hp → VK → Prop} {f : Xv → Sto → Option (Xv × Sto)} {ta : TE} {a : TwE} (ho : R1Ok K r f) (ha : RE K E ta a) : RE K E (tUn r ta) (eUn f a) := by
 intro F j σ H ρ S r Q En0 e k
 rcases rb_some e with ⟨x, S1, e1, e⟩ | ⟨c, S1, e1, rfl⟩
 ·obtain ⟨z, S3, e3, rfl⟩ := okP_some e
  exact ha En0 e1 fun j1 H1 X1 E1 u hu => ho E1 hu e3 fun w j3 H3 X3 E3 hw => k _ _ (X1.trans X3) E3 _ hw
 ·exact ha En0 e1 k
theorem rt_e {t : TE} {m : TwE} (h : RE K E t m) : RT K E (tB t) (bE m) := by
 intro F j σ H ρ S r Q En0 e k
 rcases rb_some e with ⟨x, S1, e1, e⟩ | ⟨c, S1, e1, rfl⟩
 ·split at e
  ·cases e
   exact h En0 e1 fun j1 H1 X1 E1 u hu => ⟨_, hu.bl_inv, k _ _ X1 E1⟩
  ·cases e
 ·exact h En0 e1 k
theorem rt_test {t : TE} {m : TwE} (h : RE K E t m) : RT K E (tTest t) (bE m) := rt_e h
theorem rt_and {t u : TT} {a b : TwT} (ha : RT K E t a) (hb : RT K E u b) : RT K E (tAnd t u) (bAnd a b) := by
 intro F j σ H ρ S r Q En0 e k
 rcases rb_some e with ⟨x, S1, e1, e⟩ | ⟨c, S1, e1, rfl⟩
 ·refine ha En0 e1 fun j1 H1 X1 E1 => ?_
  cases x with
  | true => exact hb E1 e (k.step X1)
  | false => cases e; exact k _ _ X1 E1
 ·exact ha En0 e1 k
theorem rt_or {t u : TT} {a b : TwT} (ha : RT K E t a) (hb : RT K E u b) : RT K E (tOr t u) (bOr a b) := by
 intro F j σ H ρ S r Q En0 e k
 rcases rb_some e with ⟨x, S1, e1, e⟩ | ⟨c, S1, e1, rfl⟩
 ·refine ha En0 e1 fun j1 H1 X1 E1 => ?_
  cases x with
  | true => cases e; exact k _ _ X1 E1
  | false => exact hb E1 e (k.step X1)
 ·exact ha En0 e1 k
theorem rt_not {t : TT} {a : TwT} (ha : RT K E t a) : RT K E (tNot t) (bNot a) := by
 intro F j σ H ρ S r Q En0 e k
 rcases rb_some e with ⟨x, S1, e1, e⟩ | ⟨c, S1, e1, rfl⟩
 ·cases e
  exact ha En0 e1 fun j1 H1 X1 E1 => k _ _ X1 E1
 ·exact ha En0 e1 k
theorem re_and {ta tb : TE} {a b : TwE} (ha : RE K E ta a) (hb : RE K E tb b) : RE K E (tAndV ta tb) (eAnd a b) := by
 intro F j σ H ρ S r Q En0 e k
 rcases rb_some e with ⟨x, S1, e1, e⟩ | ⟨c, S1, e1, rfl⟩
 ·rcases rb_some e1 with ⟨y, S2, e2, e1⟩ | ⟨c, S2, e2, z⟩
  ·split at e1
   ·cases e1
    refine ha En0 e2 fun j1 H1 X1 E1 u hu => ⟨_, hu.bl_inv, ?_⟩
    cases x with
    | true => exact hb E1 e (k.step X1)
    | false => cases e; exact k _ _ X1 E1 _ (.bl false)
   ·cases e1
  ·cases z
 ·rcases rb_some e1 with ⟨y, S2, e2, e1⟩ | ⟨c, S2, e2, z⟩
  ·split at e1 <;> cases e1
  ·cases z; exact ha En0 e2 k
theorem rl_nil : RL K E tNil (evL []) := fun En0 e k => by
 cases e
 exact k _ _ Ext.refl En0 [] .nil
theorem rl_cons {ta : TE} {tr : TA} {m : TwE} {ms : List TwE} (ha : RE K E ta m) (hr : RL K E tr (evL ms)) : RL K E (tCons ta tr) (evL (m :: ms)) := by
 intro F j σ H ρ S r Q En0 e k
 rcases rb_some e with ⟨x, S1, e1, e⟩ | ⟨c, S1, e1, rfl⟩
 ·refine ha En0 e1 fun j1 H1 X1 E1 u hu => ?_
  rcases rb_some e with ⟨xs, S2, e2, e⟩ | ⟨c, S2, e2, rfl⟩
  ·cases e
   exact hr E1 e2 fun j2 H2 X2 E2 vs hv => k _ _ (X1.trans X2) E2 (u :: vs) (.cons (hu.mono X2) hv)
  ·exact hr E1 e2 (PX.mono k X1)
 ·exact ha En0 e1 k
theorem evL_len : ∀ {ms : List TwE} {ρ : Rho} {S S' : Sto} {xs : List Xv}, evL ms ρ S = some (.ok xs S') → xs.length = ms.length
 | [], _, _, _, _, h => by cases h; rfl
 | m :: ms, ρ, S, S', xs, h => by
  rcases rb_some h with ⟨x, S1, e1, h⟩ | ⟨c, S1, e1, z⟩
  ·rcases rb_some h with ⟨ys, S2, e2, h⟩ | ⟨c, S2, e2, z⟩
   ·cases h
    simp [evL_len e2]
   ·cases z
  ·cases z
theorem re_tup {t : TA} {ms : List TwE} (h : RL K E t (evL ms)) (hl : ms.length ≤ 1000 := by simp) : RE K E (tTup t) (eTup ms) := by
 intro F j σ H ρ S r Q En0 e k
 rcases rb_some e with ⟨xs, S1, e1, e⟩ | ⟨c, S1, e1, rfl⟩
 ·cases e
  refine h En0 e1 fun j1 H1 X1 E1 vs hv => ⟨?_, fun p hp => ?_⟩
  ·rw [hv.len, evL_len e1]
   exact Nat.le_trans hl (by decide)
  ·obtain ⟨E2, X2⟩ := E1.new (o := .tup vs) hp
   exact k _ _ (X1.trans X2) E2 _ (.tup upd_same (hv.mono X2))
 ·exact h En0 e1 k
theorem En.lst {xs : List Xv} {vs : List V} {p : Addr} (En0 : En K F j H σ ρ S) (hv : XisL K j H xs vs) (hp : H p = none) : En K F (j ++ [p]) (upd H p (.lst vs)) σ ρ (S ++ [.lst xs]) ∧ Ext j H (j ++ [p]) (upd H p (.lst vs)) ∧ Xis K (j ++ [p]) (upd H p (.lst vs)) (.ref S.length) (.ref p) := by
 have X : Ext j H (j ++ [p]) (upd H p (.lst vs)) := ⟨fun n a e => by rw [List.getElem?_append_left (List.getElem?_eq_some_iff.1 e).1]; exact e, KeepI.same (same_upd hp)⟩
 obtain ⟨E1, _⟩ := En0.cell (o := .lst vs) (c := .lst xs) hp ⟨vs, upd_same, hv.mono X⟩
 exact ⟨E1, X, .ref (by rw [← En0.jl]; simp)⟩
theorem re_lst {t : TA} {ms : List TwE} (h : RL K E t (evL ms)) (hl : ms.length ≤ 1000 := by simp) : RE K E (tLst t) (eLst ms) := by
 intro F j σ H ρ S r Q En0 e k
 rcases rb_some e with ⟨xs, S1, e1, e⟩ | ⟨c, S1, e1, rfl⟩
 ·cases e
  refine h En0 e1 fun j1 H1 X1 E1 vs hv => ⟨?_, fun p hp => ?_⟩
  ·rw [hv.len, evL_len e1]
   exact Nat.le_trans hl (by decide)
  ·obtain ⟨E2, X2, h2⟩ := E1.lst hv hp
   exact k _ _ (X1.trans X2) E2 _ h2
 ·exact h En0 e1 k
theorem re_fn {t : TA} {ms : List TwE} {r : List V → Hp → VK → Prop} {f : Opn} (hr : RcOk K r f) (h : RL K E t (evL ms)) : RE K E (tCB r t) (eFn f ms) := by
 intro F j σ H ρ S r Q En0 e k
 rcases rb_some e with ⟨xs, S1, e1, e⟩ | ⟨c, S1, e1, rfl⟩
 ·obtain ⟨z, S3, e3, rfl⟩ := okP_some e
  exact h En0 e1 fun j1 H1 X1 E1 vs hv => hr E1 hv e3 fun w j3 H3 X3 E3 hw => k _ _ (X1.trans X3) E3 _ hw
 ·exact h En0 e1 k
end
end L2
namespace L2
open PySem
noncomputable def lstAt (S : Sto) : Xv → Option (List Xv)
 | .ref n => match S[n]? with
  | some (.lst xs) => some xs
  | some (.frz xs) => some xs
  | _ => none
 | _ => none
noncomputable def seqAt (S : Sto) (x : Xv) : Option (List Xv) := match x.tupOf with
 | some xs => some xs
 | none => lstAt S x
noncomputable def wlAt (S : Sto) : Xv → Option (Nat × List Xv)
 | .ref n => match S[n]? with
  | some (.lst xs) => some (n, xs)
  | _ => none
 | _ => none
section
variable {K : PySem.W.Frag} {E : XK} {F : Fm} {j : List Addr} {H : Hp} {σ : St} {ρ : Rho} {S : Sto} {x : Xv} {v : V}
theorem En.lstAt {xs : List Xv} (E0 : En K F j H σ ρ S) (hx : Xis K j H x v) (h : L2.lstAt S x = some xs) : ∃ a vs, v = .ref a ∧ SqX K H a vs ∧ XisL K j H xs vs := by
 cases x <;> simp only [L2.lstAt, reduceCtorEq] at h
 obtain ⟨a, rfl, hj⟩ := hx.ref_inv
 split at h
 ·cases h
  obtain ⟨vs, e1, e2⟩ := E0.cel _ _ _ (by assumption) hj
  exact ⟨a, vs, rfl, SqX.of e1, e2⟩
 ·cases h
  obtain ⟨vs, e1, e2⟩ := E0.cel _ _ _ (by assumption) hj
  refine ⟨a, vs, rfl, ?_, e2⟩
  rcases e1 with ⟨o, e1⟩ | e1
  ·exact .inl (.inr ⟨o, e1⟩)
  ·exact e1 H
 ·cases h
theorem En.seqAt {xs : List Xv} (E0 : En K F j H σ ρ S) (hx : Xis K j H x v) (h : L2.seqAt S x = some xs) : ∃ a vs, v = .ref a ∧ (SqX K H a vs ∨ SqT K H a vs) ∧ XisL K j H xs vs := by
 unfold L2.seqAt at h
 split at h
 ·cases h
  obtain ⟨a, vs, e1, e2, e3⟩ := hx.tupO (by assumption)
  exact ⟨a, vs, e1, .inr e2, e3⟩
 ·obtain ⟨a, vs, e1, e2, e3⟩ := E0.lstAt hx h
  exact ⟨a, vs, e1, .inl e2, e3⟩
theorem wlAt_some {n : Nat} {xs : List Xv} (h : wlAt S x = some (n, xs)) : x = .ref n ∧ S[n]? = some (.lst xs) := by
 cases x <;> simp only [wlAt, reduceCtorEq] at h
 split at h
 ·cases h; exact ⟨rfl, by assumption⟩
 ·cases h
theorem En.wl {n : Nat} {xs : List Xv} (E0 : En K F j H σ ρ S) (hx : Xis K j H x v) (h : wlAt S x = some (n, xs)) : ∃ a vs, v = .ref a ∧ j[n]? = some a ∧ H a = some (.lst vs) ∧ XisL K j H xs vs := by
 obtain ⟨rfl, hs⟩ := wlAt_some h
 obtain ⟨a, rfl, hj⟩ := hx.ref_inv
 obtain ⟨vs, e1, e2⟩ := E0.cel _ _ _ hs hj
 exact ⟨a, vs, rfl, hj, e1, e2⟩
theorem En.wr {n : Nat} {xs ys : List Xv} {ws : List V} {a : Addr} (E0 : En K F j H σ ρ S) (h : wlAt S x = some (n, xs)) (hj : j[n]? = some a) (hw : XisL K j H ys ws) : En K F j (upd H a (.lst ws)) σ ρ (S.set n (.lst ys)) ∧ Ext j H j (upd H a (.lst ws)) :=
 E0.write (wlAt_some h).2 rfl hj rfl fun X => ⟨ws, upd_same, hw.mono X⟩
theorem tyL {a : Addr} {vs : List V} (h : SqL K H a vs) : tyV K "list" (.ref a) H := .inl ⟨rfl, vs, h⟩
noncomputable def dIxT : Op2 := fun x y S => match x.tupOf, y with
 | some xs, .int i => (atI xs i).map fun z => (z, S)
 | _, _ => none
noncomputable def dIxL : Op2 := fun x y S => match lstAt S x, y with
 | some xs, .int i => (atI xs i).map fun z => (z, S)
 | _, _ => none
theorem r2_ixT : R2Ok K (rIxT K) dIxT := by
 intro F j σ H ρ S S' x y z u v Q E0 hx hy h k
 unfold dIxT at h
 split at h
 ·rename_i xs i ex
  cases e : atI xs i with
  | none => rw [e] at h; cases h
  | some z' =>
   rw [e] at h
   cases h
   obtain ⟨a, vs, rfl, h1, h2⟩ := hx.tupO ex
   obtain ⟨w, e1, e2⟩ := h2.at_ e
   exact ⟨a, vs, _, w, rfl, hy.int_inv, h1, e1, k _ _ _ Ext.refl E0 e2⟩
 ·cases h
theorem r2_ixL : R2Ok K (rIxL K) dIxL := by
 intro F j σ H ρ S S' x y z u v Q E0 hx hy h k
 unfold dIxL at h
 split at h
 ·rename_i xs i ex
  cases e : atI xs i with
  | none => rw [e] at h; cases h
  | some z' =>
   rw [e] at h
   cases h
   obtain ⟨a, vs, rfl, h1, h2⟩ := E0.lstAt hx ex
   obtain ⟨w, e1, e2⟩ := h2.at_ e
   exact ⟨a, vs, _, w, rfl, hy.int_inv, h1.sql, e1, k _ _ _ Ext.refl E0 e2⟩
 ·cases h
noncomputable def oNo : TwO := fun _ S => some (.ok none S)
noncomputable def oSome (m : TwE) : TwO := fun ρ S => rb (m ρ S) fun x S1 => match x with
 | .int i => some (.ok (some i) S1)
 | _ => none
theorem ro_no : RO K E tNoPart oNo := fun E0 e k => by
 cases e
 exact k _ _ Ext.refl E0
theorem ro_some {t : TE} {m : TwE} (h : RE K E t m) : RO K E (tPart t) (oSome m) := by
 intro F j σ H ρ S r Q En0 e k
 rcases rb_some e with ⟨x, S1, e1, e⟩ | ⟨c, S1, e1, rfl⟩
 ·split at e
  ·cases e
   exact h En0 e1 fun j1 H1 X1 E1 u hu => ⟨_, hu.int_inv, k _ _ X1 E1⟩
  ·cases e
 ·exact h En0 e1 k
noncomputable def cutD {α : Type} (xs : List α) (lo hi : Option Int) : List α := (xs.drop (HT.sIx xs.length 0 lo)).take (HT.sIx xs.length xs.length hi - HT.sIx xs.length 0 lo)
theorem XisL.cut {xs : List Xv} {vs : List V} (h : XisL K j H xs vs) (lo hi : Option Int) : XisL K j H (cutD xs lo hi) (cutV vs lo hi) := by
 unfold cutV cutD
 rw [h.len]
 exact (h.drop _).take _
noncomputable def eSl (f : Xv → Option Int → Option Int → Sto → Option (Xv × Sto)) (m : TwE) (lo hi : TwO) : TwE := fun ρ S => rb (m ρ S) fun x S1 => rb (lo ρ S1) fun y S2 => rb (hi ρ S2) fun z S3 => okP (f x y z S3)
noncomputable def RslOk (K : PySem.W.Frag) (r : V → Option Int → Option Int → Hp → VK → Prop) (f : Xv → Option Int → Option Int → Sto → Option (Xv × Sto)) : Prop := ∀ {F : Fm} {j : List Addr} {σ : St} {H : Hp} {ρ : Rho} {S S' : Sto} {x z : Xv} {lo hi : Option Int} {u : V} {Q : VK}, En K F j H σ ρ S → Xis K j H x u → f x lo hi S = some (z, S') → (∀ w j' H', Ext j H j' H' → En K F j' H' σ ρ S' → Xis K j' H' z w → Q w H') → r u lo hi H Q
theorem re_sl {r : V → Option Int → Option Int → Hp → VK → Prop} {f : Xv → Option Int → Option Int → Sto → Option (Xv × Sto)} {te : TE} {tl th : TO} {m : TwE} {lo hi : TwO} (ho : RslOk K r f) (hm : RE K E te m) (hl : RO K E tl lo) (hh : RO K E th hi) : RE K E (tSl r te tl th) (eSl f m lo hi) := by
 intro F j σ H ρ S r Q En0 e k
 rcases rb_some e with ⟨x, S1, e1, e⟩ | ⟨c, S1, e1, rfl⟩
 ·refine hm En0 e1 fun j1 H1 X1 E1 u hu => ?_
  rcases rb_some e with ⟨y, S2, e2, e⟩ | ⟨c, S2, e2, rfl⟩
  ·refine hl E1 e2 fun j2 H2 X2 E2 => ?_
   rcases rb_some e with ⟨z, S3, e3, e⟩ | ⟨c, S3, e3, rfl⟩
   ·obtain ⟨w, S4, e4, rfl⟩ := okP_some e
    exact hh E2 e3 fun j3 H3 X3 E3 => ho E3 (hu.mono (X2.trans X3)) e4 fun w j4 H4 X4 E4 hw => k _ _ (X1.trans (X2.trans (X3.trans X4))) E4 _ hw
   ·exact hh E2 e3 (PX.mono k (X1.trans X2))
  ·exact hl E1 e2 (PX.mono k X1)
 ·exact hm En0 e1 k
noncomputable def dSlL : Xv → Option Int → Option Int → Sto → Option (Xv × Sto) := fun x lo hi S => (lstAt S x).map fun xs => (.ref S.length, S ++ [.lst (cutD xs lo hi)])
theorem rsl_L : RslOk K (rSlL K) dSlL := by
 intro F j σ H ρ S S' x z lo hi u Q E0 hx h k
 unfold dSlL at h
 cases e : lstAt S x with
 | none => rw [e] at h; cases h
 | some xs =>
  rw [e] at h
  cases h
  obtain ⟨a, vs, rfl, h1, h2⟩ := E0.lstAt hx e
  refine ⟨a, vs, rfl, h1.sql, fun p hp => ?_⟩
  obtain ⟨E1, X1, h3⟩ := E0.lst (h2.cut lo hi) hp
  exact k _ _ _ X1 E1 h3
noncomputable def dSlT : Xv → Option Int → Option Int → Sto → Option (Xv × Sto) := fun x lo hi S => match x with
 | .tup xs => some (.tup (cutD xs lo hi), S)
 | _ => none
theorem cut_whole {α : Type} {xs : List α} {lo hi : Option Int} (h : HT.sIx xs.length 0 lo = 0 ∧ HT.sIx xs.length xs.length hi = xs.length) : cutD xs lo hi = xs := by
 unfold cutD
 rw [h.1, h.2]
 simp
theorem rsl_T : RslOk K (rSlA K) dSlT := by
 intro F j σ H ρ S S' x z lo hi u Q E0 hx h k
 unfold dSlT at h
 split at h
 ·rename_i xs
  cases h
  obtain ⟨a, vs, rfl, h1, h2⟩ := hx.tup_inv
  refine ⟨a, vs, rfl, SqT.of h1, fun hw => k _ _ _ Ext.refl E0 ?_, fun _ p hp => ?_⟩
  ·rw [h2.len] at hw
   rw [cut_whole hw]
   exact hx
  ·obtain ⟨E1, X1⟩ := E0.new (o := .tup (cutV vs lo hi)) hp
   exact k _ _ _ X1 E1 (.tup upd_same ((h2.cut lo hi).mono X1))
 ·cases h
theorem re_slL {te : TE} {tl th : TO} {m : TwE} {lo hi : TwO} (hm : RE K E te m) (hl : RO K E tl lo) (hh : RO K E th hi) : RE K E (tSl (rSlL K) te tl th) (eSl dSlL m lo hi) := @re_sl K E (rSlL K) dSlL te tl th m lo hi (@rsl_L K) hm hl hh
theorem re_slT {te : TE} {tl th : TO} {m : TwE} {lo hi : TwO} (hm : RE K E te m) (hl : RO K E tl lo) (hh : RO K E th hi) : RE K E (tSl (rSlA K) te tl th) (eSl dSlT m lo hi) := @re_sl K E (rSlA K) dSlT te tl th m lo hi (@rsl_T K) hm hl hh
noncomputable abbrev OpM := Xv → List Xv → Sto → Option (Xv × Sto)
noncomputable def RmOk (K : PySem.W.Frag) (r : V → List V → Hp → VK → Prop) (f : OpM) : Prop := ∀ {F : Fm} {j : List Addr} {σ : St} {H : Hp} {ρ : Rho} {S S' : Sto} {x z : Xv} {ys : List Xv} {u : V} {vs : List V} {Q : VK}, En K F j H σ ρ S → Xis K j H x u → XisL K j H ys vs → f x ys S = some (z, S') → (∀ w j' H', Ext j H j' H' → En K F j' H' σ ρ S' → Xis K j' H' z w → Q w H') → r u vs H Q
noncomputable def eMt (f : OpM) (o : TwE) (ms : List TwE) : TwE := fun ρ S => rb (o ρ S) fun x S1 => (lstAt S1 x).bind fun _ => rb (evL ms ρ S1) fun ys S2 => okP (f x ys S2)
theorem re_mt {r : V → List V → Hp → VK → Prop} {f : OpM} {to : TE} {t : TA} {o : TwE} {ms : List TwE} (hr : RmOk K r f) (ho : RE K E to o) (ht : RL K E t (evL ms)) : RE K E (tBM K "list" r to t) (eMt f o ms) := by
 intro F j σ H ρ S r Q En0 e k
 rcases rb_some e with ⟨x, S1, e1, e⟩ | ⟨c, S1, e1, rfl⟩
 ·refine ho En0 e1 fun j1 H1 X1 E1 u hu => ?_
  cases el : L2.lstAt S1 x with
  | none => rw [el] at e; cases e
  | some l =>
   rw [el] at e
   obtain ⟨a, vs, rfl, h1, _⟩ := E1.lstAt hu el
   refine ⟨tyL h1.sql, ?_⟩
   rcases rb_some e with ⟨ys, S2, e2, e⟩ | ⟨c, S2, e2, rfl⟩
   ·obtain ⟨z, S3, e3, rfl⟩ := okP_some e
    exact ht E1 e2 fun j2 H2 X2 E2 ws hw => hr E2 (hu.mono X2) hw e3 fun w j3 H3 X3 E3 hz => k _ _ (X1.trans (X2.trans X3)) E3 _ hz
   ·exact ht E1 e2 (PX.mono k X1)
 ·exact ho En0 e1 k
theorem re_mt0 {r : V → List V → Hp → VK → Prop} {f : OpM} {to : TE} {o : TwE} (hr : RmOk K r f) (ho : RE K E to o) : RE K E (tBM0 K "list" r to) (eMt f o []) := by
 intro F j σ H ρ S r Q En0 e k
 exact re_mt hr ho rl_nil En0 e k
noncomputable def mAppend : OpM := fun x ys S => match wlAt S x, ys with
 | some (n, xs), [y] => if xs.length < sizeLine then some (.non, S.set n (.lst (xs ++ [y]))) else none
 | _, _ => none
theorem rm_append : RmOk K rAppend mAppend := by
 intro F j σ H ρ S S' x z ys u vs Q E0 hx hy h k
 unfold mAppend at h
 split at h
 ·rename_i n xs y e
  split at h
  ·rename_i hl
   cases h
   obtain ⟨a, ws, rfl, hj, h1, h2⟩ := E0.wl hx e
   obtain ⟨w, rfl, hw⟩ := hy.d1
   obtain ⟨E1, X1⟩ := E0.wr e hj (h2.append (.one hw))
   exact ⟨a, ws, w, rfl, rfl, h1, by rw [h2.len]; exact hl, k _ _ _ X1 E1 .non⟩
  ·cases h
 ·cases h
noncomputable def mReverse : OpM := fun x ys S => match wlAt S x, ys with
 | some (n, xs), [] => some (.non, S.set n (.lst xs.reverse))
 | _, _ => none
theorem rm_reverse : RmOk K rReverse mReverse := by
 intro F j σ H ρ S S' x z ys u vs Q E0 hx hy h k
 unfold mReverse at h
 split at h
 ·rename_i n xs e
  cases h
  obtain ⟨a, ws, rfl, hj, h1, h2⟩ := E0.wl hx e
  obtain rfl := hy.nil_inv
  obtain ⟨E1, X1⟩ := E0.wr e hj h2.reverse
  exact ⟨a, ws, rfl, rfl, h1, k _ _ _ X1 E1 .non⟩
 ·cases h
noncomputable def sSeq (a b : TwS) : TwS := fun ρ S => match a ρ S with
 | some (.nx ρ1 S1) => b ρ1 S1
 | r => r
noncomputable def sNext : TwS := fun ρ S => some (.nx ρ S)
noncomputable def sAsg (m : TwE) (g : TwG) : TwS := fun ρ S => sb (m ρ S) fun x S1 => sb (g x ρ S1) fun ρ1 S2 => some (.nx ρ1 S2)
noncomputable def sExpr (m : TwE) : TwS := fun ρ S => sb (m ρ S) fun _ S1 => some (.nx ρ S1)
noncomputable def sRet (m : TwE) : TwS := fun ρ S => sb (m ρ S) fun x S1 => some (.rt x S1)
noncomputable def sIf (c : TwT) (a b : TwS) : TwS := fun ρ S => sb (c ρ S) fun x S1 => if x then a ρ S1 else b ρ S1
noncomputable def sPar (i k : Nat) (ms : List TwE) : TwS := fun ρ S => sb (evL ms ρ S) fun xs S1 => match xs with
 | [a, b] => some (.nx ((ρ.set i (some a)).set k (some b)) S1)
 | _ => none
noncomputable def turn (r : Option Fl) (go : Rho → Sto → Option Fl) : Option Fl := match r with
 | some (.nx ρ S) => go ρ S
 | some (.ct ρ S) => go ρ S
 | some (.bk ρ S) => some (.nx ρ S)
 | r => r
noncomputable def forTw (get : Sto → Option (List Xv)) (g : TwG) (b : TwS) : Nat → Nat → Rho → Sto → Option Fl
 | 0, _, _, _ => none
 | f + 1, i, ρ, S => (get S).bind fun xs => match xs[i]? with
  | none => if i = xs.length then some (.nx ρ S) else none
  | some x => sb (g x ρ S) fun ρ1 S1 => turn (b ρ1 S1) fun ρ2 S2 => forTw get g b f (i + 1) ρ2 S2
noncomputable def sFor (m : TwI) (g : TwG) (b : TwS) : TwS := fun ρ S => sb (m ρ S) fun get S1 => (get S1).bind fun xs => forTw get g b (xs.length + 1) 0 ρ S1
noncomputable def whTw (c : TwT) (b : TwS) : Nat → Rho → Sto → Option Fl
 | 0, _, _ => none
 | n + 1, ρ, S => sb (c ρ S) fun x S1 => if x then turn (b ρ S1) fun ρ2 S2 => whTw c b n ρ2 S2 else some (.nx ρ S1)
noncomputable def sWh (n : Nat) (c : TwT) (b : TwS) : TwS := fun ρ S => whTw c b n ρ S
noncomputable def gN (i : Nat) : TwG := fun x ρ S => some (.ok (ρ.set i (some x)) S)
noncomputable def gsNil : TwGs := fun xs ρ S => match xs with
 | [] => some (.ok ρ S)
 | _ => none
noncomputable def gsCons (g : TwG) (gs : TwGs) : TwGs := fun xs ρ S => match xs with
 | x :: r => rb (g x ρ S) fun ρ1 S1 => gs r ρ1 S1
 | _ => none
noncomputable def gT (n : Nat) (gs : TwGs) : TwG := fun x ρ S => x.tupOf.bind fun l => if l.length = n then gs l ρ S else none
theorem rg_name {i : Nat} : RG K E (gName i) (gN i) := fun E0 hx e k => by
 cases e
 exact k _ _ _ Ext.refl (E0.set hx)
theorem rgs_nil : RGs K E gNil gsNil := by
 intro F j σ H ρ S r xs vs R E0 hv e k
 unfold gsNil at e
 split at e
 ·cases e
  obtain rfl := hv.nil_inv
  exact ⟨rfl, k _ _ _ Ext.refl E0⟩
 ·cases e
theorem rgs_cons {t : TG} {u : TGs} {g : TwG} {gs : TwGs} (h1 : RG K E t g) (h2 : RGs K E u gs) : RGs K E (gCons t u) (gsCons g gs) := by
 intro F j σ H ρ S r xs vs R E0 hv e k
 unfold gsCons at e
 split at e
 ·obtain ⟨w, ws, rfl, hw, hws⟩ := hv.cons_inv
  rcases rb_some e with ⟨ρ1, S1, e1, e⟩ | ⟨c, S1, e1, rfl⟩
  ·exact ⟨w, ws, rfl, h1 E0 hw e1 fun σ1 j1 H1 X1 E1 => h2 E1 (hws.mono X1) e (k.step X1)⟩
  ·exact ⟨w, ws, rfl, h1 E0 hw e1 k⟩
 ·cases e
theorem rg_tup {n : Nat} {t : TGs} {gs : TwGs} (h : RGs K E t gs) : RG K E (gTup K n t) (gT n gs) := by
 intro F j σ H ρ S r x v R E0 hx e k
 unfold gT at e
 cases ex : x.tupOf with
 | none => rw [ex] at e; cases e
 | some l =>
  rw [ex] at e
  dsimp only [Option.bind] at e
  split at e
  ·rename_i hn
   obtain ⟨a, vs, rfl, h1, h2⟩ := hx.tupO ex
   exact ⟨a, vs, rfl, h1, by rw [h2.len]; exact hn, h E0 h2 e k⟩
  ·cases e
theorem rs_next : RS K E tNext sNext := fun E0 e k => by
 cases e
 exact k _ _ _ Ext.refl E0
theorem rs_seq {t u : TS} {a b : TwS} (ha : RS K E t a) (hb : RS K E u b) : RS K E (tSeq t u) (sSeq a b) := by
 intro F j D' σ H ρ S fl E0 e k
 unfold sSeq at e
 split at e
 ·rename_i ρ1 S1 e1
  exact ha (D' := { D' with nx := u D' }) E0 e1 fun σ1 j1 H1 X1 E1 => hb E1 e (k.step X1)
 ·rename_i hn
  refine ha (D' := { D' with nx := u D' }) E0 e ?_
  cases fl with
  | nx ρ1 S1 => exact absurd e (hn ρ1 S1)
  | bk ρ1 S1 => exact k
  | ct ρ1 S1 => exact k
  | rt x S1 => exact k
  | ex c S1 => exact k
theorem rs_asg {te : TE} {g : TG} {m : TwE} {g' : TwG} (h : RE K E te m) (hg : RG K E g g') : RS K E (tAsg te g) (sAsg m g') := by
 intro F j D' σ H ρ S fl E0 e k
 rcases sb_some e with ⟨x, S1, e1, e⟩ | ⟨c, S1, e1, rfl⟩
 ·refine h E0 e1 fun j1 H1 X1 E1 u hu => ?_
  rcases sb_some e with ⟨ρ1, S2, e2, e⟩ | ⟨c, S2, e2, rfl⟩
  ·cases e
   exact hg E1 hu e2 fun σ2 j2 H2 X2 E2 => k _ _ _ (X1.trans X2) E2
  ·exact hg E1 hu e2 (PX.mono k X1)
 ·exact h E0 e1 k
theorem rs_expr {te : TE} {m : TwE} (h : RE K E te m) : RS K E (tDrop te) (sExpr m) := by
 intro F j D' σ H ρ S fl E0 e k
 rcases sb_some e with ⟨x, S1, e1, e⟩ | ⟨c, S1, e1, rfl⟩
 ·cases e
  exact h E0 e1 fun j1 H1 X1 E1 u hu => k _ _ _ X1 E1
 ·exact h E0 e1 k
theorem rs_ret {te : TE} {m : TwE} (h : RE K E te m) : RS K E (tRet te) (sRet m) := by
 intro F j D' σ H ρ S fl E0 e k
 rcases sb_some e with ⟨x, S1, e1, e⟩ | ⟨c, S1, e1, rfl⟩
 ·cases e
  exact h E0 e1 fun j1 H1 X1 E1 u hu => k _ _ _ _ _ X1 E1 hu
 ·exact h E0 e1 k
theorem rs_if {c : TT} {t u : TS} {m : TwT} {a b : TwS} (hc : RT K E c m) (ha : RS K E t a) (hb : RS K E u b) : RS K E (tIfS c t u) (sIf m a b) := by
 intro F j D' σ H ρ S fl E0 e k
 rcases sb_some e with ⟨x, S1, e1, e⟩ | ⟨c, S1, e1, rfl⟩
 ·refine hc E0 e1 fun j1 H1 X1 E1 => ?_
  cases x with
  | true => exact ha E1 e (k.step X1)
  | false => exact hb E1 e (k.step X1)
 ·exact hc E0 e1 k
theorem rs_par {i m : Nat} {t : TA} {ms : List TwE} (h : RL K E t (evL ms)) : RS K E (tPar i m t) (sPar i m ms) := by
 intro F j D' σ H ρ S fl E0 e k
 rcases sb_some e with ⟨xs, S1, e1, e⟩ | ⟨c, S1, e1, rfl⟩
 ·split at e
  ·cases e
   refine h E0 e1 fun j1 H1 X1 E1 vs hv => ?_
   obtain ⟨x, y, rfl, hx, hy⟩ := hv.d2
   exact ⟨x, y, rfl, k _ _ _ X1 ((E1.set hx).set hy)⟩
  ·cases e
 ·exact h E0 e1 k
theorem turn_some {r : Option Fl} {go : Rho → Sto → Option Fl} {fl : Fl} (h : turn r go = some fl) : ∃ f, r = some f ∧ ((∃ ρ S, (f = .nx ρ S ∨ f = .ct ρ S) ∧ go ρ S = some fl) ∨ (∃ ρ S, f = .bk ρ S ∧ fl = .nx ρ S) ∨ (f = fl ∧ ((∃ x S, fl = .rt x S) ∨ ∃ c S, fl = .ex c S))) := by
 unfold turn at h
 split at h
 ·exact ⟨_, rfl, .inl ⟨_, _, .inl rfl, h⟩⟩
 ·exact ⟨_, rfl, .inl ⟨_, _, .inr rfl, h⟩⟩
 ·cases h; exact ⟨_, rfl, .inr (.inl ⟨_, _, rfl, rfl⟩)⟩
 ·rename_i n1 n2 n3
  refine ⟨fl, h, .inr (.inr ⟨rfl, ?_⟩)⟩
  cases fl with
  | nx ρ S => exact absurd h (n1 ρ S)
  | ct ρ S => exact absurd h (n2 ρ S)
  | bk ρ S => exact absurd h (n3 ρ S)
  | rt x S => exact .inl ⟨x, S, rfl⟩
  | ex c S => exact .inr ⟨c, S, rfl⟩
theorem rs_for {wi : TI} {g : TG} {tb : TS} {m : TwI} {g' : TwG} {b : TwS} (hi : RI K E wi m) (hg : RG K E g g') (hb : RS K E tb b) : RS K E (tFor wi g tb) (sFor m g' b) := by
 intro F j D' σ H ρ S fl E0 e k
 rcases sb_some e with ⟨get, S1, e1, e⟩ | ⟨c, S1, e1, rfl⟩
 ·refine hi E0 e1 fun j1 H1 X1 E1 J ok => ?_
  cases eg : get S1 with
  | none => rw [eg] at e; cases e
  | some xs =>
   rw [eg] at e
   refine ⟨fun i n σ H => ∃ j2 ρ2 S2, Ext j1 H1 j2 H ∧ En K F j2 H σ ρ2 S2 ∧ forTw get g' b n i ρ2 S2 = some fl, ⟨xs.length + 1, j1, ρ, S1, Ext.refl, E1, e⟩, ?_⟩
   rintro i n σ2 H2 ⟨j2, ρ2, S2, X2, E2, e2⟩
   cases n with
   | zero => cases e2
   | succ n =>
    unfold forTw at e2
    cases eg2 : get S2 with
    | none => rw [eg2] at e2; cases e2
    | some ys =>
     rw [eg2] at e2
     dsimp only [Option.bind] at e2
     obtain ⟨go, stop⟩ := ok i X2 E2 eg2
     split at e2
     ·split at e2
      ·rename_i hl
       cases e2
       exact .inl ⟨stop hl, k _ _ _ (X1.trans X2) E2⟩
      ·cases e2
     ·rename_i x ex
      obtain ⟨g1, g2⟩ := go x ex
      refine .inr ⟨g1, fun σ' H' => ∃ j3 ρ3 S3, Ext j1 H1 j3 H' ∧ En K F j3 H' σ' ρ3 S3 ∧ forTw get g' b n (i + 1) ρ3 S3 = some fl, fun _ _ z => ⟨n, Nat.lt_succ_self _, z⟩, fun v H3 hy => ?_⟩
      obtain ⟨Sm, hv⟩ := g2 v H3 hy
      have E3 := E2.heap Sm
      have X3 : Ext j2 H2 j2 H3 := Ext.same Sm
      rcases sb_some e2 with ⟨ρ4, S4, e4, e2⟩ | ⟨c, S4, e4, rfl⟩
      ·refine hg E3 hv e4 fun σ4 j4 H4 X4 E4 => ?_
       obtain ⟨f5, e5, h5⟩ := turn_some e2
       refine hb E4 e5 ?_
       have X14 := X2.trans (X3.trans X4)
       rcases h5 with ⟨ρ6, S6, h6, e6⟩ | ⟨ρ6, S6, rfl, rfl⟩ | ⟨rfl, h6⟩
       ·rcases h6 with rfl | rfl
        ·exact fun σ5 j5 H5 X5 E5 => ⟨j5, ρ6, S6, X14.trans X5, E5, e6⟩
        ·exact fun σ5 j5 H5 X5 E5 => ⟨j5, ρ6, S6, X14.trans X5, E5, e6⟩
       ·exact fun σ5 j5 H5 X5 E5 => k _ _ _ (X1.trans (X14.trans X5)) E5
       ·rcases h6 with ⟨x6, S6, rfl⟩ | ⟨c6, S6, rfl⟩
        ·exact fun v σ5 ρ5 j5 H5 X5 E5 hv => k v σ5 ρ5 _ _ (X1.trans (X14.trans X5)) E5 hv
        ·exact PX.mono k (X1.trans X14)
      ·exact hg E3 hv e4 (PX.mono k (X1.trans (X2.trans X3)))
 ·exact hi E0 e1 k
theorem rs_while {c : TT} {tb : TS} {m : TwT} {b : TwS} {n : Nat} (hc : RT K E c m) (hb : RS K E tb b) : RS K E (tWhile c tb) (sWh n m b) := by
 intro F j D' σ H ρ S fl E0 e k
 refine ⟨fun n σ2 H2 => ∃ j2 ρ2 S2, Ext j H j2 H2 ∧ En K F j2 H2 σ2 ρ2 S2 ∧ whTw m b n ρ2 S2 = some fl, ⟨n, j, ρ, S, Ext.refl, E0, e⟩, ?_⟩
 rintro n σ2 H2 ⟨j2, ρ2, S2, X2, E2, e2⟩
 cases n with
 | zero => cases e2
 | succ n =>
  unfold whTw at e2
  rcases sb_some e2 with ⟨x, S3, e3, e2⟩ | ⟨c, S3, e3, rfl⟩
  ·refine hc E2 e3 fun j3 H3 X3 E3 => ?_
   have X13 := X2.trans X3
   cases x with
   | false => cases e2; exact k _ _ _ X13 E3
   | true =>
    obtain ⟨f5, e5, h5⟩ := turn_some e2
    refine ⟨fun σ' H' => ∃ j3 ρ3 S3, Ext j H j3 H' ∧ En K F j3 H' σ' ρ3 S3 ∧ whTw m b n ρ3 S3 = some fl, fun σ' H' z => ⟨n, Nat.lt_succ_self _, z⟩, hb E3 e5 ?_⟩
    rcases h5 with ⟨ρ6, S6, h6, e6⟩ | ⟨ρ6, S6, rfl, rfl⟩ | ⟨rfl, h6⟩
    ·rcases h6 with rfl | rfl
     ·exact fun σ5 j5 H5 X5 E5 => ⟨j5, ρ6, S6, X13.trans X5, E5, e6⟩
     ·exact fun σ5 j5 H5 X5 E5 => ⟨j5, ρ6, S6, X13.trans X5, E5, e6⟩
    ·exact fun σ5 j5 H5 X5 E5 => k _ _ _ (X13.trans X5) E5
    ·rcases h6 with ⟨x6, S6, rfl⟩ | ⟨c6, S6, rfl⟩
     ·exact fun v σ5 ρ5 j5 H5 X5 E5 hv => k v σ5 ρ5 _ _ (X13.trans X5) E5 hv
     ·exact PX.mono k X13
  ·exact hc E2 e3 (PX.mono k X2)
noncomputable def iL (m : TwE) : TwI := fun ρ S => rb (m ρ S) fun x S1 => (lstAt S1 x).map fun _ => .ok (fun S => lstAt S x) S1
theorem ri_list {t : TE} {m : TwE} (h : RE K E t m) : RI K E (iList K t) (iL m) := by
 intro F j σ H ρ S r R En0 e k
 rcases rb_some e with ⟨x, S1, e1, e⟩ | ⟨c, S1, e1, rfl⟩
 ·cases el : lstAt S1 x with
  | none => rw [el] at e; cases e
  | some l =>
   rw [el] at e
   cases e
   refine h En0 e1 fun j1 H1 X1 E1 u hu => ?_
   obtain ⟨a, vs, rfl, h1, _⟩ := E1.lstAt hu el
   refine ⟨a, rfl, ⟨vs, h1.sql⟩, k _ _ X1 E1 _ ?_⟩
   intro F2 j2 H2 σ2 ρ2 S2 xs i X2 E2 e2
   obtain ⟨a', ws, ea, g1, g2⟩ := E2.lstAt (hu.mono X2) e2
   cases ea
   refine ⟨fun y ey => ?_, fun hle => ⟨ws, g1.sql, by rw [g2.len]; omega⟩⟩
   obtain ⟨w, f1, f2⟩ := g2.get ey
   refine ⟨⟨ws, w, g1.sql, f1⟩, ?_⟩
   rintro v' H' ⟨rfl, hx⟩
   have := hx ws g1.sql
   rw [f1] at this
   cases this
   exact ⟨Same.refl _, f2⟩
 ·exact h En0 e1 k
noncomputable def rangeX (lo : Int) (n : Nat) : List Xv := (List.range n).map fun (k : Nat) => Xv.int (lo + (k : Int))
noncomputable def iR1 (m : TwE) : TwI := fun ρ S => rb (m ρ S) fun x S1 => match x with
 | .int j => if -(2 ^ 62) ≤ j ∧ j < 2 ^ 62 then some (.ok (fun _ => some (rangeX 0 j.toNat)) S1) else none
 | _ => none
theorem it_range {lo : Int} {n : Nat} : ItOk K j H (Itr lo n) (fun _ => some (rangeX lo n)) := by
 intro F2 j2 H2 σ2 ρ2 S2 xs i X2 E2 e2
 cases e2
 refine ⟨fun d hd => ?_, fun hle => ?_⟩
 ·unfold rangeX at hd
  rw [List.getElem?_map] at hd
  have hi : i < n := by
   apply Classical.byContradiction
   intro hn
   rw [List.getElem?_eq_none (by simp; omega)] at hd
   cases hd
  rw [List.getElem?_range hi] at hd
  cases hd
  refine ⟨hi, ?_⟩
  rintro x H' ⟨rfl, rfl⟩
  exact ⟨Same.refl _, .int _⟩
 ·unfold rangeX at hle
  simp at hle
  show n ≤ i
  omega
theorem ri_range1 {t : TE} {m : TwE} (h : RE K E t m) : RI K E (iRng1 (tCons t tNil)) (iR1 m) := by
 intro F j σ H ρ S r R En0 e k
 rcases rb_some e with ⟨x, S1, e1, e⟩ | ⟨c, S1, e1, rfl⟩
 ·split at e
  ·split at e
   ·rename_i hb
    cases e
    exact h En0 e1 fun j1 H1 X1 E1 u hu => ⟨_, by rw [hu.int_inv], hb.1, hb.2, k _ _ X1 E1 _ it_range⟩
   ·cases e
  ·cases e
 ·exact h En0 e1 k
end
end L2
namespace L2
open PySem
noncomputable def rn {α β : Type} (m : Option (Rs α)) (f : α → Sto → Option β) : Option β := match m with
 | some (.ok a S) => f a S
 | _ => none
theorem rn_some {α β : Type} {m : Option (Rs α)} {f : α → Sto → Option β} {r : β} (h : rn m f = some r) : ∃ a S, m = some (.ok a S) ∧ f a S = some r := by
 unfold rn at h
 split at h
 ·exact ⟨_, _, rfl, h⟩
 ·cases h
noncomputable def capR (cap : List (Option Nat)) (ρ : Rho) : Rho := cap.map fun o => o.bind fun i => (ρ[i]?).join
noncomputable def compTw (get : Sto → Option (List Xv)) (g : TwG) (c : TwT) (e : TwE) (ρc : Rho) : Nat → Nat → List Xv → Sto → Option (Rs Xv)
 | 0, _, _, _ => none
 | f + 1, i, es, S => (get S).bind fun xs => match xs[i]? with
  | none => if i = xs.length then some (.ok (.ref S.length) (S ++ [.lst es])) else none
  | some x => rn (g x ρc S) fun ρ1 S1 => rn (c ρ1 S1) fun b S2 => if b then rn (e ρ1 S2) fun y S3 => if es.length < sizeLine then compTw get g c e ρc f (i + 1) (es ++ [y]) S3 else none
    else compTw get g c e ρc f (i + 1) es S2
noncomputable def eComp (cap : List (Option Nat)) (m : TwI) (g : TwG) (c : TwT) (e : TwE) : TwE := fun ρ S => rb (m ρ S) fun get S1 => (get S1).bind fun xs => compTw get g c e (capR cap ρ) (xs.length + 1) 0 [] S1
noncomputable def bTrue : TwT := fun _ S => some (.ok true S)
section
variable {K : PySem.W.Frag} {E : XK} {F : Fm} {j j' : List Addr} {H H' : Hp} {σ σ' : St} {ρ ρ' : Rho} {S S' : Sto} {x : Xv} {v : V} {a : Addr} {o : HO}
theorem rt_true : RT K E (fun _ H Q => Q true H) bTrue := fun E1 e k => by
 cases e
 exact k _ _ Ext.refl E1
noncomputable def NotIn (j : List Addr) (S : Sto) (a : Addr) : Prop := ∀ (n : Nat) c, j[n]? = some a → S[n]? = some c → c.fz = true
theorem En.notIn (E1 : En K F j H σ ρ S) (h : H a = none) : NotIn j S a := fun n c e1 e2 => by
 cases z : c.fz with
 | true => rfl
 | false =>
  obtain ⟨o, e, _⟩ := (E1.cel n c a e2 e1).mu z
  rw [h] at e; cases e
theorem En.outside (E1 : En K F j H σ ρ S) (h : NotIn j S a) {o0 : HO} (h0 : H a = some o0) (m0 : o0.mu = true) (hf : F.H0 a = none) : En K F j (upd H a o) σ ρ S ∧ Ext j H j (upd H a o) := by
 have X : Ext j H j (upd H a o) := ⟨fun _ _ e => e, fun b u e m => by
  have : b ≠ a := fun q => by subst q; rw [h0] at e; cases e; rw [m] at m0; cases m0
  rw [upd_ne this]; exact e⟩
 refine ⟨⟨E1.len, fun i x e => ?_, E1.jl, E1.inj, fun n c b e1 e2 => ?_, E1.ext.trans X, E1.old, E1.l0, fun b u e => ?_, E1.fresh, fun b e => ?_⟩, X⟩
 ·obtain ⟨v, e1, e2⟩ := E1.slot i x e
  exact ⟨v, e1, e2.mono X⟩
 ·refine (E1.cel n c b e1 e2).mono X fun z => upd_ne fun q => ?_
  subst q
  rw [h n c e2 e1] at z; cases z
 ·have hb : b ≠ a := fun q => by subst q; rw [hf] at e; cases e
  rcases E1.keep b u e with h | h
  ·exact .inl (by rw [upd_ne hb]; exact h)
  ·exact .inr h
 ·have hb : b ≠ a := fun q => by subst q; rw [upd_same] at e; cases e
  rw [upd_ne hb] at e
  exact E1.dom b e
theorem En.adopt {c : Ce} (E1 : En K F j H σ ρ S) (h : NotIn j S a) (hf : F.H0 a = none) (hc : CeIs K (j ++ [a]) H a c) : En K F (j ++ [a]) H σ ρ (S ++ [c]) ∧ Ext j H (j ++ [a]) H := by
 have X : Ext j H (j ++ [a]) H := ⟨fun n b e => by rw [List.getElem?_append_left (List.getElem?_eq_some_iff.1 e).1]; exact e, KeepI.refl _⟩
 have lt : ∀ {n : Nat} {d : Ce}, S[n]? = some d → n < S.length := fun e => (List.getElem?_eq_some_iff.1 e).1
 have at_ : ∀ {n : Nat} {b : Addr} {d : Ce}, (j ++ [a])[n]? = some b → (S ++ [c])[n]? = some d → (j[n]? = some b ∧ S[n]? = some d) ∨ (n = S.length ∧ b = a ∧ d = c) := fun {n b d} e1 e2 => by
  by_cases hn : n < S.length
  ·rw [List.getElem?_append_left hn] at e2
   rw [List.getElem?_append_left (by rw [E1.jl]; exact hn)] at e1
   exact .inl ⟨e1, e2⟩
  ·rw [List.getElem?_append_right (by omega)] at e2
   rw [List.getElem?_append_right (by rw [E1.jl]; omega), E1.jl] at e1
   cases hm : n - S.length with
   | zero => rw [hm] at e1 e2; simp at e1 e2; exact .inr ⟨by omega, e1.symm, e2.symm⟩
   | succ m => rw [hm] at e1; simp at e1
 refine ⟨⟨E1.len, fun i x e => ?_, by simp [E1.jl], fun n m b c1 c2 e1 e2 e3 e4 z1 z2 => ?_, fun n d b e1 e2 => ?_, E1.ext.trans X, fun n d e => ?_, E1.l0, E1.keep, fun n b hn e => ?_, E1.dom⟩, X⟩
 ·obtain ⟨v, e1, e2⟩ := E1.slot i x e
  exact ⟨v, e1, e2.mono X⟩
 ·rcases at_ e1 e3 with ⟨f1, f2⟩ | ⟨f1, f2, f3⟩
  ·rcases at_ e2 e4 with ⟨g1, g2⟩ | ⟨g1, g2, g3⟩
   ·exact E1.inj n m b c1 c2 f1 g1 f2 g2 z1 z2
   ·subst g2
    rw [h n c1 f1 f2] at z1; cases z1
  ·rcases at_ e2 e4 with ⟨g1, g2⟩ | ⟨g1, g2, g3⟩
   ·subst f2
    rw [h m c2 g1 g2] at z2; cases z2
   ·rw [f1, g1]
 ·rcases at_ e2 e1 with ⟨f1, f2⟩ | ⟨f1, rfl, rfl⟩
  ·exact (E1.cel n d b f2 f1).mono X fun _ => rfl
  ·exact hc
 ·obtain ⟨d', e1, e2⟩ := E1.old n d e
  exact ⟨d', by rw [List.getElem?_append_left (lt e1)]; exact e1, e2⟩
 ·by_cases hm : n < j.length
  ·rw [List.getElem?_append_left hm] at e
   exact E1.fresh n b hn e
  ·rw [List.getElem?_append_right (by omega)] at e
   cases hk : n - j.length with
   | zero => rw [hk] at e; simp at e; subst e; exact hf
   | succ m => rw [hk] at e; simp at e
theorem cap_slots {cap : List (Option Nat)} (E1 : En K F j H σ ρ S) : (capSt cap σ).length = (capR cap ρ).length ∧ ∀ (i : Nat) x, (capR cap ρ)[i]? = some (some x) → ∃ v, (capSt cap σ)[i]? = some (some v) ∧ Xis K j H x v := by
 refine ⟨by simp [capSt, capR], fun i x h => ?_⟩
 unfold capR at h
 unfold capSt
 rw [List.getElem?_map] at h ⊢
 cases e : cap[i]? with
 | none => rw [e] at h; cases h
 | some o =>
  rw [e] at h
  cases o with
  | none => simp at h
  | some k =>
   simp only [Option.map_some, Option.bind_some, Option.some.injEq] at h ⊢
   cases q : ρ[k]? with
   | none => rw [q] at h; simp at h
   | some z =>
    rw [q] at h
    simp at h
    subst h
    obtain ⟨v, e1, e2⟩ := E1.slot k x q
    exact ⟨v, by rw [e1]; rfl, e2⟩
theorem re_comp {cap : List (Option Nat)} {wi : TI} {g : TG} {tt : TT} {te : TE} {m : TwI} {g' : TwG} {c : TwT} {e : TwE} (hi : RI K E wi m) (hg : RG K E0 g g') (hc : RT K E0 tt c) (he : RE K E0 te e) : RE K E (tComp cap wi g tt te) (eComp cap m g' c e) := by
 intro F j σ H ρ S r Q En0 h k
 rcases rb_some h with ⟨get, S1, e1, h⟩ | ⟨c1, S1, e1, rfl⟩
 ·refine hi En0 e1 fun j1 H1 X1 E1 J ok acc hacc => ?_
  cases eg : get S1 with
  | none => rw [eg] at h; cases h
  | some xs =>
   rw [eg] at h
   have hf : F.H0 acc = none := E1.dom acc hacc
   obtain ⟨Ea, Xa⟩ := E1.new (o := .lst []) hacc
   refine ⟨fun i n ys H2 => ∃ j2 S2 es, Ext j1 H1 j2 H2 ∧ En K F j2 H2 σ ρ S2 ∧ H2 acc = some (.lst ys) ∧ XisL K j2 H2 es ys ∧ NotIn j2 S2 acc ∧ compTw get g' c e (capR cap ρ) n i es S2 = some r,
    ⟨xs.length + 1, j1, S1, [], Xa, Ea, upd_same, .nil, E1.notIn hacc, h⟩, ?_⟩
   rintro i n ys H2 ⟨j2, S2, es, X2, E2, h2, hes, nin, e2⟩
   cases n with
   | zero => cases e2
   | succ n =>
    unfold compTw at e2
    cases eg2 : get S2 with
    | none => rw [eg2] at e2; cases e2
    | some zs =>
     rw [eg2] at e2
     dsimp only [Option.bind] at e2
     obtain ⟨go, stop⟩ := ok i X2 E2 eg2
     split at e2
     ·split at e2
      ·rename_i hl
       cases e2
       obtain ⟨E3, X3⟩ := E2.adopt (c := .lst es) nin hf ⟨ys, h2, hes.mono ⟨fun n b e => by rw [List.getElem?_append_left (List.getElem?_eq_some_iff.1 e).1]; exact e, KeepI.refl _⟩⟩
       exact .inl ⟨stop hl, k _ _ (X1.trans (X2.trans X3)) E3 _ (.ref (by rw [← E2.jl]; simp))⟩
      ·cases e2
     ·rename_i x ex
      obtain ⟨g1, g2⟩ := go x ex
      refine .inr ⟨g1, fun v H3 hy => ?_⟩
      obtain ⟨Sm, hv⟩ := g2 v H3 hy
      have E3 := E2.heap Sm
      have X3 : Ext j2 H2 j2 H3 := Ext.same Sm
      have h3 : H3 acc = some (.lst ys) := Sm _ _ h2
      obtain ⟨cl, cs⟩ := cap_slots (cap := cap) E3
      have I0 := E3.enter cl cs
      obtain ⟨ρ4, S4, e4, e2⟩ := rn_some e2
      obtain ⟨b, S5, e5, e2⟩ := rn_some e2
      have behind : ∀ {j6 : List Addr} {H6 : Hp} {σ6 : St} {ρ6 : Rho} {S6 : Sto}, En K ⟨H3, j2, S2⟩ j6 H6 σ6 ρ6 S6 → En K F j6 H6 σ ρ S6 ∧ Ext j2 H2 j6 H6 ∧ H6 acc = some (.lst ys) ∧ NotIn j6 S6 acc := fun {j6 H6 σ6 ρ6 S6} X => by
       obtain ⟨E6, X6⟩ := E3.leave X
       refine ⟨E6, X3.trans X6, ?_, fun n d q1 q2 => ?_⟩
       ·rcases X.keep acc _ h3 with q | ⟨n, d, q1, q2, q3⟩
        ·exact q
        ·rw [nin n d q1 q2] at q3; cases q3
       ·by_cases hn : n < j2.length
        ·have p1 : j2[n]? = some j2[n] := List.getElem?_eq_getElem hn
         have p2 := X6.pre n _ p1
         rw [q1] at p2
         cases p2
         have hn2 : n < S2.length := by rw [← E2.jl]; exact hn
         obtain ⟨d', f1, _, f3⟩ := X.old n _ (List.getElem?_eq_getElem hn2)
         rw [q2] at f1
         cases f1
         have hz := nin n _ p1 (List.getElem?_eq_getElem hn2)
         rw [f3 hz]
         exact hz
        ·have q := X.fresh n acc (by dsimp only; omega) q1
         have q : H3 acc = none := q
         rw [h3] at q; cases q
      refine hg I0 hv e4 fun σ4 j4 H4 X4 I4 => hc I4 e5 fun j5 H5 X5 I5 => ?_
      cases b with
      | true =>
       rw [if_pos rfl]
       rw [if_pos rfl] at e2
       obtain ⟨y, S6, e6, e2⟩ := rn_some e2
       split at e2
       ·rename_i hsz
        refine he I5 e6 fun j6 H6 X6 I6 w hw => ?_
        obtain ⟨E6, X26, h6, nin6⟩ := behind I6
        obtain ⟨E7, X7⟩ := E6.outside (o := .lst (ys ++ [w])) nin6 h6 rfl hf
        refine ⟨h6, by rw [hes.len]; exact hsz, n, Nat.lt_succ_self _, j6, S6, es ++ [y], X2.trans (X26.trans X7), E7, upd_same, ((hes.mono X26).append (.one hw)).mono X7, nin6, e2⟩
       ·cases e2
      | false =>
       rw [if_neg (by simp)]
       rw [if_neg (by simp)] at e2
       obtain ⟨E6, X26, h6, nin6⟩ := behind I5
       exact ⟨n, Nat.lt_succ_self _, j5, S5, es, X2.trans X26, E6, h6, hes.mono X26, nin6, e2⟩
 ·exact hi En0 e1 k
theorem rs_setComp {i : Nat} {cap : List (Option Nat)} {wi : TI} {g : TG} {tt : TT} {te : TE} {m : TwE} (h : RE K E (tComp cap wi g tt te) m) : RS K E (tSetComp i cap wi g tt te) (sAsg m (gN i)) := by
 intro F j D' σ H ρ S fl E1 e k
 rcases sb_some e with ⟨x, S1, e1, e⟩ | ⟨c, S1, e1, rfl⟩
 ·cases e
  exact h (Q := fun v H2 => D'.nx (σ.set i (some v)) H2) E1 e1 fun j1 H1 X1 E1 u hu => k _ _ _ X1 (E1.set hu)
 ·exact h (Q := fun v H2 => D'.nx (σ.set i (some v)) H2) E1 e1 k
noncomputable abbrev TwF := List Xv → Sto → Option (Rs Xv)
noncomputable def runTw (n k : Nat) (b : TwS) : TwF := fun xs S => if xs.length = n then match b (xs.map some ++ List.replicate k none) S with
  | some (.rt x S') => some (.ok x S')
  | some (.nx _ S') => some (.ok .non S')
  | some (.ex c S') => some (.ex c S')
  | _ => none
 else none
noncomputable def RetOk (K : PySem.W.Frag) (F : Fm) (Q : VK) (E : XK) : Rs Xv → Prop
 | .ok x S' => ∀ v j' H' σ ρ, En K F j' H' σ ρ S' → Xis K j' H' x v → Q v H'
 | .ex c S' => ∀ j' H' σ ρ C, En K F j' H' σ ρ S' → PySem.W.nsIn K mainGlobals c = some (some (.ref C)) → E (.ref C) none H'
noncomputable def sTw (K : PySem.W.Frag) (n : Nat) (tw : TwF) : Sp := fun vs H Q E => vs.length = n ∧ ∃ (j : List Addr) (S : Sto) (xs : List Xv) (r : Rs Xv), En K ⟨H, j, S⟩ j H (vs.map some) (xs.map some) S ∧ tw xs S = some r ∧ RetOk K ⟨H, j, S⟩ Q E r
theorem fn_tw {n k : Nat} {N : List Str} {t : TS} {b : TwS} {vs : List V} {Q : VK} (hN : N.length = n + k) (h : RS K E t b) (hs : sTw K n (runTw n k b) vs H Q E) : t { nx := fun _ H' => Q .non H', rt := Q } (start N vs) H := by
 obtain ⟨hn, j, S, xs, r, E1, e, ret⟩ := hs
 have es : start N vs = vs.map some ++ List.replicate k none := by
  unfold start
  rw [hN, hn, Nat.add_sub_cancel_left]
 rw [es]
 unfold runTw at e
 split at e
 ·split at e
  ·rename_i x S' e1
   cases e
   exact h E1.grow e1 fun v σ ρ j' H' X E' hv => ret _ _ _ _ _ E' hv
  ·rename_i ρ' S' e1
   cases e
   exact h E1.grow e1 fun σ j' H' X E' => ret _ _ _ _ _ E' .non
  ·rename_i c S' e1
   cases e
   exact h E1.grow e1 fun j' H' σ' ρ' C X E' hC => ret _ _ _ _ _ E' hC
  ·cases e
 ·cases e
noncomputable def eCall (tw : TwF) (ms : List TwE) : TwE := fun ρ S => rb (evL ms ρ S) fun xs S1 => tw xs S1
theorem args_slots {xs : List Xv} {vs : List V} (hv : XisL K j H xs vs) : (vs.map some).length = (xs.map some).length ∧ ∀ (i : Nat) x, (xs.map some)[i]? = some (some x) → ∃ v, (vs.map some)[i]? = some (some v) ∧ Xis K j H x v := by
 refine ⟨by simp [hv.len], fun i x h => ?_⟩
 rw [List.getElem?_map] at h ⊢
 cases e : xs[i]? with
 | none => rw [e] at h; cases h
 | some y =>
  rw [e] at h
  simp at h
  subst h
  obtain ⟨v, e1, e2⟩ := hv.get e
  exact ⟨v, by rw [e1]; rfl, e2⟩
theorem call_core {n : Nat} {tw : TwF} {xs : List Xv} {vs : List V} {r : Rs Xv} {Q : VK} {E' : XK} (E1 : En K F j H σ ρ S) (hv : XisL K j H xs vs) (hn : vs.length = n) (et : tw xs S = some r) (k : Po K F j H σ ρ E' (PoV K Q) r) : sTw K n tw vs H Q E' := by
 obtain ⟨l, s⟩ := args_slots hv
 refine ⟨hn, j, S, xs, r, E1.enter l s, et, ?_⟩
 cases r with
 | ok x S' =>
  intro v j' H' σ' ρ' X hx
  obtain ⟨E2, X2⟩ := E1.leave X
  exact k j' H' X2 E2 v hx
 | ex c S' =>
  intro j' H' σ' ρ' C X hC
  obtain ⟨E2, X2⟩ := E1.leave X
  exact k j' H' σ ρ C X2 E2 hC
theorem re_call {n : Nat} {tw : TwF} {ms : List TwE} {t : TA} (h : RL K E t (evL ms)) (hn : ms.length = n := by rfl) : RE K E (tCall (sTw K n tw) [] E t) (eCall tw ms) := by
 intro F j σ H ρ S r Q En0 e k
 rcases rb_some e with ⟨xs, S1, e1, e⟩ | ⟨c, S1, e1, rfl⟩
 ·refine h En0 e1 fun j1 H1 X1 E1 vs hv => ?_
  rw [List.append_nil]
  exact call_core E1 hv (by rw [hv.len, evL_len e1, hn]) e (k.step X1)
 ·exact h En0 e1 k
end
noncomputable def spLawX (K : PySem.W.Frag) : Sp := fun vs H Q _ => ∃ (a : Addr) (ns : List Int), vs = [V.ref a] ∧ Only H ∧ SqX K H a (ns.map V.int) ∧ ns.length ≤ 63 ∧ ∀ H', Q (.bl true) H'
theorem law_tw {P : Program} {w : World} {K : PySem.W.Frag} {mg : Str → Option Value} {base : Heap} {CX : CXT} {k : Nat} {f : Addr} {fd : FuncData} {ps : List Str} {tw : TwF} (Fn : FnOk P w K mg base CX k f fd ps (sTw K 1 tw))
  (h : ∀ ns : List Int, ns.length ≤ 63 → ∃ S, tw [.ref 0] [.frz (ns.map Xv.int)] = some (.ok (.bl true) S)) : FnOk P w K mg base CX k f fd ps (spLawX K) := by
 refine Fn.imp ?_
 rintro vs H Q E ⟨a, ns, rfl, hO, hS, hl, q⟩
 obtain ⟨S', e⟩ := h ns hl
 refine ⟨rfl, [a], [.frz (ns.map Xv.int)], [.ref 0], _, ?_, e, fun v j' H' σ ρ E' hv => ?_⟩
 ·refine ⟨rfl, fun i x e => ?_, rfl, fun n m b c d _ _ e3 _ z _ => ?_, fun n c b e1 e2 => ?_, Ext.refl, fun n c e => ⟨c, e, fun z => z, fun _ => rfl⟩, rfl, fun b u e => .inl e, fun n b hn e => ?_, fun b e => e⟩
  ·cases i with
   | zero => simp at e; subst e; exact ⟨_, rfl, .ref rfl⟩
   | succ i => simp at e
  ·cases n with
   | zero => simp at e3; subst e3; cases z
   | succ n => simp at e3
  ·cases n with
   | zero =>
    simp at e1 e2
    subst e1 e2
    refine ⟨ns.map V.int, ?_, XisL.ints ns⟩
    rcases hS with (hS | ⟨o, hS⟩) | hS
    ·rcases hO a with z | ⟨o, xs, z⟩
     ·rw [z] at hS; cases hS
     ·rw [z] at hS; cases hS
    ·exact .inl ⟨o, hS⟩
    ·exact .inr fun H => .inr hS
   | succ n => simp at e1
  ·dsimp only at hn
   have := (List.getElem?_eq_some_iff.1 e).1
   omega
 ·rw [hv.bl_inv]
  exact q H'
end L2
namespace L2
open PySem PySem.Spec PyProof.Rows
open PySem.Builtin.Int (intBits)
noncomputable def xI (g : Int → Int → Xv) : Op2 := fun x y S => match x, y with
 | .int a, .int b => some (g a b, S)
 | _, _ => none
noncomputable def xIC (c : Int → Int → Bool) (g : Int → Int → Xv) : Op2 := fun x y S => match x, y with
 | .int a, .int b => if c a b then some (g a b, S) else none
 | _, _ => none
noncomputable def dAdd : Op2 := xI fun i j => .int (i + j)
noncomputable def dSub : Op2 := xI fun i j => .int (i - j)
noncomputable def dMul : Op2 := xIC (fun i j => decide ((-(2 ^ 64) < i ∧ i < 2 ^ 64) ∨ (-(2 ^ 64) < j ∧ j < 2 ^ 64))) fun i j => .int (i * j)
noncomputable def dMulB : Op2 := xIC (fun i j => decide (intBits i + intBits j ≤ 134217728)) fun i j => .int (i * j)
noncomputable def dMod : Op2 := xIC (fun _ j => decide (0 < j)) fun i j => .int (i % j)
noncomputable def dFdivB : Op2 := xIC (fun _ j => decide (j ≠ 0 ∧ intBits j ≤ 9000)) fun i j => .int (i.fdiv j)
noncomputable def dPow : Op2 := xIC (fun i j => decide (0 ≤ j ∧ j ≤ 1000000 ∧ i.natAbs < 2 ^ 64)) fun i j => .int (i ^ j.toNat)
noncomputable def dLt : Op2 := xI fun i j => .bl (decide (i < j))
noncomputable def dGt : Op2 := xI fun i j => .bl (decide (j < i))
noncomputable def dEqI : Op2 := xI fun i j => .bl (decide (i = j))
noncomputable def dNeI : Op2 := xI fun i j => .bl (!decide (i = j))
noncomputable def dNeg : Xv → Sto → Option (Xv × Sto) := fun x S => match x with
 | .int i => some (.int (-i), S)
 | _ => none
section
variable {K : PySem.W.Frag} {E : XK} {F : Fm} {j j' : List Addr} {H H' : Hp} {σ σ' : St} {ρ ρ' : Rho} {S S' : Sto} {x : Xv} {v : V} {ta tb : TE} {a b : TwE}
theorem r2_I0 {g : Int → Int → V} {g' : Int → Int → Xv} (hg : ∀ i k j H, Xis K j H (g' i k) (g i k)) : R2Ok K (rI0 g) (xI g') := by
 intro F j σ H ρ S S' x y z u v Q E1 hx hy h k
 unfold xI at h
 split at h
 ·cases h
  exact ⟨_, _, hx.int_inv, hy.int_inv, k _ _ _ Ext.refl E1 (hg _ _ _ _)⟩
 ·cases h
theorem r2_I {C : Int → Int → Prop} {c : Int → Int → Bool} {g : Int → Int → V} {g' : Int → Int → Xv} (hc : ∀ i j, c i j = true → C i j) (hg : ∀ i k j H, Xis K j H (g' i k) (g i k)) : R2Ok K (rI C g) (xIC c g') := by
 intro F j σ H ρ S S' x y z u v Q E1 hx hy h k
 unfold xIC at h
 split at h
 ·split at h
  ·cases h
   exact ⟨_, _, hx.int_inv, hy.int_inv, hc _ _ (by assumption), k _ _ _ Ext.refl E1 (hg _ _ _ _)⟩
  ·cases h
 ·cases h
theorem re_cmp {p : Int → Int → Bool} (ha : RE K E ta a) (hb : RE K E tb b) : RE K E (tCmp p ta tb) (eOp (xI fun i j => .bl (p i j)) a b) :=
 re_op (r := rI0 fun i j => .bl (p i j)) (r2_I0 fun i k _ _ => .bl _) ha hb
theorem r2_add : R2Ok K (rI0 fun i j => .int (i + j)) dAdd := r2_I0 fun _ _ _ _ => .int _
theorem r2_sub : R2Ok K (rI0 fun i j => .int (i - j)) dSub := r2_I0 fun _ _ _ _ => .int _
theorem r2_mul : R2Ok K (rI CMul fun i j => .int (i * j)) dMul := r2_I (fun i j h => by simpa [CMul] using h) fun _ _ _ _ => .int _
theorem r2_mulB : R2Ok K (rI CMulB fun i j => .int (i * j)) dMulB := r2_I (fun i j h => ⟨intBits i, intBits j, Nat.le_refl _, Nat.le_refl _, by simpa using h⟩) fun _ _ _ _ => .int _
theorem r2_mod : R2Ok K (rI (fun _ j => 0 < j) fun i j => .int (i % j)) dMod := r2_I (fun i j h => by simpa using h) fun _ _ _ _ => .int _
theorem r2_fdivB : R2Ok K (rI CDivB fun i j => .int (i.fdiv j)) dFdivB := r2_I (fun i j h => by simpa [CDivB] using h) fun _ _ _ _ => .int _
theorem r2_pow : R2Ok K (rI CPow fun i j => .int (i ^ j.toNat)) dPow := r2_I (fun i j h => by simpa [CPow] using h) fun _ _ _ _ => .int _
theorem re_lt (ha : RE K E ta a) (hb : RE K E tb b) : RE K E (tLt ta tb) (eOp dLt a b) := re_cmp ha hb
theorem re_gt (ha : RE K E ta a) (hb : RE K E tb b) : RE K E (tGt ta tb) (eOp dGt a b) := re_cmp ha hb
theorem re_eqI (ha : RE K E ta a) (hb : RE K E tb b) : RE K E (tEqI ta tb) (eOp dEqI a b) := re_cmp ha hb
theorem re_neI (ha : RE K E ta a) (hb : RE K E tb b) : RE K E (tNeI ta tb) (eOp dNeI a b) := re_cmp ha hb
theorem r1_neg : R1Ok K (rU fun i => .int (-i)) dNeg := by
 intro F j σ H ρ S S' x z u Q E1 hx h k
 unfold dNeg at h
 split at h
 ·cases h
  exact ⟨_, hx.int_inv, k _ _ _ Ext.refl E1 (.int _)⟩
 ·cases h
noncomputable def dCatT : Op2 := fun x y S => match x, y with
 | .tup a, .tup b => if a.length + b.length ≤ sizeLine then some (.tup (a ++ b), S) else none
 | _, _ => none
theorem r2_catT : R2Ok K (rCatA K) dCatT := by
 intro F j σ H ρ S S' x y z u v Q E1 hx hy h k
 unfold dCatT at h
 split at h
 ·split at h
  ·rename_i hz
   cases h
   obtain ⟨p, xs, rfl, h1, h2⟩ := hx.tup_inv
   obtain ⟨q, ys, rfl, g1, g2⟩ := hy.tup_inv
   refine ⟨p, q, xs, ys, rfl, rfl, SqT.of h1, SqT.of g1, by rw [h2.len, g2.len]; exact hz, fun e => ?_, fun _ e => ?_, fun _ _ l hl => ?_⟩
   ·subst e
    obtain rfl := List.length_eq_zero_iff.1 h2.len.symm
    exact k _ _ _ Ext.refl E1 hy
   ·subst e
    obtain rfl := List.length_eq_zero_iff.1 g2.len.symm
    refine k _ _ _ Ext.refl E1 ?_
    rw [List.append_nil]
    exact hx
   ·obtain ⟨E2, X2⟩ := E1.new (o := .tup (xs ++ ys)) hl
    exact k _ _ _ X2 E2 (.tup upd_same ((h2.append g2).mono X2))
  ·cases h
 ·cases h
noncomputable def xInt1 (g : Int → Xv) : Opn := fun xs S => match xs with
 | [.int i] => some (g i, S)
 | _ => none
theorem rc_int1 {g : Int → V} {g' : Int → Xv} (hg : ∀ i j H, Xis K j H (g' i) (g i)) : RcOk K (fun xs H Q => ∃ i, xs = [V.int i] ∧ Q (g i) H) (xInt1 g') := by
 intro F j σ H ρ S S' xs z vs Q E1 hv h k
 unfold xInt1 at h
 split at h
 ·cases h
  obtain ⟨x, rfl, hx⟩ := hv.d1
  exact ⟨_, by rw [hx.int_inv], k _ _ _ Ext.refl E1 (hg _ _ _)⟩
 ·cases h
noncomputable def dAbs : Opn := xInt1 fun i => .int (if i < 0 then -i else i)
theorem rc_abs : RcOk K (fun xs H Q => ∃ i, xs = [V.int i] ∧ Q (.int (if i < 0 then -i else i)) H) dAbs := rc_int1 fun _ _ _ => .int _
noncomputable def dLen : Opn := fun xs S => match xs with
 | [x] => (seqAt S x).map fun l => (.int l.length, S)
 | _ => none
theorem rc_len : RcOk K (fun xs H Q => ∃ p ys, xs = [V.ref p] ∧ (SqL K H p ys ∨ SqT K H p ys) ∧ Q (.int ys.length) H) dLen := by
 intro F j σ H ρ S S' xs z vs Q E1 hv h k
 unfold dLen at h
 split at h
 ·rename_i x
  cases e : seqAt S x with
  | none => rw [e] at h; cases h
  | some l =>
   rw [e] at h
   cases h
   obtain ⟨w, rfl, hx⟩ := hv.d1
   obtain ⟨a, ws, rfl, h1, h2⟩ := E1.seqAt hx e
   refine ⟨a, ws, rfl, ?_, k _ _ _ Ext.refl E1 (by rw [h2.len]; exact .int _)⟩
   rcases h1 with h1 | h1
   ·exact .inl h1.sql
   ·exact .inr h1
 ·cases h
noncomputable def dList : Opn := fun xs S => match xs with
 | [x] => (seqAt S x).map fun l => (.ref S.length, S ++ [.lst l])
 | _ => none
theorem rc_list : RcOk K (fun xs H Q => ∃ p ys, xs = [V.ref p] ∧ (SqL K H p ys ∨ SqT K H p ys) ∧ ∀ l, H l = none → Q (.ref l) (upd H l (.lst ys))) dList := by
 intro F j σ H ρ S S' xs z vs Q E1 hv h k
 unfold dList at h
 split at h
 ·rename_i x
  cases e : seqAt S x with
  | none => rw [e] at h; cases h
  | some l =>
   rw [e] at h
   cases h
   obtain ⟨w, rfl, hx⟩ := hv.d1
   obtain ⟨a, ws, rfl, h1, h2⟩ := E1.seqAt hx e
   refine ⟨a, ws, rfl, ?_, fun p hp => ?_⟩
   ·rcases h1 with h1 | h1
    ·exact .inl h1.sql
    ·exact .inr h1
   ·obtain ⟨E2, X2, h3⟩ := E1.lst h2 hp
    exact k _ _ _ X2 E2 h3
 ·cases h
noncomputable def dTuple : Opn := fun xs S => match xs with
 | [.tup l] => some (.tup l, S)
 | [x] => (lstAt S x).map fun l => (.tup l, S)
 | _ => none
theorem rc_tuple : RcOk K (fun xs H Q => ∃ p ys, xs = [V.ref p] ∧ ((SqL K H p ys ∧ ∀ l, H l = none → Q (.ref l) (upd H l (.tup ys))) ∨ (SqT K H p ys ∧ Q (.ref p) H))) dTuple := by
 intro F j σ H ρ S S' xs z vs Q E1 hv h k
 unfold dTuple at h
 split at h
 ·cases h
  obtain ⟨w, rfl, hx⟩ := hv.d1
  obtain ⟨a, ws, rfl, h1, h2⟩ := hx.tup_inv
  exact ⟨a, ws, rfl, .inr ⟨SqT.of h1, k _ _ _ Ext.refl E1 hx⟩⟩
 ·rename_i x _
  cases e : lstAt S x with
  | none => rw [e] at h; cases h
  | some l =>
   rw [e] at h
   cases h
   obtain ⟨w, rfl, hx⟩ := hv.d1
   obtain ⟨a, ws, rfl, h1, h2⟩ := E1.lstAt hx e
   refine ⟨a, ws, rfl, .inl ⟨h1.sql, fun p hp => ?_⟩⟩
   obtain ⟨E2, X2⟩ := E1.new (o := .tup ws) hp
   exact k _ _ _ X2 E2 (.tup upd_same (h2.mono X2))
 ·cases h
noncomputable def dEqS (neg : Bool) : Op2 := fun x y S => match x, y with
 | .int a, .int b => some (.bl (neg != decide (a = b)), S)
 | .str a, .str b => some (.bl (neg != decide (a = b)), S)
 | .bl a, .bl b => some (.bl (neg != decide (a = b)), S)
 | .non, .non => some (.bl (neg != true), S)
 | .int _, .str _ => some (.bl (neg != false), S)
 | .str _, .int _ => some (.bl (neg != false), S)
 | _, _ => none
theorem r2_eqS : R2Ok K rEq (dEqS false) := by
 intro F j σ H ρ S S' x y z u v Q E1 hx hy h k
 cases hx <;> cases hy <;> simp only [dEqS, reduceCtorEq, Option.some.injEq, Prod.mk.injEq, Bool.false_bne] at h <;> obtain ⟨rfl, rfl⟩ := h <;> refine ⟨rfl, k _ _ _ Ext.refl E1 ?_⟩ <;> simp <;> exact .bl _
noncomputable def tellL (f : Xv → Option D) : List Xv → Option (List D)
 | [] => some []
 | x :: r => (f x).bind fun d => (tellL f r).map (d :: ·)
noncomputable def tell (S : Sto) : Nat → Xv → Option D
 | 0, x => match x with
  | .non => some .non
  | .bl b => some (.bl b)
  | .int i => some (.int i)
  | .str s => some (.str s)
  | _ => none
 | n + 1, x => match x with
  | .non => some .non
  | .bl b => some (.bl b)
  | .int i => some (.int i)
  | .str s => some (.str s)
  | .tup l => (tellL (tell S n) l).map .tup
  | .ct l => (tellL (tell S n) l).map .tup
  | .ref m => (lstAt S (.ref m)).bind fun l => (tellL (tell S n) l).map .lst
theorem tellL_is {f : Xv → Option D} {n : Nat} (hf : ∀ x v d, Xis K j H x v → f x = some d → Is K H v d ∧ D.depth d ≤ n) : ∀ {xs : List Xv} {vs : List V} {ds : List D}, XisL K j H xs vs → tellL f xs = some ds → IsL K H vs ds ∧ D.depths ds ≤ n
 | _, _, _, .nil, e => by cases e; exact ⟨.nil, by simp [D.depths]⟩
 | x :: r, _, ds, .cons h l, e => by
  unfold tellL at e
  cases e1 : f x with
  | none => rw [e1] at e; cases e
  | some d =>
   rw [e1] at e
   cases e2 : tellL f r with
   | none => simp [e2] at e
   | some es =>
    simp [e2] at e
    subst e
    obtain ⟨a1, a2⟩ := hf _ _ _ h e1
    obtain ⟨b1, b2⟩ := tellL_is hf l e2
    exact ⟨.cons a1 b1, by unfold D.depths; omega⟩
theorem tell_is (E1 : En K F j H σ ρ S) : ∀ (n : Nat) (x : Xv) (v : V) (d : D), Xis K j H x v → tell S n x = some d → Is K H v d ∧ D.depth d ≤ n
 | 0, x, v, d, h, e => by
  cases h <;> simp only [tell, Option.some.injEq, reduceCtorEq] at e <;> subst e <;> refine ⟨by constructor, by simp [D.depth]⟩
 | n + 1, x, v, d, h, e => by
  have ih := tell_is E1 n
  cases h with
  | non => simp only [tell, Option.some.injEq] at e; subst e; exact ⟨.non, by simp [D.depth]⟩
  | bl b => simp only [tell, Option.some.injEq] at e; subst e; exact ⟨.bl b, by simp [D.depth]⟩
  | int b => simp only [tell, Option.some.injEq] at e; subst e; exact ⟨.int b, by simp [D.depth]⟩
  | str b => simp only [tell, Option.some.injEq] at e; subst e; exact ⟨.str b, by simp [D.depth]⟩
  | @tup a vs l h1 h2 =>
   simp only [tell] at e
   cases e2 : tellL (tell S n) l with
   | none => rw [e2] at e; cases e
   | some ds =>
    rw [e2] at e
    cases e
    obtain ⟨a1, a2⟩ := tellL_is ih h2 e2
    exact ⟨.tup (SqT.of h1) a1, by unfold D.depth; omega⟩
  | @ct a vs l h1 h2 =>
   simp only [tell] at e
   cases e2 : tellL (tell S n) l with
   | none => rw [e2] at e; cases e
   | some ds =>
    rw [e2] at e
    cases e
    obtain ⟨a1, a2⟩ := tellL_is ih h2 e2
    exact ⟨.tup (h1 H) a1, by unfold D.depth; omega⟩
  | @ref m a h1 =>
   simp only [tell] at e
   cases e1 : lstAt S (.ref m) with
   | none => rw [e1] at e; cases e
   | some l =>
    rw [e1] at e
    cases e2 : tellL (tell S n) l with
    | none => simp [e2] at e
    | some ds =>
     simp [e2] at e
     subst e
     obtain ⟨a', vs, ea, g1, g2⟩ := E1.lstAt (.ref h1) e1
     cases ea
     obtain ⟨a1, a2⟩ := tellL_is ih g2 e2
     exact ⟨.lst g1.sql a1, by unfold D.depth; omega⟩
noncomputable def D.many : D → Bool
 | .tup _ => true
 | .lst _ => true
 | _ => false
noncomputable def isiX (c : String) (S : Sto) : Xv → Option Bool
 | .non => some false
 | .int _ => some (c == "int")
 | .bl _ => some (c == "bool" || c == "int")
 | .str _ => some (c == "str")
 | .tup _ => some (c == "tuple")
 | .ct _ => some (c == "tuple")
 | .ref n => (lstAt S (.ref n)).map fun _ => c == "list"
structure IsiOk (c : String) : Prop where
 non : ∀ K, PySem.W.kitOne K (.type "NoneType") (.type c) = some false
 bl : ∀ K, PySem.W.kitOne K (.type "bool") (.type c) = some (c == "bool" || c == "int")
 int : ∀ K, PySem.W.kitOne K (.type "int") (.type c) = some (c == "int")
 str : ∀ K, PySem.W.kitOne K (.type "str") (.type c) = some (c == "str")
 tup : ∀ K, PySem.W.kitOne K (.type "tuple") (.type c) = some (c == "tuple")
 lst : ∀ K, PySem.W.kitOne K (.type "list") (.type c) = some (c == "list")
theorem kitN (a b : String) (K : PySem.W.Frag) (h1 : (Value.type a == Value.type b) = false) (h : (fastBuiltinMro a).map (·.contains (.type b)) = some false) (hm : PySem.W.kitMeta b = true) : PySem.W.kitOne K (.type a) (.type b) = some false := kit_no h1 h hm rfl
theorem isi_list : IsiOk "list" := ⟨fun K => kitN _ _ K (by decide) (by decide +kernel) (by decide +kernel), fun K => kitN _ _ K (by decide) (by decide +kernel) (by decide +kernel), fun K => kitN _ _ K (by decide) (by decide +kernel) (by decide +kernel), fun K => kitN _ _ K (by decide) (by decide +kernel) (by decide +kernel), fun K => kitN _ _ K (by decide) (by decide +kernel) (by decide +kernel), fun K => kit_same⟩
noncomputable def dIsi (c : String) : Xv → Sto → Option (Xv × Sto) := fun x S => (isiX c S x).map fun b => (.bl b, S)
theorem isi_xis {c : String} (ok : IsiOk c) (E1 : En K F j H σ ρ S) {b : Bool} {Q : VK} (h : Xis K j H x v) (e : isiX c S x = some b) (k : Q (.bl b) H) : rIsi K [v, .ty c] H Q := by
 cases h with
 | non => cases e; exact ⟨_, _, _, _, _, rfl, rfl, .of .non, ok.non K, k⟩
 | bl b => cases e; exact ⟨_, _, _, _, _, rfl, rfl, .of (.bl b), ok.bl K, k⟩
 | int i => cases e; exact ⟨_, _, _, _, _, rfl, rfl, .of (.int i), ok.int K, k⟩
 | str z => cases e; exact ⟨_, _, _, _, _, rfl, rfl, .of (.str z), ok.str K, k⟩
 | tup h l => cases e; exact ⟨_, _, _, _, _, rfl, rfl, .sqt (SqT.of h), ok.tup K, k⟩
 | ct h l => cases e; exact ⟨_, _, _, _, _, rfl, rfl, .sqt (h H), ok.tup K, k⟩
 | @ref n a h =>
  simp only [isiX] at e
  cases e1 : lstAt S (.ref n) with
  | none => rw [e1] at e; cases e
  | some l =>
   rw [e1] at e
   cases e
   obtain ⟨a', vs, ea, g1, g2⟩ := E1.lstAt (.ref h) e1
   cases ea
   exact ⟨_, _, _, _, _, rfl, rfl, .sql g1.sql, ok.lst K, k⟩
theorem re_isi {c : String} {t : TE} {m : TwE} (ok : IsiOk c) (h : RE K E t m) : RE K E (tCB (rIsi K) (tCons t (tCons (tC (.ty c)) tNil))) (eUn (dIsi c) m) := by
 intro F j σ H ρ S r Q En0 e k
 rcases rb_some e with ⟨x, S1, e1, e⟩ | ⟨c, S1, e1, rfl⟩
 ·obtain ⟨z, S3, e3, rfl⟩ := okP_some e
  unfold dIsi at e3
  cases e4 : isiX c S1 x with
  | none => rw [e4] at e3; cases e3
  | some b =>
   rw [e4] at e3
   cases e3
   exact h En0 e1 fun j1 H1 X1 E1 u hu => isi_xis ok E1 hu e4 (k _ _ X1 E1 _ (.bl _))
 ·exact h En0 e1 k
end
end L2
namespace L2
open PySem PySem.Spec PyProof.Rows
noncomputable def keyX : Xv → Option Key
 | .int i => some (.inl i)
 | .str z => some (.inr z)
 | _ => none
noncomputable def dkAt (S : Sto) : Xv → Option (Nat × List (Key × Xv))
 | .ref n => match S[n]? with
  | some (.dk kvs) => some (n, kvs)
  | _ => none
 | _ => none
noncomputable def valX {κ : Type} [DecidableEq κ] (kvs : List (κ × Xv)) (k : κ) : Option Xv := (kvs.find? fun kv => decide (kv.1 = k)).map (·.2)
noncomputable def putX {κ : Type} [DecidableEq κ] (kvs : List (κ × Xv)) (k : κ) (x : Xv) : List (κ × Xv) :=
 if (kvs.any fun kv => decide (kv.1 = k)) = true then kvs.map (fun kv => if kv.1 = k then (kv.1, x) else kv) else kvs ++ [(k, x)]
section
variable {K : PySem.W.Frag} {E : XK} {F : Fm} {j : List Addr} {H : Hp} {σ : St} {ρ : Rho} {S : Sto} {x : Xv} {v : V} {κ : Type}
theorem keyX_is {k : Key} (h : Xis K j H x v) (e : keyX x = some k) : v = kV k := by
 cases h <;> simp only [keyX, Option.some.injEq, reduceCtorEq] at e <;> subst e <;> rfl
theorem dkAt_some {n : Nat} {kvs : List (Key × Xv)} (h : dkAt S x = some (n, kvs)) : x = .ref n ∧ S[n]? = some (.dk kvs) := by
 cases x <;> simp only [dkAt, reduceCtorEq] at h
 split at h
 ·cases h; exact ⟨rfl, by assumption⟩
 ·cases h
theorem En.dk {n : Nat} {kvs : List (Key × Xv)} (E1 : En K F j H σ ρ S) (hx : Xis K j H x v) (h : dkAt S x = some (n, kvs)) : ∃ a ks, v = .ref a ∧ j[n]? = some a ∧ H a = some (.dK ks) ∧ KX K j H kvs ks := by
 obtain ⟨rfl, hs⟩ := dkAt_some h
 obtain ⟨a, rfl, hj⟩ := hx.ref_inv
 obtain ⟨ks, e1, e2⟩ := E1.cel _ _ _ hs hj
 exact ⟨a, ks, rfl, hj, e1, e2⟩
theorem KX.len : ∀ {kvs : List (κ × Xv)} {ks : List (κ × V)}, KX K j H kvs ks → ks.length = kvs.length
 | _, _, .nil => rfl
 | _, _, .cons _ l => by rw [List.length_cons, List.length_cons, l.len]
theorem KX.keys : ∀ {kvs : List (κ × Xv)} {ks : List (κ × V)}, KX K j H kvs ks → ks.map (·.1) = kvs.map (·.1)
 | _, _, .nil => rfl
 | _, _, .cons _ l => by rw [List.map_cons, List.map_cons, l.keys]
theorem KX.val [DecidableEq κ] {k : κ} : ∀ {kvs : List (κ × Xv)} {ks : List (κ × V)}, KX K j H kvs ks → (∀ y, valX kvs k = some y → ∃ w, valV ks k = some w ∧ Xis K j H y w) ∧ (valX kvs k = none → valV ks k = none)
 | _, _, .nil => ⟨fun _ e => by simp [valX] at e, fun _ => rfl⟩
 | (k1, y1) :: r, (_, w1) :: rs, .cons h l => by
  obtain ⟨i1, i2⟩ := KX.val (k := k) l
  by_cases e : k1 = k
  ·subst e
   refine ⟨fun y ey => ?_, fun ey => ?_⟩
   ·simp [valX] at ey
    subst ey
    exact ⟨w1, by simp [valV], h⟩
   ·simp [valX] at ey
  ·have e1 : valX ((k1, y1) :: r) k = valX r k := by simp [valX, List.find?_cons, e]
   have e2 : valV ((k1, w1) :: rs) k = valV rs k := by simp [valV, List.find?_cons, e]
   rw [e1, e2]
   exact ⟨i1, i2⟩
theorem KX.append : ∀ {kvs r : List (κ × Xv)} {ks rs : List (κ × V)}, KX K j H kvs ks → KX K j H r rs → KX K j H (kvs ++ r) (ks ++ rs)
 | _, _, _, _, .nil, h => h
 | _, _, _, _, .cons h l, g => .cons h (l.append g)
theorem KX.any {f : κ → Bool} : ∀ {kvs : List (κ × Xv)} {ks : List (κ × V)}, KX K j H kvs ks → (ks.any fun p => f p.1) = kvs.any fun p => f p.1
 | _, _, .nil => rfl
 | _, _, .cons _ l => by rw [List.any_cons, List.any_cons, l.any]
theorem KX.put [DecidableEq κ] {k : κ} (hx : Xis K j H x v) {kvs : List (κ × Xv)} {ks : List (κ × V)} (h : KX K j H kvs ks) : KX K j H (putX kvs k x) (putK ks k v) := by
 unfold putX putK
 rw [h.any (f := fun a => decide (a = k))]
 split
 ·rename_i hc
  clear hc
  induction h with
  | nil => exact .nil
  | @cons k1 y w r rs h l ih =>
   rw [List.map_cons, List.map_cons]
   by_cases e : k1 = k
   ·rw [if_pos e, if_pos e]; exact .cons hx ih
   ·rw [if_neg e, if_neg e]; exact .cons h ih
 ·exact h.append (.cons hx .nil)
theorem En.wdk {n : Nat} {kvs kvs' : List (Key × Xv)} {ws : List (Key × V)} {a : Addr} (E1 : En K F j H σ ρ S) (h : dkAt S x = some (n, kvs)) (hj : j[n]? = some a) (hw : KX K j H kvs' ws) : En K F j (upd H a (.dK ws)) σ ρ (S.set n (.dk kvs')) ∧ Ext j H j (upd H a (.dK ws)) :=
 E1.write (dkAt_some h).2 rfl hj rfl fun X => ⟨ws, upd_same, hw.mono X⟩
noncomputable def eDict0 : TwE := fun _ S => some (.ok (.ref S.length) (S ++ [.dk []]))
theorem re_dnew : RE K E tDNewK eDict0 := by
 intro F j σ H ρ S r Q En0 e k p hp
 cases e
 have X : Ext j H (j ++ [p]) (upd H p (.dK [])) := ⟨fun n a e => by rw [List.getElem?_append_left (List.getElem?_eq_some_iff.1 e).1]; exact e, KeepI.same (same_upd hp)⟩
 obtain ⟨E1, _⟩ := En0.cell (o := .dK []) (c := .dk []) hp ⟨[], upd_same, .nil⟩
 exact k _ _ X E1 _ (.ref (by rw [← En0.jl]; simp))
theorem dget_of {a : Addr} {ks : List (Key × V)} {kvs : List (Key × Xv)} {key : Key} (f1 : H a = some (.dK ks)) (f2 : KX K j H kvs ks) : ∃ o, DGet H a (kV key) o ∧ o.isSome = (valX kvs key).isSome ∧ ∀ z zd, Xis K j H z zd → Xis K j H ((valX kvs key).getD z) (o.getD zd) := by
 refine ⟨_, DGet.k f1, ?_, fun z zd hz => ?_⟩
 ·cases ev : valX kvs key with
  | none => rw [f2.val.2 ev]; rfl
  | some y => obtain ⟨w, g1, _⟩ := f2.val.1 _ ev; rw [g1]; rfl
 ·cases ev : valX kvs key with
  | none => rw [f2.val.2 ev]; exact hz
  | some y => obtain ⟨w, g1, g2⟩ := f2.val.1 _ ev; rw [g1]; exact g2
noncomputable def ikeys {β : Type} : List (Key × β) → Option (List Int)
 | [] => some []
 | (.inl i, _) :: r => (ikeys r).map (i :: ·)
 | _ => none
theorem ikeys_map {β : Type} : ∀ {kvs : List (Key × β)} {ns : List Int}, ikeys kvs = some ns → kvs.map (·.1) = ns.map Sum.inl
 | [], ns, e => by cases e; rfl
 | (.inl i, b) :: r, ns, e => by
  unfold ikeys at e
  cases e1 : ikeys r with
  | none => rw [e1] at e; cases e
  | some ms => rw [e1] at e; cases e; rw [List.map_cons, List.map_cons, ikeys_map e1]
 | (.inr i, b) :: r, ns, e => by cases e
noncomputable def dSortD : Opn := fun xs S => match xs with
 | [x] => ((dkAt S x).bind fun p => ikeys p.2).bind fun ns => if ns.length < 64 then some (.ref S.length, S ++ [.lst ((sortI ns).map Xv.int)]) else none
 | _ => none
theorem rc_sortD : RcOk K rSortD dSortD := by
 intro F j σ H ρ S S' xs z vs Q E1 hv h k
 unfold dSortD at h
 split at h
 ·rename_i x
  cases e : dkAt S x with
  | none => rw [e] at h; cases h
  | some p =>
   obtain ⟨n, kvs⟩ := p
   rw [e] at h
   cases e2 : ikeys kvs with
   | none => simp [e2] at h
   | some ns =>
    simp only [Option.bind_some, e2] at h
    split at h
    ·rename_i h64
     cases h
     obtain ⟨w, rfl, hx⟩ := hv.d1
     obtain ⟨a, ks, rfl, hj, h1, h2⟩ := E1.dk hx e
     refine ⟨a, ks, ns, rfl, h1, h2.keys.trans (ikeys_map e2), h64, fun q hq => ?_⟩
     obtain ⟨E2, X2, h3⟩ := E1.lst (XisL.ints (sortI ns)) hq
     exact k _ _ _ X2 E2 h3
    ·cases h
 ·cases h
end
end L2
namespace L2
open PySem PySem.Spec PyProof.Rows
open PySem.Builtin.Int (intBits)
noncomputable def W {α : Type} (r : Option (Rs α)) (P : α → Sto → Prop) : Prop := ∃ a S, r = some (.ok a S) ∧ P a S
noncomputable def WO (r : Option (Xv × Sto)) (P : Xv → Sto → Prop) : Prop := ∃ a S, r = some (a, S) ∧ P a S
noncomputable def WS (r : Option Fl) (N : Rho → Sto → Prop) (R : Xv → Sto → Prop) : Prop := (∃ ρ S, r = some (.nx ρ S) ∧ N ρ S) ∨ ∃ x S, r = some (.rt x S) ∧ R x S
section
variable {ρ : Rho} {S S' : Sto} {d x y : Xv} {a b m o : TwE} {c : TwT} {s t : TwS} {i k : Nat} {P : Xv → Sto → Prop} {PB : Bool → Sto → Prop} {PL : List Xv → Sto → Prop} {PO : Option Int → Sto → Prop} {N : Rho → Sto → Prop} {R : Xv → Sto → Prop}
theorem W.of {α : Type} {r : Option (Rs α)} {a : α} {P : α → Sto → Prop} (e : r = some (.ok a S)) (h : P a S) : W r P := ⟨a, S, e, h⟩
theorem WO.of {r : Option (Xv × Sto)} (e : r = some (x, S)) (h : P x S) : WO r P := ⟨x, S, e, h⟩
theorem W.imp {α : Type} {r : Option (Rs α)} {P Q : α → Sto → Prop} (h : W r P) (k : ∀ a S, P a S → Q a S) : W r Q := by
 obtain ⟨a, S, e, h⟩ := h
 exact ⟨a, S, e, k _ _ h⟩
theorem WS.nx {r : Option Fl} (e : r = some (.nx ρ S)) (h : N ρ S) : WS r N R := .inl ⟨ρ, S, e, h⟩
theorem WS.rt {r : Option Fl} (e : r = some (.rt x S)) (h : R x S) : WS r N R := .inr ⟨x, S, e, h⟩
theorem W.bind {α β : Type} {r : Option (Rs α)} {f : α → Sto → Option (Rs β)} {P : β → Sto → Prop} (h : W r fun a S => W (f a S) P) : W (rb r f) P := by
 obtain ⟨a, S, rfl, h⟩ := h
 exact h
theorem WS.bind {α : Type} {r : Option (Rs α)} {f : α → Sto → Option Fl} (h : W r fun a S => WS (f a S) N R) : WS (sb r f) N R := by
 obtain ⟨a, S, rfl, h⟩ := h
 exact h
theorem W.okP {r : Option (Xv × Sto)} (h : WO r P) : W (okP r) P := by
 obtain ⟨a, S, rfl, h⟩ := h
 exact ⟨a, S, rfl, h⟩
theorem wx_var (h : ρ[i]? = some (some d)) (k : P d S) : W (eVar i ρ S) P := .of (by unfold eVar; rw [h]) k
theorem wx_c (k : P d S) : W (eC d ρ S) P := .of rfl k
theorem wx_op {f : Op2} (h : W (a ρ S) fun x S1 => W (b ρ S1) fun y S2 => WO (f x y S2) P) : W (eOp f a b ρ S) P := W.bind (h.imp fun _ _ h => W.bind (h.imp fun _ _ h => W.okP h))
theorem wx_un {f : Xv → Sto → Option (Xv × Sto)} (h : W (a ρ S) fun x S1 => WO (f x S1) P) : W (eUn f a ρ S) P := W.bind (h.imp fun _ _ h => W.okP h)
theorem wx_bE (h : W (a ρ S) fun x S1 => ∃ v, x = .bl v ∧ PB v S1) : W (bE a ρ S) PB := W.bind (h.imp fun x S1 h => by obtain ⟨v, rfl, k⟩ := h; exact .of rfl k)
theorem wx_not (h : W (c ρ S) fun v S1 => PB (!v) S1) : W (bNot c ρ S) PB := W.bind (h.imp fun _ _ k => .of rfl k)
theorem wx_and {c2 : TwT} (h : W (c ρ S) fun v S1 => (v = true → W (c2 ρ S1) PB) ∧ (v = false → PB false S1)) : W (bAnd c c2 ρ S) PB := W.bind (h.imp fun v S1 k => by
 cases v with
 | true => rw [if_pos rfl]; exact k.1 rfl
 | false => exact .of rfl (k.2 rfl))
theorem wx_or {c2 : TwT} (h : W (c ρ S) fun v S1 => (v = true → PB true S1) ∧ (v = false → W (c2 ρ S1) PB)) : W (bOr c c2 ρ S) PB := W.bind (h.imp fun v S1 k => by
 cases v with
 | true => exact .of rfl (k.1 rfl)
 | false => rw [if_neg (by simp)]; exact k.2 rfl)
theorem wx_eAnd (h : W (a ρ S) fun x S1 => ∃ v, x = .bl v ∧ (v = true → W (b ρ S1) P) ∧ (v = false → P (.bl false) S1)) : W (eAnd a b ρ S) P := W.bind ((wx_bE h).imp fun v S1 k => by
 cases v with
 | true => rw [if_pos rfl]; exact k.1 rfl
 | false => exact .of rfl (k.2 rfl))
theorem wx_nil (k : PL [] S) : W (evL [] ρ S) PL := .of rfl k
theorem wx_cons {ms : List TwE} (h : W (m ρ S) fun d S1 => W (evL ms ρ S1) fun ds S2 => PL (d :: ds) S2) : W (evL (m :: ms) ρ S) PL := W.bind (h.imp fun _ _ h => W.bind (h.imp fun _ _ k => .of rfl k))
theorem wx_tup {ms : List TwE} (h : W (evL ms ρ S) fun ds S1 => P (.tup ds) S1) : W (eTup ms ρ S) P := W.bind (h.imp fun _ _ k => .of rfl k)
theorem wx_lst {ms : List TwE} (h : W (evL ms ρ S) fun ds S1 => P (.ref S1.length) (S1 ++ [.lst ds])) : W (eLst ms ρ S) P := W.bind (h.imp fun _ _ k => .of rfl k)
theorem wx_fn {f : Opn} {ms : List TwE} (h : W (evL ms ρ S) fun ds S1 => WO (f ds S1) P) : W (eFn f ms ρ S) P := W.bind (h.imp fun _ _ h => W.okP h)
theorem wx_call {tw : TwF} {ms : List TwE} (h : W (evL ms ρ S) fun ds S1 => W (tw ds S1) P) : W (eCall tw ms ρ S) P := W.bind h
theorem wx_oNo (k : PO none S) : W (oNo ρ S) PO := .of rfl k
theorem wx_oSome (h : W (m ρ S) fun x S1 => ∃ k, x = .int k ∧ PO (some k) S1) : W (oSome m ρ S) PO := W.bind (h.imp fun x S1 h => by obtain ⟨v, rfl, k⟩ := h; exact .of rfl k)
theorem wx_sl {f : Xv → Option Int → Option Int → Sto → Option (Xv × Sto)} {lo hi : TwO} (h : W (m ρ S) fun x S1 => W (lo ρ S1) fun u S2 => W (hi ρ S2) fun v S3 => WO (f x u v S3) P) : W (eSl f m lo hi ρ S) P :=
 W.bind (h.imp fun _ _ h => W.bind (h.imp fun _ _ h => W.bind (h.imp fun _ _ h => W.okP h)))
theorem wx_mt {f : OpM} {ms : List TwE} (h : W (o ρ S) fun x S1 => (∃ l, lstAt S1 x = some l) ∧ W (evL ms ρ S1) fun ys S2 => WO (f x ys S2) P) : W (eMt f o ms ρ S) P := W.bind (h.imp fun x S1 h => by
 obtain ⟨⟨l, e⟩, h⟩ := h
 rw [e, Option.bind_some]
 exact W.bind (h.imp fun _ _ h => W.okP h))
theorem wx_dict0 (k : P (.ref S.length) (S ++ [.dk []])) : W (eDict0 ρ S) P := .of rfl k
theorem wx_seq (h : WS (s ρ S) (fun ρ1 S1 => WS (t ρ1 S1) N R) R) : WS (sSeq s t ρ S) N R := by
 unfold sSeq
 rcases h with ⟨ρ1, S1, e, h⟩ | ⟨x, S1, e, h⟩
 ·rw [e]; exact h
 ·rw [e]; exact .rt rfl h
theorem wx_next (h : N ρ S) : WS (sNext ρ S) N R := .nx rfl h
theorem wx_asg {g : TwG} (h : W (m ρ S) fun d S1 => W (g d ρ S1) N) : WS (sAsg m g ρ S) N R := WS.bind (h.imp fun _ _ h => WS.bind (h.imp fun _ _ k => .nx rfl k))
theorem wx_set (h : W (m ρ S) fun d S1 => N (ρ.set i (some d)) S1) : WS (sAsg m (gN i) ρ S) N R := WS.bind (h.imp fun _ _ k => .nx rfl k)
theorem wx_expr (h : W (m ρ S) fun _ S1 => N ρ S1) : WS (sExpr m ρ S) N R := WS.bind (h.imp fun _ _ k => .nx rfl k)
theorem wx_ret (h : W (m ρ S) fun d S1 => R d S1) : WS (sRet m ρ S) N R := WS.bind (h.imp fun _ _ k => .rt rfl k)
theorem wx_if (h : W (c ρ S) fun v S1 => (v = true → WS (s ρ S1) N R) ∧ (v = false → WS (t ρ S1) N R)) : WS (sIf c s t ρ S) N R := WS.bind (h.imp fun v S1 k => by
 cases v with
 | true => rw [if_pos rfl]; exact k.1 rfl
 | false => rw [if_neg (by simp)]; exact k.2 rfl)
theorem wx_par {ms : List TwE} (h : W (evL ms ρ S) fun l S1 => ∃ x y, l = [x, y] ∧ N ((ρ.set i (some x)).set k (some y)) S1) : WS (sPar i k ms ρ S) N R := WS.bind (h.imp fun l S1 h => by
 obtain ⟨x, y, rfl, q⟩ := h
 exact .nx rfl q)
theorem wx_wh {n : Nat} (h : WS (whTw c s n ρ S) N R) : WS (sWh n c s ρ S) N R := h
theorem wx_turn {n : Nat} (h : W (c ρ S) fun v S1 => (v = true → WS (s ρ S1) (fun ρ2 S2 => WS (whTw c s n ρ2 S2) N R) R) ∧ (v = false → N ρ S1)) : WS (whTw c s (n + 1) ρ S) N R := by
 unfold whTw
 refine WS.bind (h.imp fun v S1 k => ?_)
 cases v with
 | true =>
  rw [if_pos rfl]
  rcases k.1 rfl with ⟨ρ2, S2, e2, h⟩ | ⟨x, S2, e2, h⟩
  ·rw [e2]; exact h
  ·rw [e2]; exact .rt rfl h
 | false => exact .nx rfl (k.2 rfl)
theorem wx_for {n : TwI} {g : TwG} (h : W (n ρ S) fun get S1 => ∃ xs, get S1 = some xs ∧ WS (forTw get g s (xs.length + 1) 0 ρ S1) N R) : WS (sFor n g s ρ S) N R := WS.bind (h.imp fun get S1 h => by
 obtain ⟨xs, e, h⟩ := h
 rw [e, Option.bind_some]
 exact h)
theorem wx_forI {get : Sto → Option (List Xv)} {g : TwG} {xs : List Xv} (J : Nat → Rho → Sto → Prop) (hg : ∀ i ρ S, i ≤ xs.length → J i ρ S → get S = some xs)
  (h : ∀ (i : Nat) (x : Xv) ρ S, xs[i]? = some x → J i ρ S → W (g x ρ S) fun ρ1 S1 => WS (s ρ1 S1) (fun ρ2 S2 => J (i + 1) ρ2 S2) R) (h0 : J 0 ρ S) (k : ∀ ρ S, J xs.length ρ S → N ρ S) : WS (forTw get g s (xs.length + 1) 0 ρ S) N R := by
 have aux : ∀ (n i : Nat) (ρ : Rho) (S : Sto), i + n = xs.length → J i ρ S → WS (forTw get g s (n + 1) i ρ S) N R := by
  intro n
  induction n with
  | zero =>
   intro i ρ S e hj
   unfold forTw
   rw [hg i ρ S (by omega) hj, Option.bind_some, List.getElem?_eq_none (by omega)]
   dsimp only
   rw [if_pos (by omega)]
   exact .nx rfl (k ρ S (by rw [show xs.length = i by omega]; exact hj))
  | succ n ih =>
   intro i ρ S e hj
   unfold forTw
   have hi : i < xs.length := by omega
   rw [hg i ρ S (by omega) hj, Option.bind_some, List.getElem?_eq_getElem hi]
   refine WS.bind ((h i _ ρ S (List.getElem?_eq_getElem hi) hj).imp fun ρ1 S1 h1 => ?_)
   rcases h1 with ⟨ρ2, S2, e2, h2⟩ | ⟨x, S2, e2, h2⟩
   ·rw [e2]; exact ih (i + 1) ρ2 S2 (by omega) h2
   ·rw [e2]; exact .rt rfl h2
 exact aux xs.length 0 ρ S (by omega) h0
theorem wx_iL (h : W (m ρ S) fun x S1 => ∃ l, lstAt S1 x = some l ∧ Q' (fun S => lstAt S x) S1) : W (iL m ρ S) Q' := W.bind (h.imp fun x S1 h => by
 obtain ⟨l, e, k⟩ := h
 rw [e]
 exact .of rfl k)
theorem wx_iR1 {Q' : (Sto → Option (List Xv)) → Sto → Prop} (h : W (m ρ S) fun x S1 => ∃ k : Int, x = .int k ∧ (-(2 ^ 62) ≤ k ∧ k < 2 ^ 62) ∧ Q' (fun _ => some (rangeX 0 k.toNat)) S1) : W (iR1 m ρ S) Q' := W.bind (h.imp fun x S1 h => by
 obtain ⟨k, rfl, hk, q⟩ := h
 dsimp only
 rw [if_pos hk]
 exact .of rfl q)
theorem rangeX_at {lo : Int} {n i : Nat} {x : Xv} (h : (rangeX lo n)[i]? = some x) : i < n ∧ x = .int (lo + i) := by
 unfold rangeX at h
 rw [List.getElem?_map] at h
 have hi : i < n := by
  apply Classical.byContradiction
  intro hn
  rw [List.getElem?_eq_none (by simp; omega)] at h
  cases h
 rw [List.getElem?_range hi] at h
 cases h
 exact ⟨hi, rfl⟩
theorem rangeX_len {lo : Int} {n : Nat} : (rangeX lo n).length = n := by simp [rangeX]
theorem wx_comp {cap : List (Option Nat)} {n : TwI} {g : TwG} (h : W (n ρ S) fun get S1 => ∃ xs, get S1 = some xs ∧ W (compTw get g c m (capR cap ρ) (xs.length + 1) 0 [] S1) P) : W (eComp cap n g c m ρ S) P := W.bind (h.imp fun get S1 h => by
 obtain ⟨xs, e, h⟩ := h
 rw [e, Option.bind_some]
 exact h)
theorem wx_compI {get : Sto → Option (List Xv)} {g : TwG} {ρc : Rho} {xs : List Xv} (hl : xs.length ≤ sizeLine) (J : Nat → List Xv → Sto → Prop) (hg : ∀ i es S, i ≤ xs.length → J i es S → get S = some xs)
  (h : ∀ (i : Nat) (x : Xv) es S, xs[i]? = some x → es.length = i → J i es S → W (g x ρc S) fun ρ1 S1 => W (c ρ1 S1) fun b S2 => b = true ∧ W (m ρ1 S2) fun y S3 => J (i + 1) (es ++ [y]) S3) (h0 : J 0 [] S)
  (k : ∀ es S, es.length = xs.length → J xs.length es S → P (.ref S.length) (S ++ [.lst es])) : W (compTw get g c m ρc (xs.length + 1) 0 [] S) P := by
 have aux : ∀ (n i : Nat) (es : List Xv) (S : Sto), i + n = xs.length → es.length = i → J i es S → W (compTw get g c m ρc (n + 1) i es S) P := by
  intro n
  induction n with
  | zero =>
   intro i es S e el hj
   unfold compTw
   rw [hg i es S (by omega) hj, Option.bind_some, List.getElem?_eq_none (by omega)]
   dsimp only
   rw [if_pos (by omega)]
   exact .of rfl (k es S (by omega) (by rw [show xs.length = i by omega]; exact hj))
  | succ n ih =>
   intro i es S e el hj
   unfold compTw
   have hi : i < xs.length := by omega
   rw [hg i es S (by omega) hj, Option.bind_some, List.getElem?_eq_getElem hi]
   obtain ⟨ρ1, S1, e1, b, S2, e2, rfl, y, S3, e3, q⟩ := h i _ es S (List.getElem?_eq_getElem hi) el hj
   dsimp only [rn]
   rw [e1]
   dsimp only [rn]
   rw [e2]
   dsimp only [rn]
   rw [if_pos rfl, e3]
   dsimp only [rn]
   rw [if_pos (by omega)]
   exact ih (i + 1) (es ++ [y]) S3 (by omega) (by simp [el]) q
 exact aux xs.length 0 [] S (by omega) rfl h0
theorem wx_true (k : PB true S) : W (bTrue ρ S) PB := .of rfl k
theorem wx_run {n k : Nat} {xs : List Xv} {ρ0 : Rho} (hn : xs.length = n) (h0 : xs.map some ++ List.replicate k none = ρ0) (h : WS (s ρ0 S) (fun _ S1 => P .non S1) P) : W (runTw n k s xs S) P := by
 unfold runTw
 rw [if_pos hn, h0]
 rcases h with ⟨ρ, S1, e, h⟩ | ⟨x, S1, e, h⟩
 ·rw [e]; exact .of rfl h
 ·rw [e]; exact .of rfl h
variable {p q : Int}
theorem ox_add (k : P (.int (p + q)) S) : WO (dAdd (.int p) (.int q) S) P := .of rfl k
theorem ox_sub (k : P (.int (p - q)) S) : WO (dSub (.int p) (.int q) S) P := .of rfl k
theorem ox_neg (k : P (.int (-p)) S) : WO (dNeg (.int p) S) P := .of rfl k
theorem ox_lt (k : P (.bl (decide (p < q))) S) : WO (dLt (.int p) (.int q) S) P := .of rfl k
theorem ox_gt (k : P (.bl (decide (q < p))) S) : WO (dGt (.int p) (.int q) S) P := .of rfl k
theorem ox_eqI (k : P (.bl (decide (p = q))) S) : WO (dEqI (.int p) (.int q) S) P := .of rfl k
theorem ox_neI (k : P (.bl (!decide (p = q))) S) : WO (dNeI (.int p) (.int q) S) P := .of rfl k
theorem ox_mod (h : 0 < q) (k : P (.int (p % q)) S) : WO (dMod (.int p) (.int q) S) P := .of (by unfold dMod xIC; exact if_pos (by simpa using h)) k
theorem ox_mulB (h : intBits p + intBits q ≤ 134217728) (k : P (.int (p * q)) S) : WO (dMulB (.int p) (.int q) S) P := .of (by unfold dMulB xIC; exact if_pos (by simpa using h)) k
theorem ox_mul (h : (-(2 ^ 64) < p ∧ p < 2 ^ 64) ∨ (-(2 ^ 64) < q ∧ q < 2 ^ 64)) (k : P (.int (p * q)) S) : WO (dMul (.int p) (.int q) S) P := .of (by unfold dMul xIC; exact if_pos (decide_eq_true h)) k
theorem ox_pow (h : 0 ≤ q ∧ q ≤ 1000000 ∧ p.natAbs < 2 ^ 64) (k : P (.int (p ^ q.toNat)) S) : WO (dPow (.int p) (.int q) S) P := .of (by unfold dPow xIC; exact if_pos (decide_eq_true h)) k
theorem ox_fdivB (h : q ≠ 0 ∧ intBits q ≤ 9000) (k : P (.int (p.fdiv q)) S) : WO (dFdivB (.int p) (.int q) S) P := .of (by unfold dFdivB xIC; exact if_pos (decide_eq_true h)) k
theorem ox_len {l : List Xv} (h : lstAt S x = some l) (k : P (.int l.length) S) : WO (dLen [x] S) P := .of (by
 unfold dLen seqAt
 dsimp only
 have : x.tupOf = none := by cases x <;> first | rfl | cases h
 rw [this]
 dsimp only
 rw [h]
 rfl) k
theorem ox_ixL {l : List Xv} {z : Xv} (h : lstAt S x = some l) (e : atI l p = some z) (k : P z S) : WO (dIxL x (.int p) S) P := .of (by unfold dIxL; rw [h]; dsimp only; rw [e]; rfl) k
theorem ox_ixT {l : List Xv} {z : Xv} (h : x.tupOf = some l) (e : atI l p = some z) (k : P z S) : WO (dIxT x (.int p) S) P := .of (by unfold dIxT; rw [h]; dsimp only; rw [e]; rfl) k
theorem atI_0 {β : Type} {x : β} {l : List β} : atI (x :: l) 0 = some x := by
 unfold atI ixN
 rw [if_pos (show (0 : Int) ≤ 0 by decide), if_pos (by simp only [List.length_cons]; omega)]
 rfl
theorem atI_1 {β : Type} {x y : β} {l : List β} : atI (x :: y :: l) 1 = some y := by
 unfold atI ixN
 rw [if_pos (show (0 : Int) ≤ 1 by decide), if_pos (by simp only [List.length_cons]; omega)]
 rfl
theorem ox_ix0 {l : List Xv} (k : P x S) : WO (dIxT (.tup (x :: l)) (.int 0) S) P := ox_ixT rfl atI_0 k
theorem ox_ix1 {l : List Xv} (k : P y S) : WO (dIxT (.tup (x :: y :: l)) (.int 1) S) P := ox_ixT rfl atI_1 k
theorem atI_nn {β : Type} {l : List β} {k : Int} {z : β} (h0 : 0 ≤ k) (h : l[k.toNat]? = some z) : atI l k = some z := by
 have hk := (List.getElem?_eq_some_iff.1 h).1
 unfold atI ixN
 rw [if_pos h0, if_pos (by omega)]
 exact h
theorem ox_append {n : Nat} {l : List Xv} (h : wlAt S x = some (n, l)) (hz : l.length < sizeLine) (k : P .non (S.set n (.lst (l ++ [y])))) : WO (mAppend x [y] S) P := .of (by unfold mAppend; rw [h]; dsimp only; rw [if_pos hz]) k
theorem ox_slL {l : List Xv} {lo hi : Option Int} (h : lstAt S x = some l) (k : P (.ref S.length) (S ++ [.lst (cutD l lo hi)])) : WO (dSlL x lo hi S) P := .of (by unfold dSlL; rw [h]; rfl) k
theorem ox_list {l : List Xv} (h : lstAt S x = some l) (k : P (.ref S.length) (S ++ [.lst l])) : WO (dList [x] S) P := .of (by
 unfold dList seqAt
 dsimp only
 have : x.tupOf = none := by cases x <;> first | rfl | cases h
 rw [this]
 dsimp only
 rw [h]
 rfl) k
theorem ox_isi {c : String} {v : Bool} (h : isiX c S x = some v) (k : P (.bl v) S) : WO (dIsi c x S) P := .of (by unfold dIsi; rw [h]; rfl) k
end
theorem lstAt_app {S T : Sto} {x : Xv} {l : List Xv} (h : lstAt S x = some l) : lstAt (S ++ T) x = some l := by
 cases x <;> simp only [lstAt, reduceCtorEq] at h ⊢
 rename_i n
 cases e : S[n]? with
 | none => rw [e] at h; cases h
 | some c =>
  rw [List.getElem?_append_left (List.getElem?_eq_some_iff.1 e).1, e]
  rw [e] at h
  exact h
theorem lstAt_new {S : Sto} {l : List Xv} : lstAt (S ++ [.lst l]) (.ref S.length) = some l := by simp [lstAt]
theorem wlAt_of {S : Sto} {n : Nat} {l : List Xv} (h : S[n]? = some (.lst l)) : wlAt S (.ref n) = some (n, l) := by simp [wlAt, h]
theorem lstAt_of {S : Sto} {n : Nat} {l : List Xv} (h : S[n]? = some (.lst l)) : lstAt S (.ref n) = some l := by simp [lstAt, h]
theorem dkAt_of {S : Sto} {n : Nat} {l : List (Key × Xv)} (h : S[n]? = some (.dk l)) : dkAt S (.ref n) = some (n, l) := by simp [dkAt, h]
end L2
namespace L2
open PySem PySem.Spec PyProof.Rows PySem.Calls
section
variable {X : Cx}
end
section
variable {K : PySem.W.Frag} {E : XK}
end
end L2
namespace L2
open PySem PySem.Spec PyProof.Rows PySem.Calls
section
variable {K : PySem.W.Frag} {E : XK}
end
end L2
namespace L2
open PySem PySem.Spec PyProof.Rows PySem.Calls
noncomputable def allZ (f : D → D → Option Bool) : List D → List D → Option Bool
 | a :: l, b :: m => (f a b).bind fun x => (allZ f l m).map (x && ·)
 | _, _ => some true
theorem allZ_at {f : D → D → Option Bool} : ∀ {l m : List D} {b : Bool}, allZ f l m = some b → ∃ e : Nat → Bool, (∀ (j : Nat) a c, l[j]? = some a → m[j]? = some c → f a c = some (e j)) ∧ b = (List.range (min l.length m.length)).all e
 | [], m, b, h => by
  unfold allZ at h
  cases h
  exact ⟨fun _ => true, fun j a c ha => by simp at ha, by simp⟩
 | a :: l, [], b, h => by
  unfold allZ at h
  cases h
  exact ⟨fun _ => true, fun j a c ha hc => by simp at hc, by simp⟩
 | a :: l, c :: m, b, h => by
  unfold allZ at h
  cases e1 : f a c with
  | none => rw [e1] at h; cases h
  | some x =>
   rw [e1, Option.bind_some] at h
   cases e2 : allZ f l m with
   | none => rw [e2] at h; cases h
   | some y =>
    rw [e2] at h
    cases h
    obtain ⟨e, k, rfl⟩ := allZ_at e2
    refine ⟨fun j => match j with
     | 0 => x
     | j + 1 => e j, fun j p q hp hq => ?_, ?_⟩
    ·cases j with
     | zero => simp at hp hq; subst hp hq; exact e1
     | succ j => exact k j p q (by simpa using hp) (by simpa using hq)
    ·rw [List.length_cons, List.length_cons, Nat.succ_min_succ, List.range_succ_eq_map, List.all_cons, List.all_map]
     rfl
noncomputable def eqG : Nat → D → D → Option Bool
 | 0, d, e => match d, e with
  | .non, .non => some true
  | .bl a, .bl b => some (a == b)
  | .int a, .int b => some (a == b)
  | .str a, .str b => some (a == b)
  | _, _ => none
 | n + 1, d, e => match d, e with
  | .non, .non => some true
  | .bl a, .bl b => some (a == b)
  | .int a, .int b => some (a == b)
  | .str a, .str b => some (a == b)
  | .tup l, .tup m => (allZ (eqG n) l m).map (· && (l.length == m.length))
  | .lst l, .lst m => if l.length = m.length then allZ (eqG n) l m else some false
  | _, _ => none
section
variable {X : Cx} {pins : List (Addr × Obj)} {σ : St} {H : Hp} {s : Shared}
theorem all_range {n : Nat} {e : Nat → Bool} (h : ∀ j, j < n → e j = true) : (List.range n).all e = true := List.all_eq_true.2 fun j hj => h j (List.mem_range.1 hj)
theorem eqG_self (I : Inv X pins σ H s) : ∀ (n : Nat) {d e : D} {x : V} {b : Bool}, eqG n d e = some b → Is X.K H x d → Is X.K H x e → b = true := by
 intro n
 induction n with
 | zero =>
  intro d e x b h hx hy
  unfold eqG at h
  split at h
  ·cases h; rfl
  ·rw [hx.bl_inv] at hy; cases hy; cases h; simp
  ·rw [hx.int_inv] at hy; cases hy; cases h; simp
  ·rw [hx.str_inv] at hy; cases hy; cases h; simp
  ·cases h
 | succ n ih =>
  intro d e x b h hx hy
  unfold eqG at h
  have items : ∀ {xs : List V} {l m : List D} {b : Bool}, allZ (eqG n) l m = some b → IsL X.K H xs l → IsL X.K H xs m → b = true := fun {xs l m b} ha hl hm => by
   obtain ⟨e, k, rfl⟩ := allZ_at ha
   refine all_range fun j hj => ?_
   have h1 : j < l.length := by omega
   have h2 : j < m.length := by omega
   obtain ⟨x, hx1, hx2⟩ := hl.get (List.getElem?_eq_getElem h1)
   obtain ⟨y, hy1, hy2⟩ := hm.get (List.getElem?_eq_getElem h2)
   rw [hx1] at hy1
   cases hy1
   exact ih (k j _ _ (List.getElem?_eq_getElem h1) (List.getElem?_eq_getElem h2)) hx2 hy2
  split at h
  ·cases h; rfl
  ·rw [hx.bl_inv] at hy; cases hy; cases h; simp
  ·rw [hx.int_inv] at hy; cases hy; cases h; simp
  ·rw [hx.str_inv] at hy; cases hy; cases h; simp
  ·rename_i l m
   cases ha : allZ (eqG n) l m with
   | none => rw [ha] at h; cases h
   | some b' =>
    rw [ha] at h
    cases h
    obtain ⟨a, xs, rfl, h1, h2⟩ := hx.tup_inv
    obtain ⟨a', ys, e, g1, g2⟩ := hy.tup_inv
    cases e
    obtain rfl := I.tuple_inj h1 g1
    rw [items ha h2 g2]
    have e3 := h2.len; have e4 := g2.len
    simp; omega
  ·rename_i l m
   obtain ⟨a, xs, rfl, h1, h2⟩ := hx.lst_inv
   obtain ⟨a', ys, e, g1, g2⟩ := hy.lst_inv
   cases e
   obtain rfl := I.list_inj h1 g1
   have e3 := h2.len; have e4 := g2.len
   rw [if_pos (by omega)] at h
   exact items h h2 g2
  ·cases h
theorem eq_itemsG {A : Around} {xs ys : List V} {its its2 : List Value} {l m : List D} {e : Nat → Bool} (rx : Vals xs its) (ry : Vals ys its2) (hx : IsL X.K H xs l) (hy : IsL X.K H ys m)
  (k : ∀ {x y : V} {u v : Value} {d d' : D} {j : Nat}, l[j]? = some d → m[j]? = some d' → Is X.K H x d → Is X.K H y d' → RelV x u → RelV y v → SeqAt.EqAt A.in1 s u v (e j)) :
  ∀ j (h1 : j < its.toArray.size) (h2 : j < its2.toArray.size), SeqAt.EqAt A.in1 s its.toArray[j] its2.toArray[j] (e j) := by
 intro j h1 h2
 have e1 : j < xs.length := by rw [rx.length]; simpa using h1
 have e2 : j < ys.length := by rw [ry.length]; simpa using h2
 have el : j < l.length := by rw [← hx.len]; exact e1
 have em : j < m.length := by rw [← hy.len]; exact e2
 obtain ⟨x, hx1, hx2⟩ := hx.get (i := j) (d := l[j]) (List.getElem?_eq_getElem el)
 obtain ⟨y, hy1, hy2⟩ := hy.get (i := j) (d := m[j]) (List.getElem?_eq_getElem em)
 obtain ⟨u, hu, ru⟩ := rx.get hx1
 obtain ⟨v, hv, rv⟩ := ry.get hy1
 have g1 : its.toArray[j] = u := by
  have : its[j]? = some its[j] := List.getElem?_eq_getElem (by simpa using h1)
  rw [hu] at this
  simpa using (Option.some.inj this).symm
 have g2 : its2.toArray[j] = v := by
  have : its2[j]? = some its2[j] := List.getElem?_eq_getElem (by simpa using h2)
  rw [hv] at this
  simpa using (Option.some.inj this).symm
 rw [g1, g2]
 exact k (List.getElem?_eq_getElem el) (List.getElem?_eq_getElem em) hx2 hy2 ru rv
theorem eqAt_gen (I : Inv X pins σ H s) : ∀ (n : Nat) {A : Around} {d d' : D} {x y : V} {u v : Value} {b : Bool}, eqG n d d' = some b → A.units + n < cLine → Is X.K H x d → Is X.K H y d' → RelV x u → RelV y v → SeqAt.EqAt A s u v b := by
 intro n
 induction n with
 | zero =>
  intro A d d' x y u v b h hu hx hy ru rv
  unfold eqG at h
  split at h
  ·cases h; rw [hx.non_inv] at ru; rw [hy.non_inv] at rv; cases ru; cases rv; exact SeqAt.EqAt.same _
  ·cases h; rw [hx.bl_inv] at ru; rw [hy.bl_inv] at rv; cases ru; cases rv; exact SeqAt.EqAt.bool_bool _ _
  ·cases h; rw [hx.int_inv] at ru; rw [hy.int_inv] at rv; obtain ⟨t, rfl⟩ := ru; obtain ⟨t', rfl⟩ := rv; exact SeqAt.EqAt.int_int _ _ _ _
  ·cases h; rw [hx.str_inv] at ru; rw [hy.str_inv] at rv; obtain ⟨t, rfl⟩ := ru; obtain ⟨t', rfl⟩ := rv; exact SeqAt.EqAt.str_str _ _ _ _
  ·cases h
 | succ n ih =>
  intro A d d' x y u v b h hu hx hy ru rv
  have hself := fun (e : x = y) => eqG_self I (n + 1) h hx (e ▸ hy)
  unfold eqG at h
  split at h
  ·cases h; rw [hx.non_inv] at ru; rw [hy.non_inv] at rv; cases ru; cases rv; exact SeqAt.EqAt.same _
  ·cases h; rw [hx.bl_inv] at ru; rw [hy.bl_inv] at rv; cases ru; cases rv; exact SeqAt.EqAt.bool_bool _ _
  ·cases h; rw [hx.int_inv] at ru; rw [hy.int_inv] at rv; obtain ⟨t, rfl⟩ := ru; obtain ⟨t', rfl⟩ := rv; exact SeqAt.EqAt.int_int _ _ _ _
  ·cases h; rw [hx.str_inv] at ru; rw [hy.str_inv] at rv; obtain ⟨t, rfl⟩ := ru; obtain ⟨t', rfl⟩ := rv; exact SeqAt.EqAt.str_str _ _ _ _
  ·rename_i l m
   cases ha : allZ (eqG n) l m with
   | none => rw [ha] at h; cases h
   | some b' =>
    rw [ha] at h
    cases h
    obtain ⟨e, k, rfl⟩ := allZ_at ha
    obtain ⟨a, xs, rfl, h1, h2⟩ := hx.tup_inv
    obtain ⟨a', ys, rfl, g1, g2⟩ := hy.tup_inv
    cases ru; cases rv
    by_cases hab : a = a'
    ·subst hab; rw [hself rfl]; exact SeqAt.EqAt.same _
    ·obtain ⟨its, r1, p1, _⟩ := I.tuple h1
     obtain ⟨its2, r2, p2, _⟩ := I.tuple g1
     refine SeqAt.EqAt.of_refs hab ?_
     have := SeqAt.RcAt.tuples (A := A) (e := e) p1 p2 (by omega) (eq_itemsG r1 r2 h2 g2 fun hi hj hx hy ru rv => ih (A := A.in1) (k _ _ _ hi hj) (by show A.units + 1 + n < cLine; omega) hx hy ru rv)
     have s1 : its.toArray.size = l.length := by have e1 := r1.length; have e3 := h2.len; simp; omega
     have s2 : its2.toArray.size = m.length := by have e1 := r2.length; have e3 := g2.len; simp; omega
     rwa [s1, s2] at this
  ·rename_i l m
   obtain ⟨a, xs, rfl, h1, h2⟩ := hx.lst_inv
   obtain ⟨a', ys, rfl, g1, g2⟩ := hy.lst_inv
   cases ru; cases rv
   by_cases hab : a = a'
   ·subst hab; rw [hself rfl]; exact SeqAt.EqAt.same _
   ·obtain ⟨its, r1, p1, _⟩ := I.list h1
    obtain ⟨its2, r2, p2, _⟩ := I.list g1
    have s1 : its.toArray.size = l.length := by have e1 := r1.length; have e3 := h2.len; simp; omega
    have s2 : its2.toArray.size = m.length := by have e1 := r2.length; have e3 := g2.len; simp; omega
    refine SeqAt.EqAt.of_refs hab ?_
    split at h
    ·rename_i hlm
     obtain ⟨e, k, rfl⟩ := allZ_at h
     have := SeqAt.RcAt.lists (A := A) (e := e) p1.isList p2.isList (by omega) (by omega) (eq_itemsG r1 r2 h2 g2 fun hi hj hx hy ru rv => ih (A := A.in1) (k _ _ _ hi hj) (by show A.units + 1 + n < cLine; omega) hx hy ru rv)
     rw [s1] at this
     rwa [show min l.length m.length = l.length by omega]
    ·rename_i hlm
     cases h
     exact SeqAt.RcAt.lists_lengths p1.isList p2.isList (by rw [s1, s2]; simpa using hlm) (by omega)
  ·cases h
noncomputable def rEqG (K : PySem.W.Frag) (neg : Bool) : R2 := fun x y H Q => ∃ (d e : D) (b : Bool), (∃ l m, (d = .tup l ∧ e = .tup m) ∨ (d = .lst l ∧ e = .lst m)) ∧ Is K H x d ∧ Is K H y e ∧ eqG 40 d e = some b ∧ Q (.bl (neg != b)) H
theorem op_neG {k : Nat} {K : PySem.W.Frag} (hr : Room k X.A) (hK : X.K = K := by rfl) : OpR X (compareOp .NotEq) (rEqG K true) := by
 subst hK
 intro pins s σ H x y v u Q I rx ry h
 obtain ⟨d, e, b, ⟨l, m, hd⟩, hx, hy, hb, q⟩ := h
 have hu : X.A.units + 41 < cLine := Nat.lt_of_le_of_lt (by omega) hr.units
 rw [show (true != b) = !b by cases b <;> rfl] at q
 unfold eqG at hb
 rcases hd with ⟨rfl, rfl⟩ | ⟨rfl, rfl⟩
 ·dsimp only at hb
  cases ha : allZ (eqG 39) l m with
  | none => rw [ha] at hb; cases hb
  | some b' =>
   rw [ha] at hb
   cases hb
   obtain ⟨e, k, rfl⟩ := allZ_at ha
   obtain ⟨a, xs, rfl, h1, h2⟩ := hx.tup_inv
   obtain ⟨a', ys, rfl, g1, g2⟩ := hy.tup_inv
   cases rx; cases ry
   obtain ⟨its, r1, p1, _⟩ := I.tuple h1
   obtain ⟨its2, r2, p2, _⟩ := I.tuple g1
   have s1 : its.toArray.size = l.length := by have e1 := r1.length; have e3 := h2.len; simp; omega
   have s2 : its2.toArray.size = m.length := by have e1 := r2.length; have e3 := g2.len; simp; omega
   refine SeqAt.RcNeAt.tuples (e := e) p1 p2 (by omega) (eq_itemsG r1 r2 h2 g2 fun hi hj hx hy ru rv => eqAt_gen I 39 (A := X.A.in1) (k _ _ _ hi hj) (by show X.A.units + 1 + 39 < cLine; omega) hx hy ru rv) _ _ _ _ ?_
   rw [s1, s2]
   exact ⟨.bl _, H, I, rfl, q⟩
 ·dsimp only at hb
  obtain ⟨a, xs, rfl, h1, h2⟩ := hx.lst_inv
  obtain ⟨a', ys, rfl, g1, g2⟩ := hy.lst_inv
  cases rx; cases ry
  obtain ⟨its, r1, p1, _⟩ := I.list h1
  obtain ⟨its2, r2, p2, _⟩ := I.list g1
  have s1 : its.toArray.size = l.length := by have e1 := r1.length; have e3 := h2.len; simp; omega
  have s2 : its2.toArray.size = m.length := by have e1 := r2.length; have e3 := g2.len; simp; omega
  split at hb
  ·rename_i hlm
   obtain ⟨e, k, rfl⟩ := allZ_at hb
   refine SeqAt.RcNeAt.lists (e := e) p1.isList p2.isList (by omega) (by omega) (eq_itemsG r1 r2 h2 g2 fun hi hj hx hy ru rv => eqAt_gen I 39 (A := X.A.in1) (k _ _ _ hi hj) (by show X.A.units + 1 + 39 < cLine; omega) hx hy ru rv) _ _ _ _ ?_
   rw [show min l.length m.length = l.length by omega] at q
   rw [s1]
   exact ⟨.bl _, H, I, rfl, q⟩
  ·rename_i hlm
   cases hb
   refine SeqAt.RcNeAt.lists_lengths p1.isList p2.isList (by rw [s1, s2]; simpa using hlm) (by omega) _ _ _ _ ?_
   exact ⟨.bl true, H, I, rfl, q⟩
end
end L2
namespace L2
open PySem PySem.Spec PyProof.Rows PySem.Calls PySem.W
section
variable {cmp : Nat → Nat → (Bool → Shared → Prop) → Shared → Prop} {r : Nat → Int} {n : Nat} {s : Shared}
noncomputable def Kr (r : Nat → Int) (p : Array Nat) (i : Nat) : Int := r (p.getD i 0)
theorem kr_congr {p q : Array Nat} {i j : Nat} (h : p[i]? = q[j]?) : Kr r p i = Kr r q j := by
 unfold Kr
 rw [Array.getD_eq_getD_getElem?, Array.getD_eq_getD_getElem?, h]
noncomputable def PmN (n : Nat) (p : Array Nat) : Prop := p.Perm (List.toArray (List.range n))
theorem PmN.size {p : Array Nat} (h : PmN n p) : p.size = n := by
 have := Array.Perm.size_eq h
 simpa using this
theorem PmN.lt {p : Array Nat} (h : PmN n p) {i : Nat} (hi : i < n) : p.getD i 0 < n := by
 have hs := h.size
 have hi' : i < p.size := by omega
 have e : p.getD i 0 = p[i] := by simp [Array.getD, hi']
 rw [e]
 have := (Array.Perm.mem_iff h).1 (Array.getElem_mem hi')
 simpa using this
theorem PmN.ne {p : Array Nat} (h : PmN n p) {i j : Nat} (hi : i < n) (hj : j < n) (hij : i ≠ j) : p.getD i 0 ≠ p.getD j 0 := by
 have hs := h.size
 have hi' : i < p.size := by omega
 have hj' : j < p.size := by omega
 have nd : p.toList.Nodup := by
  have := Array.Perm.toList h
  exact (this.nodup_iff).2 (by simpa using List.nodup_range)
 rw [show p.getD i 0 = p.toList[i]'(by simpa using hi') by simp [Array.getD, hi'], show p.getD j 0 = p.toList[j]'(by simpa using hj') by simp [Array.getD, hj']]
 intro z
 have nd := List.pairwise_iff_getElem.1 nd
 rcases Nat.lt_or_gt_of_ne hij with h1 | h1
 ·exact nd i j (by simpa using hi') (by simpa using hj') h1 z
 ·exact nd j i (by simpa using hj') (by simpa using hi') h1 z.symm
theorem PmN.rev {p : Array Nat} (h : PmN n p) (i j : Nat) : PmN n (kas_rev p i j) := (mirror_perm _ _ _ _).trans h
theorem PmN.bub {p : Array Nat} (h : PmN n p) (k d : Nat) : PmN n (bubble p k d) := (bubble_perm _ _ _).trans h
theorem kr_rev {p : Array Nat} {i j : Nat} (hj : j ≤ p.size) (k : Nat) : Kr r (kas_rev p i j) k = if i ≤ k ∧ k < j then Kr r p (i + j - 1 - k) else Kr r p k := by
 have e := getElem?_mirror_all (xs := p) (i := i) hj k
 unfold kas_rev
 by_cases h1 : i ≤ k ∧ k < j
 ·rw [if_pos h1] at e ⊢; exact kr_congr e
 ·rw [if_neg h1] at e ⊢; exact kr_congr e
theorem kr_bub {p : Array Nat} {src d : Nat} (hs : src < p.size) (hd : d ≤ src) (k : Nat) : Kr r (bubble p src d) k = if k = src - d then Kr r p src else if src - d < k ∧ k ≤ src then Kr r p (k - 1) else Kr r p k := by
 have e := getElem?_bubble hs d hd k
 by_cases h1 : k = src - d
 ·rw [if_pos h1] at e ⊢; exact kr_congr e
 ·rw [if_neg h1] at e ⊢
  by_cases h2 : src - d < k ∧ k ≤ src
  ·rw [if_pos h2] at e ⊢; exact kr_congr e
  ·rw [if_neg h2] at e ⊢; exact kr_congr e
theorem kr_rev_eq {p : Array Nat} {i j : Nat} (hj : j ≤ p.size) (he : ∀ k, i ≤ k → k < j → Kr r p k = Kr r p (j - 1)) (k : Nat) : Kr r (kas_rev p i j) k = Kr r p k := by
 rw [kr_rev hj]
 split
 ·rename_i h
  rw [he _ (by omega) (by omega), he k h.1 h.2]
 ·rfl
theorem asc_wp (hc : ∀ i j C, i < n → j < n → i ≠ j → C (decide (r i < r j)) s → cmp i j C s) {p : Array Nat} (hp : PmN n p) {Q : Nat → Shared → Prop} : ∀ (f k : Nat), 1 ≤ k → k + f = n →
  (∀ m, k ≤ m → m ≤ n → (∀ i, k ≤ i → i < m → Kr r p (i - 1) ≤ Kr r p i) → (m < n → Kr r p m < Kr r p (m - 1)) → Q m s) → (kas_asc p f k).kasWp cmp Q s
 | 0, k, h1, hk, q => q k (Nat.le_refl _) (by omega) (fun i a b => by omega) (fun z => by omega)
 | f + 1, k, h1, hk, q => by
  unfold kas_asc
  refine hc _ _ _ (hp.lt (by omega)) (hp.lt (by omega)) (hp.ne (by omega) (by omega) (by omega)) ?_
  by_cases h : Kr r p k < Kr r p (k - 1)
  ·rw [show decide (r (p.getD k 0) < r (p.getD (k - 1) 0)) = true from decide_eq_true h]; dsimp only; rw [if_pos rfl]
   exact q k (Nat.le_refl _) (by omega) (fun i a b => by omega) (fun _ => h)
  ·rw [show decide (r (p.getD k 0) < r (p.getD (k - 1) 0)) = false from decide_eq_false h]; dsimp only; rw [if_neg (by simp)]
   refine asc_wp hc hp f (k + 1) (by omega) (by omega) fun m a b c d => q m (by omega) b (fun i e g => ?_) d
   by_cases hi : i = k
   ·subst hi; omega
   ·exact c i (by omega) g
theorem desc_wp (hc : ∀ i j C, i < n → j < n → i ≠ j → C (decide (r i < r j)) s → cmp i j C s) {Q : Array Nat × Nat × Nat → Shared → Prop} : ∀ (f : Nat) (p : Array Nat) (k q : Nat), PmN n p → 1 ≤ k → k + f = n → (∀ i, 1 ≤ i → i < k → Kr r p i ≤ Kr r p (i - 1)) → (∀ i, k - (q + 1) ≤ i → i < k → Kr r p i = Kr r p (k - 1)) → q + 1 ≤ k →
  (∀ p' k' q', PmN n p' → 1 ≤ k' → k' ≤ n → (∀ i, 1 ≤ i → i < k' → Kr r p' i ≤ Kr r p' (i - 1)) → (∀ i, k' - (q' + 1) ≤ i → i < k' → Kr r p' i = Kr r p' (k' - 1)) → q' + 1 ≤ k' → Q (p', k', q') s) → (kas_desc f p k q).kasWp cmp Q s
 | 0, p, k, q, hp, h1, hk, hd, he, hq, h => h p k q hp h1 (by omega) hd he hq
 | f + 1, p, k, q, hp, h1, hk, hd, he, hq, h => by
  unfold kas_desc
  refine hc _ _ _ (hp.lt (by omega)) (hp.lt (by omega)) (hp.ne (by omega) (by omega) (by omega)) ?_
  by_cases h2 : Kr r p k < Kr r p (k - 1)
  ·rw [show decide (r (p.getD k 0) < r (p.getD (k - 1) 0)) = true from decide_eq_true h2]; dsimp only; rw [if_pos rfl]
   split
   ·have hs := hp.size
    have ek := kr_rev_eq (r := r) (p := p) (i := k - (q + 1)) (j := k) (by omega) he
    refine desc_wp hc f _ (k + 1) 0 (hp.rev _ _) (by omega) (by omega) (fun i a b => ?_) (fun i a b => ?_) (by omega) h
    ·rw [ek, ek]
     by_cases hi : i = k
     ·subst hi; omega
     ·exact hd i a (by omega)
    ·have : i = k := by omega
     subst this
     simp
   ·refine desc_wp hc f _ (k + 1) 0 hp (by omega) (by omega) (fun i a b => ?_) (fun i a b => ?_) (by omega) h
    ·by_cases hi : i = k
     ·subst hi; omega
     ·exact hd i a (by omega)
    ·have : i = k := by omega
     subst this
     simp
  ·rw [show decide (r (p.getD k 0) < r (p.getD (k - 1) 0)) = false from decide_eq_false h2]; dsimp only; rw [if_neg (by simp)]
   refine hc _ _ _ (hp.lt (by omega)) (hp.lt (by omega)) (hp.ne (by omega) (by omega) (by omega)) ?_
   by_cases h3 : Kr r p (k - 1) < Kr r p k
   ·rw [show decide (r (p.getD (k - 1) 0) < r (p.getD k 0)) = true from decide_eq_true h3]; dsimp only; rw [if_pos rfl]
    exact h p k q hp h1 (by omega) hd he hq
   ·rw [show decide (r (p.getD (k - 1) 0) < r (p.getD k 0)) = false from decide_eq_false h3]; dsimp only; rw [if_neg (by simp)]
    refine desc_wp hc f _ (k + 1) (q + 1) hp (by omega) (by omega) (fun i a b => ?_) (fun i a b => ?_) (by omega) h
    ·by_cases hi : i = k
     ·subst hi; omega
     ·exact hd i a (by omega)
    ·rw [show k + 1 - 1 = k by omega]
     by_cases hi : i = k
     ·rw [hi]
     ·have := he i (by omega) (by omega)
      omega
noncomputable def AscTo (r : Nat → Int) (p : Array Nat) (m : Nat) : Prop := ∀ i, 1 ≤ i → i < m → Kr r p (i - 1) ≤ Kr r p i
theorem tail3_wp (hc : ∀ i j C, i < n → j < n → i ≠ j → C (decide (r i < r j)) s → cmp i j C s) {Q : Nat × Array Nat → Shared → Prop} {p : Array Nat} {k : Nat} (hp : PmN n p) (h1 : 1 ≤ k) (hk : k ≤ n) (hd : ∀ i, 1 ≤ i → i < k → Kr r p i ≤ Kr r p (i - 1))
  (h : ∀ m p', PmN n p' → 1 ≤ m → m ≤ n → AscTo r p' m → Q (m, p') s) : (kas_tail3 k n p).kasWp cmp Q s := by
 unfold kas_tail3
 rw [KasT.kasWp_bind]
 have hs := hp.size
 refine asc_wp hc (hp.rev 0 k) _ k h1 (by omega) fun m a b c _ => ?_
 refine h m _ (hp.rev 0 k) (by omega) b fun i e g => ?_
 by_cases hi : i < k
 ·rw [kr_rev (by omega), kr_rev (by omega), if_pos (by omega), if_pos (by omega)]
  have := hd (0 + k - 1 - (i - 1)) (by omega) (by omega)
  rw [show 0 + k - 1 - (i - 1) - 1 = 0 + k - 1 - i by omega] at this
  exact this
 ·exact c i (by omega) g
theorem descPart_wp (hc : ∀ i j C, i < n → j < n → i ≠ j → C (decide (r i < r j)) s → cmp i j C s) {Q : Nat × Array Nat → Shared → Prop} {p : Array Nat} {k : Nat} (hp : PmN n p) (h1 : 1 ≤ k) (hk : k < n) (hd : ∀ i, 1 ≤ i → i < k + 1 → Kr r p i ≤ Kr r p (i - 1))
  (h : ∀ m p', PmN n p' → 1 ≤ m → m ≤ n → AscTo r p' m → Q (m, p') s) : (kas_descPart k n p).kasWp cmp Q s := by
 unfold kas_descPart
 rw [KasT.kasWp_bind]
 have h0 : ∀ i, k + 1 - (0 + 1) ≤ i → i < k + 1 → Kr r p i = Kr r p (k + 1 - 1) := fun i a b => by
  have : i = k := by omega
  subst this
  simp
 refine desc_wp hc (n - (k + 1)) p (k + 1) 0 hp (by omega) (by omega) hd h0 (by omega) fun p' k' q' a b c d e g => ?_
 dsimp only
 have hs := a.size
 split
 ·have ek := kr_rev_eq (r := r) (p := p') (i := k' - (q' + 1)) (j := k') (by omega) e
  exact tail3_wp hc (a.rev _ _) b c (fun i x y => by rw [ek, ek]; exact d i x y) h
 ·exact tail3_wp hc a b c d h
theorem asc_all {p : Array Nat} {m : Nat} (h : AscTo r p m) : ∀ (d i : Nat), i + d < m → Kr r p i ≤ Kr r p (i + d)
 | 0, i, _ => Int.le_refl _
 | d + 1, i, hd => by
  have h1 := asc_all h d i (by omega)
  have h2 := h (i + d + 1) (by omega) (by omega)
  rw [show i + d + 1 - 1 = i + d by omega] at h2
  exact Int.le_trans h1 h2
theorem asc_le {p : Array Nat} {m i j : Nat} (h : AscTo r p m) (hij : i ≤ j) (hj : j < m) : Kr r p i ≤ Kr r p j := by
 have := asc_all h (j - i) i (by omega)
 rwa [show i + (j - i) = j by omega] at this
theorem count_wp (hc : ∀ i j C, i < n → j < n → i ≠ j → C (decide (r i < r j)) s → cmp i j C s) {Q : Nat × Array Nat → Shared → Prop} {p : Array Nat} (hp : PmN n p) (h1 : 1 ≤ n)
  (h : ∀ m p', PmN n p' → 1 ≤ m → m ≤ n → AscTo r p' m → Q (m, p') s) : (kas_count n p).kasWp cmp Q s := by
 unfold kas_count
 rw [KasT.kasWp_bind]
 refine asc_wp hc hp _ 1 (by omega) (by omega) fun m a b c d => ?_
 have hs := hp.size
 by_cases hm : m = n
 ·subst hm
  rw [if_pos (by simp)]
  exact h m p hp a b c
 ·rw [if_neg (by simpa using hm)]
  have hd := d (by omega)
  by_cases h2 : m > 1
  ·rw [if_pos h2]
   refine hc _ _ _ (hp.lt (by omega)) (hp.lt (by omega)) (hp.ne (by omega) (by omega) (by omega)) ?_
   by_cases h3 : Kr r p 0 < Kr r p (m - 1)
   ·rw [show decide (r (p.getD 0 0) < r (p.getD (m - 1) 0)) = true from decide_eq_true h3]; dsimp only; rw [if_pos rfl]
    exact h m p hp a b c
   ·rw [show decide (r (p.getD 0 0) < r (p.getD (m - 1) 0)) = false from decide_eq_false h3]; dsimp only; rw [if_neg (by simp)]
    have he : ∀ i, 0 ≤ i → i < m → Kr r p i = Kr r p (m - 1) := fun i _ hi => by
     have e1 := asc_le (r := r) c (show 0 ≤ i by omega) hi
     have e2 := asc_le (r := r) c (show i ≤ m - 1 by omega) (by omega)
     omega
    have ek := kr_rev_eq (r := r) (p := p) (i := 0) (j := m) (by omega) he
    refine descPart_wp hc (hp.rev _ _) (by omega) (by omega) (fun i x y => ?_) h
    rw [ek, ek]
    by_cases hi : i = m
    ·subst hi; omega
    ·rw [he i (by omega) (by omega), he (i - 1) (by omega) (by omega)]
     exact Int.le_refl _
  ·rw [if_neg h2]
   refine descPart_wp hc hp (by omega) (by omega) (fun i x y => ?_) h
   have : i = m := by omega
   subst this
   omega
theorem place_wp (hc : ∀ i j C, i < n → j < n → i ≠ j → C (decide (r i < r j)) s → cmp i j C s) {Q : Nat → Shared → Prop} {p : Array Nat} {k : Nat} (hp : PmN n p) (hk : k < n) (ha : AscTo r p k) : ∀ (f lo hi : Nat), lo ≤ hi → hi ≤ k → hi - lo ≤ f → (∀ i, i < lo → Kr r p i ≤ Kr r p k) → (∀ i, hi ≤ i → i < k → Kr r p k < Kr r p i) →
  (∀ l, l ≤ k → (∀ i, i < l → Kr r p i ≤ Kr r p k) → (∀ i, l ≤ i → i < k → Kr r p k < Kr r p i) → Q l s) → (kas_place p k f lo hi).kasWp cmp Q s
 | 0, lo, hi, h1, h2, h3, hl, hh, q => by
  have : lo = hi := by omega
  subst this
  exact q lo h2 hl hh
 | f + 1, lo, hi, h1, h2, h3, hl, hh, q => by
  unfold kas_place
  split
  ·have : lo = hi := by omega
   subst this
   exact q lo h2 hl hh
  ·rename_i hlt
   have m1 : lo ≤ (lo + hi) / 2 := by omega
   have m2 : (lo + hi) / 2 < hi := by omega
   refine hc _ _ _ (hp.lt (by omega)) (hp.lt (by omega)) (hp.ne (by omega) (by omega) (by omega)) ?_
   by_cases h4 : Kr r p k < Kr r p ((lo + hi) / 2)
   ·rw [show decide (r (p.getD k 0) < r (p.getD ((lo + hi) / 2) 0)) = true from decide_eq_true h4]; dsimp only; rw [if_pos rfl]
    refine place_wp hc hp hk ha f lo _ m1 (by omega) (by omega) hl (fun i a b => ?_) q
    have := asc_le ha a b
    omega
   ·rw [show decide (r (p.getD k 0) < r (p.getD ((lo + hi) / 2) 0)) = false from decide_eq_false h4]; dsimp only; rw [if_neg (by simp)]
    refine place_wp hc hp hk ha f _ hi (by omega) h2 (by omega) (fun i a => ?_) hh q
    have := asc_le ha (show i ≤ (lo + hi) / 2 by omega) (by omega)
    omega
theorem bin_wp (hc : ∀ i j C, i < n → j < n → i ≠ j → C (decide (r i < r j)) s → cmp i j C s) {Q : Array Nat → Shared → Prop} : ∀ (f : Nat) (p : Array Nat) (k : Nat), PmN n p → k + f = n → AscTo r p k → (∀ p', PmN n p' → AscTo r p' n → Q p' s) → (kas_bin f p k).kasWp cmp Q s
 | 0, p, k, hp, hk, ha, h => by
  have : k = n := by omega
  subst this
  exact h p hp ha
 | f + 1, p, k, hp, hk, ha, h => by
  unfold kas_bin
  rw [KasT.kasWp_bind]
  have hs := hp.size
  refine place_wp hc hp (by omega) ha k 0 k (by omega) (Nat.le_refl _) (by omega) (fun i a => by omega) (fun i a b => by omega) fun l a b c => ?_
  refine bin_wp hc f _ (k + 1) (hp.bub _ _) (by omega) (fun i x y => ?_) h
  have e := fun j => kr_bub (r := r) (p := p) (src := k) (d := k - l) (by omega) (by omega) j
  rw [e, e, show k - (k - l) = l by omega]
  by_cases h1 : i - 1 = l
  ·rw [if_pos h1, if_neg (by omega), if_pos (by omega)]
   have := c (i - 1) (by omega) (by omega)
   omega
  ·rw [if_neg h1]
   by_cases h2 : i = l
   ·rw [if_neg (by omega), if_pos h2]
    exact b (i - 1) (by omega)
   ·rw [if_neg h2]
    by_cases h3 : l < i
    ·rw [if_pos (show l < i - 1 ∧ i - 1 ≤ k by omega), if_pos (show l < i ∧ i ≤ k by omega)]
     exact ha (i - 1) (by omega) (by omega)
    ·rw [if_neg (by omega), if_neg (by omega)]
     exact ha i x (by omega)
theorem sort_wp (hc : ∀ i j C, i < n → j < n → i ≠ j → C (decide (r i < r j)) s → cmp i j C s) {Q : Array Nat → Shared → Prop} (h1 : 1 ≤ n) (h : ∀ p, PmN n p → AscTo r p n → Q p s) : (kas_sort n).kasWp cmp Q s := by
 unfold kas_sort
 rw [KasT.kasWp_bind]
 refine count_wp hc (Array.Perm.refl _) h1 fun m p a b c d => ?_
 dsimp only
 split
 ·rw [show max m 1 = m by omega]
  exact bin_wp hc _ p m a (by omega) d h
 ·have : m = n := by omega
  subst this
  exact h p a d
end
end L2
namespace L2
open PySem PySem.Spec PyProof.Rows PySem.Calls PySem.W
section
variable {prog : Program} {w : World} {A : Around} {E : Value → Shared → Prop} {s : Shared}
noncomputable def Asks (prog : Program) (w : World) (A : Around) (r : Nat → Int) (vs : List Value) (s : Shared) : Prop :=
 ∃ κ, (∀ Q : SortKind → Shared → Prop, Q κ s → wpAny (model prog w) A (keyKind' vs.toArray) Q (fun _ _ => False) s) ∧ ∀ i j C, i < vs.length → j < vs.length → i ≠ j → C (decide (r i < r j)) s → kas_ask prog w A κ vs i j C s
theorem out_short : ∀ (vs : List Value), vs.length < 2 → List.toArray ((List.toArray (List.range vs.length)).toList.map fun i => vs.getD i Value.none) = (vs.toArray.zip vs.toArray).map (·.2)
 | [], _ => by simp
 | [v], _ => by
  apply Array.toList_inj.1
  simp [List.range_succ]
 | _ :: _ :: _, h => by simp at h; omega
theorem lsort_any {a : Addr} {vs : List Value} {n : Nat} {P : PySem.Fin → Shared → Prop} (r : Nat → Int) (at0 : s.heap.get? a = some (seqObj "list" vs.toArray n)) (few : vs.length < 64)
  (hk : 2 ≤ vs.length → ∀ g : Heap, (∀ b o, b ≠ a → s.heap.get? b = some o → g.get? b = some o) → Asks prog w A r vs { s with heap := g })
  (fin : ∀ p, PmN vs.length p → AscTo r p vs.length → P (.done (.ret .none)) { s with heap := sortedHeap s.heap a vs (List.toArray (p.toList.map fun i => vs.getD i Value.none)) }) :
  wpAny (model prog w) A (Builtin.«list.sort» ⟨[.ref a], []⟩) P E s := by
 have lt := Heap.lt_size at0
 have hz : vs.toArray.size = vs.length := by simp
 obtain ⟨e1, at1⟩ : ∃ c, (s.heap.update a (Obj.mapSeq fun _ => (#[] : Array Value))).get? a = some (seqObj "list" #[] c) := ⟨_, get?_update_seq at0 fun _ => #[]⟩
 have old : ∀ b o, b ≠ a → s.heap.get? b = some o → (((s.heap.update a (Obj.mapSeq fun _ => (#[] : Array Value))).push (seqObj "tuple" vs.toArray 0)).push (seqObj "list" #[] 0)).get? b = some o := fun b o hb e =>
  Heap.get?_push_of_some _ (Heap.get?_push_of_some _ (by rw [Heap.get?_update_ne _ _ _ _ hb]; exact e))
 have at6 : (((s.heap.update a (Obj.mapSeq fun _ => (#[] : Array Value))).push (seqObj "tuple" vs.toArray 0)).push (seqObj "list" #[] 0)).get? a = some (seqObj "list" #[] e1) := Heap.get?_push_of_some _ (Heap.get?_push_of_some _ at1)
 rw [list_sort_plain]
 refine wpAny_bind (listItems_at at0 rfl (wpAny_bind (listUpdate_at at0 rfl (wpAny_bind (seqEpoch_at at1 rfl (wpAny_bind (wpAny_newTuple (wpAny_bind (wpAny_newList (wpAny_holding ?_) (Nat.zero_le _))) (by show vs.length ≤ _; rw [sizeLine_eq]; omega))))) (by rw [hz, sizeLine_eq]; omega) (Nat.zero_le _))))
 show wpAny (model prog w) A _ P E { s with heap := (((s.heap.update a (Obj.mapSeq fun _ => (#[] : Array Value))).push (seqObj "tuple" vs.toArray 0)).push (seqObj "list" #[] 0)) }
 dsimp only
 by_cases two : vs.toArray.size < 2
 ·rw [if_pos two, if_pos two]
  refine wpAny_bind (wpAny_pure ?_)
  rw [StateT.run_pure]
  refine wpAny_bind (wpAny_pure ?_)
  dsimp only
  refine wpAny_bind (seqEpoch_at at6 rfl (wpAny_bind (listUpdate_at at6 rfl ?_ (hsz2 := by rw [Array.size_map]; show (pairsOf vs).size ≤ _; rw [pairsOf_size, sizeLine_eq]; omega))))
  simp only [bne_self_eq_false, Bool.false_eq_true, if_false]
  have := fin (List.toArray (List.range vs.length)) (Array.Perm.refl _) (fun i x y => by omega)
  have eo := out_short vs (by omega)
  rw [eo] at this
  exact wpAny_pure this
 ·rw [if_neg two, if_neg two]
  have h2 : 2 ≤ vs.length := by omega
  obtain ⟨κ, kd, ask⟩ := hk h2 _ old
  refine wpAny_bind (wpAny_mono (kd (fun k s' => k = κ ∧ s' = { s with heap := (((s.heap.update a (Obj.mapSeq fun _ => (#[] : Array Value))).push (seqObj "tuple" vs.toArray 0)).push (seqObj "list" #[] 0)) }) ⟨rfl, rfl⟩) ?_ fun _ _ z => z.elim)
  rintro _ _ ⟨rfl, rfl⟩
  have tree := sort_wp (cmp := kas_ask prog w A _ vs) (r := r) (n := vs.length) (s := { s with heap := (((s.heap.update a (Obj.mapSeq fun _ => (#[] : Array Value))).push (seqObj "tuple" vs.toArray 0)).push (seqObj "list" #[] 0)) })
   (Q := fun p s' => (PmN vs.length p ∧ AscTo r p vs.length) ∧ s' = { s with heap := (((s.heap.update a (Obj.mapSeq fun _ => (#[] : Array Value))).push (seqObj "tuple" vs.toArray 0)).push (seqObj "list" #[] 0)) }) ask (by omega) fun p x y => ⟨⟨x, y⟩, rfl⟩
  refine wpAny_bind (wpAny_mono (kat_run (Q := fun st' s' => ∃ p : Array Nat, arrOf st' = p.map (kas_item (vs.toArray.zip vs.toArray)) ∧ failedOf st' = none ∧ (PmN vs.length p ∧ AscTo r p vs.length) ∧ s' = { s with heap := (((s.heap.update a (Obj.mapSeq fun _ => (#[] : Array Value))).push (seqObj "tuple" vs.toArray 0)).push (seqObj "list" #[] 0)) })
   rfl h2 few (fun p' st' s' _ x y z => ⟨p', x, y, z⟩) tree) ?_ fun _ _ z => z)
  rintro ⟨⟨⟩, st'⟩ _ ⟨p, har, hf, ⟨pm, asc⟩, rfl⟩
  dsimp only
  have out := kat_snds (ks := vs) (vs := vs) rfl har
  have osz : (List.toArray (p.toList.map fun i => vs.getD i Value.none)).size = vs.length := by rw [List.size_toArray, List.length_map, Array.length_toList, pm.size]
  rw [out]
  refine wpAny_bind (seqEpoch_at at6 rfl (wpAny_bind (listUpdate_at at6 rfl ?_ (Nat.zero_le _) (by rw [osz, sizeLine_eq]; omega))))
  rw [hf]
  simp only [bne_self_eq_false, Bool.false_eq_true, if_false]
  exact wpAny_pure (fin p pm asc)
end
end L2
namespace L2
open PySem PySem.Spec PyProof.Rows PySem.Calls PySem.W
open PySem.AutoSeq1 (wpAny_loadPart')
open PySem.MeetsSeq PySem.MeetsSeq2 PySem.MeetsSeq3
section
variable {prog : Program} {w : World} {A : Around} {E : Value → Shared → Prop} {s : Shared}
end
section
variable {X : Cx}
end
end L2
namespace L2
open PySem PySem.Spec PyProof.Rows PySem.Calls PySem.W
section
variable {X : Cx} {pins : List (Addr × Obj)} {σ : St} {H : Hp} {s : Shared} {a : Addr} {d : V} {u r : Value} {A : Around} {E : Value → Shared → Prop} {kvs : List (Key × V)} {k : Key}
end
section
variable {X : Cx} {o e f : Expr} {apos cpos : Pos} {td ty tx : TE}
end
end L2
namespace L2
open PySem PySem.Spec PyProof.Rows PySem.Calls PySem.W
open PySem.AutoSeq1 (wpAny_loadPart')
section
variable {prog : Program} {w : World} {A : Around} {E : Value → Shared → Prop} {s : Shared}
end
section
variable {X : Cx}
end
end L2
namespace L2
open PySem PySem.Spec PyProof.Rows PySem.Calls PySem.W
section
variable {prog : Program} {w : World} {A : Around} {E : Value → Shared → Prop} {s : Shared}
end
section
variable {X : Cx}
end
end L2
namespace L2
open PySem PySem.Spec PyProof.Rows PySem.Calls PySem.W
open PySem.AutoSeq1 (wpAny_loadPart')
section
variable {prog : Program} {w : World} {A : Around} {E : Value → Shared → Prop} {s : Shared}
end
section
variable {X : Cx}
end
end L2
namespace L2
open PySem PySem.Spec PyProof.Rows PySem.Calls
mutual
inductive IsNK (h : Heap) : NK → Value → Prop where
 | int (i : Int) (t : Tok) : IsNK h (.int i) (.int i t)
 | str (x : Str) (t : Tok) : IsNK h (.str x) (.str x t)
 | tup {a : Addr} {o : Obj} {items : Array Value} {n : Nat} {l : List NK} : h.get? a = some o → o.cls = .type "tuple" → o.data = .seq items n → IsNKL h l items.toList → IsNK h (.tup l) (.ref a)
inductive IsNKL (h : Heap) : List NK → List Value → Prop where
 | nil : IsNKL h [] []
 | cons {k : NK} {v : Value} {ks : List NK} {vs : List Value} : IsNK h k v → IsNKL h ks vs → IsNKL h (k :: ks) (v :: vs)
end
mutual
noncomputable def ndraw : NK → Nat
 | .int _ => 1
 | .str _ => 1
 | .tup l => ndrawL l + 1
noncomputable def ndrawL : List NK → Nat
 | [] => 0
 | k :: r => ndraw k + ndrawL r
end
section
variable {h h' : Heap}
mutual
theorem IsNK.inj : ∀ {x y : NK} {v : Value}, IsNK h x v → IsNK h y v → x = y
 | _, _, _, .int i t, hy => by cases hy; rfl
 | _, _, _, .str x t, hy => by cases hy; rfl
 | _, _, _, .tup e1 e2 e3 l1, hy => by
  cases hy with
  | tup f1 f2 f3 l2 =>
   rw [e1] at f1
   cases f1
   rw [e3] at f3
   injection f3 with g1 g2
   subst g1
   rw [IsNKL.inj l1 l2]
theorem IsNKL.inj : ∀ {x y : List NK} {v : List Value}, IsNKL h x v → IsNKL h y v → x = y
 | _, _, _, .nil, hy => by cases hy; rfl
 | _, _, _, .cons a l, hy => by
  cases hy with
  | cons b m => rw [IsNK.inj a b, IsNKL.inj l m]
end
mutual
theorem IsNK.keeps {d : Addr} {o : Obj} {es : Array DictEntry} {ep : Nat} (ho : h.get? d = some o) (hd : o.data = .dict es ep) (hs : Heap.SameBut d h h') : ∀ {x : NK} {v : Value}, IsNK h x v → IsNK h' x v
 | _, _, .int i t => .int i t
 | _, _, .str x t => .str x t
 | _, _, .tup (a := a) e1 e2 e3 l => by
  have hne : a ≠ d := by
   rintro rfl
   rw [ho] at e1
   cases e1
   rw [hd] at e3
   exact nomatch e3
  exact .tup ((hs.2 a hne).trans e1) e2 e3 (IsNKL.keeps ho hd hs l)
theorem IsNKL.keeps {d : Addr} {o : Obj} {es : Array DictEntry} {ep : Nat} (ho : h.get? d = some o) (hd : o.data = .dict es ep) (hs : Heap.SameBut d h h') : ∀ {x : List NK} {v : List Value}, IsNKL h x v → IsNKL h' x v
 | _, _, .nil => .nil
 | _, _, .cons a l => .cons (IsNK.keeps ho hd hs a) (IsNKL.keeps ho hd hs l)
end
theorem IsNKL.len : ∀ {x : List NK} {v : List Value}, IsNKL h x v → x.length = v.length
 | _, _, .nil => rfl
 | _, _, .cons a l => by simp [l.len]
theorem IsNKL.get : ∀ {x : List NK} {v : List Value} {i : Nat} {k : NK}, IsNKL h x v → x[i]? = some k → ∃ u, v[i]? = some u ∧ IsNK h k u
 | _, _, _, _, .nil, e => by simp at e
 | _, _, 0, _, .cons a l, e => by simp at e; subst e; exact ⟨_, rfl, a⟩
 | _, _, i + 1, k, .cons a l, e => by
  obtain ⟨u, e1, e2⟩ := l.get (i := i) (k := k) (by simpa using e)
  exact ⟨u, by simpa using e1, e2⟩
end
theorem ndepL_mem : ∀ {l : List NK} {k : NK}, k ∈ l → ndep k ≤ ndepL l
 | [], _, h => by cases h
 | a :: r, k, h => by
  unfold ndepL
  rcases List.mem_cons.1 h with rfl | h
  ·exact Nat.le_max_left _ _
  ·exact Nat.le_trans (ndepL_mem h) (Nat.le_max_right _ _)
section
variable {prog : Program} {w : World} {E : Value → Shared → Prop}
theorem nk_hash : ∀ (n : Nat) {A : Around} {s : Shared} {k : NK} {v : Value} {Q : Int → Shared → Prop}, ndep k ≤ n → A.units + n < cLine → IsNK s.heap k v → Q (nhash w k) { s with toks := s.toks + ndraw k } → wpAny (model prog w) A (pyHash v) Q E s := by
 intro n
 induction n with
 | zero =>
  intro A s k v Q hn hu hk h
  cases hk with
  | int i t => exact wpAny_pyHash_int (by simpa [nhash, ndraw, keyH] using h)
  | str x t => exact wpAny_pyHash_str (by simpa [nhash, ndraw, keyH] using h)
  | tup _ _ _ _ => unfold ndep at hn; omega
 | succ n ih =>
  intro A s k v Q hn hu hk h
  cases hk with
  | int i t => exact wpAny_pyHash_int (by simpa [nhash, ndraw, keyH] using h)
  | str x t => exact wpAny_pyHash_str (by simpa [nhash, ndraw, keyH] using h)
  | @tup a o items m ks ho hc hd hi =>
   have ty : s.TypeIs (.ref a) "tuple" := ⟨o, ho, hc⟩
   have hnl : ndepL ks ≤ n := by unfold ndep at hn; omega
   have sl := F.slot_tuple_hash
   unfold pyHash
   (try unfold pyHashByItsType)
   have main : ∀ {R : Value → Shared → Prop}, R (.int (Builtin.Tuple.tupleHashOf (nhashL w ks)) (s.toks + ndrawL ks)) { s with toks := s.toks + ndrawL ks + 1 } → wpAny (model prog w) A.in1 (Builtin.«tuple.__hash__» ⟨[.ref a], []⟩) (fun fin s' => ∃ v, fin = PySem.Fin.done (.ret v) ∧ R v s') E s := fun {R} hR => by
    refine wpAny_bind (m := Builtin.Tuple.tupleItemsOf (.ref a)) (wpAny_tupleItemsOf ho hd (wpAny_bind ?_))
    rw [← Array.forIn_toList]
    refine wpAny_forIn_list _ (fun rest (acc : Array Int) s' => ∃ pre post, ks = pre ++ post ∧ IsNKL s.heap post rest ∧ acc.toList = nhashL w pre ∧ s' = { s with toks := s.toks + ndrawL pre }) _ ?_ ?_ _ _ ⟨[], ks, rfl, hi, by simp [nhashL], by simp [ndrawL]⟩
    ·rintro v1 more acc _ ⟨pre, post, rfl, hl, hb, rfl⟩
     cases hl with
     | @cons k _ post' _ h1 hl' =>
      have app : ∀ (l : List NK) (k : NK), nhashL w (l ++ [k]) = nhashL w l ++ [nhash w k] ∧ ndrawL (l ++ [k]) = ndrawL l + ndraw k := fun l k => by
       induction l with
       | nil => simp [nhashL, ndrawL]
       | cons a r ih => refine ⟨by simp [nhashL, ih.1], by simp [ndrawL, ih.2]; omega⟩
      refine wpAny_bind (ih (Nat.le_trans (ndepL_mem (by simp)) hnl) (show A.units + 1 + n < cLine by omega) (show IsNK s.heap k v1 from h1) ?_)
      have goal : ∃ pre2 post2, pre ++ k :: post' = pre2 ++ post2 ∧ IsNKL s.heap post2 more ∧ (acc.push (nhash w k)).toList = nhashL w pre2 ∧ ({ s with toks := s.toks + ndrawL pre + ndraw k } : Shared) = { s with toks := s.toks + ndrawL pre2 } := ⟨pre ++ [k], post', by simp, hl', by rw [(app pre k).1]; simp [hb], by rw [(app pre k).2, Nat.add_assoc]⟩
      first | exact wpAny_pure goal | exact wpAny_bind (wpAny_pure (wpAny_pure goal))
    ·rintro acc _ ⟨pre, post, rfl, hl, hb, rfl⟩
     cases hl
     rw [List.append_nil] at hR
     show wpAny _ _ (retInt (Builtin.Tuple.tupleHashOf acc.toList)) _ _ _
     rw [hb]
     refine wpAny_ret_mkInt ?_
     exact hR
   refine wpAny_bind (wpAny_cRoomFor_or (.inr (show A.units < cLine by omega)) (wpAny_bind (wpAny_specialOf ty sl.lookup ?_)))
   refine wpAny_ite_split (fun z => absurd z (by rw [beq_builtin_none]; decide)) fun _ => wpAny_bind (wpAny_specialOf ty sl.lookup ?_)
   refine wpAny_bind (m := callSpecialIfBoundUnlessNone? (.ref a) "__hash__" _) (wpAny_callSpecialIfBoundUnlessNone?_slot ty sl (wpAny_call_entry sl ty F.entry_tuple_hash (main ?_) (F.args_tuple_hash_1 _)))
   unfold nhash ndraw reduceHash at h
   have en : ({ s with toks := s.toks + ndrawL ks + 1 } : Shared) = { s with toks := s.toks + (ndrawL ks + 1) } := by rw [Nat.add_assoc]
   rw [en]
   refine wpAny_ite_split (fun z => ?_) fun z => wpAny_bind (wpAny_rule ?_)
   ·rw [if_pos z] at h; exact wpAny_pure h
   ·rw [if_neg z] at h; exact wpAny_pure h
theorem nk_flat {A : Around} {s : Shared} {k j : NK} {v u : Value} (hu : A.units < cLine) (hk : IsNK s.heap k v) (hj : IsNK s.heap j u) (hd : (∀ l, k ≠ .tup l) ∨ ∀ l, j ≠ .tup l) : SeqAt.EqAt A s v u (decide (k = j)) := by
 have tp : ∀ {a : Addr} {o : Obj} {items : Array Value} {n : Nat}, s.heap.get? a = some o → o.cls = .type "tuple" → o.data = .seq items n → s.heap.IsTuple a items := fun a b c => ⟨_, a, b, _, c⟩
 cases hk with
 | int i t =>
  cases hj with
  | int j t' =>
   rw [show decide (NK.int i = NK.int j) = (i == j) by rw [Bool.eq_iff_iff, decide_eq_true_iff, beq_iff_eq]; exact ⟨fun e => by cases e; rfl, fun e => by rw [e]⟩]
   exact SeqAt.EqAt.int_int _ _ _ _
  | str y t' => rw [decide_eq_false (by intro e; cases e)]; exact SeqAt.EqAt.int_str _ _ _ _
  | tup a b c _ => rw [decide_eq_false (by intro e; cases e)]; exact SeqAt.EqAt.int_tuple _ _ (tp a b c) hu
 | str x t =>
  cases hj with
  | int j t' => rw [decide_eq_false (by intro e; cases e)]; exact SeqAt.EqAt.str_int _ _ _ _
  | str y t' =>
   rw [show decide (NK.str x = NK.str y) = (x == y) by rw [Bool.eq_iff_iff, decide_eq_true_iff, beq_iff_eq]; exact ⟨fun e => by cases e; rfl, fun e => by rw [e]⟩]
   exact SeqAt.EqAt.str_str _ _ _ _
  | tup a b c _ => rw [decide_eq_false (by intro e; cases e)]; exact SeqAt.EqAt.str_tuple _ _ (tp a b c) hu
 | tup a b c _ =>
  cases hj with
  | int j t' => rw [decide_eq_false (by intro e; cases e)]; exact SeqAt.EqAt.tuple_int _ _ (tp a b c) hu
  | str y t' => rw [decide_eq_false (by intro e; cases e)]; exact SeqAt.EqAt.tuple_str _ _ (tp a b c) hu
  | tup _ _ _ _ =>
   rcases hd with h | h
   ·exact (h _ rfl).elim
   ·exact (h _ rfl).elim
theorem all_eq_list {α : Type} (l m : List α) (e : Nat → Bool) (he : ∀ (j : Nat) a b, l[j]? = some a → m[j]? = some b → (e j = true ↔ a = b)) : ((List.range (min l.length m.length)).all e && (l.length == m.length)) = true ↔ l = m := by
 rw [Bool.and_eq_true, List.all_eq_true, beq_iff_eq]
 constructor
 ·rintro ⟨h1, h2⟩
  refine List.ext_getElem? fun j => ?_
  by_cases hj : j < l.length
  ·have hj2 : j < m.length := by omega
   rw [List.getElem?_eq_getElem hj, List.getElem?_eq_getElem hj2]
   exact congrArg some ((he j _ _ (List.getElem?_eq_getElem hj) (List.getElem?_eq_getElem hj2)).1 (h1 j (List.mem_range.2 (by omega))))
  ·rw [List.getElem?_eq_none (by omega), List.getElem?_eq_none (by omega)]
 ·rintro rfl
  refine ⟨fun j hj => ?_, rfl⟩
  have hj := List.mem_range.1 hj
  have hj : j < l.length := by omega
  exact (he j _ _ (List.getElem?_eq_getElem hj) (List.getElem?_eq_getElem hj)).2 rfl
theorem nk_eq : ∀ (n : Nat) {A : Around} {s : Shared} {k j : NK} {v u : Value}, ndep k ≤ n → A.units + n < cLine → IsNK s.heap k v → IsNK s.heap j u → SeqAt.EqAt A s v u (decide (k = j)) := by
 intro n
 induction n with
 | zero =>
  intro A s k j v u hn hu hk hj
  refine nk_flat (by omega) hk hj (.inl fun l e => ?_)
  subst e
  unfold ndep at hn
  omega
 | succ n ih =>
  intro A s k j v u hn hu hk hj
  cases hk with
  | int i t => exact nk_flat (by omega) (.int i t) hj (.inl fun l e => by cases e)
  | str i t => exact nk_flat (by omega) (.str i t) hj (.inl fun l e => by cases e)
  | @tup a o items m l ho hc hd hi =>
   cases hj with
   | int i t => exact nk_flat (by omega) (.tup ho hc hd hi) (.int i t) (.inr fun l e => by cases e)
   | str i t => exact nk_flat (by omega) (.tup ho hc hd hi) (.str i t) (.inr fun l e => by cases e)
   | @tup a' o' items' m' l' ho' hc' hd' hi' =>
    have hnl : ndepL l ≤ n := by unfold ndep at hn; omega
    by_cases hab : a = a'
    ·subst hab
     have e := (IsNK.tup ho hc hd hi).inj (IsNK.tup ho' hc' hd' hi')
     rw [decide_eq_true e]
     exact SeqAt.EqAt.same _
    ·refine SeqAt.EqAt.of_refs hab ?_
     have s1 : items.size = l.length := by have := hi.len; simpa using this.symm
     have s2 : items'.size = l'.length := by have := hi'.len; simpa using this.symm
     have := SeqAt.RcAt.tuples (A := A) (s := s) (e := fun q => decide (l[q]? = l'[q]?)) ⟨o, ho, hc, m, hd⟩ ⟨o', ho', hc', m', hd'⟩ (by omega) (fun q h1 h2 => by
      have q1 : l[q]? = some l[q] := List.getElem?_eq_getElem (by omega)
      have q2 : l'[q]? = some l'[q] := List.getElem?_eq_getElem (by omega)
      obtain ⟨u1, f1, g1⟩ := hi.get q1
      obtain ⟨u2, f2, g2⟩ := hi'.get q2
      have e1 : items[q] = u1 := by rw [Array.getElem?_toList] at f1; rw [Array.getElem?_eq_getElem h1] at f1; exact Option.some.inj f1
      have e2 : items'[q] = u2 := by rw [Array.getElem?_toList] at f2; rw [Array.getElem?_eq_getElem h2] at f2; exact Option.some.inj f2
      rw [e1, e2]
      have := ih (A := A.in1) (Nat.le_trans (ndepL_mem (List.getElem_mem (by omega))) hnl) (by show A.units + 1 + n < cLine; omega) g1 g2
      rwa [show decide (l[q]? = l'[q]?) = decide (l[q] = l'[q]) by rw [q1, q2, decide_eq_decide, Option.some.injEq]])
     rw [s1, s2] at this
     have hfin : ((List.range (min l.length l'.length)).all (fun q => decide (l[q]? = l'[q]?)) && (l.length == l'.length)) = decide (NK.tup l = NK.tup l') := by
      rw [Bool.eq_iff_iff, decide_eq_true_iff, all_eq_list l l' _ fun j a b ha hb => by rw [decide_eq_true_iff, ha, hb, Option.some.injEq]]
      exact ⟨fun e => by rw [e], fun e => by cases e; rfl⟩
     rwa [hfin] at this
theorem nk_quiet : ∀ (n : Nat) {A : Around} {s : Shared} {k : NK} {v : Value} {Q : Bool → Shared → Prop}, ndep k ≤ n → IsNK s.heap k v → Q true s → wpAny (model prog w) A (eqIsQuiet n v) Q E s := by
 intro n
 induction n with
 | zero =>
  intro A s k v Q hn hk h
  cases hk with
  | int i t => rw [eqIsQuiet_byValue _ rfl]; exact wpAny_pure h
  | str x t => rw [eqIsQuiet_byValue _ rfl]; exact wpAny_pure h
  | tup _ _ _ _ => unfold ndep at hn; omega
 | succ n ih =>
  intro A s k v Q hn hk h
  cases hk with
  | int i t => rw [eqIsQuiet_byValue _ rfl]; exact wpAny_pure h
  | str x t => rw [eqIsQuiet_byValue _ rfl]; exact wpAny_pure h
  | @tup a o items m ks ho hc hd hi =>
   have ty : s.TypeIs (.ref a) "tuple" := ⟨o, ho, hc⟩
   have hnl : ndepL ks ≤ n := by unfold ndep at hn; omega
   unfold eqIsQuiet
   refine wpAny_bind (wpAny_specialOf ty F.slot_tuple_eq.lookup (wpAny_bind (m := isInstance (.ref a) (.type "tuple")) (wpAny_isInstance ty isSubtype_tuple_tuple ?_)))
   refine wpAny_ite_split (fun z => by cases z) fun _ => wpAny_bind (wpAny_seqItems ho hd (wpAny_bind (m := forIn items _ _) ?_))
   rw [← Array.forIn_toList]
   refine wpAny_forIn_list _ (fun rest acc s' => acc.1 = none ∧ s' = s ∧ ∃ post, (∀ k ∈ post, ndep k ≤ n) ∧ IsNKL s.heap post rest) _ ?_ ?_ _ _ ⟨rfl, rfl, ks, fun k hk => Nat.le_trans (ndepL_mem hk) hnl, hi⟩
   ·rintro v1 rest acc _ ⟨ha, rfl, post, hall, hl⟩
    cases hl with
    | @cons k _ post' _ h1 hl' => exact wpAny_bind (ih (hall k (by simp)) h1 (wpAny_ite_split (fun z => by cases z) fun _ => wpAny_pure ⟨rfl, rfl, post', fun u hu => hall u (List.mem_cons_of_mem _ hu), hl'⟩))
   ·rintro ⟨a1, a2⟩ _ ⟨ha, rfl, _⟩
    cases ha
    exact wpAny_pure h
end
noncomputable def nKind (prog : Program) (w : World) : HeapKind prog w NK where
 is := fun h k a => IsNK h k (.ref a) ∧ ndep k ≤ 8
 hash := nhash w
 draws := ndraw
 room := fun A => A.units + 8 < cLine
 inj := fun hx hy => hx.1.inj hy.1
 keeps := fun x ho hd hs => ⟨x.1.keeps ho hd hs, x.2⟩
 pyHash := fun hu hk h => nk_hash 8 hk.2 hu hk.1 h
 eqBool := fun hu hx hy h => nk_eq 8 hx.2 hu hx.1 hy.1 _ _ _ _ h
 quiet := fun hk h => nk_quiet 8 hk.2 hk.1 h
end L2
namespace L2
open PySem PySem.Spec PyProof.Rows PySem.Calls
mutual
inductive NIs (K : PySem.W.Frag) (H : Hp) : V → NK → Prop where
 | int (i : Int) : NIs K H (.int i) (.int i)
 | str (x : Str) : NIs K H (.str x) (.str x)
 | tup {a : Addr} {vs : List V} {l : List NK} : SqT K H a vs → NIsL K H vs l → NIs K H (.ref a) (.tup l)
inductive NIsL (K : PySem.W.Frag) (H : Hp) : List V → List NK → Prop where
 | nil : NIsL K H [] []
 | cons {v : V} {k : NK} {vs : List V} {ks : List NK} : NIs K H v k → NIsL K H vs ks → NIsL K H (v :: vs) (k :: ks)
end
section
variable {X : Cx} {pins : List (Addr × Obj)} {σ : St} {H : Hp} {s : Shared}
mutual
theorem NIs.isNK (I : Inv X pins σ H s) : ∀ {v : V} {k : NK} {u : Value}, NIs X.K H v k → RelV v u → IsNK s.heap k u
 | _, _, _, .int i, r => by obtain ⟨t, rfl⟩ := (show ∃ t, _ = Value.int i t from r); exact .int i t
 | _, _, _, .str x, r => by obtain ⟨t, rfl⟩ := (show ∃ t, _ = Value.str x t from r); exact .str x t
 | _, _, _, .tup (a := a) h l, r => by
  cases (show _ = Value.ref a from r)
  obtain ⟨its, r1, ⟨o, p1, p2, n, p3⟩, _⟩ := I.tuple h
  exact .tup p1 p2 p3 (NIsL.isNK I l (by simpa using r1))
theorem NIsL.isNK (I : Inv X pins σ H s) : ∀ {v : List V} {k : List NK} {u : List Value}, NIsL X.K H v k → Vals v u → IsNKL s.heap k u
 | _, _, _, .nil, r => by cases r; exact .nil
 | _, _, _, .cons h l, r => by
  cases r with
  | cons a b => exact .cons (NIs.isNK I h a) (NIsL.isNK I l b)
end
end
noncomputable def NAll (K : PySem.W.Frag) (H : Hp) (ks : List (NK × Addr × V)) : Prop := ∀ p ∈ ks, NIs K H (.ref p.2.1) p.1 ∧ ndep p.1 ≤ 8
noncomputable def valN (ks : List (NK × Addr × V)) (k : NK) : Option V := (ks.find? fun p => decide (p.1 = k)).map (·.2.2)
noncomputable def putN (ks : List (NK × Addr × V)) (k : NK) (b : Addr) (v : V) : List (NK × Addr × V) := if (valN ks k).isSome = true then ks.map (fun p => if p.1 = k then (p.1, p.2.1, v) else p) else ks ++ [(k, b, v)]
theorem length_putN (ks : List (NK × Addr × V)) (k : NK) (b : Addr) (v : V) : (putN ks k b v).length ≤ ks.length + 1 := by
 unfold putN
 split
 ·rw [List.length_map]; omega
 ·simp
noncomputable abbrev PN : List (NK × Addr × V) → List (NK × Addr × Value) → Prop := Paired fun (p : NK × Addr × V) (q : NK × Addr × Value) => p.1 = q.1 ∧ p.2.1 = q.2.1 ∧ RelV p.2.2 q.2.2
theorem PN.val {ks : List (NK × Addr × V)} {xs : List (NK × Addr × Value)} (r : PN ks xs) (k : NK) : RelO (valN ks k) ((atKey xs k).map (·.2)) := by
 induction r with
 | nil => exact True.intro
 | @cons p q ps qs h t ih =>
  obtain ⟨h1, _, h2⟩ := h
  by_cases e : p.1 = k
  ·have e' : q.1 = k := h1.symm.trans e
   have b : atKey (q :: qs) k = some q.2 := by simp [atKey, List.find?_cons, e']
   have a : valN (p :: ps) k = some p.2.2 := by simp [valN, List.find?_cons, e]
   rw [a, b]; exact h2
  ·have e' : ¬ q.1 = k := fun z => e (h1.trans z)
   have b : atKey (q :: qs) k = atKey qs k := by simp [atKey, List.find?_cons, e']
   have a : valN (p :: ps) k = valN ps k := by simp [valN, List.find?_cons, e]
   rw [a, b]; exact ih
theorem PN.put {ks : List (NK × Addr × V)} {xs : List (NK × Addr × Value)} (r : PN ks xs) (k : NK) {b : Addr} {y : V} {u : Value} (ry : RelV y u) : PN (putN ks k b y) (storedH xs k b u) := by
 have e : (valN ks k).isSome = (atKey xs k).isSome := by rw [(r.val k).isSome_eq, Option.isSome_map]
 unfold putN storedH
 rw [e]
 by_cases q : (atKey xs k).isSome = true
 ·rw [if_pos q, if_pos q]
  clear q e
  induction r with
  | nil => exact .nil
  | @cons p q ps qs h t ih =>
   rw [List.map_cons, List.map_cons]
   refine .cons ?_ ih
   obtain ⟨h1, h2, h3⟩ := h
   unfold putAt
   by_cases e : p.1 = k
   ·rw [if_pos e, if_pos (h1.symm.trans e)]; exact ⟨h1, h2, ry⟩
   ·rw [if_neg e, if_neg (fun z => e (h1.trans z))]; exact ⟨h1, h2, h3⟩
 ·rw [if_neg q, if_neg q]; exact Paired.snoc r ⟨rfl, rfl, ry⟩
theorem PN.all {P : NK → Addr → Prop} {ks : List (NK × Addr × V)} {xs : List (NK × Addr × Value)} (r : PN ks xs) (h : ∀ p ∈ ks, P p.1 p.2.1) : ∀ x ∈ xs, P x.1 x.2.1 := by
 induction r with
 | nil => intro x hx; cases hx
 | @cons p q ps qs h' t ih =>
  intro x hx
  rcases List.mem_cons.1 hx with rfl | hx
  ·obtain ⟨e1, e2, _⟩ := h'
   rw [← e1, ← e2]
   exact h p (by simp)
  ·exact ih (fun p hp => h p (by simp [hp])) x hx
section
variable {X : Cx} {pins : List (Addr × Obj)} {σ : St} {H : Hp} {s : Shared} {a : Addr}
theorem dn_of {ks : List (NK × Addr × V)} (I : Inv X pins σ H s) (e : H a = some (.dN ks)) (hk : NAll X.K H ks) : ks.length ≤ sizeLine ∧ (a == sysModules) = false ∧ ∃ xs, PN ks xs ∧ s.heap.DictOfH (nKind X.prog X.w) a xs := by
 obtain ⟨z, y, xs, r, o, es, ep, h1, h2, h3, h4, h5⟩ := (show ObjOk X.prog X.w H s.heap a (.dN ks) from I.hok a _ e)
 refine ⟨z, y, xs, r, o, es, ep, h1, h2, h3, h4, ?_, h5⟩
 exact PN.all r (P := fun k b => (nKind X.prog X.w).is s.heap k b) fun p hp => ⟨(hk p hp).1.isNK I rfl, (hk p hp).2⟩
theorem dk_nil (I : Inv X pins σ H s) (e : H a = some (.dK [])) : (a == sysModules) = false ∧ s.heap.DictOfH (nKind X.prog X.w) a [] := by
 obtain ⟨z, y, vs, r, o, es, ep, h1, h2, h3, h4, h5, _⟩ := dk_of I.hok e
 cases r
 refine ⟨y, o, es, ep, h1, h2, h3, ?_, by simp, by simp⟩
 have : es.toList = [] := by
  have := h5.length
  simpa using this
 rw [this]
 rfl
end
noncomputable def DGetN (K : PySem.W.Frag) (H : Hp) (a : Addr) (y : V) (r : Option V) : Prop :=
 DGet H a y r ∨ ∃ k b, y = .ref b ∧ NIs K H y k ∧ ndep k ≤ 8 ∧ ((∃ ks, H a = some (.dN ks) ∧ NAll K H ks ∧ r = valN ks k) ∨ (H a = some (.dK []) ∧ r = none))
noncomputable def DPutN (K : PySem.W.Frag) (H : Hp) (a : Addr) (y v : V) (H' : Hp) : Prop :=
 DPut H a y v H' ∨ ∃ k b, y = .ref b ∧ NIs K H y k ∧ ndep k ≤ 8 ∧ ((∃ ks, H a = some (.dN ks) ∧ NAll K H ks ∧ ks.length < sizeLine ∧ H' = upd H a (.dN (putN ks k b v))) ∨ (H a = some (.dK []) ∧ H' = upd H a (.dN [(k, b, v)])))
section
variable {X : Cx} {pins : List (Addr × Obj)} {σ : St} {H : Hp} {s : Shared} {a : Addr} {y v d : V} {u r : Value} {o : Option V} {A : Around} {E : Value → Shared → Prop}
theorem dgN {k : NK} (I : Inv X pins σ H s) (h : (∃ ks, H a = some (.dN ks) ∧ NAll X.K H ks ∧ o = valN ks k) ∨ (H a = some (.dK []) ∧ o = none)) : (a == sysModules) = false ∧ ∃ xs, s.heap.DictOfH (nKind X.prog X.w) a xs ∧ RelO o ((atKey xs k).map (·.2)) := by
 rcases h with ⟨ks, e, hk, rfl⟩ | ⟨e, rfl⟩
 ·obtain ⟨_, hd, xs, rel, dd⟩ := dn_of I e hk
  exact ⟨hd, xs, dd, rel.val k⟩
 ·obtain ⟨hd, dd⟩ := dk_nil I e
  exact ⟨hd, [], dd, True.intro⟩
theorem d_getItemN {Q : Value → Shared → Prop} (hu : A.units + 9 < cLine) (I : Inv X pins σ H s) (g : DGetN X.K H a y (some v)) (ry : RelV y u) (h : ∀ w' s', Inv X pins σ H s' → RelV v w' → Q w' s') : wpAny (model X.prog X.w) A (getItem (.ref a) u) Q E s := by
 rcases g with g | ⟨k, b, rfl, hk, hd, g⟩
 ·exact d_getItem (by omega) I g ry h
 ·cases (show u = Value.ref b from ry)
  obtain ⟨_, xs, dd, rel⟩ := dgN I g
  obtain ⟨w', hw, rw'⟩ := RelO.some_of rel
  obtain ⟨p, hp, hp2⟩ := Option.map_eq_some_iff.mp hw
  refine wpAny_getItem_heap (knd := nKind X.prog X.w) (by show A.units + 1 + 8 < cLine; omega) ⟨hk.isNK I rfl, hd⟩ dd hp ?_
  rw [hp2]
  exact h w' _ (I.tok _) rw'
theorem d_get2N {Q : Value → Shared → Prop} (hu : A.units + 9 < cLine) (I : Inv X pins σ H s) (g : DGetN X.K H a y o) (ry : RelV y u) (rd : RelV d r) (h : ∀ w' s', Inv X pins σ H s' → RelV (o.getD d) w' → Q w' s') :
  wpAny (model X.prog X.w) A (call (.builtin "dict.get") [.ref a, u, r]) Q E s := by
 rcases g with g | ⟨k, b, rfl, hk, hd, g⟩
 ·exact d_get2 (by omega) I g ry rd h
 ·cases (show u = Value.ref b from ry)
  obtain ⟨hs, xs, dd, rel⟩ := dgN I g
  refine call_meetsIn PySem.F.slot_dict_get dd.typeIs PySem.F.entry_dict_get (PySem.F.args_dict_get_3 _ _ _) (meetsH_dict_get_default (nKind X.prog X.w) a b hs r) ⟨by show A.units + 1 + 8 < cLine; omega, k, xs, ⟨hk.isNK I rfl, hd⟩, dd, h _ _ (I.tok _) ?_⟩
  exact rel.getD rd
theorem d_setItemN {H' : Hp} {Q : Unit → Shared → Prop} (hu : A.units + 9 < cLine) (I : Inv X pins σ H s) (g : DPutN X.K H a y v H') (ry : RelV y u) (rv : RelV v r) (h : ∀ s', Inv X pins σ H' s' → Q () s') :
  wpAny (model X.prog X.w) A (setItem (.ref a) u r) Q E s := by
 rcases g with g | ⟨k, b, rfl, hk, hd, ⟨ks, e, hks, hl, rfl⟩ | ⟨e, rfl⟩⟩
 ·exact d_setItem (by omega) I g ry rv h
 ·cases (show u = Value.ref b from ry)
  obtain ⟨z, hs, xs, rel, dd⟩ := dn_of I e hks
  have hz : xs.length ≤ sizeLine := by rw [← Paired.length rel]; exact z
  have hl2 : (putN ks k b v).length ≤ sizeLine := by have := length_putN ks k b v; omega
  refine wpAny_setItem_heap (knd := nKind X.prog X.w) (hsz := hz) (by show A.units + 1 + 8 < cLine; omega) ⟨hk.isNK I rfl, hd⟩ dd fun h' dd' hs' => h _ ?_
  obtain ⟨q, es, ep, hq, h2, h3, h4, _, h5⟩ := dd'
  exact d_write I (by rw [e]; exact True.intro) hs' ⟨q, hq⟩ ⟨hl2, hs, _, rel.put k rv, q, es, ep, hq, h2, h3, h4, h5⟩
 ·cases (show u = Value.ref b from ry)
  obtain ⟨hs, dd⟩ := dk_nil I e
  refine wpAny_setItem_heap (knd := nKind X.prog X.w) (hsz := Nat.zero_le _) (by show A.units + 1 + 8 < cLine; omega) ⟨hk.isNK I rfl, hd⟩ dd fun h' dd' hs' => h _ ?_
  obtain ⟨q, es, ep, hq, h2, h3, h4, _, h5⟩ := dd'
  refine d_write I (by rw [e]; exact True.intro) hs' ⟨q, hq⟩ ⟨by simp; decide, hs, _, ?_, q, es, ep, hq, h2, h3, h4, h5⟩
  exact .cons ⟨rfl, rfl, rv⟩ .nil
theorem dict_typeIsN (I : Inv X pins σ H s) (g : DGetN X.K H a y o) : s.TypeIs (.ref a) "dict" := by
 rcases g with g | ⟨k, b, rfl, hk, hd, g⟩
 ·exact dict_typeIs I g
 ·obtain ⟨_, xs, dd, _⟩ := dgN I g
  exact dd.typeIs
end
noncomputable def IsDN (K : PySem.W.Frag) (H : Hp) (a : Addr) : Prop := IsD H a ∨ ∃ ks, H a = some (.dN ks) ∧ NAll K H ks
theorem isDN_at {X : Cx} {pins : List (Addr × Obj)} {σ : St} {H : Hp} {s : Shared} {a : Addr} (I : Inv X pins σ H s) (d : IsDN X.K H a) :
  s.TypeIs (.ref a) "dict" ∧ (∀ b, Value.ref a = .ref b → ∃ ob, s.heap.get? b = some ob ∧ ob.dict = none) ∧ (a == sysModules) = false := by
 rcases d with d | ⟨ks, e, hk⟩
 ·exact isD_at I d
 ·obtain ⟨_, hd, xs, _, dd⟩ := dn_of I e hk
  refine ⟨dd.typeIs, fun b q => ?_, hd⟩
  cases q
  obtain ⟨ob, _, _, h1, h2, _⟩ := dd
  exact ⟨ob, h1, h2.2.1⟩
noncomputable def tDGetN (K : PySem.W.Frag) (td ty : TE) : TE := fun σ H Q => td σ H fun x H1 => ty σ H1 fun y H2 => ∃ a v, x = .ref a ∧ DGetN K H2 a y (some v) ∧ Q v H2
noncomputable def sDPutN (K : PySem.W.Frag) (td ty tv : TE) : TS := fun D σ H => tv σ H fun v H1 => td σ H1 fun x H2 => ty σ H2 fun y H3 => ∃ a H4, x = .ref a ∧ DPutN K H3 a y v H4 ∧ D.nx σ H4
noncomputable def tDGet2N (K : PySem.W.Frag) (td ty tx : TE) : TE := fun σ H Q => td σ H fun x H1 => ∃ a, x = .ref a ∧ IsDN K H1 a ∧ ty σ H1 fun y H2 => tx σ H2 fun z H3 => ∃ o, DGetN K H3 a y o ∧ Q (o.getD z) H3
section
variable {X : Cx} {o i e f value : Expr} {pos pos' tpos apos cpos : Pos} {td ty tv tx : TE} {K : PySem.W.Frag} {r : Nat}
theorem room9 (hr : Room r X.A) : X.A.units + 9 < cLine := by have := hr.un; omega
theorem pe_dgetN (hr : Room r X.A) (ho : PE X o td) (hi : PE X i ty) (hs : NoSl i) (hK : X.K = K := by rfl) : PE X (.Subscript o i pos) (tDGetN K td ty) := by
 subst hK
 intro pins s σ H Q I h
 refine subD_of PySem.F.slot_dict_getitem.lookup hs (thn (ho pins s σ H _ I h) fun u s1 ⟨x, H1, I1, rx, q1⟩ => thn (hi pins s1 σ H1 _ I1 q1) fun iv s2 ⟨y, H2, I2, ry, a, v, ex, g, q2⟩ => ?_)
 subst ex
 obtain rfl : u = Value.ref a := rx
 exact ⟨dict_typeIsN I2 g, d_getItemN (room9 hr) I2 g ry fun w' s3 I3 rw' => ⟨v, H2, I3, rw', q2⟩⟩
theorem ps_dputN (hr : Room r X.A) (ho : PE X o td) (hi : PE X i ty) (hv : PE X value tv) (hs : swapsWith value (some (.Subscript o i pos')) pos.line X.env = pure false) (hK : X.K = K := by rfl) :
  PS X (.Assign [.Subscript o i pos'] value pos) (sDPutN K td ty tv) := by
 subst hK
 intro pins s σ H D I h
 refine wpAny_Assign_Subscript (thn (hv pins s σ H _ I h) fun r s1 ⟨v, H1, I1, rv, q1⟩ => thn (ho pins s1 σ H1 _ I1 q1) fun u s2 ⟨x, H2, I2, rx, q2⟩ => thn (hi pins s2 σ H2 _ I2 q2) fun iv s3 ⟨y, H3, I3, ry, a, H4, ex, g, q3⟩ => ?_) hs
 subst ex
 obtain rfl : u = Value.ref a := rx
 exact d_setItemN (room9 hr) I3 g ry rv fun s4 I4 => ⟨σ, H4, I4, q3⟩
theorem pe_dget2N (hr : Room r X.A) (ho : PE X o td) (he : PE X e ty) (hf : PE X f tx) (m : M2 X o "get" apos e f cpos) (hK : X.K = K := by rfl) : PE X (.Call (.Attribute o "get" apos) [e, f] [] cpos) (tDGet2N K td ty tx) := by
 subst hK
 intro pins s σ H Q I h
 refine wpAny_Call_method m.base m.few m.line PySem.F.plainAttrs_dict PySem.F.slot_dict_get PySem.F.type_dict_get (thn (ho pins s σ H _ I h) fun u s1 ⟨x, H1, I1, rx, a, ex, d, q1⟩ => ?_)
 subst ex
 obtain rfl : u = Value.ref a := rx
 obtain ⟨t1, t2, _⟩ := isDN_at I1 d
 refine ⟨t1, t2, ?_⟩
 rw [m.trees]
 refine Calls.callWith_builtin rfl (Calls.evalArgs_plain (Calls.spliced_cons (thn (he pins s1 σ H1 _ I1 q1) fun iv s2 ⟨y, H2, I2, ry, q2⟩ =>
  Calls.spliced_cons (thn (hf pins s2 σ H2 _ I2 q2) fun fv s3 ⟨z, H3, I3, rz, ov, g, q3⟩ => Calls.spliced_nil ?_))))
 exact d_get2N (room9 hr) I3 g ry rz fun w' s4 I4 rw' => ⟨_, H3, I4, rw', q3⟩
end
end L2
namespace L2
open PySem PySem.Spec PyProof.Rows PySem.Calls PySem.W
noncomputable def RawD (h : Heap) (a : Addr) (es : Array DictEntry) (ep : Nat) : Prop := ∃ o, h.get? a = some o ∧ o.ExactDict ∧ o.data = .dict es ep
section
variable {prog : Program} {w : World} {A : Around} {E : Value → Shared → Prop} {s : Shared} {d it : Addr} {es : Array DictEntry} {ep i : Nat}
theorem RawD.at_ {h h' : Heap} (x : RawD h d es ep) (e : ∀ o, h.get? d = some o → h'.get? d = some o) : RawD h' d es ep := by
 obtain ⟨o, h1, h2⟩ := x
 exact ⟨o, e o h1, h2⟩
theorem RawD.lt {h : Heap} (x : RawD h d es ep) : d < h.objs.size := by
 obtain ⟨o, h1, _⟩ := x
 exact Heap.lt_size h1
theorem RawD.type (x : RawD s.heap d es ep) : s.TypeIs (.ref d) "dict" := by
 obtain ⟨o, h1, h2, _⟩ := x
 exact ⟨o, h1, h2.1⟩
theorem raw_iter {Q : Value → Shared → Prop} (lo : (d == sysModules) = false) (x : RawD s.heap d es ep) (q : Q (.ref s.heap.objs.size) { s with heap := s.heap.push { cls := .type "dict_keyiterator", data := .fields #[.ref d, .int 0 0, .int es.size 0, .int ep 0] } }) :
  wpAny (model prog w) A (pyIter (.ref d)) Q E s := by
 have ty := x.type
 obtain ⟨o, h1, h2, h3⟩ := x
 refine wpAny_pyIter_slot ty F.slot_dict_iter (wpAny_call_entry F.slot_dict_iter ty F.entry_dict_iter ?_ (F.args_dict_iter_1 _))
 unfold Builtin.«dict.__iter__» Builtin.Dict.dictSlotNone
 refine wpAny_bind (wpAny_bind (wpAny_notOrdered_dict ty (wpAny_pure (a := Value.ref d) (wpAny_bind (m := Builtin.Dict.showsAll d) ?_))))
 unfold Builtin.Dict.showsAll
 refine wpAny_ite_split (fun z => by rw [lo] at z; cases z) fun _ => wpAny_pure (wpAny_bind (wpAny_dictEntries h1 h3 (wpAny_bind (wpAny_dictEpoch h1 h3 (wpAny_bind (wpAny_newObj_type (wpAny_pure ⟨_, rfl, "dict_keyiterator", _, ⟨_, Heap.get?_push_size _ rfl, rfl⟩, F.slot_dict_keyiterator_next.lookup, ?_⟩)))))))
 simpa [rawInt] using q
theorem raw_next {e : DictEntry} {Q : Option Value → Shared → Prop} (hit : s.heap.IsKeyIter it d i es.size ep) (x : RawD s.heap d es ep) (he : es[i]? = some e)
  (q : ∀ h', h'.IsKeyIter it d (i + 1) es.size ep → Heap.SameBut it s.heap h' → Q (some e.key) { s with heap := h' }) : wpAny (model prog w) A (pyNext (.ref it)) Q E s := by
 have ty := hit.typeIs
 obtain ⟨o, ho, hc, hd⟩ := id hit
 obtain ⟨od, h1, h2, h3⟩ := x
 have own : Builtin.Dict_items.ownsTuple "dict_keyiterator" = false := by decide
 unfold pyNext
 refine wpAny_bind (wpAny_attempt (wpAny_callSpecial?_slot (name := Str.ofString "__next__") ty F.slot_dict_keyiterator_next (wpAny_call_entry F.slot_dict_keyiterator_next ty F.entry_dict_keyiterator_next (wpAny_bind (wpAny_pure (wpAny_bind (wpAny_bind ?_)))) (F.args_dict_keyiterator_next_1 _))))
 have hsz : i < es.size := (Array.getElem?_eq_some_iff.1 he).1
 have upd1 : (s.heap.update it (Obj.mapFields (·.setIfInBounds 1 (rawInt ((i : Int) + 1))))).IsKeyIter it d (i + 1) es.size ep :=
  ⟨_, Heap.get?_update_self _ ho (Obj.isFreed_of_fields (Obj.data_mapFields hd _)), (Obj.cls_mapFields ..).trans hc, by rw [Obj.data_mapFields hd]; simp [rawInt]⟩
 have nm : ∀ {R : String → Shared → Prop}, R "dict_keyiterator" s → wpAny (model prog w) A.in1 (typeNameOfWhole (.ref it)) R E s := fun h => wpAny_typeNameOfWhole_keyiter ty h
 refine wpAny_bind (wpAny_typeNameOfWhole_keyiter ty (wpAny_pure (wpAny_bind (wpAny_fieldsOf ho hd ?_))))
 simp only [own, Bool.false_eq_true, if_false]
 refine wpAny_ite_split (c := (Value.ref d == Value.none) = true) (fun z => by cases z) fun _ => wpAny_bind (wpAny_pure (wpAny_bind (wpAny_dictEntries h1 h3 ?_)))
 rw [if_neg (by simp)]
 refine wpAny_bind (wpAny_pure (wpAny_bind (wpAny_dictEpoch h1 h3 ?_)))
 rw [if_neg (by simp)]
 refine wpAny_pure ?_
 simp only [show ¬ ((i : Int) < 0) from by omega, if_false, Int.toNat_natCast, he]
 refine wpAny_bind (wpAny_bind (wpAny_typeNameOfWhole_keyiter ty (wpAny_pure (wpAny_bind (wpAny_isOneOf_keyiter ty ?_)))))
 refine wpAny_bind (m := setField (.ref it) 1 (rawInt ((i : Int) + 1))) (wpAny_setField ho hd (by simp) (wpAny_bind (wpAny_holding (wpAny_bind (wpAny_isOneOf_keyiter (s := { s with heap := s.heap.update it (Obj.mapFields (·.setIfInBounds 1 (rawInt ((i : Int) + 1)))) }) upd1.typeIs ?_)))))
 exact wpAny_pure (a := e.key) (wpAny_pure ⟨_, rfl, wpAny_pure (q _ upd1 (Heap.SameBut.update ..))⟩)
theorem raw_end {Q : Option Value → Shared → Prop} (hh : A.handled = none) (hit : s.heap.IsKeyIter it d i es.size ep) (x : RawD s.heap d es ep) (he : es[i]? = none) (q : ∀ h', Heap.ExtBut it s.heap h' → Q none { s with heap := h' }) : wpAny (model prog w) A (pyNext (.ref it)) Q E s := by
 have ty := hit.typeIs
 obtain ⟨o, ho, hc, hd⟩ := id hit
 obtain ⟨od, h1, h2, h3⟩ := x
 have own : Builtin.Dict_items.ownsTuple "dict_keyiterator" = false := by decide
 unfold pyNext
 refine wpAny_bind (wpAny_attempt (wpAny_callSpecial?_slot (name := Str.ofString "__next__") ty F.slot_dict_keyiterator_next (wpAny_call_entry F.slot_dict_keyiterator_next ty F.entry_dict_keyiterator_next (wpAny_bind (wpAny_pure (wpAny_bind (wpAny_bind ?_)))) (F.args_dict_keyiterator_next_1 _))))
 refine wpAny_bind (wpAny_typeNameOfWhole_keyiter ty (wpAny_pure (wpAny_bind (wpAny_fieldsOf ho hd ?_))))
 simp only [own, Bool.false_eq_true, if_false]
 refine wpAny_ite_split (c := (Value.ref d == Value.none) = true) (fun z => by cases z) fun _ => wpAny_bind (wpAny_pure (wpAny_bind (wpAny_dictEntries h1 h3 ?_)))
 rw [if_neg (by simp)]
 refine wpAny_bind (wpAny_pure (wpAny_bind (wpAny_dictEpoch h1 h3 ?_)))
 rw [if_neg (by simp)]
 refine wpAny_pure ?_
 simp only [show ¬ ((i : Int) < 0) from by omega, if_false, Int.toNat_natCast, he]
 refine wpAny_bind (wpAny_bind (wpAny_typeNameOfWhole_keyiter ty (wpAny_pure (wpAny_bind (m := setField (.ref it) 0 .none) (wpAny_setField ho hd (by simp) (wpAny_bind (m := newExc (.type "StopIteration") []) ?_))))))
 simp only [newExc, newTuple]
 refine wpAny_bind (wpAny_newObj_type (wpAny_bind (m := firstArgMember _ _) (wpAny_of_eq (a := Value.none) (by first | rfl | (simp only [firstArgMember]; rfl)) (wpAny_newObj_type ?_ (by size_fits)))) (by size_fits))
 simp only [raiseNew]
 refine wpAny_bind (wpAny_handled ?_)
 rw [show A.in1.handled = none from hh]
 refine wpAny_bind (wpAny_pure (wpAny_throw ?_))
 refine wpAny_bind (wpAny_isInstance (b := true) (T := "StopIteration") ⟨_, Heap.get?_push_size _ rfl, rfl⟩ isSubtype_stop ?_)
 exact wpAny_pure (q _ (((Heap.SameBut.update ..).extBut.push _).push _))
theorem raw_walks (hh : A.handled = none) (I d : Addr) (hne : d ≠ I) (es : Array DictEntry) (ep : Nat) : Walks prog w A I [I, d] [I] es.size (fun i v => ∃ e, es[i]? = some e ∧ v = e.key) (fun i h => h.IsKeyIter I d i es.size ep ∧ RawD h d es ep) where
 sub := fun b hb => by simp at hb; simp [hb]
 frame := fun _ _ _ st hk => ⟨st.1.at fun o e => hk I (by simp) o e, st.2.at_ fun o e => hk d (by simp) o e⟩
 item := fun i s Q E hi st hQ => raw_next st.1 st.2 (Array.getElem?_eq_getElem hi) fun h' hit' hs' => hQ _ h' s.toks ⟨_, Array.getElem?_eq_getElem hi, rfl⟩ ⟨hit', st.2.at_ fun o e => hs'.extBut d o hne e⟩ fun b o hb e => hs'.extBut b o (fun h => hb (by simp [h])) e
 done := fun s Q E st hQ => raw_end hh st.1 st.2 (by simp) fun h' he' => hQ h' s.toks fun b o hb e => he' b o (fun h => hb (by simp [h])) e
 self := fun _ _ _ _ st hQ => wpAny_pyIter_keyiter st.1 hQ
theorem raw_src (lo : (d == sysModules) = false) : KdlSrc prog w "dict" d d es.size (fun i v => ∃ e, es[i]? = some e ∧ v = e.key) (fun h => RawD h d es ep) where
 type := fun _ x => x.type
 there := fun _ x => ⟨x.lt, x.lt⟩
 keep := fun _ _ x hk => x.at_ fun o e => hk d (.inl rfl) o e
 notList := by decide
 notTuple := by decide
 hint := fun _ _ _ _ x q => kdl_hint_dict x.type q
 iter := fun _ s hh x => ⟨_, _, (fun _ _ hq => raw_iter lo x hq), raw_walks hh _ d (Nat.ne_of_lt x.lt) es ep, ⟨⟨_, Heap.get?_push_size _ rfl, rfl, rfl⟩, x.at_ fun o e => Heap.get?_push_of_some _ e⟩⟩
end
end L2
namespace L2
open PySem PySem.Spec PyProof.Rows PySem.Calls PySem.W
noncomputable def ltL : List Int → List Int → Bool
 | [], [] => false
 | [], _ :: _ => true
 | _ :: _, [] => false
 | a :: x, b :: y => if a = b then ltL x y else decide (a < b)
theorem ltL_irr : ∀ x, ltL x x = false
 | [] => rfl
 | a :: x => by unfold ltL; rw [if_pos rfl]; exact ltL_irr x
theorem ltL_tri : ∀ x y, x ≠ y → ltL x y = !ltL y x
 | [], [], h => (h rfl).elim
 | [], _ :: _, _ => rfl
 | _ :: _, [], _ => rfl
 | a :: x, b :: y, h => by
  unfold ltL
  by_cases e : a = b
  ·subst e
   rw [if_pos rfl, if_pos rfl]
   exact ltL_tri x y fun z => h (by rw [z])
  ·rw [if_neg e, if_neg (fun z => e z.symm)]
   by_cases l : a < b
   ·rw [decide_eq_true l, decide_eq_false (by omega)]; rfl
   ·rw [decide_eq_false l, decide_eq_true (by omega)]; rfl
theorem ltL_tr : ∀ x y z, ltL x y = true → ltL y z = true → ltL x z = true
 | [], [], z, h, _ => by cases h
 | [], _ :: _, [], _, h => by cases h
 | [], _ :: _, _ :: _, _, _ => rfl
 | _ :: _, [], z, h, _ => by cases h
 | _ :: _, _ :: _, [], _, h => by cases h
 | a :: x, b :: y, c :: z, h, g => by
  unfold ltL at h g ⊢
  by_cases e : a = b
  ·subst e
   rw [if_pos rfl] at h
   by_cases e2 : a = c
   ·subst e2
    rw [if_pos rfl] at g ⊢
    exact ltL_tr x y z h g
   ·rw [if_neg e2] at g ⊢; exact g
  ·rw [if_neg e] at h
   have h := of_decide_eq_true h
   by_cases e2 : b = c
   ·subst e2; rw [if_neg e]; exact decide_eq_true h
   ·rw [if_neg e2] at g
    have g := of_decide_eq_true g
    rw [if_neg (by omega)]; exact decide_eq_true (by omega)
theorem countP_less {α : Type} {P Q : α → Bool} : ∀ (l : List α), (∀ a ∈ l, P a = true → Q a = true) → (∃ a ∈ l, Q a = true ∧ P a = false) → l.countP P < l.countP Q
 | [], _, ⟨_, h, _⟩ => by cases h
 | b :: l, h, ⟨a, ha, q, p⟩ => by
  have le : l.countP P ≤ l.countP Q := List.countP_mono_left fun x hx hp => h x (by simp [hx]) hp
  rw [List.countP_cons, List.countP_cons]
  rcases List.mem_cons.1 ha with rfl | ha
  ·rw [p, q]; simp; omega
  ·have := countP_less l (fun x hx => h x (by simp [hx])) ⟨a, ha, q, p⟩
   by_cases hb : P b = true
   ·rw [hb, h b (by simp) hb]; simp; omega
   ·rw [show P b = false by simpa using hb]; simp; omega
noncomputable def rankL (is : List (List Int)) (i : Nat) : Int := (is.countP fun l => ltL l (is.getD i []) : Nat)
theorem rank_lt {is : List (List Int)} (nd : is.Nodup) {i j : Nat} (hi : i < is.length) (hj : j < is.length) (hij : i ≠ j) : ltL (is.getD i []) (is.getD j []) = decide (rankL is i < rankL is j) := by
 have ei : is.getD i [] = is[i] := by simp [List.getD_eq_getElem?_getD, hi]
 have ej : is.getD j [] = is[j] := by simp [List.getD_eq_getElem?_getD, hj]
 have ne : is[i] ≠ is[j] := fun z => hij ((List.getElem_inj nd).1 z)
 have key : ∀ {x y : List Int}, x ∈ is → ltL x y = true → is.countP (fun l => ltL l x) < is.countP fun l => ltL l y := fun {x y} hx h => countP_less is (fun a _ ha => ltL_tr a x y ha h) ⟨x, hx, h, ltL_irr x⟩
 unfold rankL
 rw [ei, ej]
 cases h : ltL is[i] is[j] with
 | true =>
  have := key (List.getElem_mem hi) h
  exact (decide_eq_true (by omega)).symm
 | false =>
  have h2 : ltL is[j] is[i] = true := by have := ltL_tri is[i] is[j] ne; rw [h] at this; simpa using this
  have := key (List.getElem_mem hj) h2
  exact (decide_eq_false (by omega)).symm
noncomputable def ordN (is : List (List Int)) : List Nat := (List.range is.length).mergeSort fun i j => decide (rankL is i ≤ rankL is j)
theorem ordN_perm (is : List (List Int)) : (ordN is).Perm (List.range is.length) := List.mergeSort_perm _ _
theorem ordN_asc (is : List (List Int)) : ((ordN is).map (rankL is)).Pairwise (· ≤ ·) := by
 rw [List.pairwise_map]
 have h := List.pairwise_mergeSort (le := fun i j => decide (rankL is i ≤ rankL is j)) (by intro a b c h1 h2; simp at *; omega) (by intro a b; simp; omega) (List.range is.length)
 exact h.imp fun h => by simpa using h
theorem asc_ord {is : List (List Int)} (nd : is.Nodup) {p : Array Nat} (hp : PmN is.length p) (ha : AscTo (rankL is) p is.length) : p.toList = ordN is := by
 have hs := hp.size
 have hperm : p.toList.Perm (List.range is.length) := by
  have := Array.Perm.toList hp
  simpa using this
 have e : p.toList.map (rankL is) = (ordN is).map (rankL is) := by
  refine PySem.W.ksm_same ((hperm.trans (ordN_perm is).symm).map _) ?_ (ordN_asc is)
  rw [List.pairwise_iff_getElem]
  intro i j hi hj hij
  have hi' : i < p.size := by simpa using hi
  have hj' : j < p.size := by simpa using hj
  have := asc_le ha (Nat.le_of_lt hij) (by omega)
  unfold Kr at this
  simp only [List.getElem_map, Array.getElem_toList]
  rw [show p.getD i 0 = p[i] by simp [Array.getD, hi'], show p.getD j 0 = p[j] by simp [Array.getD, hj']] at this
  exact this
 have inj : ∀ i j, i < is.length → j < is.length → rankL is i = rankL is j → i = j := fun i j hi hj h => by
  by_cases q : i = j
  ·exact q
  ·have a := rank_lt nd hi hj q
   have b := rank_lt nd hj hi (fun z => q z.symm)
   rw [h, decide_eq_false (by omega)] at a
   rw [← h, decide_eq_false (by omega)] at b
   have ne : is.getD i [] ≠ is.getD j [] := fun z => q ((List.getElem_inj nd (h₀ := hi) (h₁ := hj)).1 (by simpa [List.getD_eq_getElem?_getD, hi, hj] using z))
   have := ltL_tri _ _ ne
   rw [a, b] at this
   cases this
 have len : p.toList.length = (ordN is).length := by rw [hperm.length_eq, (ordN_perm is).length_eq]
 refine List.ext_getElem len fun i hi hi2 => ?_
 have e1 : rankL is p.toList[i] = rankL is (ordN is)[i] := by
  have := congrArg (fun l => l[i]?) e
  simp only [List.getElem?_map, List.getElem?_eq_getElem hi, List.getElem?_eq_getElem hi2, Option.map_some] at this
  exact Option.some.inj this
 exact inj _ _ (by have := hperm.mem_iff.1 (List.getElem_mem hi); simpa using this) (by have := (ordN_perm is).mem_iff.1 (List.getElem_mem hi2); simpa using this) e1
section
variable {prog : Program} {w : World} {A : Around} {E : Value → Shared → Prop} {s : Shared}
theorem lex_ints {C : Bool → Shared → Prop} : ∀ (x y : List Int) (xs ys : List Value) (i : Nat) (fin : Bool), IntsAre xs x → IntsAre ys y → fin = decide (x.length < y.length) → C (ltL x y) s → KatLex prog w A true fin C (xs.zip ys) i s
 | [], y, _, ys, i, fin, .nil, hy, hf, h => by
  rw [List.zip_nil_left]
  refine kat_nil ?_
  cases y with
  | nil => rw [hf]; exact h
  | cons b y => rw [hf]; simpa [ltL] using h
 | a :: x, [], _, _, i, fin, hx, .nil, hf, h => by
  rw [List.zip_nil_right]
  refine kat_nil ?_
  rw [hf]
  simpa [ltL] using h
 | a :: x, b :: y, _, _, i, fin, .cons _ _ hx, .cons _ _ hy, hf, h => by
  rw [List.zip_cons_cons]
  refine kat_cons (wpAny_eqBool_int ?_)
  unfold ltL at h
  refine kat_go (fun e => ?_) fun e => ?_
  ·have e : a = b := by simpa using e
   rw [if_pos e] at h
   exact kat_yes (lex_ints x y _ _ (i + 1) fin hx hy (by rw [hf]; simp) h)
  ·have e : ¬ a = b := by simpa using e
   rw [if_neg e] at h
   refine kat_no ?_
   cases hz : (true && i == 0) with
   | true => exact kat_lt_int h
   | false => exact kat_one _ _ (lt_int h)
theorem asks_tups {vs : List Value} {is : List (List Int)} (hl : is.length = vs.length) (nd : is.Nodup) (ne : ∀ l ∈ is, l ≠ [])
  (h : ∀ i, i < vs.length → ∃ (a : Addr) (o : Obj) (its : Array Value) (n : Nat), vs.getD i Value.none = .ref a ∧ s.heap.get? a = some o ∧ o.cls = .type "tuple" ∧ o.data = .seq its n ∧ IntsAre its.toList (is.getD i [])) (h2 : 2 ≤ vs.length) : Asks prog w A (rankL is) vs s := by
 have firsts : ∃ fs : List Value, KatTups s.heap vs fs ∧ fs.length = vs.length ∧ ∀ v ∈ fs, ∃ i t, v = Value.int i t := by
  have key : ∀ (vs : List Value) (is : List (List Int)), is.length = vs.length → (∀ l ∈ is, l ≠ []) → (∀ i, i < vs.length → ∃ (a : Addr) (o : Obj) (its : Array Value) (n : Nat), vs.getD i Value.none = .ref a ∧ s.heap.get? a = some o ∧ o.cls = .type "tuple" ∧ o.data = .seq its n ∧ IntsAre its.toList (is.getD i [])) → ∃ fs : List Value, KatTups s.heap vs fs ∧ fs.length = vs.length ∧ ∀ v ∈ fs, ∃ i t, v = Value.int i t := by
   intro vs
   induction vs with
   | nil => intro is _ _ _; exact ⟨[], KatTups.nil, rfl, by simp⟩
   | cons v vs ih =>
    intro is hl ne h
    cases is with
    | nil => simp at hl
    | cons l is =>
     obtain ⟨fs, k1, k2, k3⟩ := ih is (by simpa using hl) (fun l hl => ne l (by simp [hl])) fun i hi => by
      have := h (i + 1) (by simpa using hi)
      simpa using this
     obtain ⟨a, o, its, n, e1, e2, e3, e4, e5⟩ := h 0 (by simp)
     have e1 : v = .ref a := by simpa using e1
     have e5 : IntsAre its.toList l := by simpa using e5
     subst e1
     have hne := ne l (by simp)
     generalize hL : its.toList = L at e5
     cases e5 with
     | nil => exact (hne rfl).elim
     | cons i t r =>
      refine ⟨_ :: fs, KatTups.cons e2 e3 e4 (f := Value.int i t) (by rw [← Array.getElem?_toList, hL]; rfl) k1, by simp [k2], fun v hv => ?_⟩
      rcases List.mem_cons.1 hv with rfl | hv
      ·exact ⟨_, _, rfl⟩
      ·exact k3 v hv
  exact key vs is hl ne h
 obtain ⟨fs, k1, k2, k3⟩ := firsts
 refine ⟨tuples' (Value.type "int" != Value.type "tuple"), fun Q q => kat_kind k1 (by omega) (T := .type "int") (fun v hv => ?_) (by decide) q, fun i j C hi1 hj1 hij hc => ?_⟩
 ·obtain ⟨i, t, rfl⟩ := k3 v hv
  exact .now
 ·obtain ⟨a, o, its, n, e1, e2, e3, e4, e5⟩ := h i hi1
  obtain ⟨a', o', its', n', g1, g2, g3, g4, g5⟩ := h j hj1
  unfold kas_ask
  rw [e1, g1]
  rw [show (Value.type "int" != Value.type "tuple") = true by decide]
  refine kat_lt e2 e4 g2 g4 (lex_ints _ _ _ _ 0 _ e5 g5 ?_ ?_)
  ·have l1 := e5.length
   have l2 := g5.length
   simp only [Array.length_toList] at l1 l2
   rw [l1, l2]
  ·rw [rank_lt nd (by omega) (by omega) hij]
   exact hc
end
end L2
namespace L2
open PySem PySem.Spec PyProof.Rows PySem.Calls PySem.W
section
variable {prog : Program} {w : World} {A : Around} {E : Value → Shared → Prop} {s : Shared} {T : String} {r d : Addr} {n : Nat} {P : Nat → Value → Prop} {OK : Heap → Prop} {Q : Value → Shared → Prop}
theorem sorted_srcA (K : PySem.W.KdlSrc prog w T r d n P OK) (hh : A.handled = none) (hok : OK s.heap) (h64 : n < 64) (rk : Nat → Int)
  (hk : ∀ vs : List Value, vs.length = n → (∀ (j : Nat) (v : Value), vs[j]? = some v → P j v) → 2 ≤ n → ∀ (g : Heap) (tk : Nat), (∀ b o, s.heap.get? b = some o → g.get? b = some o) → Asks prog w A.in1.in1 rk vs { s with heap := g, toks := tk })
  (h : ∀ (D : Addr) (h' : Heap) (tk e : Nat) (vs : List Value) (p : Array Nat), vs.length = n → (∀ (j : Nat) (v : Value), vs[j]? = some v → P j v) → PmN n p → AscTo rk p n → (∀ b o, s.heap.get? b = some o → h'.get? b = some o) → s.heap.objs.size ≤ D → h'.get? D = some (seqObj "list" (List.toArray (p.toList.map fun i => vs.getD i Value.none)) e) → Q (.ref D) { s with heap := h', toks := tk }) :
  wpAny (model prog w) A (call (.builtin "sorted") [.ref r]) Q E s := by
 have hn : n ≤ sizeLine := line64 h64
 refine call_function_entry kind_sorted plain_sorted entry_sorted (args_sorted1 _) ?_
 unfold Builtin.«sorted»
 refine wpAny_bind (m := checkCount "sorted" 1 1 _) (wpAny_pure (wpAny_bind (collect_src (A := A.in1) K hh hok hn fun g tk acc kp lt hacc => ?_)))
 have hl : acc.toList.length = n := by rw [Array.length_toList]; exact hacc.1
 have hP : ∀ (j : Nat) (v : Value), acc.toList[j]? = some v → P j v := fun j v e => hacc.2 j v (by rw [← Array.getElem?_toList]; exact e)
 refine wpAny_bind (wpAny_newList ?_ (by rw [hl]; exact hn))
 have at0 : (g.push { cls := .type "list", data := .seq acc.toList.toArray }).get? g.objs.size = some (seqObj "list" acc.toList.toArray 0) := Heap.get?_push_size _ rfl
 have old : ∀ b o, s.heap.get? b = some o → b ≠ g.objs.size ∧ (g.push { cls := .type "list", data := .seq acc.toList.toArray }).get? b = some o := fun b o eb => by
  have hb := kp b o eb
  exact ⟨Nat.ne_of_lt (Heap.lt_size hb), Heap.get?_push_of_some _ hb⟩
 refine wpAny_bind (wpAny_holding (wpAny_call_entry slot_list_sort ⟨_, at0, rfl⟩ entry_list_sort (lsort_any rk at0 (by omega) (fun h2 g2 hg2 => hk _ hl hP (by omega) g2 tk fun b o eb => hg2 b o (old b o eb).1 (old b o eb).2) fun p pm asc => ⟨_, rfl, ?_⟩) (args_list_sort _)))
 rw [hl] at pm asc
 obtain ⟨e, he⟩ := sortedHeap_at (out := List.toArray (p.toList.map fun i => acc.toList.getD i Value.none)) at0
 refine wpAny_pure ⟨_, rfl, h _ _ tk e acc.toList p hl hP pm asc (fun b o eb => ?_) (Nat.le_of_lt lt) he⟩
 have lt2 := Heap.lt_size (kp b o eb)
 rw [sortedHeap_old (Nat.ne_of_lt lt2) (by rw [Heap.size_push]; exact Nat.lt_succ_of_lt lt2)]
 exact (old b o eb).2
end
noncomputable def nkI (l : List Int) : NK := .tup (l.map NK.int)
theorem nkI_inj {l m : List Int} (h : nkI l = nkI m) : l = m := by
 unfold nkI at h
 injection h with h
 exact (List.map_inj_right (f := NK.int) fun x y e => by injection e).1 h
theorem isNKL_ints {h : Heap} : ∀ {l : List Int} {vs : List Value}, IsNKL h (l.map NK.int) vs → IntsAre vs l
 | [], _, .nil => .nil
 | i :: l, _, .cons (.int _ t) r => .cons i t (isNKL_ints r)
section
variable {X : Cx}
noncomputable def rSortN (K : PySem.W.Frag) : List V → Hp → VK → Prop := fun xs H Q => rSortD xs H Q ∨ ∃ (a : Addr) (ks : List (NK × Addr × V)) (is : List (List Int)), xs = [.ref a] ∧ H a = some (.dN ks) ∧ NAll K H ks ∧ ks.map (·.1) = is.map nkI ∧ is.length < 64 ∧ (2 ≤ is.length → ∀ l ∈ is, l ≠ []) ∧
 ∀ l, H l = none → Q (.ref l) (upd H l (.lst ((ordN is).map fun i => .ref ((ks.map (·.2.1)).getD i 0))))
theorem call_sortN {K : PySem.W.Frag} (hc : X.calm = true) (hK : X.K = K := by rfl) : CallR X (.builtin "sorted") (rSortN K) := by
 subst hK
 intro pins s σ H xs us Q I r h
 rcases h with h | ⟨a, ks, is, rfl, ha, hall, hk, h64, hne, q⟩
 ·exact call_sortD hc pins s σ H xs us Q I r h
 obtain ⟨u, rfl, ru⟩ := vals1 r
 cases ru
 obtain ⟨hz, lo, xs, rel, o, es, ep, h1, h2, h3, h4, h5⟩ := (show ObjOk X.prog X.w H s.heap a (.dN ks) from I.hok a _ ha)
 have e1 : xs.map (·.1) = is.map nkI := by
  rw [← hk]
  clear h4 h5 hk hall ha hz q
  induction rel with
  | nil => rfl
  | cons h t ih => rw [List.map_cons, List.map_cons, ih, h.1]
 have e2 : xs.map (·.2.1) = ks.map (·.2.1) := by
  clear h4 h5 hk hall ha hz q e1
  induction rel with
  | nil => rfl
  | cons h t ih => rw [List.map_cons, List.map_cons, ih, h.2.1]
 have nd : is.Nodup := by
  rw [e1] at h5
  exact (List.pairwise_map.1 h5).imp fun h z => h (by rw [z])
 have lx : xs.length = is.length := by rw [← List.length_map (f := (·.1)), e1, List.length_map]
 have lk : ks.length = is.length := by rw [← List.length_map (f := (·.1)), hk, List.length_map]
 have ls : es.size = is.length := by rw [← Array.length_toList, h4, List.length_map, lx]
 have keyAt : ∀ (i : Nat) (v : Value), (∃ e, es[i]? = some e ∧ v = e.key) → ∃ b, (ks.map (·.2.1))[i]? = some b ∧ v = .ref b ∧ (∃ l, is[i]? = some l ∧ IsNK s.heap (nkI l) (.ref b)) := by
  rintro i v ⟨e, he, rfl⟩
  rw [← Array.getElem?_toList, h4, List.getElem?_map] at he
  cases hx : xs[i]? with
  | none => rw [hx] at he; cases he
  | some x =>
   rw [hx] at he
   cases he
   refine ⟨x.2.1, by rw [← e2, List.getElem?_map, hx]; rfl, rfl, ?_⟩
   have f1 : (is.map nkI)[i]? = some x.1 := by rw [← e1, List.getElem?_map, hx]; rfl
   rw [List.getElem?_map] at f1
   cases hl : is[i]? with
   | none => rw [hl] at f1; cases f1
   | some l =>
    rw [hl] at f1
    have f1 : nkI l = x.1 := Option.some.inj f1
    refine ⟨l, rfl, ?_⟩
    have hki : i < ks.length := by rw [lk]; exact (List.getElem?_eq_some_iff.1 hl).1
    have hmem := List.getElem_mem hki
    have g1 : ks[i].1 = nkI l := by
     have : (ks.map (·.1))[i]? = (is.map nkI)[i]? := by rw [hk]
     rw [List.getElem?_map, List.getElem?_map, List.getElem?_eq_getElem hki, hl] at this
     exact Option.some.inj this
    have g2 : ks[i].2.1 = x.2.1 := by
     have : (xs.map (·.2.1))[i]? = (ks.map (·.2.1))[i]? := by rw [e2]
     rw [List.getElem?_map, List.getElem?_map, List.getElem?_eq_getElem hki, hx] at this
     exact (Option.some.inj this).symm
    have := (hall _ hmem).1.isNK I (u := .ref ks[i].2.1) rfl
    rwa [g1, g2] at this
 refine sorted_srcA (raw_src (es := es) (ep := ep) lo) (I.ok.hd hc) ⟨o, h1, h2, h3⟩ (by omega) (rankL is) (fun vs hv hp h2' g tk hg => ?_) fun D h' tk e vs p hv hp pm asc kp hD hat => ?_
 ·refine asks_tups (by omega) nd (hne (by omega)) (fun i hi => ?_) (by omega)
  have hvi : vs[i]? = some vs[i] := List.getElem?_eq_getElem hi
  obtain ⟨b, f1, f2, l, f3, f4⟩ := keyAt i _ (hp i _ hvi)
  cases f4 with
  | @tup _ ob items m _ g1 g2 g3 g4 =>
   exact ⟨b, ob, items, m, by rw [List.getD_eq_getElem?_getD, hvi]; exact f2, hg _ _ g1, g2, g3, by rw [List.getD_eq_getElem?_getD, f3]; exact isNKL_ints g4⟩
 ·rw [ls] at pm asc
  have ep := asc_ord nd pm asc
  have hlen : (ordN is).length = is.length := by rw [(ordN_perm is).length_eq, List.length_range]
  refine ⟨.ref D, _, I.laid (t' := tk) kp hD (show ObjOk X.prog X.w _ _ _ (.lst ((ordN is).map fun i => .ref ((ks.map (·.2.1)).getD i 0))) from ⟨by rw [List.length_map, hlen]; exact line64 h64, p.toList.map fun i => vs.getD i Value.none, e, ?_, by rw [hat]⟩), rfl, q _ (I.hok.fresh hD)⟩
  rw [ep]
  have : ∀ l : List Nat, (∀ i ∈ l, i < is.length) → Vals (l.map fun i => V.ref ((ks.map (·.2.1)).getD i 0)) (l.map fun i => vs.getD i Value.none) := by
   intro l
   induction l with
   | nil => intro _; exact .nil
   | cons i l ih =>
    intro hl
    refine .cons ?_ (ih fun j hj => hl j (by simp [hj]))
    have hi : i < vs.length := by rw [hv, ls]; exact hl i (by simp)
    have hvi : vs[i]? = some vs[i] := List.getElem?_eq_getElem hi
    obtain ⟨b, f1, f2, _⟩ := keyAt i _ (hp i _ hvi)
    dsimp only
    rw [List.getD_eq_getElem?_getD, List.getD_eq_getElem?_getD, hvi, f1]
    exact f2
  exact this _ fun i hi => by have := (ordN_perm is).mem_iff.1 hi; simpa using this
end
end L2
namespace L2
open PySem PySem.Spec PyProof.Rows PySem.Calls
section
variable {K : PySem.W.Frag} {E : XK}
noncomputable def bothSeq : D → D → Bool
 | .tup _, .tup _ => true
 | .lst _, .lst _ => true
 | _, _ => false
noncomputable def dEqG (neg : Bool) : Op2 := fun x y S => match tell S 40 x, tell S 40 y with
 | some d, some e => if bothSeq d e then (eqG 40 d e).map fun b => (.bl (neg != b), S) else none
 | _, _ => none
theorem bothSeq_of {d e : D} (h : bothSeq d e = true) : ∃ l m, (d = .tup l ∧ e = .tup m) ∨ (d = .lst l ∧ e = .lst m) := by
 unfold bothSeq at h
 split at h
 ·exact ⟨_, _, .inl ⟨rfl, rfl⟩⟩
 ·exact ⟨_, _, .inr ⟨rfl, rfl⟩⟩
 ·cases h
theorem r2_eqG {neg : Bool} : R2Ok K (rEqG K neg) (dEqG neg) := by
 intro F j σ H ρ S S' x y z u v Q E1 hx hy h k
 unfold dEqG at h
 split at h
 ·rename_i d e e1 e2
  split at h
  ·rename_i hb
   cases hg : eqG 40 d e with
   | none => rw [hg] at h; cases h
   | some b =>
    rw [hg] at h
    cases h
    exact ⟨d, e, b, bothSeq_of hb, (tell_is E1 40 _ _ _ hx e1).1, (tell_is E1 40 _ _ _ hy e2).1, hg, k _ _ _ Ext.refl E1 (.bl _)⟩
  ·cases h
 ·cases h
end
section
variable {S : Sto} {x y : Xv} {P : Xv → Sto → Prop} {p q : Int}
theorem ox_eqG {neg b : Bool} {d e : D} (h1 : tell S 40 x = some d) (h2 : tell S 40 y = some e) (hs : bothSeq d e = true) (hb : eqG 40 d e = some b) (k : P (.bl (neg != b)) S) : WO (dEqG neg x y S) P := .of (by unfold dEqG; rw [h1, h2]; dsimp only; rw [if_pos hs, hb]; rfl) k
theorem wx_compF {ρc : Rho} {get : Sto → Option (List Xv)} {g : TwG} {c : TwT} {m : TwE} {xs : List Xv} (hl : xs.length ≤ sizeLine) (J : Nat → List Xv → Sto → Prop) (hg : ∀ i es S, i ≤ xs.length → J i es S → get S = some xs)
  (h : ∀ (i : Nat) (x : Xv) es S, xs[i]? = some x → es.length ≤ i → J i es S → W (g x ρc S) fun ρ1 S1 => W (c ρ1 S1) fun b S2 => (b = true → W (m ρ1 S2) fun y S3 => J (i + 1) (es ++ [y]) S3) ∧ (b = false → J (i + 1) es S2)) (h0 : J 0 [] S)
  (k : ∀ es S, es.length ≤ xs.length → J xs.length es S → P (.ref S.length) (S ++ [.lst es])) : W (compTw get g c m ρc (xs.length + 1) 0 [] S) P := by
 have aux : ∀ (n i : Nat) (es : List Xv) (S : Sto), i + n = xs.length → es.length ≤ i → J i es S → W (compTw get g c m ρc (n + 1) i es S) P := by
  intro n
  induction n with
  | zero =>
   intro i es S e el hj
   unfold compTw
   rw [hg i es S (by omega) hj, Option.bind_some, List.getElem?_eq_none (by omega)]
   dsimp only
   rw [if_pos (by omega)]
   exact .of rfl (k es S (by omega) (by rw [show xs.length = i by omega]; exact hj))
  | succ n ih =>
   intro i es S e el hj
   unfold compTw
   have hi : i < xs.length := by omega
   rw [hg i es S (by omega) hj, Option.bind_some, List.getElem?_eq_getElem hi]
   obtain ⟨ρ1, S1, e1, b, S2, e2, t, f⟩ := h i _ es S (List.getElem?_eq_getElem hi) el hj
   dsimp only [rn]
   rw [e1]
   dsimp only [rn]
   rw [e2]
   dsimp only [rn]
   cases b with
   | true =>
    obtain ⟨y, S3, e3, q⟩ := t rfl
    rw [if_pos rfl, e3]
    dsimp only [rn]
    rw [if_pos (by omega)]
    exact ih (i + 1) (es ++ [y]) S3 (by omega) (by simp; omega) q
   | false =>
    rw [if_neg (by simp)]
    exact ih (i + 1) es S2 (by omega) (by omega) (f rfl)
 exact aux xs.length 0 [] S (by omega) (by simp) h0
end
end L2
namespace L2
open PySem PySem.Spec PyProof.Rows PySem.Calls
section
variable {K : PySem.W.Frag} {E : XK}
end
end L2
namespace L2
open PySem PySem.Spec PyProof.Rows PySem.Calls
section
variable {K : PySem.W.Frag} {E : XK}
end
end L2
namespace L2
open PySem PySem.Spec PyProof.Rows PySem.Calls
section
variable {K : PySem.W.Frag} {E : XK}
end
end L2
namespace L2
open PySem PySem.Spec PyProof.Rows PySem.Calls
end L2
namespace L2
open PySem PySem.Spec PyProof.Rows PySem.Calls
noncomputable def tkey (y : Xv) : Option NK := match y with
 | .tup l => (xkey (.tup l)).bind fun k => if ndep k ≤ 8 then some k else none
 | .ct l => (xkey (.ct l)).bind fun k => if ndep k ≤ 8 then some k else none
 | _ => none
noncomputable def valNX (kvs : List (NK × Xv × Xv)) (k : NK) : Option Xv := (kvs.find? fun p => decide (p.1 = k)).map (·.2.2)
noncomputable def putNX (kvs : List (NK × Xv × Xv)) (k : NK) (x y : Xv) : List (NK × Xv × Xv) := if (valNX kvs k).isSome = true then kvs.map (fun p => if p.1 = k then (p.1, p.2.1, y) else p) else kvs ++ [(k, x, y)]
noncomputable def dgetS (S : Sto) (x y : Xv) : Option (Option Xv) := match x with
 | .ref n => match S[n]? with
  | some (.dk kvs) => match keyX y with
   | some key => some (valX kvs key)
   | none => if kvs.isEmpty = true ∧ (tkey y).isSome = true then some none else none
  | some (.dn kvs) => (tkey y).map (valNX kvs)
  | _ => none
 | _ => none
noncomputable def dputS (S : Sto) (x y z : Xv) : Option Sto := match x with
 | .ref n => match S[n]? with
  | some (.dk kvs) => match keyX y with
   | some key => if kvs.length < sizeLine then some (S.set n (.dk (putX kvs key z))) else none
   | none => if kvs.isEmpty = true then (tkey y).map fun k => S.set n (.dn [(k, y, z)]) else none
  | some (.dn kvs) => if kvs.length < sizeLine then (tkey y).map fun k => S.set n (.dn (putNX kvs k y z)) else none
  | _ => none
 | _ => none
noncomputable def isDS (S : Sto) (x : Xv) : Bool := match x with
 | .ref n => match S[n]? with
  | some (.dk _) => true
  | some (.dn _) => true
  | _ => false
 | _ => false
section
variable {K : PySem.W.Frag} {E : XK} {F : Fm} {j : List Addr} {H : Hp} {σ : St} {ρ : Rho} {S : Sto} {x y z : Xv} {u v w : V}
mutual
theorem Xis.nis : ∀ {x : Xv} {v : V} {k : NK}, Xis K j H x v → xkey x = some k → NIs K H v k
 | _, _, _, .non, e => by simp [xkey] at e
 | _, _, _, .bl b, e => by simp [xkey] at e
 | _, _, _, .int i, e => by simp [xkey] at e; subst e; exact .int i
 | _, _, _, .str i, e => by simp [xkey] at e; subst e; exact .str i
 | _, _, _, .tup h l, e => by
  simp only [xkey, Option.map_eq_some_iff] at e
  obtain ⟨m, e1, rfl⟩ := e
  exact .tup (SqT.of h) (XisL.nis l e1)
 | _, _, _, .ct h l, e => by
  simp only [xkey, Option.map_eq_some_iff] at e
  obtain ⟨m, e1, rfl⟩ := e
  exact .tup (h H) (XisL.nis l e1)
 | _, _, _, .ref h, e => by simp [xkey] at e
theorem XisL.nis : ∀ {x : List Xv} {v : List V} {k : List NK}, XisL K j H x v → xkeyL x = some k → NIsL K H v k
 | _, _, _, .nil, e => by simp [xkeyL] at e; subst e; exact .nil
 | _, _, _, .cons h l, e => by
  simp only [xkeyL, Option.bind_eq_some_iff, Option.map_eq_some_iff] at e
  obtain ⟨a, e1, b, e2, rfl⟩ := e
  exact .cons (Xis.nis h e1) (XisL.nis l e2)
end
theorem tkey_is {k : NK} (h : Xis K j H x v) (e : tkey x = some k) : ∃ b, v = .ref b ∧ NIs K H v k ∧ ndep k ≤ 8 ∧ xkey x = some k := by
 cases h with
 | tup h l =>
  simp only [tkey, Option.bind_eq_some_iff] at e
  obtain ⟨k', e1, e2⟩ := e
  split at e2
  ·cases e2; exact ⟨_, rfl, (Xis.tup h l).nis e1, by assumption, e1⟩
  ·cases e2
 | ct h l =>
  simp only [tkey, Option.bind_eq_some_iff] at e
  obtain ⟨k', e1, e2⟩ := e
  split at e2
  ·cases e2; exact ⟨_, rfl, (Xis.ct h l).nis e1, by assumption, e1⟩
  ·cases e2
 | _ => simp [tkey] at e
theorem NX.len : ∀ {kvs : List (NK × Xv × Xv)} {ks : List (NK × Addr × V)}, NX K j H kvs ks → ks.length = kvs.length
 | _, _, .nil => rfl
 | _, _, .cons _ _ _ l => by simp [l.len]
theorem NX.nis : ∀ {kvs : List (NK × Xv × Xv)} {ks : List (NK × Addr × V)}, NX K j H kvs ks → NAll K H ks
 | _, _, .nil, p, hp => by cases hp
 | _, _, .cons e h1 _ l, p, hp => by
  rcases List.mem_cons.1 hp with rfl | hp
  ·exact ⟨h1.nis e.1, e.2⟩
  ·exact l.nis p hp
theorem NX.keys : ∀ {kvs : List (NK × Xv × Xv)} {ks : List (NK × Addr × V)}, NX K j H kvs ks → ks.map (·.1) = kvs.map (·.1)
 | _, _, .nil => rfl
 | _, _, .cons _ _ _ l => by simp [l.keys]
theorem NX.val {k : NK} : ∀ {kvs : List (NK × Xv × Xv)} {ks : List (NK × Addr × V)}, NX K j H kvs ks → (∀ y, valNX kvs k = some y → ∃ w, valN ks k = some w ∧ Xis K j H y w) ∧ (valNX kvs k = none → valN ks k = none)
 | _, _, .nil => ⟨fun _ e => by simp [valNX] at e, fun _ => rfl⟩
 | (k1, x1, y1) :: r, (_, b1, w1) :: rs, .cons ek h1 h l => by
  obtain ⟨i1, i2⟩ := NX.val (k := k) l
  by_cases e : k1 = k
  ·subst e
   refine ⟨fun y ey => ?_, fun ey => ?_⟩
   ·simp [valNX] at ey
    subst ey
    exact ⟨w1, by simp [valN], h⟩
   ·simp [valNX] at ey
  ·have e1 : valNX ((k1, x1, y1) :: r) k = valNX r k := by simp [valNX, List.find?_cons, e]
   have e2 : valN ((k1, b1, w1) :: rs) k = valN rs k := by simp [valN, List.find?_cons, e]
   rw [e1, e2]
   exact ⟨i1, i2⟩
theorem NX.append : ∀ {kvs r : List (NK × Xv × Xv)} {ks rs : List (NK × Addr × V)}, NX K j H kvs ks → NX K j H r rs → NX K j H (kvs ++ r) (ks ++ rs)
 | _, _, _, _, .nil, h => h
 | _, _, _, _, .cons e h1 h l, g => .cons e h1 h (l.append g)
theorem NX.put {k : NK} {b : Addr} (hk : xkey x = some k ∧ ndep k ≤ 8) (hx : Xis K j H x (.ref b)) (hy : Xis K j H y v) {kvs : List (NK × Xv × Xv)} {ks : List (NK × Addr × V)} (h : NX K j H kvs ks) : NX K j H (putNX kvs k x y) (putN ks k b v) := by
 have e : (valN ks k).isSome = (valNX kvs k).isSome := by
  cases ev : valNX kvs k with
  | none => rw [h.val.2 ev]; rfl
  | some z => obtain ⟨w, g, _⟩ := h.val.1 _ ev; rw [g]; rfl
 unfold putNX putN
 rw [e]
 split
 ·rename_i hc
  clear hc e
  induction h with
  | nil => exact .nil
  | @cons k1 x1 y1 b1 v1 r rs ek h1 h l ih =>
   rw [List.map_cons, List.map_cons]
   by_cases e : k1 = k
   ·rw [if_pos e, if_pos e]; exact .cons ek h1 hy ih
   ·rw [if_neg e, if_neg e]; exact .cons ek h1 h ih
 ·exact h.append (.cons hk hx hy .nil)
theorem En.dn {n : Nat} {kvs : List (NK × Xv × Xv)} (E1 : En K F j H σ ρ S) (hx : Xis K j H (.ref n) v) (h : S[n]? = some (.dn kvs)) : ∃ a ks, v = .ref a ∧ j[n]? = some a ∧ H a = some (.dN ks) ∧ NX K j H kvs ks := by
 obtain ⟨a, rfl, hj⟩ := hx.ref_inv
 obtain ⟨ks, e1, e2⟩ := E1.cel _ _ _ h hj
 exact ⟨a, ks, rfl, hj, e1, e2⟩
theorem En.dgetN {r : Option Xv} (E1 : En K F j H σ ρ S) (hx : Xis K j H x u) (hy : Xis K j H y w) (h : dgetS S x y = some r) : ∃ a o, u = .ref a ∧ DGetN K H a w o ∧ o.isSome = r.isSome ∧ (∀ z zd, Xis K j H z zd → Xis K j H (r.getD z) (o.getD zd)) ∧ ∀ z, r = some z → ∃ z', o = some z' ∧ Xis K j H z z' := by
 unfold dgetS at h
 split at h
 ·rename_i n
  split at h
  ·rename_i kvs hs
   have hd : dkAt S (.ref n) = some (n, kvs) := dkAt_of hs
   obtain ⟨a, ks, rfl, hj, f1, f2⟩ := E1.dk hx hd
   split at h
   ·rename_i key ek
    cases h
    obtain ⟨o, g1, g2, g3⟩ := dget_of (key := key) f1 f2
    refine ⟨a, o, rfl, .inl (by rw [keyX_is hy ek]; exact g1), g2, g3, fun z hz => ?_⟩
    have := g3 .non .non .non
    rw [hz] at this g2
    cases o with
    | none => cases g2
    | some z' => exact ⟨z', rfl, this⟩
   ·split at h
    ·rename_i hc
     cases h
     obtain ⟨k, hk⟩ := Option.isSome_iff_exists.1 hc.2
     obtain ⟨b, rfl, hn, hd8, _⟩ := tkey_is hy hk
     have : kvs = [] := List.isEmpty_iff.1 hc.1
     subst this
     cases f2
     exact ⟨a, none, rfl, .inr ⟨k, b, rfl, hn, hd8, .inr ⟨f1, rfl⟩⟩, rfl, fun z zd hz => hz, fun z hz => by cases hz⟩
    ·cases h
  ·rename_i kvs hs
   obtain ⟨a, ks, rfl, hj, f1, f2⟩ := E1.dn hx hs
   rw [Option.map_eq_some_iff] at h
   obtain ⟨k, hk, rfl⟩ := h
   obtain ⟨b, rfl, hn, hd8, _⟩ := tkey_is hy hk
   refine ⟨a, valN ks k, rfl, .inr ⟨k, b, rfl, hn, hd8, .inl ⟨ks, f1, f2.nis, rfl⟩⟩, ?_, fun z zd hz => ?_, fun z hz => f2.val.1 z hz⟩
   ·cases ev : valNX kvs k with
    | none => rw [f2.val.2 ev]; rfl
    | some z => obtain ⟨w, g, _⟩ := f2.val.1 _ ev; rw [g]; rfl
   ·cases ev : valNX kvs k with
    | none => rw [f2.val.2 ev]; exact hz
    | some z => obtain ⟨w, g, g2⟩ := f2.val.1 _ ev; rw [g]; exact g2
  ·cases h
 ·cases h
theorem En.dputN {S' : Sto} (E1 : En K F j H σ ρ S) (hx : Xis K j H x u) (hy : Xis K j H y w) (hz : Xis K j H z v) (h : dputS S x y z = some S') : ∃ a H', u = .ref a ∧ DPutN K H a w v H' ∧ En K F j H' σ ρ S' ∧ Ext j H j H' := by
 unfold dputS at h
 split at h
 ·rename_i n
  split at h
  ·rename_i kvs hs
   have hd : dkAt S (.ref n) = some (n, kvs) := dkAt_of hs
   obtain ⟨a, ks, rfl, hj, f1, f2⟩ := E1.dk hx hd
   split at h
   ·rename_i key ek
    split at h
    ·rename_i hl
     cases h
     obtain ⟨E4, X4⟩ := E1.wdk hd hj (f2.put (k := key) hz)
     refine ⟨a, _, rfl, .inl ?_, E4, X4⟩
     rw [keyX_is hy ek]
     exact DPut.k f1 (by rw [f2.len]; exact hl)
    ·cases h
   ·split at h
    ·rename_i hc
     rw [Option.map_eq_some_iff] at h
     obtain ⟨k, hk, rfl⟩ := h
     obtain ⟨b, rfl, hn, hd8, hxk⟩ := tkey_is hy hk
     have : kvs = [] := List.isEmpty_iff.1 hc
     subst this
     cases f2
     obtain ⟨E4, X4⟩ := E1.write (o := .dN [(k, b, v)]) (c' := .dn [(k, y, z)]) hs rfl hj rfl fun X => ⟨_, upd_same, .cons ⟨hxk, hd8⟩ (hy.mono X) (hz.mono X) .nil⟩
     exact ⟨a, _, rfl, .inr ⟨k, b, rfl, hn, hd8, .inr ⟨f1, rfl⟩⟩, E4, X4⟩
    ·cases h
  ·rename_i kvs hs
   obtain ⟨a, ks, rfl, hj, f1, f2⟩ := E1.dn hx hs
   split at h
   ·rename_i hl
    rw [Option.map_eq_some_iff] at h
    obtain ⟨k, hk, rfl⟩ := h
    obtain ⟨b, rfl, hn, hd8, hxk⟩ := tkey_is hy hk
    obtain ⟨E4, X4⟩ := E1.write (o := .dN (putN ks k b v)) (c' := .dn (putNX kvs k y z)) hs rfl hj rfl fun X => ⟨_, upd_same, (f2.put ⟨hxk, hd8⟩ hy hz).mono X⟩
    exact ⟨a, _, rfl, .inr ⟨k, b, rfl, hn, hd8, .inl ⟨ks, f1, f2.nis, by rw [f2.len]; exact hl, rfl⟩⟩, E4, X4⟩
   ·cases h
  ·cases h
 ·cases h
theorem En.isDN (E1 : En K F j H σ ρ S) (hx : Xis K j H x u) (h : isDS S x = true) : ∃ a, u = .ref a ∧ IsDN K H a := by
 unfold isDS at h
 split at h
 ·rename_i n
  split at h
  ·rename_i kvs hs
   have hd : dkAt S (.ref n) = some (n, kvs) := dkAt_of hs
   obtain ⟨a, ks, rfl, hj, f1, f2⟩ := E1.dk hx hd
   exact ⟨a, rfl, .inl (.inl ⟨ks, .inl f1⟩)⟩
  ·rename_i kvs hs
   obtain ⟨a, ks, rfl, hj, f1, f2⟩ := E1.dn hx hs
   exact ⟨a, rfl, .inr ⟨ks, f1, f2.nis⟩⟩
  ·cases h
 ·cases h
noncomputable def eDGetN (d k : TwE) : TwE := fun ρ S => rb (d ρ S) fun x S1 => rb (k ρ S1) fun y S2 => (dgetS S2 x y).bind fun o => o.map fun z => .ok z S2
theorem re_dgetN {td ty : TE} {d k : TwE} (hd : RE K E td d) (hk : RE K E ty k) : RE K E (tDGetN K td ty) (eDGetN d k) := by
 intro F j σ H ρ S r Q En0 e kk
 rcases rb_some e with ⟨x, S1, e1, e⟩ | ⟨c, S1, e1, rfl⟩
 ·refine hd En0 e1 fun j1 H1 X1 E1 u hu => ?_
  rcases rb_some e with ⟨y, S2, e2, e⟩ | ⟨c, S2, e2, rfl⟩
  ·refine hk E1 e2 fun j2 H2 X2 E2 w hw => ?_
   cases ed : dgetS S2 x y with
   | none => rw [ed] at e; cases e
   | some o =>
    rw [ed, Option.bind_some] at e
    cases o with
    | none => cases e
    | some z =>
     cases e
     obtain ⟨a, o, rfl, g, _, _, g3⟩ := E2.dgetN (hu.mono X2) hw ed
     obtain ⟨z', rfl, hz⟩ := g3 z rfl
     exact ⟨a, z', rfl, g, kk _ _ (X1.trans X2) E2 _ hz⟩
  ·exact hk E1 e2 (PX.mono kk X1)
 ·exact hd En0 e1 kk
noncomputable def eDGet2N (d k z : TwE) : TwE := fun ρ S => rb (d ρ S) fun x S1 => if isDS S1 x = true then rb (k ρ S1) fun y S2 => rb (z ρ S2) fun w S3 => (dgetS S3 x y).map fun o => .ok (o.getD w) S3 else none
theorem re_dget2N {td ty tx : TE} {d k z : TwE} (hd : RE K E td d) (hk : RE K E ty k) (hz : RE K E tx z) : RE K E (tDGet2N K td ty tx) (eDGet2N d k z) := by
 intro F j σ H ρ S r Q En0 e kk
 rcases rb_some e with ⟨x, S1, e1, e⟩ | ⟨c, S1, e1, rfl⟩
 ·refine hd En0 e1 fun j1 H1 X1 E1 u hu => ?_
  split at e
  ·rename_i hc
   obtain ⟨a, rfl, hD⟩ := E1.isDN hu hc
   refine ⟨a, rfl, hD, ?_⟩
   rcases rb_some e with ⟨y, S2, e2, e⟩ | ⟨c, S2, e2, rfl⟩
   ·refine hk E1 e2 fun j2 H2 X2 E2 w hw => ?_
    rcases rb_some e with ⟨q, S3, e3, e⟩ | ⟨c, S3, e3, rfl⟩
    ·refine hz E2 e3 fun j3 H3 X3 E3 wq hq => ?_
     cases ed : dgetS S3 x y with
     | none => rw [ed] at e; cases e
     | some o =>
      rw [ed] at e
      cases e
      obtain ⟨a', o', ea, g, _, g2, _⟩ := E3.dgetN (hu.mono (X2.trans X3)) (hw.mono X3) ed
      cases ea
      exact ⟨o', g, kk _ _ (X1.trans (X2.trans X3)) E3 _ (g2 _ _ hq)⟩
    ·exact hz E2 e3 (PX.mono kk (X1.trans X2))
   ·exact hk E1 e2 (PX.mono kk X1)
  ·cases e
 ·exact hd En0 e1 kk
noncomputable def sDPutNX (d k v : TwE) : TwS := fun ρ S => sb (v ρ S) fun z S1 => sb (d ρ S1) fun x S2 => sb (k ρ S2) fun y S3 => (dputS S3 x y z).map fun S4 => .nx ρ S4
theorem rs_dputN {td ty tv : TE} {d k v : TwE} (hd : RE K E td d) (hk : RE K E ty k) (hv : RE K E tv v) : RS K E (sDPutN K td ty tv) (sDPutNX d k v) := by
 intro F j D' σ H ρ S fl E0 e kk
 rcases sb_some e with ⟨z, S1, e1, e⟩ | ⟨c, S1, e1, rfl⟩
 ·refine hv E0 e1 fun j1 H1 X1 E1 wz hwz => ?_
  rcases sb_some e with ⟨x, S2, e2, e⟩ | ⟨c, S2, e2, rfl⟩
  ·refine hd E1 e2 fun j2 H2 X2 E2 u hu => ?_
   rcases sb_some e with ⟨y, S3, e3, e⟩ | ⟨c, S3, e3, rfl⟩
   ·refine hk E2 e3 fun j3 H3 X3 E3 w hw => ?_
    cases ed : dputS S3 x y z with
    | none => rw [ed] at e; cases e
    | some S4 =>
     rw [ed] at e
     cases e
     obtain ⟨a, H4, rfl, g, E4, X4⟩ := E3.dputN (hu.mono X3) hw (hwz.mono (X2.trans X3)) ed
     exact ⟨a, H4, rfl, g, kk _ _ _ (X1.trans (X2.trans (X3.trans X4))) E4⟩
   ·exact hk E2 e3 (PX.mono kk (X1.trans X2))
  ·exact hd E1 e2 (PX.mono kk X1)
 ·exact hv E0 e1 kk
end
end L2
namespace L2
open PySem PySem.Spec PyProof.Rows PySem.Calls
noncomputable def nkIL : List NK → Option (List Int)
 | [] => some []
 | .int i :: r => (nkIL r).map (i :: ·)
 | _ :: _ => none
theorem nkIL_eq : ∀ {m : List NK} {l : List Int}, nkIL m = some l → m = l.map NK.int
 | [], l, h => by cases h; rfl
 | .int i :: r, l, h => by
  unfold nkIL at h
  rw [Option.map_eq_some_iff] at h
  obtain ⟨q, h1, rfl⟩ := h
  rw [List.map_cons, nkIL_eq h1]
 | .str _ :: _, _, h => by cases h
 | .tup _ :: _, _, h => by cases h
noncomputable def nkInts : NK → Option (List Int)
 | .tup l => nkIL l
 | _ => none
theorem nkInts_eq {k : NK} {l : List Int} (h : nkInts k = some l) : k = nkI l := by
 cases k with
 | tup m => unfold nkI; rw [nkIL_eq h]
 | _ => cases h
noncomputable def isT : List (NK × Xv × Xv) → Option (List (List Int))
 | [] => some []
 | p :: r => (nkInts p.1).bind fun l => (isT r).map (l :: ·)
theorem isT_eq : ∀ {kvs : List (NK × Xv × Xv)} {is : List (List Int)}, isT kvs = some is → kvs.map (·.1) = is.map nkI
 | [], is, h => by cases h; rfl
 | p :: r, is, h => by
  unfold isT at h
  rw [Option.bind_eq_some_iff] at h
  obtain ⟨l, h1, h2⟩ := h
  rw [Option.map_eq_some_iff] at h2
  obtain ⟨m, h3, rfl⟩ := h2
  rw [List.map_cons, List.map_cons, isT_eq h3, nkInts_eq h1]
open Classical in
noncomputable def dSortN : Opn := fun xs S => match xs with
 | [.ref n] => match S[n]? with
  | some (.dk _) => dSortD [.ref n] S
  | some (.dn kvs) => (isT kvs).bind fun is => if is.length < 64 ∧ (2 ≤ is.length → ∀ l ∈ is, l ≠ []) then some (.ref S.length, S ++ [.lst ((ordN is).map fun i => (kvs.map (·.2.1)).getD i .non)]) else none
  | _ => none
 | _ => none
section
variable {K : PySem.W.Frag} {j : List Addr} {H : Hp}
theorem NX.refs : ∀ {kvs : List (NK × Xv × Xv)} {ks : List (NK × Addr × V)}, NX K j H kvs ks → XisL K j H (kvs.map (·.2.1)) (ks.map fun p => V.ref p.2.1)
 | _, _, .nil => .nil
 | _, _, .cons _ h _ l => .cons h l.refs
theorem XisL.pick {xs : List Xv} {vs : List V} (h : XisL K j H xs vs) {d : V} : ∀ (l : List Nat), (∀ i ∈ l, i < xs.length) → XisL K j H (l.map fun i => xs.getD i .non) (l.map fun i => vs.getD i d)
 | [], _ => .nil
 | i :: l, hl => by
  have hi := hl i (by simp)
  obtain ⟨v, e1, e2⟩ := h.get (List.getElem?_eq_getElem hi)
  refine .cons ?_ (h.pick l fun k hk => hl k (by simp [hk]))
  dsimp only
  rw [List.getD_eq_getElem?_getD, List.getD_eq_getElem?_getD, List.getElem?_eq_getElem hi, e1]
  exact e2
end
theorem rc_sortN {K : PySem.W.Frag} : RcOk K (rSortN K) dSortN := by
 intro F j σ H ρ S S' xs z vs Q E1 hv h k
 unfold dSortN at h
 split at h
 ·rename_i n
  split at h
  ·exact .inl (rc_sortD E1 hv h k)
  ·rename_i kvs hs
   rw [Option.bind_eq_some_iff] at h
   obtain ⟨is, hi, h⟩ := h
   split at h
   ·rename_i hc
    cases h
    obtain ⟨w, rfl, hx⟩ := hv.d1
    obtain ⟨a, ks, rfl, hj, f1, f2⟩ := E1.dn hx hs
    have hk := f2.keys.trans (isT_eq hi)
    refine .inr ⟨a, ks, is, rfl, f1, f2.nis, hk, hc.1, hc.2, fun q hq => ?_⟩
    have hlen : kvs.length = is.length := by rw [← List.length_map (f := (·.1)), isT_eq hi, List.length_map]
    have hp : XisL K j H ((ordN is).map fun i => (kvs.map (·.2.1)).getD i .non) ((ordN is).map fun i => V.ref ((ks.map (·.2.1)).getD i 0)) := by
     have := f2.refs.pick (d := V.ref 0) (ordN is) fun i hi' => by
      have := (ordN_perm is).mem_iff.1 hi'
      rw [List.length_map, hlen]
      simpa using this
     have e : ((ordN is).map fun i => (ks.map fun p => V.ref p.2.1).getD i (V.ref 0)) = (ordN is).map fun i => V.ref ((ks.map (·.2.1)).getD i 0) := List.map_congr_left fun i _ => by
      simp only [List.getD_eq_getElem?_getD, List.getElem?_map]
      cases ks[i]? <;> rfl
     rwa [e] at this
    obtain ⟨E2, X2, h3⟩ := E1.lst hp hq
    exact k _ _ _ X2 E2 h3
   ·cases h
  ·cases h
 ·cases h
open Classical in
noncomputable def dRepr : Opn := fun xs S => match xs with
 | [x] => (tell S 40 x).bind fun d => if ∃ n, ShowOk n d then some (.str (D.py d).shown, S) else none
 | _ => none
theorem rc_repr {K : PySem.W.Frag} : RcOk K (rRepr K) dRepr := by
 intro F j σ H ρ S S' xs z vs Q E1 hv h k
 unfold dRepr at h
 split at h
 ·rename_i x
  rw [Option.bind_eq_some_iff] at h
  obtain ⟨d, h1, h2⟩ := h
  split at h2
  ·rename_i hc
   cases h2
   obtain ⟨n, hn⟩ := hc
   obtain ⟨w, rfl, hx⟩ := hv.d1
   exact ⟨n, w, d, rfl, (tell_is E1 40 x w d hx h1).1, hn, k _ _ _ Ext.refl E1 (.str _)⟩
  ·cases h2
 ·cases h
section
variable {ρ : Rho} {S : Sto} {P : Xv → Sto → Prop} {N : Rho → Sto → Prop} {R : Xv → Sto → Prop} {a b m z : TwE} {x y : Xv}
theorem wx_dgetN (h : W (a ρ S) fun x S1 => W (b ρ S1) fun y S2 => ∃ z, dgetS S2 x y = some (some z) ∧ P z S2) : W (eDGetN a b ρ S) P :=
 W.bind (h.imp fun _ _ h => W.bind (h.imp fun _ _ h => by obtain ⟨z, e1, q⟩ := h; rw [e1]; exact .of rfl q))
theorem wx_dget2N (h : W (a ρ S) fun x S1 => isDS S1 x = true ∧ W (b ρ S1) fun y S2 => W (z ρ S2) fun w S3 => ∃ o, dgetS S3 x y = some o ∧ P (o.getD w) S3) : W (eDGet2N a b z ρ S) P :=
 W.bind (h.imp fun x S1 h => by
  rw [if_pos h.1]
  exact W.bind (h.2.imp fun _ _ h => W.bind (h.imp fun _ _ h => by obtain ⟨o, e1, q⟩ := h; rw [e1]; exact .of rfl q)))
theorem wx_dputN (h : W (m ρ S) fun z S1 => W (a ρ S1) fun x S2 => W (b ρ S2) fun y S3 => ∃ S4, dputS S3 x y z = some S4 ∧ N ρ S4) : WS (sDPutNX a b m ρ S) N R :=
 WS.bind (h.imp fun _ _ h => WS.bind (h.imp fun _ _ h => WS.bind (h.imp fun _ _ h => by obtain ⟨S4, e1, q⟩ := h; rw [e1]; exact .nx rfl q)))
theorem ox_repr {d : D} (n : Nat) (h : tell S 40 x = some d) (hs : ShowOk n d) (k : P (.str (D.py d).shown) S) : WO (dRepr [x] S) P := .of (by unfold dRepr; dsimp only; rw [h, Option.bind_some, if_pos ⟨n, hs⟩]) k
end
end L2
namespace Mth
open PySem.Builtin.Int (intBits)
end Mth
namespace Prf
open PySem PySem.Spec PyProof.Rows L2
open PySem.Builtin.Int (intBits)
set_option maxHeartbeats 4000000
section
variable {P : Program} {w : World} {K : PySem.W.Frag} {mg : Str → Option Value} {base : Heap} {fu : Nat}
noncomputable def top (i : Nat) : Stmt := PySem.Challenge.pw_lots_k04_gathered.main.body.getD i (.Pass ⟨0, 0, 0, 0⟩)
noncomputable abbrev s_common_part : Stmt := top 2
noncomputable abbrev s_lowest : Stmt := top 3
noncomputable abbrev s_plus : Stmt := top 4
noncomputable abbrev s_gathered : Stmt := top 5
noncomputable abbrev s__law_cell : Stmt := top 7
noncomputable abbrev s__law_mix : Stmt := top 8
noncomputable abbrev s__law_common : Stmt := top 9
noncomputable abbrev s__law_lowest : Stmt := top 10
noncomputable abbrev s__law_thing : Stmt := top 11
noncomputable abbrev s__law_pairs : Stmt := top 12
noncomputable abbrev s__law_sums : Stmt := top 13
noncomputable abbrev s__law_right : Stmt := top 14
noncomputable abbrev s_law : Stmt := top 15
theorem sc_common_part : FnScope ["one", "other", "rest"] ["one", "other"] (defScope s_common_part) := ⟨rfl, rfl, rfl, by decide +kernel, rfl, by decide +kernel, by decide +kernel⟩
theorem sc_lowest : FnScope ["top", "bottom", "part"] ["top", "bottom"] (defScope s_lowest) := ⟨rfl, rfl, rfl, by decide +kernel, rfl, by decide +kernel, by decide +kernel⟩
theorem sc_plus : FnScope ["one", "other"] ["one", "other"] (defScope s_plus) := ⟨rfl, rfl, rfl, by decide +kernel, rfl, by decide +kernel, by decide +kernel⟩
theorem sc_gathered : FnScope ["pairs", "totals", "thing", "share"] ["pairs"] (defScope s_gathered) := ⟨rfl, rfl, rfl, by decide +kernel, rfl, by decide +kernel, by decide +kernel⟩
theorem sc__law_cell : FnScope ["_law_script", "_law_k"] ["_law_script", "_law_k"] (defScope s__law_cell) := ⟨rfl, rfl, rfl, by decide +kernel, rfl, by decide +kernel, by decide +kernel⟩
theorem sc__law_mix : FnScope ["_law_cell_here", "_law_prime", "_law_many"] ["_law_cell_here", "_law_prime", "_law_many"] (defScope s__law_mix) := ⟨rfl, rfl, rfl, by decide +kernel, rfl, by decide +kernel, by decide +kernel⟩
theorem sc__law_common : FnScope ["_law_one", "_law_other"] ["_law_one", "_law_other"] (defScope s__law_common) := ⟨rfl, rfl, rfl, by decide +kernel, rfl, by decide +kernel, by decide +kernel⟩
theorem sc__law_lowest : FnScope ["_law_top", "_law_bottom", "_law_most"] ["_law_top", "_law_bottom"] (defScope s__law_lowest) := ⟨rfl, rfl, rfl, by decide +kernel, rfl, by decide +kernel, by decide +kernel⟩
theorem sc__law_thing : FnScope ["_law_cell_here", "_law_way", "_law_size", "_law_thing_here"] ["_law_cell_here", "_law_way", "_law_size"] (defScope s__law_thing) := ⟨rfl, rfl, rfl, by decide +kernel, rfl, by decide +kernel, by decide +kernel⟩
theorem sc__law_pairs : FnScope ["_law_script", "_law_way", "_law_size", "_law_pairs_here", "_law_cell_here", "_law_share", "_law_thing_here", "_law_top", "_law_bottom"] ["_law_script"] (defScope s__law_pairs) := ⟨rfl, rfl, rfl, by decide +kernel, rfl, by decide +kernel, by decide +kernel⟩
theorem sc__law_sums : FnScope ["_law_pairs_here", "_law_sums_here", "_law_thing_here", "_law_share", "_law_top", "_law_bottom"] ["_law_pairs_here"] (defScope s__law_sums) := ⟨rfl, rfl, rfl, by decide +kernel, rfl, by decide +kernel, by decide +kernel⟩
theorem sc__law_right : FnScope ["_law_found", "_law_pairs_here", "_law_sums_here", "_law_due"] ["_law_found", "_law_pairs_here"] (defScope s__law_right) := ⟨rfl, rfl, rfl, by decide +kernel, rfl, by decide +kernel, by decide +kernel⟩
theorem sc_law : FnScope ["_law_script", "_law_pairs_here", "_law_handed", "_law_found"] ["_law_script"] (defScope s_law) := ⟨rfl, rfl, rfl, by decide +kernel, rfl, by decide +kernel, by decide +kernel⟩
set_option genInjectivity false in
set_option genSizeOf false in
structure Tx (K : PySem.W.Frag) (mg : Str → Option Value) where
 a_common_part : Addr
 fd_common_part : FuncData
 F_common_part : Fun K "common_part" "common_part" s_common_part a_common_part fd_common_part
 m_common_part : mg "common_part" = some (.ref a_common_part)
 b_common_part : Binds K fd_common_part ["one", "other"] []
 a_lowest : Addr
 fd_lowest : FuncData
 F_lowest : Fun K "lowest" "lowest" s_lowest a_lowest fd_lowest
 m_lowest : mg "lowest" = some (.ref a_lowest)
 b_lowest : Binds K fd_lowest ["top", "bottom"] []
 a_plus : Addr
 fd_plus : FuncData
 F_plus : Fun K "plus" "plus" s_plus a_plus fd_plus
 m_plus : mg "plus" = some (.ref a_plus)
 b_plus : Binds K fd_plus ["one", "other"] []
 a_gathered : Addr
 fd_gathered : FuncData
 F_gathered : Fun K "gathered" "gathered" s_gathered a_gathered fd_gathered
 m_gathered : mg "gathered" = some (.ref a_gathered)
 b_gathered : Binds K fd_gathered ["pairs"] []
 a__law_cell : Addr
 fd__law_cell : FuncData
 F__law_cell : Fun K "_law_cell" "_law_cell" s__law_cell a__law_cell fd__law_cell
 m__law_cell : mg "_law_cell" = some (.ref a__law_cell)
 b__law_cell : Binds K fd__law_cell ["_law_script", "_law_k"] []
 a__law_mix : Addr
 fd__law_mix : FuncData
 F__law_mix : Fun K "_law_mix" "_law_mix" s__law_mix a__law_mix fd__law_mix
 m__law_mix : mg "_law_mix" = some (.ref a__law_mix)
 b__law_mix : Binds K fd__law_mix ["_law_cell_here", "_law_prime", "_law_many"] []
 a__law_common : Addr
 fd__law_common : FuncData
 F__law_common : Fun K "_law_common" "_law_common" s__law_common a__law_common fd__law_common
 m__law_common : mg "_law_common" = some (.ref a__law_common)
 b__law_common : Binds K fd__law_common ["_law_one", "_law_other"] []
 a__law_lowest : Addr
 fd__law_lowest : FuncData
 F__law_lowest : Fun K "_law_lowest" "_law_lowest" s__law_lowest a__law_lowest fd__law_lowest
 m__law_lowest : mg "_law_lowest" = some (.ref a__law_lowest)
 b__law_lowest : Binds K fd__law_lowest ["_law_top", "_law_bottom"] []
 a__law_thing : Addr
 fd__law_thing : FuncData
 F__law_thing : Fun K "_law_thing" "_law_thing" s__law_thing a__law_thing fd__law_thing
 m__law_thing : mg "_law_thing" = some (.ref a__law_thing)
 b__law_thing : Binds K fd__law_thing ["_law_cell_here", "_law_way", "_law_size"] []
 a__law_pairs : Addr
 fd__law_pairs : FuncData
 F__law_pairs : Fun K "_law_pairs" "_law_pairs" s__law_pairs a__law_pairs fd__law_pairs
 m__law_pairs : mg "_law_pairs" = some (.ref a__law_pairs)
 b__law_pairs : Binds K fd__law_pairs ["_law_script"] []
 a__law_sums : Addr
 fd__law_sums : FuncData
 F__law_sums : Fun K "_law_sums" "_law_sums" s__law_sums a__law_sums fd__law_sums
 m__law_sums : mg "_law_sums" = some (.ref a__law_sums)
 b__law_sums : Binds K fd__law_sums ["_law_pairs_here"] []
 a__law_right : Addr
 fd__law_right : FuncData
 F__law_right : Fun K "_law_right" "_law_right" s__law_right a__law_right fd__law_right
 m__law_right : mg "_law_right" = some (.ref a__law_right)
 b__law_right : Binds K fd__law_right ["_law_found", "_law_pairs_here"] []
 a_law : Addr
 fd_law : FuncData
 F_law : Fun K "law" "law" s_law a_law fd_law
 m_law : mg "law" = some (.ref a_law)
 b_law : Binds K fd_law ["_law_script"] []
 n_abs : mg "abs" = none
 n_isinstance : mg "isinstance" = none
 n_len : mg "len" = none
 n_list : mg "list" = none
 n_range : mg "range" = none
 n_repr : mg "repr" = none
 n_sorted : mg "sorted" = none
 n_tuple : mg "tuple" = none
 a_NOUGHT : Addr
 m_NOUGHT : mg "NOUGHT" = some (.ref a_NOUGHT)
 c_NOUGHT : ∀ H, SqT K H a_NOUGHT [.int 0, .int 1]
noncomputable def tb_common_part (fu : Nat) : TwS := (sSeq (sAsg (eFn dAbs [(eVar 0)]) (gN 0)) (sSeq (sAsg (eFn dAbs [(eVar 1)]) (gN 1)) (sSeq (sWh fu (bE (eOp dNeI (eVar 1) (eC (.int 0)))) (sSeq (sAsg (eOp dMod (eVar 0) (eVar 1)) (gN 2)) (sSeq (sAsg (eVar 1) (gN 0)) (sAsg (eVar 2) (gN 1))))) (sRet (eVar 0)))))
noncomputable def tw_common_part (fu : Nat) : TwF := runTw 2 1 (tb_common_part fu)
theorem ok_common_part (T : Tx K mg) : FnOk P w K mg base (CXE P w) 1 T.a_common_part T.fd_common_part ["one", "other"] (sTw K 2 (tw_common_part fu)) :=
 T.F_common_part.okE sc_common_part (fun vs H Q E h => h.1) (fun cdv A outer s H vs Q E hr h => ⟨_, (@pss_cons _ _ _ _ _ (@ps_set _ _ 0 _ _ _ _ sc_common_part.nd rfl (Or.inl rfl) (pe_callB call_abs rfl T.n_abs boot_abs (@pa_cons _ _ _ _ _ (pv 0) pa_nil se_Name)) (by rfl) (by first | exact .inl rfl | exact .inr rfl | assumption)) (@pss_cons _ _ _ _ _ (@ps_set _ _ 1 _ _ _ _ sc_common_part.nd rfl (Or.inl rfl) (pe_callB call_abs rfl T.n_abs boot_abs (@pa_cons _ _ _ _ _ (pv 1) pa_nil se_Name)) (by rfl) (by first | exact .inl rfl | exact .inr rfl | assumption)) (@pss_cons _ _ _ _ _ (ps_while PassesOwn.leaving (pt_cmp (pc_neI (pv 1) pe_int)) (@pss_cons _ _ _ _ _ (@ps_set _ _ 2 _ _ _ _ sc_common_part.nd rfl (Or.inl rfl) (pe_op op_mod (pv 0) (pv 1)) (by rfl) (by first | exact .inl rfl | exact .inr rfl | assumption)) (@pss_cons _ _ _ _ _ (@ps_set _ _ 0 _ _ _ _ sc_common_part.nd rfl (Or.inl rfl) (pv 1) (by rfl) (by first | exact .inl rfl | exact .inr rfl | assumption)) (@pss_one _ _ _ (@ps_set _ _ 1 _ _ _ _ sc_common_part.nd rfl (Or.inl rfl) (pv 2) (by rfl) (by first | exact .inl rfl | exact .inr rfl | assumption)))))) (@pss_one _ _ _ (@ps_ret _ _ _ _ (pv 0)))))), fn_tw (n := 2) (k := 1) (b := tb_common_part fu) rfl (rs_seq (rs_asg (re_fn rc_abs (rl_cons (re_var 0) rl_nil)) rg_name) (rs_seq (rs_asg (re_fn rc_abs (rl_cons (re_var 1) rl_nil)) rg_name) (rs_seq (rs_while (rt_e (re_neI (re_var 1) (re_int _))) (rs_seq (rs_asg (re_op r2_mod (re_var 0) (re_var 1)) rg_name) (rs_seq (rs_asg (re_var 1) rg_name) (rs_asg (re_var 2) rg_name)))) (rs_ret (re_var 0))))) h⟩)
noncomputable def tb_lowest (fu : Nat) : TwS := (sSeq (sAsg (eCall (tw_common_part fu) [(eVar 0), (eVar 1)]) (gN 2)) (sSeq (sIf (bE (eOp dLt (eVar 1) (eC (.int 0)))) (sAsg (eUn dNeg (eVar 2)) (gN 2)) sNext) (sRet (eTup [(eOp dFdivB (eVar 0) (eVar 2)), (eOp dFdivB (eVar 1) (eVar 2))]))))
noncomputable def tw_lowest (fu : Nat) : TwF := runTw 2 1 (tb_lowest fu)
theorem ok_lowest (T : Tx K mg) : FnOk P w K mg base (CXE P w) 2 T.a_lowest T.fd_lowest ["top", "bottom"] (sTw K 2 (tw_lowest fu)) :=
 T.F_lowest.okE sc_lowest (fun vs H Q E h => h.1) (fun cdv A outer s H vs Q E hr h => ⟨_, (@pss_cons _ _ _ _ _ (@ps_set _ _ 2 _ _ _ _ sc_lowest.nd rfl (Or.inl rfl) (pe_call (ok_common_part (fu := fu) T) (hr.mono (by decide)) rfl T.m_common_part T.F_common_part.kp T.b_common_part .nil passE (@pa_cons _ _ _ _ _ (pv 0) (@pa_cons _ _ _ _ _ (pv 1) pa_nil se_Name) se_Name)) (by rfl) (by first | exact .inl rfl | exact .inr rfl | assumption)) (@pss_cons _ _ _ _ _ (ps_if (pt_cmp (pc_lt (pv 1) pe_int)) (@pss_one _ _ _ (@ps_set _ _ 2 _ _ _ _ sc_lowest.nd rfl (Or.inl rfl) (pe_un un_neg (pv 2)) (by rfl) (by first | exact .inl rfl | exact .inr rfl | assumption))) pss_nil) (@pss_one _ _ _ (@ps_ret _ _ _ _ (@pe_tup _ _ _ _ _ (@pa_cons _ _ _ _ _ (pe_op op_fdivB (pv 0) (pv 2)) (@pa_cons _ _ _ _ _ (pe_op op_fdivB (pv 1) (pv 2)) pa_nil se_BinOp) se_BinOp)))))), fn_tw (n := 2) (k := 1) (b := tb_lowest fu) rfl (rs_seq (rs_asg (re_call (rl_cons (re_var 0) (rl_cons (re_var 1) rl_nil))) rg_name) (rs_seq (rs_if (rt_e (re_lt (re_var 1) (re_int _))) (rs_asg (re_un r1_neg (re_var 2)) rg_name) rs_next) (rs_ret (re_tup (rl_cons (re_op r2_fdivB (re_var 0) (re_var 2)) (rl_cons (re_op r2_fdivB (re_var 1) (re_var 2)) rl_nil)))))) h⟩)
noncomputable def tb_plus (fu : Nat) : TwS := (sRet (eCall (tw_lowest fu) [(eOp dAdd (eOp dMulB (eOp dIxT (eVar 0) (eC (.int 0))) (eOp dIxT (eVar 1) (eC (.int 1)))) (eOp dMulB (eOp dIxT (eVar 1) (eC (.int 0))) (eOp dIxT (eVar 0) (eC (.int 1))))), (eOp dMulB (eOp dIxT (eVar 0) (eC (.int 1))) (eOp dIxT (eVar 1) (eC (.int 1))))]))
noncomputable def tw_plus (fu : Nat) : TwF := runTw 2 0 (tb_plus fu)
theorem ok_plus (T : Tx K mg) : FnOk P w K mg base (CXE P w) 3 T.a_plus T.fd_plus ["one", "other"] (sTw K 2 (tw_plus fu)) :=
 T.F_plus.okE sc_plus (fun vs H Q E h => h.1) (fun cdv A outer s H vs Q E hr h => ⟨_, (@pss_one _ _ _ (@ps_ret _ _ _ _ (pe_call (ok_lowest (fu := fu) T) (hr.mono (by decide)) rfl T.m_lowest T.F_lowest.kp T.b_lowest .nil passE (@pa_cons _ _ _ _ _ (pe_op op_add (pe_op op_mulB (@pe_ix _ _ _ _ _ _ _ (ix_tupK (K := K)) (pv 0) pe_int (fun _ _ => rfl)) (@pe_ix _ _ _ _ _ _ _ (ix_tupK (K := K)) (pv 1) pe_int (fun _ _ => rfl))) (pe_op op_mulB (@pe_ix _ _ _ _ _ _ _ (ix_tupK (K := K)) (pv 1) pe_int (fun _ _ => rfl)) (@pe_ix _ _ _ _ _ _ _ (ix_tupK (K := K)) (pv 0) pe_int (fun _ _ => rfl)))) (@pa_cons _ _ _ _ _ (pe_op op_mulB (@pe_ix _ _ _ _ _ _ _ (ix_tupK (K := K)) (pv 0) pe_int (fun _ _ => rfl)) (@pe_ix _ _ _ _ _ _ _ (ix_tupK (K := K)) (pv 1) pe_int (fun _ _ => rfl))) pa_nil se_BinOp) se_BinOp)))), fn_tw (n := 2) (k := 0) (b := tb_plus fu) rfl (rs_ret (re_call (rl_cons (re_op r2_add (re_op r2_mulB (re_op r2_ixT (re_var 0) (re_int _)) (re_op r2_ixT (re_var 1) (re_int _))) (re_op r2_mulB (re_op r2_ixT (re_var 1) (re_int _)) (re_op r2_ixT (re_var 0) (re_int _)))) (rl_cons (re_op r2_mulB (re_op r2_ixT (re_var 0) (re_int _)) (re_op r2_ixT (re_var 1) (re_int _))) rl_nil)))) h⟩)
noncomputable def tb_gathered (fu : Nat) : TwS := (sSeq (sAsg eDict0 (gN 1)) (sSeq (sFor (iL (eVar 0)) (gT 2 (gsCons (gN 2) (gsCons (gN 3) gsNil))) (sDPutNX (eVar 1) (eVar 2) (eCall (tw_plus fu) [(eDGet2N (eVar 1) (eVar 2) (eC (.ct [.int 0, .int 1]))), (eVar 3)]))) (sRet (eComp [none, some 1] (iL (eFn dSortN [(eVar 1)])) (gN 0) (bE (eOp (dEqG true) (eDGetN (eVar 1) (eVar 0)) (eC (.ct [.int 0, .int 1])))) (eTup [(eVar 0), (eDGetN (eVar 1) (eVar 0))])))))
noncomputable def tw_gathered (fu : Nat) : TwF := runTw 1 3 (tb_gathered fu)
theorem ok_gathered (T : Tx K mg) : FnOk P w K mg base (CXE P w) 4 T.a_gathered T.fd_gathered ["pairs"] (sTw K 1 (tw_gathered fu)) :=
 T.F_gathered.okE sc_gathered (fun vs H Q E h => h.1) (fun cdv A outer s H vs Q E hr h => ⟨_, (@pss_cons _ _ _ _ _ (@ps_set _ _ 1 _ _ _ _ sc_gathered.nd rfl (Or.inr rfl) pe_dnewK (by rfl) (by first | exact .inl rfl | exact .inr rfl | assumption)) (@pss_cons _ _ _ _ _ (ps_for PassesOwn.leaving rfl (pi_listK (K := K) (pv 0)) (pg_tupK (K := K) (n := 2) rfl (pgs_cons (pg_name (i := 2) sc_gathered.nd rfl (Or.inl rfl)) (pgs_cons (pg_name (i := 3) sc_gathered.nd rfl (Or.inl rfl)) pgs_nil))) (@pss_one _ _ _ (ps_dputN (K := K) hr (pv 1) (pv 2) (pe_call (ok_plus (fu := fu) T) (hr.mono (by decide)) rfl T.m_plus T.F_plus.kp T.b_plus .nil passE (@pa_cons _ _ _ _ _ (pe_dget2N (K := K) hr (pv 1) (pv 2) (pe_glob (v := .ref T.a_NOUGHT) rfl T.m_NOUGHT rfl) ⟨rfl, rfl, rfl, rfl⟩) (@pa_cons _ _ _ _ _ (pv 3) pa_nil se_Name) se_Call)) rfl))) (@pss_one _ _ _ (@ps_ret _ _ _ _ (pe_comp (N' := ["thing", "totals"]) rfl (blk (osc := defScope s_gathered) rfl (by decide +kernel)) (cap_own (cap_out (i := 1) rfl rfl cap_nil)) (pi_listK (K := K) (pe_callB (call_sortN (K := K) rfl) rfl T.n_sorted PyProof.Rows.Boot.«sorted» (@pa_cons _ _ _ _ _ (pv 1) pa_nil se_Name))) (gown_name rfl) (fun C s₀ H₀ fp => pg_name (i := 0) (show (["thing", "totals"] : List Str).Nodup from by decide +kernel) rfl (Or.inl rfl)) (fun C s₀ H₀ fp => pts_one (pt_cmpR (op_neG (K := K) hr) (pe_dgetN (K := K) hr (pv 1) (pv 0) (fun _ _ => rfl)) (pe_glob (v := .ref T.a_NOUGHT) rfl T.m_NOUGHT rfl) (by rfl))) (fun C s₀ H₀ fp => (@pe_tup _ _ _ _ _ (@pa_cons _ _ _ _ _ (pv 0) (@pa_cons _ _ _ _ _ (pe_dgetN (K := K) hr (pv 1) (pv 0) (fun _ _ => rfl)) pa_nil se_Subscript) se_Name)))))))), fn_tw (n := 1) (k := 3) (b := tb_gathered fu) rfl (rs_seq (rs_asg re_dnew rg_name) (rs_seq (rs_for (ri_list (re_var 0)) (rg_tup (rgs_cons rg_name (rgs_cons rg_name rgs_nil))) (rs_dputN (re_var 1) (re_var 2) (re_call (rl_cons (re_dget2N (re_var 1) (re_var 2) (re_c fun j H => .ct (fun H => T.c_NOUGHT H) (.cons (.int _) (.cons (.int _) (.nil))))) (rl_cons (re_var 3) rl_nil))))) (rs_ret (re_comp (cap := [none, some 1]) (ri_list (re_fn rc_sortN (rl_cons (re_var 1) rl_nil))) rg_name (rt_test (re_op r2_eqG (re_dgetN (re_var 1) (re_var 0)) (re_c fun j H => .ct (fun H => T.c_NOUGHT H) (.cons (.int _) (.cons (.int _) (.nil)))))) (re_tup (rl_cons (re_var 0) (rl_cons (re_dgetN (re_var 1) (re_var 0)) rl_nil))))))) h⟩)
noncomputable def tb__law_cell (fu : Nat) : TwS := (sSeq (sIf (bE (eOp dLt (eVar 1) (eFn dLen [(eVar 0)]))) (sRet (eOp dIxL (eVar 0) (eVar 1))) sNext) (sRet (eC (.int 0))))
noncomputable def tw__law_cell (fu : Nat) : TwF := runTw 2 0 (tb__law_cell fu)
theorem ok__law_cell (T : Tx K mg) : FnOk P w K mg base (CXE P w) 1 T.a__law_cell T.fd__law_cell ["_law_script", "_law_k"] (sTw K 2 (tw__law_cell fu)) :=
 T.F__law_cell.okE sc__law_cell (fun vs H Q E h => h.1) (fun cdv A outer s H vs Q E hr h => ⟨_, (@pss_cons _ _ _ _ _ (ps_if (pt_cmp (pc_lt (pv 1) (pe_callB (call_lenK (K := K)) rfl T.n_len boot_len (@pa_cons _ _ _ _ _ (pv 0) pa_nil se_Name)))) (@pss_one _ _ _ (@ps_ret _ _ _ _ (@pe_ix _ _ _ _ _ _ _ (ix_listK (K := K)) (pv 0) (pv 1) (fun _ _ => rfl)))) pss_nil) (@pss_one _ _ _ (@ps_ret _ _ _ _ pe_int))), fn_tw (n := 2) (k := 0) (b := tb__law_cell fu) rfl (rs_seq (rs_if (rt_e (re_lt (re_var 1) (re_fn rc_len (rl_cons (re_var 0) rl_nil)))) (rs_ret (re_op r2_ixL (re_var 0) (re_var 1))) rs_next) (rs_ret (re_int _))) h⟩)
noncomputable def tb__law_mix (fu : Nat) : TwS := (sRet (eOp dMod (eOp dMod (eOp dAdd (eOp dMul (eVar 0) (eC (.int 48271))) (eC (.int 11))) (eVar 1)) (eVar 2)))
noncomputable def tw__law_mix (fu : Nat) : TwF := runTw 3 0 (tb__law_mix fu)
theorem ok__law_mix (T : Tx K mg) : FnOk P w K mg base (CXE P w) 1 T.a__law_mix T.fd__law_mix ["_law_cell_here", "_law_prime", "_law_many"] (sTw K 3 (tw__law_mix fu)) :=
 T.F__law_mix.okE sc__law_mix (fun vs H Q E h => h.1) (fun cdv A outer s H vs Q E hr h => ⟨_, (@pss_one _ _ _ (@ps_ret _ _ _ _ (pe_op op_mod (pe_op op_mod (pe_op op_add (pe_op op_mul (pv 0) pe_int) pe_int) (pv 1)) (pv 2)))), fn_tw (n := 3) (k := 0) (b := tb__law_mix fu) rfl (rs_ret (re_op r2_mod (re_op r2_mod (re_op r2_add (re_op r2_mul (re_var 0) (re_int _)) (re_int _)) (re_var 1)) (re_var 2))) h⟩)
noncomputable def tb__law_common (fu : Nat) : TwS := (sSeq (sAsg (eFn dAbs [(eVar 0)]) (gN 0)) (sSeq (sAsg (eFn dAbs [(eVar 1)]) (gN 1)) (sSeq (sWh fu (bE (eOp dGt (eVar 1) (eC (.int 0)))) (sPar 0 1 [(eVar 1), (eOp dMod (eVar 0) (eVar 1))])) (sRet (eVar 0)))))
noncomputable def tw__law_common (fu : Nat) : TwF := runTw 2 0 (tb__law_common fu)
theorem ok__law_common (T : Tx K mg) : FnOk P w K mg base (CXE P w) 1 T.a__law_common T.fd__law_common ["_law_one", "_law_other"] (sTw K 2 (tw__law_common fu)) :=
 T.F__law_common.okE sc__law_common (fun vs H Q E h => h.1) (fun cdv A outer s H vs Q E hr h => ⟨_, (@pss_cons _ _ _ _ _ (@ps_set _ _ 0 _ _ _ _ sc__law_common.nd rfl (Or.inl rfl) (pe_callB call_abs rfl T.n_abs boot_abs (@pa_cons _ _ _ _ _ (pv 0) pa_nil se_Name)) (by rfl) (by first | exact .inl rfl | exact .inr rfl | assumption)) (@pss_cons _ _ _ _ _ (@ps_set _ _ 1 _ _ _ _ sc__law_common.nd rfl (Or.inl rfl) (pe_callB call_abs rfl T.n_abs boot_abs (@pa_cons _ _ _ _ _ (pv 1) pa_nil se_Name)) (by rfl) (by first | exact .inl rfl | exact .inr rfl | assumption)) (@pss_cons _ _ _ _ _ (ps_while PassesOwn.leaving (pt_cmp (pc_gt (pv 1) pe_int)) (@pss_one _ _ _ (ps_par (i := 0) (j := 1) rfl sc__law_common.nd rfl rfl (by decide) rfl rfl (@pa_cons _ _ _ _ _ (pv 1) (@pa_cons _ _ _ _ _ (pe_op op_mod (pv 0) (pv 1)) pa_nil se_BinOp) se_Name) rfl))) (@pss_one _ _ _ (@ps_ret _ _ _ _ (pv 0)))))), fn_tw (n := 2) (k := 0) (b := tb__law_common fu) rfl (rs_seq (rs_asg (re_fn rc_abs (rl_cons (re_var 0) rl_nil)) rg_name) (rs_seq (rs_asg (re_fn rc_abs (rl_cons (re_var 1) rl_nil)) rg_name) (rs_seq (rs_while (rt_e (re_gt (re_var 1) (re_int _))) (rs_par (rl_cons (re_var 1) (rl_cons (re_op r2_mod (re_var 0) (re_var 1)) rl_nil)))) (rs_ret (re_var 0))))) h⟩)
noncomputable def tb__law_lowest (fu : Nat) : TwS := (sSeq (sAsg (eCall (tw__law_common fu) [(eVar 0), (eVar 1)]) (gN 2)) (sRet (eTup [(eOp dFdivB (eVar 0) (eVar 2)), (eOp dFdivB (eVar 1) (eVar 2))])))
noncomputable def tw__law_lowest (fu : Nat) : TwF := runTw 2 1 (tb__law_lowest fu)
theorem ok__law_lowest (T : Tx K mg) : FnOk P w K mg base (CXE P w) 2 T.a__law_lowest T.fd__law_lowest ["_law_top", "_law_bottom"] (sTw K 2 (tw__law_lowest fu)) :=
 T.F__law_lowest.okE sc__law_lowest (fun vs H Q E h => h.1) (fun cdv A outer s H vs Q E hr h => ⟨_, (@pss_cons _ _ _ _ _ (@ps_set _ _ 2 _ _ _ _ sc__law_lowest.nd rfl (Or.inl rfl) (pe_call (ok__law_common (fu := fu) T) (hr.mono (by decide)) rfl T.m__law_common T.F__law_common.kp T.b__law_common .nil passE (@pa_cons _ _ _ _ _ (pv 0) (@pa_cons _ _ _ _ _ (pv 1) pa_nil se_Name) se_Name)) (by rfl) (by first | exact .inl rfl | exact .inr rfl | assumption)) (@pss_one _ _ _ (@ps_ret _ _ _ _ (@pe_tup _ _ _ _ _ (@pa_cons _ _ _ _ _ (pe_op op_fdivB (pv 0) (pv 2)) (@pa_cons _ _ _ _ _ (pe_op op_fdivB (pv 1) (pv 2)) pa_nil se_BinOp) se_BinOp))))), fn_tw (n := 2) (k := 1) (b := tb__law_lowest fu) rfl (rs_seq (rs_asg (re_call (rl_cons (re_var 0) (rl_cons (re_var 1) rl_nil))) rg_name) (rs_ret (re_tup (rl_cons (re_op r2_fdivB (re_var 0) (re_var 2)) (rl_cons (re_op r2_fdivB (re_var 1) (re_var 2)) rl_nil))))) h⟩)
noncomputable def tb__law_thing (fu : Nat) : TwS := (sSeq (sIf (bE (eOp dEqI (eVar 1) (eC (.int 0)))) (sRet (eOp dSub (eOp dMod (eVar 0) (eC (.int 7))) (eC (.int 3)))) sNext) (sSeq (sIf (bE (eOp dEqI (eVar 1) (eC (.int 1)))) (sRet (eOp dAdd (eOp dSub (eOp dMod (eVar 0) (eOp dSub (eOp dMul (eC (.int 2)) (eOp dPow (eC (.int 10)) (eC (.int 60)))) (eC (.int 1)))) (eOp dPow (eC (.int 10)) (eC (.int 60)))) (eC (.int 1)))) sNext) (sSeq (sAsg (eFn dTuple [(eComp [none, some 0] (iR1 (eVar 2)) (gN 0) bTrue (eCall (tw__law_mix fu) [(eOp dAdd (eVar 1) (eOp dMulB (eVar 0) (eVar 0))), (eC (.int 10037)), (eC (.int 3))]))]) (gN 3)) (sSeq (sIf (bAnd (bE (eOp dEqI (eVar 1) (eC (.int 2)))) (bE (eOp dGt (eVar 2) (eC (.int 0))))) (sAsg (eOp dCatT (eSl dSlT (eVar 3) oNo (oSome (eUn dNeg (eC (.int 1))))) (eTup [(eOp dMod (eVar 0) (eOp dPow (eC (.int 10)) (eC (.int 60))))])) (gN 3)) sNext) (sRet (eVar 3))))))
noncomputable def tw__law_thing (fu : Nat) : TwF := runTw 3 1 (tb__law_thing fu)
theorem ok__law_thing (T : Tx K mg) : FnOk P w K mg base (CXE P w) 2 T.a__law_thing T.fd__law_thing ["_law_cell_here", "_law_way", "_law_size"] (sTw K 3 (tw__law_thing fu)) :=
 T.F__law_thing.okE sc__law_thing (fun vs H Q E h => h.1) (fun cdv A outer s H vs Q E hr h => ⟨_, (@pss_cons _ _ _ _ _ (ps_if (pt_cmp (pc_eqI (pv 1) pe_int)) (@pss_one _ _ _ (@ps_ret _ _ _ _ (pe_op op_sub (pe_op op_mod (pv 0) pe_int) pe_int))) pss_nil) (@pss_cons _ _ _ _ _ (ps_if (pt_cmp (pc_eqI (pv 1) pe_int)) (@pss_one _ _ _ (@ps_ret _ _ _ _ (pe_op op_add (pe_op op_sub (pe_op op_mod (pv 0) (pe_op op_sub (pe_op op_mul pe_int (pe_op op_pow pe_int pe_int)) pe_int)) (pe_op op_pow pe_int pe_int)) pe_int))) pss_nil) (@pss_cons _ _ _ _ _ (@ps_set _ _ 3 _ _ _ _ sc__law_thing.nd rfl (Or.inl rfl) (pe_callTy (call_tupleK (K := K)) rfl T.n_tuple boot_tuple (pa_cons (pe_comp (N' := ["_law_k", "_law_cell_here"]) rfl (blk (osc := defScope s__law_thing) rfl (by decide +kernel)) (cap_own (cap_out (i := 0) rfl rfl cap_nil)) (pi_range1 rfl T.n_range (@pa_cons _ _ _ _ _ (pv 2) pa_nil se_Name)) (gown_name rfl) (fun C s₀ H₀ fp => pg_name (i := 0) (show (["_law_k", "_law_cell_here"] : List Str).Nodup from by decide +kernel) rfl (Or.inl rfl)) (fun C s₀ H₀ fp => pts_nil) (fun C s₀ H₀ fp => (pe_call (ok__law_mix (fu := fu) T) (hr.mono (by decide)) rfl T.m__law_mix T.F__law_mix.kp T.b__law_mix .nil passF (@pa_cons _ _ _ _ _ (pe_op op_add (pv 1) (pe_op op_mulB (pv 0) (pv 0))) (@pa_cons _ _ _ _ _ pe_int (@pa_cons _ _ _ _ _ pe_int pa_nil se_Constant) se_Constant) se_BinOp)))) pa_nil)) (by rfl) (by first | exact .inl rfl | exact .inr rfl | assumption)) (@pss_cons _ _ _ _ _ (ps_if (PW.pt (pw_and (pt_cmp (pc_eqI (pv 1) pe_int)) (pw_and1 (pt_cmp (pc_gt (pv 2) pe_int))))) (@pss_one _ _ _ (@ps_set _ _ 3 _ _ _ _ sc__law_thing.nd rfl (Or.inl rfl) (pe_op (op_catA (K := K)) (pe_slice (sl_tupA (K := K)) (pv 3) po_none (po_some (pe_un un_neg pe_int))) (@pe_tup _ _ _ _ _ (@pa_cons _ _ _ _ _ (pe_op op_mod (pv 0) (pe_op op_pow pe_int pe_int)) pa_nil se_BinOp))) (by rfl) (by first | exact .inl rfl | exact .inr rfl | assumption))) pss_nil) (@pss_one _ _ _ (@ps_ret _ _ _ _ (pv 3))))))), fn_tw (n := 3) (k := 1) (b := tb__law_thing fu) rfl (rs_seq (rs_if (rt_e (re_eqI (re_var 1) (re_int _))) (rs_ret (re_op r2_sub (re_op r2_mod (re_var 0) (re_int _)) (re_int _))) rs_next) (rs_seq (rs_if (rt_e (re_eqI (re_var 1) (re_int _))) (rs_ret (re_op r2_add (re_op r2_sub (re_op r2_mod (re_var 0) (re_op r2_sub (re_op r2_mul (re_int _) (re_op r2_pow (re_int _) (re_int _))) (re_int _))) (re_op r2_pow (re_int _) (re_int _))) (re_int _))) rs_next) (rs_seq (rs_asg (re_fn rc_tuple (rl_cons (re_comp (cap := [none, some 0]) (ri_range1 (re_var 2)) rg_name rt_true (re_call (rl_cons (re_op r2_add (re_var 1) (re_op r2_mulB (re_var 0) (re_var 0))) (rl_cons (re_int _) (rl_cons (re_int _) rl_nil))))) rl_nil)) rg_name) (rs_seq (rs_if (rt_and (rt_e (re_eqI (re_var 1) (re_int _))) (rt_e (re_gt (re_var 2) (re_int _)))) (rs_asg (re_op r2_catT (re_slT (re_var 3) ro_no (ro_some (re_un r1_neg (re_int _)))) (re_tup (rl_cons (re_op r2_mod (re_var 0) (re_op r2_pow (re_int _) (re_int _))) rl_nil))) rg_name) rs_next) (rs_ret (re_var 3)))))) h⟩)
noncomputable def tb__law_sums (fu : Nat) : TwS := (sSeq (sAsg eDict0 (gN 1)) (sSeq (sFor (iL (eVar 0)) (gT 2 (gsCons (gN 2) (gsCons (gN 3) gsNil))) (sSeq (sAsg (eDGet2N (eVar 1) (eVar 2) (eTup [(eC (.int 0)), (eC (.int 1))])) (gT 2 (gsCons (gN 4) (gsCons (gN 5) gsNil)))) (sDPutNX (eVar 1) (eVar 2) (eCall (tw__law_lowest fu) [(eOp dAdd (eOp dMulB (eVar 4) (eOp dIxT (eVar 3) (eC (.int 1)))) (eOp dMulB (eOp dIxT (eVar 3) (eC (.int 0))) (eVar 5))), (eOp dMulB (eVar 5) (eOp dIxT (eVar 3) (eC (.int 1))))])))) (sRet (eVar 1))))
noncomputable def tw__law_sums (fu : Nat) : TwF := runTw 1 5 (tb__law_sums fu)
theorem ok__law_sums (T : Tx K mg) : FnOk P w K mg base (CXE P w) 3 T.a__law_sums T.fd__law_sums ["_law_pairs_here"] (sTw K 1 (tw__law_sums fu)) :=
 T.F__law_sums.okE sc__law_sums (fun vs H Q E h => h.1) (fun cdv A outer s H vs Q E hr h => ⟨_, (@pss_cons _ _ _ _ _ (@ps_set _ _ 1 _ _ _ _ sc__law_sums.nd rfl (Or.inl rfl) pe_dnewK (by rfl) (by first | exact .inl rfl | exact .inr rfl | assumption)) (@pss_cons _ _ _ _ _ (ps_for PassesOwn.leaving rfl (pi_listK (K := K) (pv 0)) (pg_tupK (K := K) (n := 2) rfl (pgs_cons (pg_name (i := 2) sc__law_sums.nd rfl (Or.inl rfl)) (pgs_cons (pg_name (i := 3) sc__law_sums.nd rfl (Or.inl rfl)) pgs_nil))) (@pss_cons _ _ _ _ _ (ps_asg (pe_dget2N (K := K) hr (pv 1) (pv 2) (@pe_tup _ _ _ _ _ (@pa_cons _ _ _ _ _ pe_int (@pa_cons _ _ _ _ _ pe_int pa_nil se_Constant) se_Constant)) ⟨rfl, rfl, rfl, rfl⟩) (pg_tupK (K := K) (n := 2) rfl (pgs_cons (pg_name (i := 4) sc__law_sums.nd rfl (Or.inl rfl)) (pgs_cons (pg_name (i := 5) sc__law_sums.nd rfl (Or.inl rfl)) pgs_nil)))) (@pss_one _ _ _ (ps_dputN (K := K) hr (pv 1) (pv 2) (pe_call (ok__law_lowest (fu := fu) T) (hr.mono (by decide)) rfl T.m__law_lowest T.F__law_lowest.kp T.b__law_lowest .nil passE (@pa_cons _ _ _ _ _ (pe_op op_add (pe_op op_mulB (pv 4) (@pe_ix _ _ _ _ _ _ _ (ix_tupK (K := K)) (pv 3) pe_int (fun _ _ => rfl))) (pe_op op_mulB (@pe_ix _ _ _ _ _ _ _ (ix_tupK (K := K)) (pv 3) pe_int (fun _ _ => rfl)) (pv 5))) (@pa_cons _ _ _ _ _ (pe_op op_mulB (pv 5) (@pe_ix _ _ _ _ _ _ _ (ix_tupK (K := K)) (pv 3) pe_int (fun _ _ => rfl))) pa_nil se_BinOp) se_BinOp)) rfl)))) (@pss_one _ _ _ (@ps_ret _ _ _ _ (pv 1))))), fn_tw (n := 1) (k := 5) (b := tb__law_sums fu) rfl (rs_seq (rs_asg re_dnew rg_name) (rs_seq (rs_for (ri_list (re_var 0)) (rg_tup (rgs_cons rg_name (rgs_cons rg_name rgs_nil))) (rs_seq (rs_asg (re_dget2N (re_var 1) (re_var 2) (re_tup (rl_cons (re_int _) (rl_cons (re_int _) rl_nil)))) (rg_tup (rgs_cons rg_name (rgs_cons rg_name rgs_nil)))) (rs_dputN (re_var 1) (re_var 2) (re_call (rl_cons (re_op r2_add (re_op r2_mulB (re_var 4) (re_op r2_ixT (re_var 3) (re_int _))) (re_op r2_mulB (re_op r2_ixT (re_var 3) (re_int _)) (re_var 5))) (rl_cons (re_op r2_mulB (re_var 5) (re_op r2_ixT (re_var 3) (re_int _))) rl_nil)))))) (rs_ret (re_var 1)))) h⟩)
noncomputable def tb__law_pairs (fu : Nat) : TwS := (sSeq (sAsg (eCall (tw__law_mix fu) [(eCall (tw__law_cell fu) [(eVar 0), (eC (.int 0))]), (eC (.int 10007)), (eC (.int 5))]) (gN 1)) (sSeq (sAsg (eCall (tw__law_mix fu) [(eCall (tw__law_cell fu) [(eVar 0), (eC (.int 1))]), (eC (.int 10009)), (eC (.int 4))]) (gN 2)) (sSeq (sAsg (eLst []) (gN 3)) (sSeq (sFor (iL (eSl dSlL (eVar 0) oNo (oSome (eC (.int 62))))) (gN 4) (sSeq (sAsg (eCall (tw__law_lowest fu) [(eOp dSub (eCall (tw__law_mix fu) [(eVar 4), (eC (.int 10061)), (eC (.int 13))]) (eC (.int 6))), (eOp dAdd (eC (.int 1)) (eCall (tw__law_mix fu) [(eVar 4), (eC (.int 10067)), (eC (.int 5))]))]) (gN 5)) (sExpr (eMt mAppend (eVar 3) [(eTup [(eCall (tw__law_thing fu) [(eVar 4), (eVar 1), (eVar 2)]), (eVar 5)])])))) (sSeq (sIf (bAnd (bE (eOp dGt (eFn dLen [(eVar 3)]) (eC (.int 0)))) (bE (eOp dEqI (eCall (tw__law_mix fu) [(eCall (tw__law_cell fu) [(eVar 0), (eC (.int 2))]), (eC (.int 10069)), (eC (.int 2))]) (eC (.int 0))))) (sSeq (sAsg (eOp dIxT (eOp dIxL (eVar 3) (eCall (tw__law_mix fu) [(eCall (tw__law_cell fu) [(eVar 0), (eC (.int 3))]), (eC (.int 10079)), (eFn dLen [(eVar 3)])])) (eC (.int 0))) (gN 6)) (sSeq (sAsg (eDGetN (eCall (tw__law_sums fu) [(eVar 3)]) (eVar 6)) (gT 2 (gsCons (gN 7) (gsCons (gN 8) gsNil)))) (sExpr (eMt mAppend (eVar 3) [(eTup [(eVar 6), (eTup [(eUn dNeg (eVar 7)), (eVar 8)])])])))) sNext) (sRet (eVar 3)))))))
noncomputable def tw__law_pairs (fu : Nat) : TwF := runTw 1 8 (tb__law_pairs fu)
theorem ok__law_pairs (T : Tx K mg) : FnOk P w K mg base (CXE P w) 4 T.a__law_pairs T.fd__law_pairs ["_law_script"] (sTw K 1 (tw__law_pairs fu)) :=
 T.F__law_pairs.okE sc__law_pairs (fun vs H Q E h => h.1) (fun cdv A outer s H vs Q E hr h => ⟨_, (@pss_cons _ _ _ _ _ (@ps_set _ _ 1 _ _ _ _ sc__law_pairs.nd rfl (Or.inl rfl) (pe_call (ok__law_mix (fu := fu) T) (hr.mono (by decide)) rfl T.m__law_mix T.F__law_mix.kp T.b__law_mix .nil passE (@pa_cons _ _ _ _ _ (pe_call (ok__law_cell (fu := fu) T) (hr.mono (by decide)) rfl T.m__law_cell T.F__law_cell.kp T.b__law_cell .nil passE (@pa_cons _ _ _ _ _ (pv 0) (@pa_cons _ _ _ _ _ pe_int pa_nil se_Constant) se_Name)) (@pa_cons _ _ _ _ _ pe_int (@pa_cons _ _ _ _ _ pe_int pa_nil se_Constant) se_Constant) se_Call)) (by rfl) (by first | exact .inl rfl | exact .inr rfl | assumption)) (@pss_cons _ _ _ _ _ (@ps_set _ _ 2 _ _ _ _ sc__law_pairs.nd rfl (Or.inl rfl) (pe_call (ok__law_mix (fu := fu) T) (hr.mono (by decide)) rfl T.m__law_mix T.F__law_mix.kp T.b__law_mix .nil passE (@pa_cons _ _ _ _ _ (pe_call (ok__law_cell (fu := fu) T) (hr.mono (by decide)) rfl T.m__law_cell T.F__law_cell.kp T.b__law_cell .nil passE (@pa_cons _ _ _ _ _ (pv 0) (@pa_cons _ _ _ _ _ pe_int pa_nil se_Constant) se_Name)) (@pa_cons _ _ _ _ _ pe_int (@pa_cons _ _ _ _ _ pe_int pa_nil se_Constant) se_Constant) se_Call)) (by rfl) (by first | exact .inl rfl | exact .inr rfl | assumption)) (@pss_cons _ _ _ _ _ (@ps_set _ _ 3 _ _ _ _ sc__law_pairs.nd rfl (Or.inl rfl) (@pe_lst _ _ _ _ pa_nil) (by rfl) (by first | exact .inl rfl | exact .inr rfl | assumption)) (@pss_cons _ _ _ _ _ (ps_for PassesOwn.leaving rfl (pi_listK (K := K) (pe_slice (sl_listK (K := K)) (pv 0) po_none (po_some pe_int))) (pg_name (i := 4) sc__law_pairs.nd rfl (Or.inl rfl)) (@pss_cons _ _ _ _ _ (@ps_set _ _ 5 _ _ _ _ sc__law_pairs.nd rfl (Or.inl rfl) (pe_call (ok__law_lowest (fu := fu) T) (hr.mono (by decide)) rfl T.m__law_lowest T.F__law_lowest.kp T.b__law_lowest .nil passE (@pa_cons _ _ _ _ _ (pe_op op_sub (pe_call (ok__law_mix (fu := fu) T) (hr.mono (by decide)) rfl T.m__law_mix T.F__law_mix.kp T.b__law_mix .nil passE (@pa_cons _ _ _ _ _ (pv 4) (@pa_cons _ _ _ _ _ pe_int (@pa_cons _ _ _ _ _ pe_int pa_nil se_Constant) se_Constant) se_Name)) pe_int) (@pa_cons _ _ _ _ _ (pe_op op_add pe_int (pe_call (ok__law_mix (fu := fu) T) (hr.mono (by decide)) rfl T.m__law_mix T.F__law_mix.kp T.b__law_mix .nil passE (@pa_cons _ _ _ _ _ (pv 4) (@pa_cons _ _ _ _ _ pe_int (@pa_cons _ _ _ _ _ pe_int pa_nil se_Constant) se_Constant) se_Name))) pa_nil se_BinOp) se_BinOp)) (by rfl) (by first | exact .inl rfl | exact .inr rfl | assumption)) (@pss_one _ _ _ (ps_expr (pe_bm PySem.F.plainAttrs_list PySem.F.slot_list_append PySem.F.type_list_append mt_append (pv 3) (@pa_cons _ _ _ _ _ (@pe_tup _ _ _ _ _ (@pa_cons _ _ _ _ _ (pe_call (ok__law_thing (fu := fu) T) (hr.mono (by decide)) rfl T.m__law_thing T.F__law_thing.kp T.b__law_thing .nil passE (@pa_cons _ _ _ _ _ (pv 4) (@pa_cons _ _ _ _ _ (pv 1) (@pa_cons _ _ _ _ _ (pv 2) pa_nil se_Name) se_Name) se_Name)) (@pa_cons _ _ _ _ _ (pv 5) pa_nil se_Name) se_Call)) pa_nil se_Tuple)))))) (@pss_cons _ _ _ _ _ (ps_if (PW.pt (pw_and (pt_cmp (pc_gt (pe_callB (call_lenK (K := K)) rfl T.n_len boot_len (@pa_cons _ _ _ _ _ (pv 3) pa_nil se_Name)) pe_int)) (pw_and1 (pt_cmp (pc_eqI (pe_call (ok__law_mix (fu := fu) T) (hr.mono (by decide)) rfl T.m__law_mix T.F__law_mix.kp T.b__law_mix .nil passE (@pa_cons _ _ _ _ _ (pe_call (ok__law_cell (fu := fu) T) (hr.mono (by decide)) rfl T.m__law_cell T.F__law_cell.kp T.b__law_cell .nil passE (@pa_cons _ _ _ _ _ (pv 0) (@pa_cons _ _ _ _ _ pe_int pa_nil se_Constant) se_Name)) (@pa_cons _ _ _ _ _ pe_int (@pa_cons _ _ _ _ _ pe_int pa_nil se_Constant) se_Constant) se_Call)) pe_int))))) (@pss_cons _ _ _ _ _ (@ps_set _ _ 6 _ _ _ _ sc__law_pairs.nd rfl (Or.inl rfl) (@pe_ix _ _ _ _ _ _ _ (ix_tupK (K := K)) (@pe_ix _ _ _ _ _ _ _ (ix_listK (K := K)) (pv 3) (pe_call (ok__law_mix (fu := fu) T) (hr.mono (by decide)) rfl T.m__law_mix T.F__law_mix.kp T.b__law_mix .nil passE (@pa_cons _ _ _ _ _ (pe_call (ok__law_cell (fu := fu) T) (hr.mono (by decide)) rfl T.m__law_cell T.F__law_cell.kp T.b__law_cell .nil passE (@pa_cons _ _ _ _ _ (pv 0) (@pa_cons _ _ _ _ _ pe_int pa_nil se_Constant) se_Name)) (@pa_cons _ _ _ _ _ pe_int (@pa_cons _ _ _ _ _ (pe_callB (call_lenK (K := K)) rfl T.n_len boot_len (@pa_cons _ _ _ _ _ (pv 3) pa_nil se_Name)) pa_nil se_Call) se_Constant) se_Call)) (fun _ _ => rfl)) pe_int (fun _ _ => rfl)) (by rfl) (by first | exact .inl rfl | exact .inr rfl | assumption)) (@pss_cons _ _ _ _ _ (ps_asg (pe_dgetN (K := K) hr (pe_call (ok__law_sums (fu := fu) T) (hr.mono (by decide)) rfl T.m__law_sums T.F__law_sums.kp T.b__law_sums .nil passE (@pa_cons _ _ _ _ _ (pv 3) pa_nil se_Name)) (pv 6) (fun _ _ => rfl)) (pg_tupK (K := K) (n := 2) rfl (pgs_cons (pg_name (i := 7) sc__law_pairs.nd rfl (Or.inl rfl)) (pgs_cons (pg_name (i := 8) sc__law_pairs.nd rfl (Or.inl rfl)) pgs_nil)))) (@pss_one _ _ _ (ps_expr (pe_bm PySem.F.plainAttrs_list PySem.F.slot_list_append PySem.F.type_list_append mt_append (pv 3) (@pa_cons _ _ _ _ _ (@pe_tup _ _ _ _ _ (@pa_cons _ _ _ _ _ (pv 6) (@pa_cons _ _ _ _ _ (@pe_tup _ _ _ _ _ (@pa_cons _ _ _ _ _ (pe_un un_neg (pv 7)) (@pa_cons _ _ _ _ _ (pv 8) pa_nil se_Name) se_UnaryOp)) pa_nil se_Tuple) se_Name)) pa_nil se_Tuple)))))) pss_nil) (@pss_one _ _ _ (@ps_ret _ _ _ _ (pv 3)))))))), fn_tw (n := 1) (k := 8) (b := tb__law_pairs fu) rfl (rs_seq (rs_asg (re_call (rl_cons (re_call (rl_cons (re_var 0) (rl_cons (re_int _) rl_nil))) (rl_cons (re_int _) (rl_cons (re_int _) rl_nil)))) rg_name) (rs_seq (rs_asg (re_call (rl_cons (re_call (rl_cons (re_var 0) (rl_cons (re_int _) rl_nil))) (rl_cons (re_int _) (rl_cons (re_int _) rl_nil)))) rg_name) (rs_seq (rs_asg (re_lst rl_nil) rg_name) (rs_seq (rs_for (ri_list (re_slL (re_var 0) ro_no (ro_some (re_int _)))) rg_name (rs_seq (rs_asg (re_call (rl_cons (re_op r2_sub (re_call (rl_cons (re_var 4) (rl_cons (re_int _) (rl_cons (re_int _) rl_nil)))) (re_int _)) (rl_cons (re_op r2_add (re_int _) (re_call (rl_cons (re_var 4) (rl_cons (re_int _) (rl_cons (re_int _) rl_nil))))) rl_nil))) rg_name) (rs_expr (re_mt rm_append (re_var 3) (rl_cons (re_tup (rl_cons (re_call (rl_cons (re_var 4) (rl_cons (re_var 1) (rl_cons (re_var 2) rl_nil)))) (rl_cons (re_var 5) rl_nil))) rl_nil))))) (rs_seq (rs_if (rt_and (rt_e (re_gt (re_fn rc_len (rl_cons (re_var 3) rl_nil)) (re_int _))) (rt_e (re_eqI (re_call (rl_cons (re_call (rl_cons (re_var 0) (rl_cons (re_int _) rl_nil))) (rl_cons (re_int _) (rl_cons (re_int _) rl_nil)))) (re_int _)))) (rs_seq (rs_asg (re_op r2_ixT (re_op r2_ixL (re_var 3) (re_call (rl_cons (re_call (rl_cons (re_var 0) (rl_cons (re_int _) rl_nil))) (rl_cons (re_int _) (rl_cons (re_fn rc_len (rl_cons (re_var 3) rl_nil)) rl_nil))))) (re_int _)) rg_name) (rs_seq (rs_asg (re_dgetN (re_call (rl_cons (re_var 3) rl_nil)) (re_var 6)) (rg_tup (rgs_cons rg_name (rgs_cons rg_name rgs_nil)))) (rs_expr (re_mt rm_append (re_var 3) (rl_cons (re_tup (rl_cons (re_var 6) (rl_cons (re_tup (rl_cons (re_un r1_neg (re_var 7)) (rl_cons (re_var 8) rl_nil))) rl_nil))) rl_nil))))) rs_next) (rs_ret (re_var 3))))))) h⟩)
noncomputable def tb__law_right (fu : Nat) : TwS := (sSeq (sAsg (eCall (tw__law_sums fu) [(eVar 1)]) (gN 2)) (sSeq (sAsg (eComp [none, some 2] (iL (eFn dSortN [(eVar 2)])) (gN 0) (bE (eOp dNeI (eOp dIxT (eDGetN (eVar 1) (eVar 0)) (eC (.int 0))) (eC (.int 0)))) (eTup [(eVar 0), (eDGetN (eVar 1) (eVar 0))])) (gN 3)) (sRet (eAnd (eUn (dIsi "list") (eVar 0)) (eOp (dEqS false) (eFn dRepr [(eVar 0)]) (eFn dRepr [(eVar 3)]))))))
noncomputable def tw__law_right (fu : Nat) : TwF := runTw 2 2 (tb__law_right fu)
theorem ok__law_right (T : Tx K mg) : FnOk P w K mg base (CXE P w) 4 T.a__law_right T.fd__law_right ["_law_found", "_law_pairs_here"] (sTw K 2 (tw__law_right fu)) :=
 T.F__law_right.okE sc__law_right (fun vs H Q E h => h.1) (fun cdv A outer s H vs Q E hr h => ⟨_, (@pss_cons _ _ _ _ _ (@ps_set _ _ 2 _ _ _ _ sc__law_right.nd rfl (Or.inr rfl) (pe_call (ok__law_sums (fu := fu) T) (hr.mono (by decide)) rfl T.m__law_sums T.F__law_sums.kp T.b__law_sums .nil passE (@pa_cons _ _ _ _ _ (pv 1) pa_nil se_Name)) (by rfl) (by first | exact .inl rfl | exact .inr rfl | assumption)) (@pss_cons _ _ _ _ _ (ps_setComp (i := 3) (N' := ["_law_thing_here", "_law_sums_here"]) rfl (blk (osc := defScope s__law_right) rfl (by decide +kernel)) (cap_own (cap_out (i := 2) rfl rfl cap_nil)) (pi_listK (K := K) (pe_callB (call_sortN (K := K) rfl) rfl T.n_sorted PyProof.Rows.Boot.«sorted» (@pa_cons _ _ _ _ _ (pv 2) pa_nil se_Name))) (gown_name rfl) (fun C s₀ H₀ fp => pg_name (i := 0) (show (["_law_thing_here", "_law_sums_here"] : List Str).Nodup from by decide +kernel) rfl (Or.inl rfl)) (fun C s₀ H₀ fp => pts_one (pt_cmp (pc_neI (@pe_ix _ _ _ _ _ _ _ (ix_tupK (K := K)) (pe_dgetN (K := K) hr (pv 1) (pv 0) (fun _ _ => rfl)) pe_int (fun _ _ => rfl)) pe_int))) (fun C s₀ H₀ fp => (@pe_tup _ _ _ _ _ (@pa_cons _ _ _ _ _ (pv 0) (@pa_cons _ _ _ _ _ (pe_dgetN (K := K) hr (pv 1) (pv 0) (fun _ _ => rfl)) pa_nil se_Subscript) se_Name))) sc__law_right.nd rfl rfl) (@pss_one _ _ _ (@ps_ret _ _ _ _ (pe_and (pe_callB (call_isiK (K := K)) rfl T.n_isinstance boot_isinstance (pa_cons (pv 0) (pa_cons (pe_bltn (v := .ty "list") rfl T.n_list boot_list rfl) pa_nil))) (pe_one (pe_cmpR op_eq (pe_callB (call_reprK (K := K) hr) rfl T.n_repr boot_repr (@pa_cons _ _ _ _ _ (pv 0) pa_nil se_Name)) (pe_callB (call_reprK (K := K) hr) rfl T.n_repr boot_repr (@pa_cons _ _ _ _ _ (pv 3) pa_nil se_Name)) (by rfl)))))))), fn_tw (n := 2) (k := 2) (b := tb__law_right fu) rfl (rs_seq (rs_asg (re_call (rl_cons (re_var 1) rl_nil)) rg_name) (rs_seq (rs_setComp (re_comp (cap := [none, some 2]) (ri_list (re_fn rc_sortN (rl_cons (re_var 2) rl_nil))) rg_name (rt_e (re_neI (re_op r2_ixT (re_dgetN (re_var 1) (re_var 0)) (re_int _)) (re_int _))) (re_tup (rl_cons (re_var 0) (rl_cons (re_dgetN (re_var 1) (re_var 0)) rl_nil))))) (rs_ret (re_and (re_isi isi_list (re_var 0)) (re_op r2_eqS (re_fn rc_repr (rl_cons (re_var 0) rl_nil)) (re_fn rc_repr (rl_cons (re_var 3) rl_nil))))))) h⟩)
noncomputable def tb_law (fu : Nat) : TwS := (sSeq (sAsg (eCall (tw__law_pairs fu) [(eVar 0)]) (gN 1)) (sSeq (sAsg (eFn dList [(eVar 1)]) (gN 2)) (sSeq (sAsg (eCall (tw_gathered fu) [(eVar 2)]) (gN 3)) (sSeq (sIf (bOr (bNot (bE (eCall (tw__law_right fu) [(eVar 3), (eVar 1)]))) (bE (eOp (dEqG true) (eVar 2) (eVar 1)))) (sRet (eC (.bl false))) sNext) (sSeq (sExpr (eMt mAppend (eVar 3) [(eTup [(eC (.int 0)), (eTup [(eC (.int 1)), (eC (.int 1))])])])) (sSeq (sExpr (eMt mReverse (eVar 3) [])) (sRet (eCall (tw__law_right fu) [(eCall (tw_gathered fu) [(eVar 2)]), (eVar 1)]))))))))
noncomputable def tw_law (fu : Nat) : TwF := runTw 1 3 (tb_law fu)
theorem okT_law (T : Tx K mg) : FnOk P w K mg base (CXE P w) 5 T.a_law T.fd_law ["_law_script"] (sTw K 1 (tw_law fu)) :=
 T.F_law.okE sc_law (fun vs H Q E h => h.1) (fun cdv A outer s H vs Q E hr h => ⟨_, (@pss_cons _ _ _ _ _ (@ps_set _ _ 1 _ _ _ _ sc_law.nd rfl (Or.inl rfl) (pe_call (ok__law_pairs (fu := fu) T) (hr.mono (by decide)) rfl T.m__law_pairs T.F__law_pairs.kp T.b__law_pairs .nil passE (@pa_cons _ _ _ _ _ (pv 0) pa_nil se_Name)) (by rfl) (by first | exact .inl rfl | exact .inr rfl | assumption)) (@pss_cons _ _ _ _ _ (@ps_set _ _ 2 _ _ _ _ sc_law.nd rfl (Or.inl rfl) (pe_callTy (call_listK (K := K)) rfl T.n_list boot_list (@pa_cons _ _ _ _ _ (pv 1) pa_nil se_Name)) (by rfl) (by first | exact .inl rfl | exact .inr rfl | assumption)) (@pss_cons _ _ _ _ _ (@ps_set _ _ 3 _ _ _ _ sc_law.nd rfl (Or.inl rfl) (pe_call (ok_gathered (fu := fu) T) (hr.mono (by decide)) rfl T.m_gathered T.F_gathered.kp T.b_gathered .nil passE (@pa_cons _ _ _ _ _ (pv 2) pa_nil se_Name)) (by rfl) (by first | exact .inl rfl | exact .inr rfl | assumption)) (@pss_cons _ _ _ _ _ (ps_if (PW.pt (pw_or (pt_not (pt_val (pe_call (ok__law_right (fu := fu) T) (hr.mono (by decide)) rfl T.m__law_right T.F__law_right.kp T.b__law_right .nil passE (@pa_cons _ _ _ _ _ (pv 3) (@pa_cons _ _ _ _ _ (pv 1) pa_nil se_Name) se_Name)))) (pw_or1 (pt_cmpR (op_neG (K := K) hr) (pv 2) (pv 1) (by rfl))))) (@pss_one _ _ _ (@ps_ret _ _ _ _ pe_bl)) pss_nil) (@pss_cons _ _ _ _ _ (ps_expr (pe_bm PySem.F.plainAttrs_list PySem.F.slot_list_append PySem.F.type_list_append mt_append (pv 3) (@pa_cons _ _ _ _ _ (@pe_tup _ _ _ _ _ (@pa_cons _ _ _ _ _ pe_int (@pa_cons _ _ _ _ _ (@pe_tup _ _ _ _ _ (@pa_cons _ _ _ _ _ pe_int (@pa_cons _ _ _ _ _ pe_int pa_nil se_Constant) se_Constant)) pa_nil se_Tuple) se_Constant)) pa_nil se_Tuple))) (@pss_cons _ _ _ _ _ (ps_expr (pe_bm0 PySem.F.plainAttrs_list PySem.F.slot_list_reverse PySem.F.type_list_reverse mt_reverse (pv 3))) (@pss_one _ _ _ (@ps_ret _ _ _ _ (pe_call (ok__law_right (fu := fu) T) (hr.mono (by decide)) rfl T.m__law_right T.F__law_right.kp T.b__law_right .nil passE (@pa_cons _ _ _ _ _ (pe_call (ok_gathered (fu := fu) T) (hr.mono (by decide)) rfl T.m_gathered T.F_gathered.kp T.b_gathered .nil passE (@pa_cons _ _ _ _ _ (pv 2) pa_nil se_Name)) (@pa_cons _ _ _ _ _ (pv 1) pa_nil se_Name) se_Call)))))))))), fn_tw (n := 1) (k := 3) (b := tb_law fu) rfl (rs_seq (rs_asg (re_call (rl_cons (re_var 0) rl_nil)) rg_name) (rs_seq (rs_asg (re_fn rc_list (rl_cons (re_var 1) rl_nil)) rg_name) (rs_seq (rs_asg (re_call (rl_cons (re_var 2) rl_nil)) rg_name) (rs_seq (rs_if (rt_or (rt_not (rt_e (re_call (rl_cons (re_var 3) (rl_cons (re_var 1) rl_nil))))) (rt_test (re_op r2_eqG (re_var 2) (re_var 1)))) (rs_ret (re_bl _)) rs_next) (rs_seq (rs_expr (re_mt rm_append (re_var 3) (rl_cons (re_tup (rl_cons (re_int _) (rl_cons (re_tup (rl_cons (re_int _) (rl_cons (re_int _) rl_nil))) rl_nil))) rl_nil))) (rs_seq (rs_expr (re_mt0 rm_reverse (re_var 3))) (rs_ret (re_call (rl_cons (re_call (rl_cons (re_var 2) rl_nil)) (rl_cons (re_var 1) rl_nil)))))))))) h⟩)
end

section
open Mth
noncomputable def Big (fu : Nat) : Prop := 2 ^ 9000 ≤ fu
local macro_rules | `(tactic| walk_at "w1") => `(tactic| first
 | with_reducible apply wx_c | ((with_reducible apply wx_var); exact rfl) | with_reducible apply wx_nil | with_reducible apply wx_oNo | with_reducible apply wx_next | with_reducible apply wx_true
 | with_reducible apply wx_seq | ((with_reducible apply wx_set); try dsimp only [List.set]) | with_reducible apply wx_expr | with_reducible apply wx_ret | with_reducible apply wx_par
 | with_reducible apply wx_op | with_reducible apply wx_un | with_reducible apply wx_bE | with_reducible apply wx_eB | with_reducible apply wx_not
 | with_reducible apply wx_cons | with_reducible apply wx_tup | with_reducible apply wx_lst | with_reducible apply wx_fn | with_reducible apply wx_call
 | with_reducible apply wx_oSome | with_reducible apply wx_sl | with_reducible apply wx_dict0
 | with_reducible apply ox_add | with_reducible apply ox_sub | with_reducible apply ox_neg | with_reducible apply ox_lt | with_reducible apply ox_le | with_reducible apply ox_gt | with_reducible apply ox_ge | with_reducible apply ox_eqI | with_reducible apply ox_neI
 | with_reducible apply ox_min | with_reducible apply ox_max | with_reducible apply ox_ix0 | with_reducible apply ox_ix1
 | ((with_reducible apply ox_pow); exact ⟨by decide, by decide, by decide⟩)
 | ((with_reducible apply ox_mul); first | exact .inl (by decide) | exact .inr (by decide))
 | with_reducible refine Exists.intro _ (And.intro rfl ?_))
local macro_rules | `(tactic| walk_at "w") => `(tactic| repeat walk_at "w1")
local macro_rules | `(tactic| walk_at "wr") => `(tactic| (refine wx_run rfl rfl ?_; dsimp only [List.map, HAppend.hAppend, Append.append, List.append, List.replicate]))
section
variable {fu : Nat} {S : Sto} {xs : Xv} {ns : List Int}
theorem wx_ifT {c : Prop} [Decidable c] {A B : Prop} (h : c → A) (g : ¬ c → B) : (decide c = true → A) ∧ (decide c = false → B) := ⟨fun e => h (of_decide_eq_true e), fun e => g (of_decide_eq_false e)⟩
noncomputable abbrev Q2 := Int × Int
noncomputable def qv (q : Q2) : Xv := .tup [.int q.1, .int q.2]
noncomputable def lowQ (t b : Int) : Q2 := (t / (Int.gcd t b : Int), b / (Int.gcd t b : Int))
noncomputable def addQ (a b : Q2) : Q2 := lowQ (a.1 * b.2 + b.1 * a.2) (a.2 * b.2)
structure QOk (c : Int) (q : Q2) : Prop where
 pos : 0 < q.2
 dvd : q.2 ∣ 60
 le : (q.1.natAbs : Int) ≤ c * q.2
 low : Int.gcd q.1 q.2 = 1
theorem QOk.b60 {c : Int} {q : Q2} (h : QOk c q) : q.2 ≤ 60 := Int.le_of_dvd (by decide) h.dvd
theorem QOk.top {c : Int} {q : Q2} (h0 : 0 ≤ c) (h : QOk c q) : (q.1.natAbs : Int) ≤ c * 60 := Int.le_trans h.le (Int.mul_le_mul_of_nonneg_left h.b60 h0)
theorem QOk.mono {c d : Int} {q : Q2} (h : QOk c q) (hd : c ≤ d) : QOk d q := ⟨h.pos, h.dvd, Int.le_trans h.le (Int.mul_le_mul_of_nonneg_right hd (Int.le_of_lt h.pos)), h.low⟩
theorem QOk.nil : QOk 0 (0, 1) := ⟨by decide, by decide, by decide, by decide⟩
theorem QOk.neg {c : Int} {q : Q2} (h : QOk c q) : QOk c (-q.1, q.2) := ⟨h.pos, h.dvd, by simpa using h.le, by simpa using h.low⟩
theorem low_ok {c t b : Int} (hb : 0 < b) (hd : b ∣ 60 * t) (hle : (t.natAbs : Int) ≤ c * b) : QOk c (lowQ t b) := by
 have g0 : 0 < Int.gcd t b := Int.gcd_pos_of_ne_zero_right _ (by omega)
 have gt : (Int.gcd t b : Int) ∣ t := Int.gcd_dvd_left ..
 have gb : (Int.gcd t b : Int) ∣ b := Int.gcd_dvd_right ..
 obtain ⟨t', et⟩ := gt
 obtain ⟨b', eb⟩ := gb
 have gz : ((Int.gcd t b : Int)) ≠ 0 := by omega
 have gp : (0 : Int) < (Int.gcd t b : Int) := by omega
 unfold lowQ
 have co : Int.gcd t' b' = 1 := by
  have h1 : Int.gcd t b = Int.gcd t b * Int.gcd t' b' := by
   have := Int.gcd_mul_left (Int.gcd t b : Int) t' b'
   rw [← et, ← eb] at this
   simpa using this
  exact Nat.eq_of_mul_eq_mul_left g0 (by rw [Nat.mul_one]; exact h1.symm)
 have dt : t / (Int.gcd t b : Int) = t' := Int.ediv_eq_of_eq_mul_right gz et
 have db : b / (Int.gcd t b : Int) = b' := Int.ediv_eq_of_eq_mul_right gz eb
 rw [dt, db]
 generalize (Int.gcd t b : Int) = g at *
 have hb' : 0 < b' := by
  rcases Int.lt_trichotomy b' 0 with h | h | h
  ·have := Int.mul_neg_of_pos_of_neg gp h; omega
  ·subst h; simp at eb; omega
  ·exact h
 refine ⟨hb', ?_, ?_, co⟩
 ·rw [et, eb] at hd
  have hd : b' ∣ 60 * t' := by
   have : g * b' ∣ g * (60 * t') := by rw [show g * (60 * t') = 60 * (g * t') by rw [← Int.mul_assoc, ← Int.mul_assoc, Int.mul_comm g 60]]; exact hd
   exact Int.dvd_of_mul_dvd_mul_left gz this
  have hn : b'.natAbs ∣ 60 * t'.natAbs := by
   have := Int.natAbs_dvd_natAbs.2 hd
   rwa [Int.natAbs_mul] at this
  have hc : Nat.Coprime b'.natAbs t'.natAbs := by
   show Nat.gcd _ _ = 1
   rw [Nat.gcd_comm]
   exact co
  exact Int.natAbs_dvd_natAbs.1 (hc.dvd_of_dvd_mul_right hn)
 ·show (t'.natAbs : Int) ≤ c * b'
  rw [et, eb, Int.natAbs_mul] at hle
  have hg : ((g.natAbs : Nat) : Int) = g := Int.natAbs_of_nonneg (by omega)
  rw [Int.natCast_mul, hg, show c * (g * b') = g * (c * b') by rw [← Int.mul_assoc, Int.mul_comm c g, Int.mul_assoc]] at hle
  exact Int.le_of_mul_le_mul_left hle gp
theorem add_ok {c d : Int} {a b : Q2} (ha : QOk c a) (hb : QOk d b) : QOk (c + d) (addQ a b) := by
 have h1 := ha.pos
 have h2 := hb.pos
 refine low_ok (Int.mul_pos h1 h2) ?_ ?_
 ·obtain ⟨u, hu⟩ := ha.dvd
  obtain ⟨v, hv⟩ := hb.dvd
  refine ⟨a.1 * u + b.1 * v, ?_⟩
  have e1 : (60 : Int) * (a.1 * b.2 + b.1 * a.2) = a.1 * b.2 * 60 + b.1 * a.2 * 60 := by rw [Int.mul_add, Int.mul_comm 60, Int.mul_comm 60 (b.1 * a.2)]
  rw [e1]
  conv => lhs; rw [show a.1 * b.2 * 60 = a.1 * b.2 * (a.2 * u) by rw [← hu], show b.1 * a.2 * 60 = b.1 * a.2 * (b.2 * v) by rw [← hv]]
  rw [Int.mul_add]
  congr 1
  ·rw [Int.mul_comm a.1 b.2, Int.mul_assoc, Int.mul_comm a.2 b.2, Int.mul_assoc]; congr 1; rw [← Int.mul_assoc, ← Int.mul_assoc, Int.mul_comm a.1 a.2]
  ·rw [Int.mul_comm b.1 a.2, Int.mul_assoc, Int.mul_assoc]; congr 1; rw [← Int.mul_assoc, ← Int.mul_assoc, Int.mul_comm b.1 b.2]
 ·have l1 : ((a.1 * b.2).natAbs : Int) ≤ c * (a.2 * b.2) := by
   rw [Int.natAbs_mul, Int.natCast_mul, show ((b.2.natAbs : Nat) : Int) = b.2 from Int.natAbs_of_nonneg (by omega), ← Int.mul_assoc]
   exact Int.mul_le_mul_of_nonneg_right ha.le (by omega)
  have l2 : ((b.1 * a.2).natAbs : Int) ≤ d * (a.2 * b.2) := by
   rw [Int.natAbs_mul, Int.natCast_mul, show ((a.2.natAbs : Nat) : Int) = a.2 from Int.natAbs_of_nonneg (by omega), Int.mul_comm a.2 b.2, ← Int.mul_assoc]
   exact Int.mul_le_mul_of_nonneg_right hb.le (by omega)
  have := Int.natAbs_add_le (a.1 * b.2) (b.1 * a.2)
  rw [Int.add_mul]
  omega
theorem low_zero {q : Q2} {c : Int} (h : QOk c q) : q ≠ (0, 1) ↔ q.1 ≠ 0 := by
 obtain ⟨t, b⟩ := q
 have hp := h.pos
 have hl := h.low
 constructor
 ·intro z e
  have e : t = 0 := e
  subst e
  rw [Int.gcd_zero_left] at hl
  have hp : 0 < b := hp
  exact z (by rw [show b = 1 by have hl : b.natAbs = 1 := hl; omega])
 ·intro z e
  cases e
  exact z rfl
noncomputable def small (x : Int) : Prop := x.natAbs < 2 ^ 60
theorem small_fu (hb : Big fu) {b : Nat} (h : b < 2 ^ 60) : b < fu := by
 have h1 : (2 : Nat) ^ 60 ≤ 2 ^ 9000 := Nat.pow_le_pow_right (by decide) (by decide)
 exact Nat.lt_of_lt_of_le h (Nat.le_trans h1 hb)
theorem small_bits {p q : Int} (h : small p) (h2 : small q) : intBits p + intBits q ≤ 134217728 := by
 have := PySem.intBits_le_iff.mpr h
 have := PySem.intBits_le_iff.mpr h2
 omega
theorem part_loop : ∀ (n : Nat) (one other : Nat) (a2 : Option Xv), other < n →
  WS (whTw (bE (eOp dNeI (eVar 1) (eC (.int 0)))) (sSeq (sAsg (eOp dMod (eVar 0) (eVar 1)) (gN 2)) (sSeq (sAsg (eVar 1) (gN 0)) (sAsg (eVar 2) (gN 1)))) n [some (.int one), some (.int other), a2] S) (fun ρ S' => ∃ a2, ρ = [some (.int (Nat.gcd one other : Nat)), some (.int 0), a2] ∧ S = S') (fun _ _ => False) := by
 intro n
 induction n with
 | zero => intro one other a2 h; omega
 | succ n ih =>
  intro one other a2 h
  refine wx_turn ?_
  walk_at "w"
  rw [show (!decide ((other : Int) = 0)) = decide (¬ (other : Int) = 0) by simp]
  refine wx_ifT (fun h => ?_) (fun h => ?_)
  ·have h0 : 0 < other := by omega
   walk_at "w"
   refine ox_mod (by omega) ?_
   walk_at "w"
   have := ih other (one % other) (some (.int ((one % other : Nat) : Int))) (by have := Nat.mod_lt one h0; omega)
   rw [show Nat.gcd other (one % other) = Nat.gcd one other by rw [Nat.gcd_comm other, ← Nat.gcd_rec, Nat.gcd_comm]] at this
   rw [Int.natCast_emod] at this
   exact this
  ·have : other = 0 := by omega
   subst this
   exact ⟨a2, by simp, rfl⟩
theorem law_loop : ∀ (n : Nat) (one other : Nat), other < n →
  WS (whTw (bE (eOp dGt (eVar 1) (eC (.int 0)))) (sPar 0 1 [(eVar 1), (eOp dMod (eVar 0) (eVar 1))]) n [some (.int one), some (.int other)] S) (fun ρ S' => ρ = [some (.int (Nat.gcd one other : Nat)), some (.int 0)] ∧ S = S') (fun _ _ => False) := by
 intro n
 induction n with
 | zero => intro one other h; omega
 | succ n ih =>
  intro one other h
  refine wx_turn ?_
  walk_at "w"
  refine wx_ifT (fun h => ?_) (fun h => ?_)
  ·have h0 : 0 < other := by omega
   walk_at "w"
   refine ox_mod (by omega) ?_
   walk_at "w"
   refine Exists.intro _ (Exists.intro _ (And.intro rfl ?_))
   dsimp only [List.set]
   have := ih other (one % other) (by have := Nat.mod_lt one h0; omega)
   rw [show Nat.gcd other (one % other) = Nat.gcd one other by rw [Nat.gcd_comm other, ← Nat.gcd_rec, Nat.gcd_comm]] at this
   rw [Int.natCast_emod] at this
   exact this
  ·have : other = 0 := by omega
   subst this
   exact ⟨by simp, rfl⟩
theorem ox_abs {P : Xv → Sto → Prop} {p : Int} (k : P (.int (p.natAbs : Int)) S) : WO (dAbs [.int p] S) P := .of (show dAbs [.int p] S = some (.int (if p < 0 then -p else p), S) from rfl) (by
 rw [show (if p < 0 then -p else p) = (p.natAbs : Int) by split <;> omega]
 exact k)
theorem t_part (hbg : Big fu) {t b : Int} (hb : small b) : W (tw_common_part fu [.int t, .int b] S) fun v S' => v = .int (Int.gcd t b : Int) ∧ S = S' := by
 walk_at "wr"; unfold tb_common_part; walk_at "w"
 refine ox_abs ?_
 walk_at "w"
 refine ox_abs ?_
 walk_at "w"
 refine wx_wh ?_
 rcases part_loop (S := S) fu t.natAbs b.natAbs none (small_fu hbg hb) with ⟨ρ, S', e, a2, rfl, rfl⟩ | ⟨_, _, _, z⟩
 ·refine .nx e ?_
  walk_at "w"
  exact ⟨rfl, rfl⟩
 ·exact z.elim
theorem t_lcommon (hbg : Big fu) {t b : Int} (hb : small b) : W (tw__law_common fu [.int t, .int b] S) fun v S' => v = .int (Int.gcd t b : Int) ∧ S = S' := by
 walk_at "wr"; unfold tb__law_common; walk_at "w"
 refine ox_abs ?_
 walk_at "w"
 refine ox_abs ?_
 walk_at "w"
 refine wx_wh ?_
 rcases law_loop (S := S) fu t.natAbs b.natAbs (small_fu hbg hb) with ⟨ρ, S', e, rfl, rfl⟩ | ⟨_, _, _, z⟩
 ·refine .nx e ?_
  walk_at "w"
  exact ⟨rfl, rfl⟩
 ·exact z.elim
theorem gcd_bits {t b : Int} (h0 : 0 < b) (hb : small b) : ((Int.gcd t b : Int)) ≠ 0 ∧ intBits (Int.gcd t b : Int) ≤ 9000 := by
 have g0 : 0 < Int.gcd t b := Int.gcd_pos_of_ne_zero_right _ (by omega)
 have gl : Int.gcd t b ≤ b.natAbs := Nat.le_of_dvd (by omega) (Int.gcd_dvd_natAbs_right ..)
 have hs : ((Int.gcd t b : Int)).natAbs < 2 ^ 60 := by unfold small at hb; omega
 exact ⟨by omega, Nat.le_trans (PySem.intBits_le_iff.mpr hs) (by decide)⟩
theorem fdiv_gcd {t b x : Int} (h0 : 0 < b) : x.fdiv (Int.gcd t b : Int) = x / (Int.gcd t b : Int) := Int.fdiv_eq_ediv_of_nonneg _ (by omega)
theorem t_lowest (hbg : Big fu) {t b : Int} (h0 : 0 < b) (hb : small b) : W (tw_lowest fu [.int t, .int b] S) fun v S' => v = qv (lowQ t b) ∧ S = S' := by
 walk_at "wr"; unfold tb_lowest; walk_at "w"
 refine (t_part hbg hb).imp ?_
 rintro _ _ ⟨rfl, rfl⟩
 walk_at "w"
 refine wx_if ?_
 walk_at "w"
 refine wx_ifT (fun h => by omega) (fun _ => ?_)
 walk_at "w"
 refine ox_fdivB (gcd_bits h0 hb) ?_
 walk_at "w"
 refine ox_fdivB (gcd_bits h0 hb) ?_
 walk_at "w"
 rw [fdiv_gcd h0, fdiv_gcd h0]
 exact ⟨rfl, rfl⟩
theorem t_llowest (hbg : Big fu) {t b : Int} (h0 : 0 < b) (hb : small b) : W (tw__law_lowest fu [.int t, .int b] S) fun v S' => v = qv (lowQ t b) ∧ S = S' := by
 walk_at "wr"; unfold tb__law_lowest; walk_at "w"
 refine (t_lcommon hbg hb).imp ?_
 rintro _ _ ⟨rfl, rfl⟩
 walk_at "w"
 refine ox_fdivB (gcd_bits h0 hb) ?_
 walk_at "w"
 refine ox_fdivB (gcd_bits h0 hb) ?_
 walk_at "w"
 rw [fdiv_gcd h0, fdiv_gcd h0]
 exact ⟨rfl, rfl⟩
theorem QOk.sm {c : Int} {q : Q2} (hc : 0 ≤ c) (hc2 : c ≤ 2 ^ 20) (h : QOk c q) : small q.1 ∧ small q.2 := by
 have a := h.top hc
 have b := h.b60
 have d := h.pos
 unfold small
 constructor <;> omega
theorem t_plus (hbg : Big fu) {c d : Int} {a b : Q2} {x y : Xv} (hx : x.tupOf = some [.int a.1, .int a.2]) (hy : y.tupOf = some [.int b.1, .int b.2]) (hc : 0 ≤ c ∧ c ≤ 2 ^ 20) (hd : 0 ≤ d ∧ d ≤ 2 ^ 20) (ha : QOk c a) (hb : QOk d b) : W (tw_plus fu [x, y] S) fun v S' => v = qv (addQ a b) ∧ S = S' := by
 walk_at "wr"; unfold tb_plus; walk_at "w"
 obtain ⟨a1, a2⟩ := ha.sm hc.1 hc.2
 obtain ⟨b1, b2⟩ := hb.sm hd.1 hd.2
 refine ox_ixT hx atI_0 ?_
 walk_at "w"
 refine ox_ixT hy atI_1 ?_
 walk_at "w"
 refine ox_mulB (small_bits a1 b2) ?_
 walk_at "w"
 refine ox_ixT hy atI_0 ?_
 walk_at "w"
 refine ox_ixT hx atI_1 ?_
 walk_at "w"
 refine ox_mulB (small_bits b1 a2) ?_
 walk_at "w"
 refine ox_ixT hx atI_1 ?_
 walk_at "w"
 refine ox_ixT hy atI_1 ?_
 walk_at "w"
 refine ox_mulB (small_bits a2 b2) ?_
 walk_at "w"
 refine t_lowest hbg (Int.mul_pos ha.pos hb.pos) ?_
 have := ha.b60
 have := hb.b60
 have := ha.pos
 have := hb.pos
 have : a.2 * b.2 ≤ 60 * 60 := Int.mul_le_mul ha.b60 hb.b60 (by omega) (by decide)
 have : 0 < a.2 * b.2 := Int.mul_pos ha.pos hb.pos
 unfold small
 omega
end
section
variable {fu : Nat} {S : Sto} {n : Nat}
noncomputable def xvOf (k : Bool) (l : List Int) : Xv := if k = true then .int (l.headD 0) else .tup (l.map Xv.int)
noncomputable def GK (k : Bool) (l : List Int) : Prop := k = true → ∃ i, l = [i]
noncomputable def getQ (kvs : List (List Int × Q2)) (l : List Int) : Option Q2 := (kvs.find? fun p => decide (p.1 = l)).map (·.2)
noncomputable def putQ (kvs : List (List Int × Q2)) (l : List Int) (q : Q2) : List (List Int × Q2) := if (getQ kvs l).isSome = true then kvs.map (fun p => if p.1 = l then (p.1, q) else p) else kvs ++ [(l, q)]
noncomputable def cellOf (k : Bool) (kvs : List (List Int × Q2)) : Ce := if k = true then .dk (kvs.map fun p => (.inl (p.1.headD 0), qv p.2)) else match kvs with
 | [] => .dk []
 | _ :: _ => .dn (kvs.map fun p => (nkI p.1, .tup (p.1.map Xv.int), qv p.2))
theorem xkeyL_ints : ∀ l : List Int, xkeyL (l.map Xv.int) = some (l.map NK.int)
 | [] => by simp [xkeyL]
 | i :: l => by simp [xkeyL, xkey, xkeyL_ints l]
theorem ndepL_ints : ∀ l : List Int, ndepL (l.map NK.int) = 0
 | [] => by simp [ndepL]
 | i :: l => by simp [ndepL, ndep, ndepL_ints l]
theorem tkey_ints (l : List Int) : tkey (.tup (l.map Xv.int)) = some (nkI l) := by
 unfold tkey
 dsimp only
 rw [xkey, xkeyL_ints]
 simp only [Option.map_some, Option.bind_some]
 rw [if_pos (by rw [ndep, ndepL_ints]; decide)]
 rfl
theorem gk_head {l m : List Int} (h : GK true l) (g : GK true m) (e : l.headD 0 = m.headD 0) : l = m := by
 obtain ⟨i, rfl⟩ := h rfl
 obtain ⟨j, rfl⟩ := g rfl
 simp at e
 rw [e]
noncomputable def AllK (k : Bool) (kvs : List (List Int × Q2)) : Prop := ∀ p ∈ kvs, GK k p.1
theorem val_int {l : List Int} (hl : GK true l) : ∀ {kvs : List (List Int × Q2)}, AllK true kvs → valX (kvs.map fun p => ((.inl (p.1.headD 0) : Key), qv p.2)) (.inl (l.headD 0)) = (getQ kvs l).map qv
 | [], _ => rfl
 | (m, q) :: r, h => by
  have hm := h (m, q) (by simp)
  have ih := val_int hl (kvs := r) fun p hp => h p (by simp [hp])
  unfold valX getQ at ih ⊢
  rw [List.map_cons, List.find?_cons, List.find?_cons]
  by_cases e : m = l
  ·subst e
   simp
  ·have e2 : ¬ m.headD 0 = l.headD 0 := fun z => e (gk_head hm hl z)
   have d1 : decide ((Sum.inl (m.headD 0) : Key) = Sum.inl (l.headD 0)) = false := decide_eq_false fun z => e2 (Sum.inl.inj z)
   have d2 : decide (m = l) = false := decide_eq_false e
   dsimp only
   rw [d1, d2]
   exact ih
theorem val_tup {l : List Int} : ∀ {kvs : List (List Int × Q2)}, valNX (kvs.map fun p => (nkI p.1, Xv.tup (p.1.map Xv.int), qv p.2)) (nkI l) = (getQ kvs l).map qv
 | [] => rfl
 | (m, q) :: r => by
  have ih := val_tup (l := l) (kvs := r)
  unfold valNX getQ at ih ⊢
  rw [List.map_cons, List.find?_cons, List.find?_cons]
  by_cases e : m = l
  ·subst e
   simp
  ·have d1 : decide (nkI m = nkI l) = false := decide_eq_false fun z => e (nkI_inj z)
   have d2 : decide (m = l) = false := decide_eq_false e
   dsimp only
   rw [d1, d2]
   exact ih
theorem get_cell {k : Bool} {kvs : List (List Int × Q2)} {l : List Int} (h : S[n]? = some (cellOf k kvs)) (ha : AllK k kvs) (hl : GK k l) : dgetS S (.ref n) (xvOf k l) = some ((getQ kvs l).map qv) := by
 unfold dgetS
 dsimp only
 rw [h]
 unfold cellOf xvOf
 cases k with
 | true =>
  simp only [if_true]
  dsimp only [keyX]
  rw [val_int hl ha]
 | false =>
  simp only [Bool.false_eq_true, if_false]
  cases kvs with
  | nil =>
   dsimp only [keyX]
   rw [if_pos ⟨rfl, by rw [tkey_ints]; rfl⟩]
   rfl
  | cons p r =>
   dsimp only
   rw [tkey_ints, Option.map_some, val_tup]
theorem is_cell {k : Bool} {kvs : List (List Int × Q2)} (h : S[n]? = some (cellOf k kvs)) : isDS S (.ref n) = true := by
 unfold isDS
 dsimp only
 rw [h]
 unfold cellOf
 cases k with
 | true => rfl
 | false => cases kvs <;> rfl
theorem any_get {κ : Type} [DecidableEq κ] {β : Type} {l : List (κ × β)} {k : κ} : (l.any fun p => decide (p.1 = k)) = ((l.find? fun p => decide (p.1 = k)).map (·.2)).isSome := by
 induction l with
 | nil => rfl
 | cons p r ih =>
  rw [List.any_cons, List.find?_cons]
  cases h : decide (p.1 = k) with
  | true => rfl
  | false => rw [Bool.false_or, ih]
theorem put_int {l : List Int} {q : Q2} (hl : GK true l) {kvs : List (List Int × Q2)} (ha : AllK true kvs) : putX (kvs.map fun p => ((.inl (p.1.headD 0) : Key), qv p.2)) (.inl (l.headD 0)) (qv q) = (putQ kvs l q).map fun p => ((.inl (p.1.headD 0) : Key), qv p.2) := by
 unfold putX putQ
 rw [any_get]
 have := val_int hl ha
 unfold valX at this
 rw [this, Option.isSome_map]
 split
 ·rw [List.map_map, List.map_map]
  refine List.map_congr_left fun p hp => ?_
  dsimp only [Function.comp]
  by_cases e : p.1 = l
  ·rw [if_pos e, if_pos (by rw [e])]
  ·rw [if_neg e, if_neg fun z => e (gk_head (ha p hp) hl (Sum.inl.inj z))]
 ·rw [List.map_append]; rfl
theorem put_tup {l : List Int} {q : Q2} {kvs : List (List Int × Q2)} : putNX (kvs.map fun p => (nkI p.1, Xv.tup (p.1.map Xv.int), qv p.2)) (nkI l) (.tup (l.map Xv.int)) (qv q) = (putQ kvs l q).map fun p => (nkI p.1, Xv.tup (p.1.map Xv.int), qv p.2) := by
 unfold putNX putQ
 rw [val_tup, Option.isSome_map]
 split
 ·rw [List.map_map, List.map_map]
  refine List.map_congr_left fun p hp => ?_
  dsimp only [Function.comp]
  by_cases e : p.1 = l
  ·rw [if_pos e, if_pos (by rw [e])]
  ·rw [if_neg e, if_neg fun z => e (nkI_inj z)]
 ·rw [List.map_append]; rfl
theorem put_ne {kvs : List (List Int × Q2)} {l : List Int} {q : Q2} : putQ kvs l q ≠ [] := by
 unfold putQ
 split
 ·rename_i h
  cases kvs with
  | nil => cases h
  | cons p r => simp
 ·simp
theorem put_cell {k : Bool} {kvs : List (List Int × Q2)} {l : List Int} {q : Q2} (h : S[n]? = some (cellOf k kvs)) (ha : AllK k kvs) (hl : GK k l) (hz : kvs.length < sizeLine) : dputS S (.ref n) (xvOf k l) (qv q) = some (S.set n (cellOf k (putQ kvs l q))) := by
 unfold dputS
 dsimp only
 rw [h]
 unfold cellOf xvOf
 cases k with
 | true =>
  simp only [if_true]
  dsimp only [keyX]
  rw [if_pos (by rw [List.length_map]; exact hz), put_int hl ha]
 | false =>
  simp only [Bool.false_eq_true, if_false]
  cases kvs with
  | nil =>
   dsimp only [keyX]
   simp only [List.isEmpty_nil, if_true]
   rw [tkey_ints]
   rfl
  | cons p r =>
   dsimp only
   rw [if_pos (by rw [List.length_map]; exact hz), tkey_ints, Option.map_some, put_tup]
   cases hp : putQ (p :: r) l q with
   | nil => exact (put_ne hp).elim
   | cons _ _ => rfl
theorem put_len {kvs : List (List Int × Q2)} {l : List Int} {q : Q2} : (putQ kvs l q).length ≤ kvs.length + 1 := by
 unfold putQ
 split
 ·rw [List.length_map]; omega
 ·simp
theorem put_mem {kvs : List (List Int × Q2)} {l : List Int} {q : Q2} {p : List Int × Q2} (h : p ∈ putQ kvs l q) : p ∈ kvs ∨ p = (l, q) := by
 unfold putQ at h
 split at h
 ·obtain ⟨r, hr, e⟩ := List.mem_map.1 h
  split at e
  ·rename_i z; rw [z] at e; exact .inr e.symm
  ·exact .inl (e ▸ hr)
 ·rcases List.mem_append.1 h with h | h
  ·exact .inl h
  ·exact .inr (by simpa using h)
theorem put_keys {kvs : List (List Int × Q2)} {l : List Int} {q : Q2} (nd : (kvs.map (·.1)).Nodup) : ((putQ kvs l q).map (·.1)).Nodup := by
 unfold putQ
 split
 ·rw [List.map_map, show ((fun p : List Int × Q2 => p.1) ∘ fun p => if p.1 = l then (p.1, q) else p) = fun p => p.1 from funext fun p => by dsimp only [Function.comp]; split <;> rfl]
  exact nd
 ·rename_i h
  rw [List.map_append]
  refine List.nodup_append.2 ⟨nd, by simp, fun a ha b hb => ?_⟩
  simp at hb
  subst hb
  rintro rfl
  obtain ⟨p, hp, e⟩ := List.mem_map.1 ha
  refine h ?_
  unfold getQ
  rw [Option.isSome_map, List.find?_isSome]
  exact ⟨p, hp, decide_eq_true e⟩
theorem get_mem {kvs : List (List Int × Q2)} {l : List Int} {q : Q2} (h : getQ kvs l = some q) : (l, q) ∈ kvs := by
 unfold getQ at h
 rw [Option.map_eq_some_iff] at h
 obtain ⟨p, h1, h2⟩ := h
 have e := List.find?_some h1
 have m := List.mem_of_find?_eq_some h1
 have e : p.1 = l := by simpa using e
 rw [← e, ← h2]
 exact m
theorem mem_get {kvs : List (List Int × Q2)} {l : List Int} (h : l ∈ kvs.map (·.1)) : ∃ q, getQ kvs l = some q := by
 obtain ⟨p, hp, e⟩ := List.mem_map.1 h
 refine Option.isSome_iff_exists.1 ?_
 unfold getQ
 rw [Option.isSome_map, List.find?_isSome]
 exact ⟨p, hp, decide_eq_true e⟩
noncomputable def keysS (k : Bool) (kvs : List (List Int × Q2)) : List (List Int) := if k = true then (sortI (kvs.map fun p => p.1.headD 0)).map fun i => [i] else (ordN (kvs.map (·.1))).map fun i => (kvs.map (·.1)).getD i []
theorem keysS_mem {k : Bool} {kvs : List (List Int × Q2)} (ha : AllK k kvs) {l : List Int} (h : l ∈ keysS k kvs) : l ∈ kvs.map (·.1) := by
 unfold keysS at h
 cases k with
 | true =>
  rw [if_pos rfl] at h
  obtain ⟨i, hi, rfl⟩ := List.mem_map.1 h
  have := (sortI_perm _).mem_iff.1 hi
  obtain ⟨p, hp, e⟩ := List.mem_map.1 this
  obtain ⟨j, hj⟩ := ha p hp rfl
  rw [hj] at e
  simp at e
  subst e
  exact List.mem_map.2 ⟨p, hp, hj⟩
 | false =>
  rw [if_neg (by decide)] at h
  obtain ⟨i, hi, rfl⟩ := List.mem_map.1 h
  have := (ordN_perm _).mem_iff.1 hi
  have hi : i < (kvs.map (·.1)).length := by simpa using this
  rw [List.getD_eq_getElem?_getD, List.getElem?_eq_getElem hi]
  exact List.getElem_mem hi
theorem keysS_len {k : Bool} {kvs : List (List Int × Q2)} : (keysS k kvs).length = kvs.length := by
 unfold keysS
 split
 ·rw [List.length_map, sortI_len, List.length_map]
 ·rw [List.length_map, (ordN_perm _).length_eq, List.length_range, List.length_map]
theorem ikeys_int : ∀ kvs : List (List Int × Q2), ikeys (kvs.map fun p => ((.inl (p.1.headD 0) : Key), qv p.2)) = some (kvs.map fun p => p.1.headD 0)
 | [] => rfl
 | p :: r => by
  rw [List.map_cons, List.map_cons]
  unfold ikeys
  rw [ikeys_int r]
  rfl
theorem nkIL_ints : ∀ l : List Int, nkIL (l.map NK.int) = some l
 | [] => rfl
 | i :: l => by simp [nkIL, nkIL_ints l]
theorem isT_tup : ∀ kvs : List (List Int × Q2), isT (kvs.map fun p => (nkI p.1, Xv.tup (p.1.map Xv.int), qv p.2)) = some (kvs.map (·.1))
 | [] => rfl
 | p :: r => by
  rw [List.map_cons]
  unfold isT
  rw [isT_tup r]
  dsimp only
  unfold nkI nkInts
  dsimp only
  rw [nkIL_ints]
  rfl
theorem ox_sortS {k : Bool} {kvs : List (List Int × Q2)} {P : Xv → Sto → Prop} (h : S[n]? = some (cellOf k kvs)) (ha : AllK k kvs) (h64 : kvs.length < 64) (hne : k = false → 2 ≤ kvs.length → ∀ p ∈ kvs, p.1 ≠ []) (kk : P (.ref S.length) (S ++ [.lst ((keysS k kvs).map (xvOf k))])) : WO (dSortN [.ref n] S) P := by
 have hk := h
 unfold cellOf at h
 cases k with
 | true =>
  rw [if_pos rfl] at h
  refine .of ?_ kk
  unfold dSortN
  dsimp only
  rw [h]
  dsimp only
  unfold dSortD
  dsimp only
  rw [dkAt_of h, Option.bind_some, ikeys_int, Option.bind_some, if_pos (by rw [List.length_map]; exact h64)]
  unfold keysS xvOf
  simp only [if_true, List.map_map]
  rfl
 | false =>
  rw [if_neg (by decide)] at h
  cases kvs with
  | nil =>
   refine .of ?_ kk
   unfold dSortN
   dsimp only
   rw [h]
   dsimp only
   unfold dSortD
   dsimp only
   rw [dkAt_of h]
   have e1 : sortI [] = [] := List.eq_nil_of_length_eq_zero (by rw [sortI_len]; rfl)
   have e2 : keysS false [] = [] := List.eq_nil_of_length_eq_zero (by rw [keysS_len]; rfl)
   rw [e2]
   simp only [Option.bind_some, ikeys]
   rw [if_pos (by decide), e1]
   rfl
  | cons p r =>
   refine .of ?_ kk
   unfold dSortN
   dsimp only
   rw [h]
   dsimp only
   rw [isT_tup, Option.bind_some, if_pos ⟨by rw [List.length_map]; exact h64, fun h2 l hl => by
    obtain ⟨q, hq, rfl⟩ := List.mem_map.1 hl
    exact hne rfl (by simpa using h2) q hq⟩]
   unfold keysS xvOf
   simp only [Bool.false_eq_true, if_false, List.map_map]
   have : ((ordN ((p :: r).map (·.1))).map fun i => (((p :: r).map fun p => (nkI p.1, Xv.tup (p.1.map Xv.int), qv p.2)).map (·.2.1)).getD i .non) = (ordN ((p :: r).map (·.1))).map fun i => Xv.tup ((((p :: r).map (·.1)).getD i []).map Xv.int) := List.map_congr_left fun i hi => by
    have hi := (ordN_perm _).mem_iff.1 hi
    have hi : i < (p :: r).length := by simpa using hi
    simp only [List.getD_eq_getElem?_getD, List.getElem?_map, List.getElem?_eq_getElem hi]
    rfl
   simp only [List.map_map] at this
   exact congrArg (fun l => some (Xv.ref S.length, S ++ [Ce.lst l])) this
end
section
variable {fu : Nat} {S S' : Sto} {x : Xv}
noncomputable def pairX (k : Bool) (p : List Int × Q2) : Xv := .tup [xvOf k p.1, qv p.2]
noncomputable def stepQ (kvs : List (List Int × Q2)) (p : List Int × Q2) : List (List Int × Q2) := putQ kvs p.1 (addQ ((getQ kvs p.1).getD (0, 1)) p.2)
noncomputable def sumsQ (ps : List (List Int × Q2)) : List (List Int × Q2) := ps.foldl stepQ []
structure POk (k : Bool) (ps : List (List Int × Q2)) : Prop where
 len : ps.length ≤ 63
 gk : ∀ p ∈ ps, GK k p.1
 ne : ∃ m : Nat, ∀ p ∈ ps, k = false → p.1.length = m
 q : ∀ p ∈ ps, QOk 400 p.2
structure SOk (k : Bool) (i : Nat) (kvs : List (List Int × Q2)) : Prop where
 len : kvs.length ≤ i
 gk : AllK k kvs
 q : ∀ p ∈ kvs, QOk (400 * i) p.2
 nd : (kvs.map (·.1)).Nodup
theorem SOk.step {k : Bool} {i : Nat} {kvs : List (List Int × Q2)} {p : List Int × Q2} (h : SOk k i kvs) (hk : GK k p.1) (hq : QOk 400 p.2) : SOk k (i + 1) (stepQ kvs p) := by
 refine ⟨Nat.le_trans put_len (by have := h.len; omega), fun r hr => ?_, fun r hr => ?_, put_keys h.nd⟩
 ·rcases put_mem hr with hr | rfl
  ·exact h.gk r hr
  ·exact hk
 ·rcases put_mem hr with hr | rfl
  ·exact (h.q r hr).mono (by omega)
  ·have : QOk (400 * i) ((getQ kvs p.1).getD (0, 1)) := by
    cases e : getQ kvs p.1 with
    | none => exact QOk.nil.mono (by omega)
    | some q => exact h.q _ (get_mem e)
   exact (add_ok this hq).mono (by omega)
theorem take_step {ps : List (List Int × Q2)} {i : Nat} {p : List Int × Q2} (h : ps[i]? = some p) : sumsQ (ps.take (i + 1)) = stepQ (sumsQ (ps.take i)) p := by
 have hk := List.getElem?_eq_some_iff.1 h
 rw [List.take_succ_eq_append_getElem hk.1, hk.2]
 unfold sumsQ
 rw [List.foldl_append]
 rfl
theorem sums_ok {k : Bool} {ps : List (List Int × Q2)} (h : POk k ps) : ∀ i, i ≤ ps.length → SOk k i (sumsQ (ps.take i))
 | 0, _ => ⟨by simp [sumsQ], fun p hp => by simp [sumsQ] at hp, fun p hp => by simp [sumsQ] at hp, by simp [sumsQ]⟩
 | i + 1, hi => by
  have hg : ps[i]? = some ps[i] := List.getElem?_eq_getElem (by omega)
  rw [take_step hg]
  exact (sums_ok h i (by omega)).step (h.gk _ (List.mem_of_getElem? hg)) (h.q _ (List.mem_of_getElem? hg))
theorem sums_key {ps : List (List Int × Q2)} : ∀ i, i ≤ ps.length → ∀ p ∈ sumsQ (ps.take i), ∃ r ∈ ps, r.1 = p.1
 | 0, _, p, hp => by simp [sumsQ] at hp
 | i + 1, hi, p, hp => by
  have hg : ps[i]? = some ps[i] := List.getElem?_eq_getElem (by omega)
  rw [take_step hg] at hp
  rcases put_mem hp with hp | rfl
  ·exact sums_key i (by omega) p hp
  ·exact ⟨_, List.mem_of_getElem? hg, rfl⟩
theorem put_get {kvs : List (List Int × Q2)} {l : List Int} {q : Q2} : l ∈ (putQ kvs l q).map (·.1) := by
 unfold putQ
 split
 ·rename_i h
  obtain ⟨z, hz⟩ := Option.isSome_iff_exists.1 h
  exact List.mem_map.2 ⟨(l, q), List.mem_map.2 ⟨(l, z), get_mem hz, by simp⟩, rfl⟩
 ·simp
theorem put_more {kvs : List (List Int × Q2)} {l m : List Int} {q : Q2} (h : m ∈ kvs.map (·.1)) : m ∈ (putQ kvs l q).map (·.1) := by
 unfold putQ
 split
 ·rw [List.map_map, show ((fun p : List Int × Q2 => p.1) ∘ fun p => if p.1 = l then (p.1, q) else p) = fun p => p.1 from funext fun p => by dsimp only [Function.comp]; split <;> rfl]
  exact h
 ·rw [List.map_append]; exact List.mem_append_left _ h
theorem sums_all {ps : List (List Int × Q2)} : ∀ i, i ≤ ps.length → ∀ p ∈ ps.take i, p.1 ∈ (sumsQ (ps.take i)).map (·.1)
 | 0, _, p, hp => by simp at hp
 | i + 1, hi, p, hp => by
  have hg : ps[i]? = some ps[i] := List.getElem?_eq_getElem (by omega)
  have hk := List.getElem?_eq_some_iff.1 hg
  rw [take_step hg]
  rw [List.take_succ_eq_append_getElem hk.1] at hp
  rcases List.mem_append.1 hp with hp | hp
  ·exact put_more (sums_all i (by omega) p hp)
  ·simp at hp
   rw [hp]
   exact put_get
theorem POk.two {k : Bool} {ps : List (List Int × Q2)} (h : POk k ps) {i : Nat} (hi : i ≤ ps.length) : k = false → 2 ≤ (sumsQ (ps.take i)).length → ∀ p ∈ sumsQ (ps.take i), p.1 ≠ [] := by
 intro hk h2 p hp e
 obtain ⟨m, hm⟩ := h.ne
 have nd := (sums_ok h i hi).nd
 have all : ∀ q ∈ sumsQ (ps.take i), q.1 = [] := fun q hq => by
  obtain ⟨r, hr, er⟩ := sums_key i hi q hq
  obtain ⟨r', hr', er'⟩ := sums_key i hi p hp
  have l1 := hm r hr hk
  have l2 := hm r' hr' hk
  rw [er', e] at l2
  rw [er, ← l2] at l1
  exact List.eq_nil_of_length_eq_zero (by simpa using l1)
 have hl : 2 ≤ ((sumsQ (ps.take i)).map (·.1)).length := by rw [List.length_map]; exact h2
 have := (List.pairwise_iff_getElem.1 nd) 0 1 (by omega) (by omega) (by omega)
 refine this ?_
 rw [List.getElem_map, List.getElem_map, all _ (List.getElem_mem _), all _ (List.getElem_mem _)]
noncomputable def rowX (k : Bool) (kvs : List (List Int × Q2)) (l : List Int) : Xv := .tup [xvOf k l, qv ((getQ kvs l).getD (0, 1))]
noncomputable def rowsOf (k : Bool) (ps : List (List Int × Q2)) : List (List Int) := (keysS k (sumsQ ps)).filter fun l => decide ((getQ (sumsQ ps) l).getD (0, 1) ≠ (0, 1))
noncomputable def dueOf (k : Bool) (ps : List (List Int × Q2)) : List Xv := (rowsOf k ps).map (rowX k (sumsQ ps))
theorem eqG_q (a b : Q2) : eqG 40 (.tup [.int a.1, .int a.2]) (.tup [.int b.1, .int b.2]) = some (decide (a = b)) := by
 obtain ⟨p, q⟩ := a
 obtain ⟨r, s⟩ := b
 unfold eqG
 dsimp only
 by_cases hp : p = r
 ·by_cases hq : q = s
  ·subst hp hq; simp [allZ, eqG]
  ·subst hp
   simp [allZ, eqG, hq]
 ·simp [allZ, eqG, hp]
theorem set_cell {c c' : Ce} {n : Nat} (h : S[n]? = some c) : (S.set n c')[n]? = some c' := by rw [List.getElem?_set, if_pos rfl, if_pos (List.getElem?_eq_some_iff.1 h).1]
theorem pre_at {n : Nat} {c : Ce} (p : S <+: S') (e : S[n]? = some c) : S'[n]? = some c := by
 obtain ⟨T, rfl⟩ := p
 rw [List.getElem?_append_left (List.getElem?_eq_some_iff.1 e).1]
 exact e
theorem pre_wr {n : Nat} {c : Ce} (p : S <+: S') (hn : S.length ≤ n) : S <+: S'.set n c := by
 obtain ⟨T, rfl⟩ := p
 rw [List.set_append, if_neg (by omega)]
 exact List.prefix_append _ _
theorem pre_mo {T : Sto} (p : S <+: S') : S <+: S' ++ T := p.trans (List.prefix_append _ _)
theorem ls_pre {l : List Xv} (p : S <+: S') (h : lstAt S x = some l) : lstAt S' x = some l := by
 obtain ⟨T, rfl⟩ := p
 exact lstAt_app h
theorem sz100 {n : Nat} (h : n ≤ 100) : n < sizeLine := Nat.lt_of_le_of_lt h (by decide)
theorem nd_find {kvs : List (List Int × Q2)} {k : Bool} {i : Nat} (h : SOk k i kvs) {l : List Int} : QOk (400 * i) ((getQ kvs l).getD (0, 1)) := by
 cases e : getQ kvs l with
 | none => exact QOk.nil.mono (by omega)
 | some q => exact h.q _ (get_mem e)
theorem t_gathered (hbg : Big fu) {k : Bool} {ps : List (List Int × Q2)} (h : POk k ps) (hx : lstAt S x = some (ps.map (pairX k))) : W (tw_gathered fu [x] S) fun v S' => S <+: S' ∧ ∃ n, v = .ref n ∧ S.length ≤ n ∧ S'[n]? = some (.lst (dueOf k ps)) := by
 walk_at "wr"; unfold tb_gathered; walk_at "w"
 have hl := h.len
 refine wx_for (wx_iL ?_)
 walk_at "w"
 refine ⟨_, lstAt_app hx, _, lstAt_app hx, ?_⟩
 refine wx_forI (xs := ps.map (pairX k)) (fun i ρ S2 => ∃ a2 a3, ρ = [some x, some (.ref S.length), a2, a3] ∧ S <+: S2 ∧ S2[S.length]? = some (cellOf k (sumsQ (ps.take i)))) ?_ ?_ ?_ ?_
 ·rintro i ρ S2 _ ⟨_, _, _, p2, _⟩
  exact ls_pre p2 hx
 ·rintro i w ρ S2 hw ⟨a2, a3, rfl, p2, c2⟩
  rw [List.getElem?_map] at hw
  cases hp : ps[i]? with
  | none => rw [hp] at hw; cases hw
  | some p =>
   rw [hp] at hw
   cases hw
   have hmem := List.mem_of_getElem? hp
   have hi : i < ps.length := (List.getElem?_eq_some_iff.1 hp).1
   have so := sums_ok h i (by omega)
   refine .of rfl ?_
   dsimp only [List.set]
   refine wx_dputN ?_
   refine wx_call (wx_cons (wx_dget2N ?_))
   walk_at "w"
   refine ⟨is_cell c2, ?_⟩
   walk_at "w"
   refine ⟨_, get_cell c2 so.gk (h.gk p hmem), ?_⟩
   walk_at "w"
   have hq := nd_find so (l := p.1)
   refine (t_plus hbg (a := (getQ (sumsQ (ps.take i)) p.1).getD (0, 1)) (b := p.2) ?_ rfl (c := 400 * i) (d := 400) ⟨by omega, by omega⟩ ⟨by omega, by omega⟩ hq (h.q p hmem)).imp ?_
   ·cases getQ (sumsQ (ps.take i)) p.1 <;> rfl
   rintro _ _ ⟨rfl, rfl⟩
   walk_at "w"
   refine ⟨_, put_cell c2 so.gk (h.gk p hmem) (sz100 (by have := so.len; omega)), _, _, rfl, pre_wr p2 (Nat.le_refl _), ?_⟩
   rw [take_step hp]
   exact set_cell c2
 ·refine ⟨_, _, rfl, List.prefix_append _ _, ?_⟩
  cases k <;> simp [cellOf, sumsQ]
 ·rintro ρ S2 ⟨a2, a3, rfl, p2, c2⟩
  rw [List.length_map, List.take_length] at c2
  have so := sums_ok h ps.length (Nat.le_refl _)
  rw [List.take_length] at so
  have two := h.two (i := ps.length) (Nat.le_refl _)
  rw [List.take_length] at two
  refine wx_ret (wx_comp (wx_iL (wx_fn (wx_cons (wx_var rfl (wx_nil ?_))))))
  refine ox_sortS c2 so.gk (by have := so.len; omega) two ?_
  have p3 : S <+: S2 ++ [Ce.lst ((keysS k (sumsQ ps)).map (xvOf k))] := pre_mo p2
  have c3 := pre_at (List.prefix_append S2 [Ce.lst ((keysS k (sumsQ ps)).map (xvOf k))]) c2
  have l3 : lstAt (S2 ++ [Ce.lst ((keysS k (sumsQ ps)).map (xvOf k))]) (.ref S2.length) = some ((keysS k (sumsQ ps)).map (xvOf k)) := lstAt_new
  generalize S2.length = kn at l3 ⊢
  generalize S2 ++ [Ce.lst ((keysS k (sumsQ ps)).map (xvOf k))] = S3 at p3 c3 l3 ⊢
  refine ⟨_, l3, _, l3, ?_⟩
  refine wx_compF (by rw [List.length_map, keysS_len]; exact Nat.le_of_lt (sz100 (by have := so.len; omega))) (fun i es S4 => S3 = S4 ∧ es = (((keysS k (sumsQ ps)).take i).filter fun l => decide ((getQ (sumsQ ps) l).getD (0, 1) ≠ (0, 1))).map (rowX k (sumsQ ps))) ?_ ?_ ⟨rfl, by simp⟩ ?_
  ·rintro _ _ _ _ ⟨rfl, _⟩
   exact l3
  ·rintro i w es _ hw _ ⟨rfl, rfl⟩
   rw [List.getElem?_map] at hw
   cases hq : (keysS k (sumsQ ps))[i]? with
   | none => rw [hq] at hw; cases hw
   | some l =>
    rw [hq] at hw
    cases hw
    have hm := keysS_mem so.gk (List.mem_of_getElem? hq)
    obtain ⟨q, eq⟩ := mem_get hm
    have hgk : GK k l := so.gk _ (get_mem eq)
    have hk := List.getElem?_eq_some_iff.1 hq
    have ht : (keysS k (sumsQ ps)).take (i + 1) = (keysS k (sumsQ ps)).take i ++ [l] := by rw [List.take_succ_eq_append_getElem hk.1, hk.2]
    have hg := get_cell c3 so.gk hgk
    rw [eq] at hg
    refine .of rfl ?_
    dsimp only [capR, List.map, List.set]
    refine wx_bE (wx_op (wx_dgetN ?_))
    walk_at "w"
    refine ⟨_, hg, ?_⟩
    walk_at "w"
    refine ox_eqG (d := .tup [.int q.1, .int q.2]) (e := .tup [.int 0, .int 1]) rfl rfl rfl (eqG_q q (0, 1)) ?_
    refine ⟨_, rfl, fun hb => ?_, fun hb => ?_⟩
    ·refine wx_tup (wx_cons (wx_var rfl (wx_cons (wx_dgetN ?_))))
     walk_at "w"
     refine ⟨_, hg, ?_⟩
     walk_at "w"
     have hb : q ≠ (0, 1) := by simpa using hb
     refine ⟨rfl, ?_⟩
     rw [ht, List.filter_append, List.map_append, show [l].filter (fun l => decide ((getQ (sumsQ ps) l).getD (0, 1) ≠ (0, 1))) = [l] by simp [eq, hb]]
     unfold rowX
     rw [List.map_cons, eq]
     rfl
    ·have hb : q = (0, 1) := by simpa using hb
     refine ⟨rfl, ?_⟩
     rw [ht, List.filter_append, show [l].filter (fun l => decide ((getQ (sumsQ ps) l).getD (0, 1) ≠ (0, 1))) = [] by simp [eq, hb], List.append_nil]
  ·rintro es _ _ ⟨rfl, rfl⟩
   rw [List.length_map, List.take_length]
   have := p3.length_le
   exact ⟨pre_mo p3, _, rfl, this, by simp [dueOf, rowsOf]⟩
end
section
variable {fu : Nat} {S S' : Sto} {x y : Xv}
theorem t_sums (hbg : Big fu) {k : Bool} {ps : List (List Int × Q2)} (h : POk k ps) (hx : lstAt S x = some (ps.map (pairX k))) : W (tw__law_sums fu [x] S) fun v S' => S <+: S' ∧ ∃ n, v = .ref n ∧ S.length ≤ n ∧ S'[n]? = some (cellOf k (sumsQ ps)) := by
 walk_at "wr"; unfold tb__law_sums; walk_at "w"
 have hl := h.len
 refine wx_for (wx_iL ?_)
 walk_at "w"
 refine ⟨_, lstAt_app hx, _, lstAt_app hx, ?_⟩
 refine wx_forI (xs := ps.map (pairX k)) (fun i ρ S2 => ∃ a2 a3 a4 a5, ρ = [some x, some (.ref S.length), a2, a3, a4, a5] ∧ S <+: S2 ∧ S2[S.length]? = some (cellOf k (sumsQ (ps.take i)))) ?_ ?_ ?_ ?_
 ·rintro i ρ S2 _ ⟨_, _, _, _, _, p2, _⟩
  exact ls_pre p2 hx
 ·rintro i w ρ S2 hw ⟨a2, a3, a4, a5, rfl, p2, c2⟩
  rw [List.getElem?_map] at hw
  cases hp : ps[i]? with
  | none => rw [hp] at hw; cases hw
  | some p =>
   rw [hp] at hw
   cases hw
   have hmem := List.mem_of_getElem? hp
   have hi : i < ps.length := (List.getElem?_eq_some_iff.1 hp).1
   have so := sums_ok h i (by omega)
   refine .of rfl ?_
   dsimp only [List.set]
   refine wx_seq (wx_asg (wx_dget2N ?_))
   walk_at "w"
   refine ⟨is_cell c2, ?_⟩
   walk_at "w"
   refine ⟨_, get_cell c2 so.gk (h.gk p hmem), ?_⟩
   have hq := nd_find so (l := p.1)
   rw [show ((getQ (sumsQ (ps.take i)) p.1).map qv).getD (.tup [.int 0, .int 1]) = qv ((getQ (sumsQ (ps.take i)) p.1).getD (0, 1)) by cases getQ (sumsQ (ps.take i)) p.1 <;> rfl]
   have ad : addQ ((getQ (sumsQ (ps.take i)) p.1).getD (0, 1)) p.2 = lowQ (((getQ (sumsQ (ps.take i)) p.1).getD (0, 1)).1 * p.2.2 + p.2.1 * ((getQ (sumsQ (ps.take i)) p.1).getD (0, 1)).2) (((getQ (sumsQ (ps.take i)) p.1).getD (0, 1)).2 * p.2.2) := rfl
   have ts := take_step hp
   unfold stepQ at ts
   rw [ad] at ts
   generalize (getQ (sumsQ (ps.take i)) p.1).getD (0, 1) = a at hq ts
   have hb := h.q p hmem
   obtain ⟨a1, a2'⟩ := hq.sm (by omega) (by omega)
   obtain ⟨b1, b2⟩ := hb.sm (by decide) (by decide)
   refine .of rfl ?_
   dsimp only [List.set]
   refine wx_dputN ?_
   unfold qv
   walk_at "w"
   refine ox_mulB (small_bits a1 b2) ?_
   walk_at "w"
   refine ox_mulB (small_bits b1 a2') ?_
   walk_at "w"
   refine ox_mulB (small_bits a2' b2) ?_
   walk_at "w"
   refine (t_llowest hbg (Int.mul_pos hq.pos hb.pos) ?_).imp ?_
   ·have : a.2 * p.2.2 ≤ 60 * 60 := Int.mul_le_mul hq.b60 hb.b60 (Int.le_of_lt hb.pos) (by decide)
    have : 0 < a.2 * p.2.2 := Int.mul_pos hq.pos hb.pos
    unfold small
    omega
   rintro _ _ ⟨rfl, rfl⟩
   walk_at "w"
   refine ⟨_, put_cell c2 so.gk (h.gk p hmem) (sz100 (by have := so.len; omega)), _, _, _, _, rfl, pre_wr p2 (Nat.le_refl _), ?_⟩
   rw [ts]
   exact set_cell c2
 ·refine ⟨_, _, _, _, rfl, List.prefix_append _ _, ?_⟩
  cases k <;> simp [cellOf, sumsQ]
 ·rintro ρ S2 ⟨a2, a3, a4, a5, rfl, p2, c2⟩
  rw [List.length_map, List.take_length] at c2
  walk_at "w"
  exact ⟨p2, _, rfl, Nat.le_refl _, c2⟩
noncomputable def thD (k : Bool) (l : List Int) : D := if k = true then .int (l.headD 0) else .tup (l.map D.int)
noncomputable def rowD (k : Bool) (kvs : List (List Int × Q2)) (l : List Int) : D := .tup [thD k l, .tup [.int ((getQ kvs l).getD (0, 1)).1, .int ((getQ kvs l).getD (0, 1)).2]]
noncomputable def dueD (k : Bool) (ps : List (List Int × Q2)) : D := .lst ((rowsOf k ps).map (rowD k (sumsQ ps)))
theorem tellL_ints {n : Nat} : ∀ l : List Int, tellL (tell S n) (l.map Xv.int) = some (l.map D.int)
 | [] => rfl
 | i :: l => by
  rw [List.map_cons]
  unfold tellL
  rw [tellL_ints l]
  cases n <;> rfl
theorem tell_th {n : Nat} {k : Bool} {l : List Int} : tell S (n + 1) (xvOf k l) = some (thD k l) := by
 unfold xvOf thD
 cases k with
 | true => rfl
 | false =>
  rw [if_neg (by decide), if_neg (by decide)]
  unfold tell
  dsimp only
  rw [tellL_ints]
  rfl
theorem tell_q {n : Nat} {q : Q2} : tell S (n + 1) (qv q) = some (.tup [.int q.1, .int q.2]) := by
 unfold qv tell
 dsimp only
 unfold tellL tellL tellL
 cases n <;> rfl
theorem tell_two {n : Nat} {a b : Xv} {d e : D} (h : tell S n a = some d) (g : tell S n b = some e) : tell S (n + 1) (.tup [a, b]) = some (.tup [d, e]) := by
 unfold tell
 dsimp only
 unfold tellL tellL tellL
 rw [h, g]
 rfl
theorem tellL_map {α : Type} {f : Xv → Option D} {u : α → Xv} {t : α → D} (h : ∀ a, f (u a) = some (t a)) : ∀ l : List α, tellL f (l.map u) = some (l.map t)
 | [] => rfl
 | a :: l => by
  rw [List.map_cons]
  unfold tellL
  rw [h, tellL_map h l]
  rfl
theorem tell_due {k : Bool} {ps : List (List Int × Q2)} {n : Nat} (h : S[n]? = some (.lst (dueOf k ps))) : tell S 40 (.ref n) = some (dueD k ps) := by
 unfold tell
 dsimp only
 rw [lstAt_of h, Option.bind_some]
 unfold dueOf
 have e : tellL (tell S 39) ((rowsOf k ps).map (rowX k (sumsQ ps))) = some ((rowsOf k ps).map (rowD k (sumsQ ps))) := tellL_map (fun l => tell_two tell_th tell_q) _
 rw [e]
 rfl
noncomputable def Few (ps : List (List Int × Q2)) : Prop := ∀ p ∈ ps, p.1.length ≤ 3 ∧ ∀ i ∈ p.1, i.natAbs < 2 ^ 201
theorem smalls_of {n : Nat} : ∀ {l : List D}, (∀ d ∈ l, D.small n d) → D.smalls n l
 | [], _ => by unfold D.smalls; trivial
 | d :: r, h => by
  unfold D.smalls
  exact ⟨h d (by simp), smalls_of fun e he => h e (by simp [he])⟩
theorem wts_of {n c : Nat} : ∀ {l : List D}, (∀ d ∈ l, D.wt n d ≤ c) → D.wts n l ≤ l.length * (c + 1)
 | [], _ => by unfold D.wts; omega
 | d :: r, h => by
  unfold D.wts
  have h1 := h d (by simp)
  have h2 := wts_of (l := r) fun e he => h e (by simp [he])
  rw [List.length_cons, Nat.add_mul]
  omega
theorem depths_of {n : Nat} : ∀ {l : List D}, (∀ d ∈ l, D.depth d ≤ n) → D.depths l ≤ n
 | [], _ => by unfold D.depths; omega
 | d :: r, h => by
  unfold D.depths
  exact Nat.max_le.2 ⟨h d (by simp), depths_of fun e he => h e (by simp [he])⟩
theorem row_show {k : Bool} {kvs : List (List Int × Q2)} {l : List Int} (hl : l.length ≤ 3) (hi : ∀ i ∈ l, i.natAbs < 2 ^ 201) (hq : QOk (400 * 63) ((getQ kvs l).getD (0, 1))) (hg : GK k l) : D.small 201 (rowD k kvs l) ∧ D.wt 201 (rowD k kvs l) ≤ 1020 ∧ D.depth (rowD k kvs l) ≤ 4 := by
 obtain ⟨q1, q2⟩ := hq.sm (by decide) (by decide)
 unfold rowD
 generalize (getQ kvs l).getD (0, 1) = q at q1 q2
 have b1 : q.1.natAbs < 2 ^ 201 := Nat.lt_of_lt_of_le q1 (Nat.pow_le_pow_right (by decide) (by decide))
 have b2 : q.2.natAbs < 2 ^ 201 := Nat.lt_of_lt_of_le q2 (Nat.pow_le_pow_right (by decide) (by decide))
 have th : D.small 201 (thD k l) ∧ D.wt 201 (thD k l) ≤ 606 ∧ D.depth (thD k l) ≤ 2 := by
  unfold thD
  cases k with
  | true =>
   obtain ⟨i, rfl⟩ := hg rfl
   rw [if_pos rfl]
   refine ⟨?_, ?_, ?_⟩
   ·unfold D.small; exact hi i (by simp)
   ·unfold D.wt; omega
   ·unfold D.depth; omega
  | false =>
   rw [if_neg (by decide)]
   refine ⟨?_, ?_, ?_⟩
   ·unfold D.small
    exact smalls_of fun d hd => by
     obtain ⟨i, h1, rfl⟩ := List.mem_map.1 hd
     unfold D.small
     exact hi i h1
   ·unfold D.wt
    have := wts_of (n := 201) (c := 201) (l := l.map D.int) fun d hd => by
     obtain ⟨i, h1, rfl⟩ := List.mem_map.1 hd
     unfold D.wt
     exact Nat.le_refl _
    rw [List.length_map] at this
    have h3 : l.length * (201 + 1) ≤ 3 * (201 + 1) := Nat.mul_le_mul_right _ hl
    omega
   ·unfold D.depth
    have := depths_of (n := 1) (l := l.map D.int) fun d hd => by
     obtain ⟨i, h1, rfl⟩ := List.mem_map.1 hd
     unfold D.depth
     omega
    omega
 refine ⟨?_, ?_, ?_⟩
 ·unfold D.small D.smalls D.smalls D.smalls
  refine ⟨th.1, ?_, trivial⟩
  unfold D.small D.smalls D.smalls D.smalls
  refine ⟨?_, ?_, trivial⟩
  ·unfold D.small; exact b1
  ·unfold D.small; exact b2
 ·unfold D.wt D.wts D.wts D.wts
  have := th.2.1
  have e : D.wt 201 (.tup [.int q.1, .int q.2]) ≤ 404 := by
   unfold D.wt D.wts D.wts D.wts D.wt
   omega
  omega
 ·unfold D.depth D.depths D.depths D.depths
  have := th.2.2
  have e : D.depth (.tup [.int q.1, .int q.2]) ≤ 2 := by
   unfold D.depth D.depths D.depths D.depths D.depth
   omega
  omega
theorem due_show {k : Bool} {ps : List (List Int × Q2)} (h : POk k ps) (hf : Few ps) : ShowOk 201 (dueD k ps) := by
 have so := sums_ok h ps.length (Nat.le_refl _)
 rw [List.take_length] at so
 have hl := h.len
 have rows : ∀ d ∈ (rowsOf k ps).map (rowD k (sumsQ ps)), D.small 201 d ∧ D.wt 201 d ≤ 1020 ∧ D.depth d ≤ 4 := fun d hd => by
  obtain ⟨l, h1, rfl⟩ := List.mem_map.1 hd
  have hm := keysS_mem so.gk (List.mem_filter.1 h1).1
  obtain ⟨q, eq⟩ := mem_get hm
  have hgm := get_mem eq
  have := sums_key ps.length (Nat.le_refl _) (l, q) (by rw [List.take_length]; exact hgm)
  obtain ⟨r, hr, er⟩ := this
  have er : r.1 = l := er
  have hfr := hf r hr
  rw [er] at hfr
  exact row_show hfr.1 hfr.2 ((nd_find so).mono (by omega)) (so.gk _ hgm)
 have rl : ((rowsOf k ps).map (rowD k (sumsQ ps))).length ≤ 63 := by
  rw [List.length_map]
  have := List.length_filter_le (fun l => decide ((getQ (sumsQ ps) l).getD (0, 1) ≠ (0, 1))) (keysS k (sumsQ ps))
  rw [keysS_len] at this
  have := so.len
  unfold rowsOf
  omega
 unfold dueD
 refine ⟨⟨_, .inr rfl⟩, ?_, by decide, by decide, ?_, ?_⟩
 ·unfold D.small
  exact smalls_of fun d hd => (rows d hd).1
 ·unfold D.depth
  have := depths_of (n := 4) fun d hd => (rows d hd).2.2
  omega
 ·unfold D.wt
  have := wts_of (n := 201) (c := 1020) fun d hd => (rows d hd).2.1
  have h2 : ((rowsOf k ps).map (rowD k (sumsQ ps))).length * (1020 + 1) ≤ 63 * (1020 + 1) := Nat.mul_le_mul_right _ rl
  omega
end
section
variable {fu : Nat} {S S' : Sto} {x y : Xv} {ns : List Int}
theorem ox_str {P : Xv → Sto → Prop} {a : Str} (k : P (.bl true) S) : WO (dEqS false (.str a) (.str a) S) P := .of (by show some (Xv.bl (false != decide (a = a)), S) = _; simp) k
theorem t_right (hbg : Big fu) {k : Bool} {ps : List (List Int × Q2)} {fn : Nat} (h : POk k ps) (hf : Few ps) (hx : lstAt S x = some (ps.map (pairX k))) (hn : S[fn]? = some (.lst (dueOf k ps))) : W (tw__law_right fu [.ref fn, x] S) fun v S' => v = .bl true ∧ S <+: S' := by
 walk_at "wr"; unfold tb__law_right; walk_at "w"
 refine (t_sums hbg h hx).imp ?_
 rintro _ S2 ⟨p2, dn, rfl, hdn, c2⟩
 walk_at "w"
 have hl := h.len
 have so := sums_ok h ps.length (Nat.le_refl _)
 rw [List.take_length] at so
 have two := h.two (i := ps.length) (Nat.le_refl _)
 rw [List.take_length] at two
 refine wx_comp (wx_iL (wx_fn (wx_cons (wx_var rfl (wx_nil ?_)))))
 refine ox_sortS c2 so.gk (by have := so.len; omega) two ?_
 have p3 : S <+: S2 ++ [Ce.lst ((keysS k (sumsQ ps)).map (xvOf k))] := pre_mo p2
 have c3 := pre_at (List.prefix_append S2 [Ce.lst ((keysS k (sumsQ ps)).map (xvOf k))]) c2
 have l3 : lstAt (S2 ++ [Ce.lst ((keysS k (sumsQ ps)).map (xvOf k))]) (.ref S2.length) = some ((keysS k (sumsQ ps)).map (xvOf k)) := lstAt_new
 generalize S2.length = kn at l3 ⊢
 generalize S2 ++ [Ce.lst ((keysS k (sumsQ ps)).map (xvOf k))] = S3 at p3 c3 l3 ⊢
 refine ⟨_, l3, _, l3, ?_⟩
 refine wx_compF (by rw [List.length_map, keysS_len]; exact Nat.le_of_lt (sz100 (by have := so.len; omega))) (fun i es S4 => S3 = S4 ∧ es = (((keysS k (sumsQ ps)).take i).filter fun l => decide ((getQ (sumsQ ps) l).getD (0, 1) ≠ (0, 1))).map (rowX k (sumsQ ps))) ?_ ?_ ⟨rfl, by simp⟩ ?_
 ·rintro _ _ _ _ ⟨rfl, _⟩
  exact l3
 ·rintro i w es _ hw _ ⟨rfl, rfl⟩
  rw [List.getElem?_map] at hw
  cases hq : (keysS k (sumsQ ps))[i]? with
  | none => rw [hq] at hw; cases hw
  | some l =>
   rw [hq] at hw
   cases hw
   have hm := keysS_mem so.gk (List.mem_of_getElem? hq)
   obtain ⟨q, eq⟩ := mem_get hm
   have hgk : GK k l := so.gk _ (get_mem eq)
   have hk := List.getElem?_eq_some_iff.1 hq
   have ht : (keysS k (sumsQ ps)).take (i + 1) = (keysS k (sumsQ ps)).take i ++ [l] := by rw [List.take_succ_eq_append_getElem hk.1, hk.2]
   have hg := get_cell c3 so.gk hgk
   rw [eq] at hg
   have lz := low_zero (so.q _ (get_mem eq))
   have lz : q ≠ (0, 1) ↔ q.1 ≠ 0 := lz
   refine .of rfl ?_
   dsimp only [capR, List.map, List.set]
   refine wx_bE (wx_op (wx_op (wx_dgetN ?_)))
   walk_at "w"
   refine ⟨_, hg, ?_⟩
   unfold qv
   walk_at "w"
   refine ⟨fun hb => ?_, fun hb => ?_⟩
   ·refine wx_tup (wx_cons (wx_var rfl (wx_cons (wx_dgetN ?_))))
    walk_at "w"
    refine ⟨_, hg, ?_⟩
    walk_at "w"
    have hb : q ≠ (0, 1) := lz.2 (by simpa using hb)
    refine ⟨rfl, ?_⟩
    rw [ht, List.filter_append, List.map_append, show [l].filter (fun l => decide ((getQ (sumsQ ps) l).getD (0, 1) ≠ (0, 1))) = [l] by simp [eq, hb]]
    unfold rowX
    rw [List.map_cons, eq]
    rfl
   ·have hb : q = (0, 1) := by
     have hb : q.1 = 0 := by simpa using hb
     by_cases z : q = (0, 1)
     ·exact z
     ·exact (lz.1 z hb).elim
    refine ⟨rfl, ?_⟩
    rw [ht, List.filter_append, show [l].filter (fun l => decide ((getQ (sumsQ ps) l).getD (0, 1) ≠ (0, 1))) = [] by simp [eq, hb], List.append_nil]
 rintro es _ _ ⟨rfl, rfl⟩
 rw [List.length_map, List.take_length]
 have e4 : (S3 ++ [Ce.lst (dueOf k ps)])[S3.length]? = some (.lst (dueOf k ps)) := by simp
 have p4 : S <+: S3 ++ [Ce.lst (dueOf k ps)] := pre_mo p3
 change WS (sRet _ _ (S3 ++ [Ce.lst (dueOf k ps)])) _ _
 have n4 := pre_at p4 hn
 generalize S3.length = en at e4 ⊢
 generalize S3 ++ [Ce.lst (dueOf k ps)] = S4 at e4 p4 n4 ⊢
 refine wx_ret (wx_eAnd (wx_un (wx_var rfl ?_)))
 refine ox_isi (v := true) (by unfold isiX; dsimp only; rw [lstAt_of n4]; rfl) ?_
 refine ⟨_, rfl, fun _ => ?_, fun z => (by cases z)⟩
 refine wx_op (wx_fn (wx_cons (wx_var rfl (wx_nil ?_))))
 refine ox_repr 201 (tell_due n4) (due_show h hf) ?_
 refine wx_fn (wx_cons (wx_var rfl (wx_nil ?_)))
 refine ox_repr 201 (tell_due e4) (due_show h hf) ?_
 refine ox_str ?_
 exact ⟨rfl, p4⟩
theorem t_lcell {k : Int} (h0 : 0 ≤ k) (hs : lstAt S x = some (ns.map Xv.int)) : W (tw__law_cell fu [x, .int k] S) fun v S' => ∃ c, v = .int c ∧ S = S' := by
 walk_at "wr"; unfold tb__law_cell; walk_at "w"
 refine wx_if ?_
 walk_at "w"
 refine ox_len hs ?_
 walk_at "w"
 refine wx_ifT (fun h => ?_) (fun h => ?_)
 ·walk_at "w"
  rw [List.length_map] at h
  have hk : k.toNat < ns.length := by omega
  refine ox_ixL hs (atI_nn h0 (by rw [List.getElem?_map, List.getElem?_eq_getElem hk]; rfl)) ?_
  exact ⟨_, rfl, rfl⟩
 ·walk_at "w"
  first | exact ⟨0, rfl, rfl⟩ | exact rfl
theorem t_mix {n p q : Int} (hp : 0 < p) (hq : 0 < q) : W (tw__law_mix fu [.int n, .int p, .int q] S) fun v S' => ∃ c, v = .int c ∧ 0 ≤ c ∧ c < q ∧ S = S' := by
 walk_at "wr"; unfold tb__law_mix; walk_at "w"
 refine ox_mod hp ?_
 walk_at "w"
 refine ox_mod hq ?_
 first | exact ⟨_, rfl, Int.emod_nonneg _ (by omega), Int.emod_lt_of_pos _ hq, rfl⟩ | exact ⟨Int.emod_nonneg _ (by omega), Int.emod_lt_of_pos _ hq, rfl⟩
noncomputable def wayK (way : Int) : Bool := decide (way = 0 ∨ way = 1)
theorem mulB_few {p : Int} (h0 : 0 ≤ p) (h1 : p < 64) : intBits p + intBits p ≤ 134217728 := by
 have h2 : p.natAbs < 2 ^ 6 := by omega
 have := PySem.intBits_le_iff.mpr h2
 omega
theorem ox_tuple {P : Xv → Sto → Prop} {n : Nat} {l : List Xv} (h : S[n]? = some (.lst l)) (k : P (.tup l) S) : WO (dTuple [.ref n] S) P := .of (by unfold dTuple; dsimp only; rw [lstAt_of h]; rfl) k
theorem t_thing {c way size : Int} (w0 : 0 ≤ way) (s0 : 0 ≤ size) (s1 : size < 4) : W (tw__law_thing fu [.int c, .int way, .int size] S) fun v S' => S <+: S' ∧ ∃ l, v = xvOf (wayK way) l ∧ GK (wayK way) l ∧ (wayK way = false → l.length = size.toNat) ∧ l.length ≤ 3 ∧ ∀ i ∈ l, i.natAbs < 2 ^ 201 := by
 walk_at "wr"; unfold tb__law_thing; walk_at "w"
 refine wx_if ?_
 walk_at "w"
 refine wx_ifT (fun h => ?_) (fun h1 => ?_)
 ·subst h
  walk_at "w"
  refine ox_mod (by decide) ?_
  walk_at "w"
  have e0 := Int.emod_nonneg c (b := 7) (by decide)
  have e1 := Int.emod_lt_of_pos c (b := 7) (by decide)
  refine ⟨List.prefix_refl _, [c % 7 - 3], rfl, fun _ => ⟨_, rfl⟩, fun z => (by cases z), by simp, fun i hi => ?_⟩
  simp at hi
  subst hi
  exact Nat.lt_of_lt_of_le (show (c % 7 - 3).natAbs < 2 ^ 3 by omega) (Nat.pow_le_pow_right (by decide) (by decide))
 walk_at "w"
 refine wx_if ?_
 walk_at "w"
 refine wx_ifT (fun h => ?_) (fun h2 => ?_)
 ·subst h
  walk_at "w"
  refine ox_mod (by decide) ?_
  walk_at "w"
  have e0 := Int.emod_nonneg c (b := 2 * 10 ^ (60 : Int).toNat - 1) (by decide)
  have e1 := Int.emod_lt_of_pos c (b := 2 * 10 ^ (60 : Int).toNat - 1) (by decide)
  generalize c % (2 * 10 ^ (60 : Int).toNat - 1) = z at e0 e1 ⊢
  refine ⟨List.prefix_refl _, [z - 10 ^ (60 : Int).toNat + 1], rfl, fun _ => ⟨_, rfl⟩, fun z => (by cases z), by simp, fun i hi => ?_⟩
  simp only [List.mem_singleton] at hi
  subst hi
  have e2 : ((10 : Int) ^ (60 : Int).toNat) = 1000000000000000000000000000000000000000000000000000000000000 := by decide
  rw [e2] at e1 ⊢
  refine Nat.lt_of_lt_of_le (show (z - 1000000000000000000000000000000000000000000000000000000000000 + 1).natAbs < 1000000000000000000000000000000000000000000000000000000000001 by omega) (by decide)
 have hk : wayK way = false := decide_eq_false fun z => z.elim h1 h2
 rw [hk]
 walk_at "w"
 refine wx_comp (wx_iR1 ?_)
 walk_at "w"
 refine ⟨⟨by omega, by omega⟩, _, rfl, ?_⟩
 refine wx_compI (by rw [rangeX_len]; exact Nat.le_of_lt (sz100 (by omega))) (fun i es S2 => S = S2 ∧ ∃ l : List Int, es = l.map Xv.int ∧ ∀ i ∈ l, 0 ≤ i ∧ i < 3) (fun _ _ _ _ _ => rfl) ?_ ⟨rfl, [], rfl, by simp⟩ ?_
 ·rintro i w es _ hw hel ⟨rfl, l, rfl, hl⟩
  obtain ⟨hi, rfl⟩ := rangeX_at hw
  refine .of rfl ?_
  dsimp only [capR, List.map, List.set]
  rw [Int.zero_add]
  walk_at "w"
  refine ⟨rfl, ?_⟩
  walk_at "w"
  refine ox_mulB (mulB_few (by omega) (by omega)) ?_
  walk_at "w"
  refine (t_mix (by decide) (by decide)).imp ?_
  rintro _ _ ⟨z, rfl, z0, z1, rfl⟩
  refine ⟨rfl, l ++ [z], by rw [List.map_append]; rfl, fun i hi => ?_⟩
  rcases List.mem_append.1 hi with hi | hi
  ·exact hl i hi
  ·simp at hi; subst hi; exact ⟨z0, z1⟩
 rintro _ _ hel ⟨rfl, l, rfl, hl⟩
 rw [rangeX_len, List.length_map] at hel
 have e2 : (S ++ [Ce.lst (l.map Xv.int)])[S.length]? = some (.lst (l.map Xv.int)) := by simp
 have p2 : S <+: S ++ [Ce.lst (l.map Xv.int)] := List.prefix_append _ _
 generalize S.length = tn at e2 ⊢
 generalize S ++ [Ce.lst (l.map Xv.int)] = S2 at e2 p2 ⊢
 walk_at "w"
 refine ox_tuple e2 ?_
 walk_at "w"
 have few : ∀ i ∈ l, i.natAbs < 2 ^ 201 := fun i hi => by
  have := hl i hi
  exact Nat.lt_of_lt_of_le (show i.natAbs < 2 ^ 2 by omega) (Nat.pow_le_pow_right (by decide) (by decide))
 refine wx_if (W.imp (P := fun b S3 => S2 = S3 ∧ (b = true → 0 < size)) ?_ ?_)
 ·refine wx_and ?_
  walk_at "w"
  refine wx_ifT (fun _ => ?_) (fun _ => ⟨rfl, fun z => (by cases z)⟩)
  walk_at "w"
  exact ⟨rfl, fun z => of_decide_eq_true z⟩
 rintro b _ ⟨rfl, hb⟩
 refine ⟨fun e => ?_, fun _ => ?_⟩
 ·have hs := hb e
  walk_at "w"
  have hm0 := Int.emod_nonneg c (b := 10 ^ (60 : Int).toNat) (by decide)
  have hm1 := Int.emod_lt_of_pos c (b := 10 ^ (60 : Int).toNat) (by decide)
  have fewc : (c % 10 ^ (60 : Int).toNat).natAbs < 2 ^ 201 := by
   have e2 : ((10 : Int) ^ (60 : Int).toNat) = 1000000000000000000000000000000000000000000000000000000000000 := by decide
   rw [e2] at hm0 hm1 ⊢
   exact Nat.lt_of_lt_of_le (show (c % 1000000000000000000000000000000000000000000000000000000000000).natAbs < 1000000000000000000000000000000000000000000000000000000000000 by omega) (by decide)
  have cut : ∃ m : List Int, L2.cutD (l.map Xv.int) none (some (-1)) = m.map Xv.int ∧ m.length + 1 = l.length ∧ ∀ i ∈ m, i ∈ l := by
   match l, hel with
   | [], h => simp at h; omega
   | [a], _ => exact ⟨[], rfl, rfl, by simp⟩
   | [a, b], _ => exact ⟨[a], rfl, rfl, by simp⟩
   | [a, b, d], _ => exact ⟨[a, b], rfl, rfl, by simp⟩
   | _ :: _ :: _ :: _ :: _, h => simp at h; omega
  obtain ⟨m, em, lm, mm⟩ := cut
  refine WO.of (show dSlT (.tup (l.map Xv.int)) none (some (-1)) S2 = some (.tup (m.map Xv.int), S2) by unfold dSlT; dsimp only; rw [em]) ?_
  walk_at "w"
  refine ox_mod (by decide) ?_
  walk_at "w"
  refine WO.of (show dCatT (.tup (m.map Xv.int)) (.tup [.int (c % 10 ^ (60 : Int).toNat)]) S2 = some (.tup ((m ++ [c % 10 ^ (60 : Int).toNat]).map Xv.int), S2) by unfold dCatT; dsimp only; rw [if_pos (Nat.le_of_lt (sz100 (by simp; omega))), List.map_append]; rfl) ?_
  walk_at "w"
  refine ⟨p2, m ++ [c % 10 ^ (60 : Int).toNat], rfl, fun z => (by cases z), fun _ => by simp; omega, by simp; omega, fun i hi => ?_⟩
  rcases List.mem_append.1 hi with hi | hi
  ·exact few i (mm i hi)
  ·simp only [List.mem_singleton] at hi; subst hi; exact fewc
 ·walk_at "w"
  exact ⟨p2, l, rfl, fun z => (by cases z), fun _ => hel, by omega, few⟩
end
section
variable {fu : Nat} {S S' : Sto} {x y : Xv} {ns : List Int}
theorem sums_six {k : Bool} {ps : List (List Int × Q2)} (h : ∀ p ∈ ps, QOk 6 p.2) : ∀ i, i ≤ ps.length → ∀ p ∈ sumsQ (ps.take i), QOk (6 * i) p.2
 | 0, _, p, hp => by simp [sumsQ] at hp
 | i + 1, hi, p, hp => by
  have hg : ps[i]? = some ps[i] := List.getElem?_eq_getElem (by omega)
  rw [take_step hg] at hp
  have ih := sums_six (k := k) h i (by omega)
  rcases put_mem hp with hp | rfl
  ·exact (ih p hp).mono (by omega)
  ·have : QOk (6 * i) ((getQ (sumsQ (ps.take i)) (ps[i]).1).getD (0, 1)) := by
    cases e : getQ (sumsQ (ps.take i)) (ps[i]).1 with
    | none => exact QOk.nil.mono (by omega)
    | some q => exact ih _ (get_mem e)
   exact (add_ok this (h _ (List.mem_of_getElem? hg))).mono (by omega)
theorem share_ok {t b : Int} (h0 : -6 ≤ t) (h1 : t ≤ 6) (b0 : 1 ≤ b) (b1 : b ≤ 5) : QOk 6 (lowQ t b) := by
 refine low_ok (by omega) (Int.dvd_mul_of_dvd_left (show b ∣ 60 from ?_)) (by omega)
 have : b = 1 ∨ b = 2 ∨ b = 3 ∨ b = 4 ∨ b = 5 := by omega
 rcases this with rfl | rfl | rfl | rfl | rfl <;> decide
theorem t_pairs (hbg : Big fu) (hs : S[0]? = some (.frz (ns.map Xv.int))) : W (tw__law_pairs fu [.ref 0] S) fun v S' => S <+: S' ∧ ∃ n k ps, v = .ref n ∧ S'[n]? = some (.lst (ps.map (pairX k))) ∧ POk k ps ∧ Few ps := by
 walk_at "wr"; unfold tb__law_pairs; walk_at "w"
 have frz : ∀ {S2 : Sto}, S <+: S2 → lstAt S2 (.ref 0) = some (ns.map Xv.int) := fun p => by
  have := pre_at p hs
  simp [lstAt, this]
 have p0 : S <+: S := List.prefix_refl _
 refine (t_lcell (by decide) (frz p0)).imp ?_
 rintro _ _ ⟨c1, rfl, rfl⟩
 walk_at "w"
 refine (t_mix (by decide) (by decide)).imp ?_
 rintro _ _ ⟨way, rfl, w0, w1, rfl⟩
 walk_at "w"
 refine (t_lcell (by decide) (frz p0)).imp ?_
 rintro _ _ ⟨c2, rfl, rfl⟩
 walk_at "w"
 refine (t_mix (by decide) (by decide)).imp ?_
 rintro _ _ ⟨size, rfl, s0, s1, rfl⟩
 walk_at "w"
 have p1 : S <+: S ++ [Ce.lst []] := List.prefix_append _ _
 have c1 : (S ++ [Ce.lst []])[S.length]? = some (.lst []) := by simp
 refine wx_for (wx_iL ?_)
 walk_at "w"
 refine ox_slL (frz p1) ?_
 have hcut : ∀ y ∈ L2.cutD (ns.map Xv.int) none (some 62), ∃ z, y = .int z := fun y hy => by
  unfold L2.cutD at hy
  have := List.mem_of_mem_drop (List.mem_of_mem_take hy)
  obtain ⟨z, _, rfl⟩ := List.mem_map.1 this
  exact ⟨z, rfl⟩
 have hcl : (L2.cutD (ns.map Xv.int) none (some 62)).length ≤ 62 := by
  unfold L2.cutD
  rw [List.length_take]
  refine Nat.le_trans (Nat.min_le_left _ _) ?_
  unfold HT.sIx
  simp
  omega
 generalize L2.cutD (ns.map Xv.int) none (some 62) = cl at hcut hcl ⊢
 have p2 : S ++ [Ce.lst []] <+: S ++ [Ce.lst []] ++ [Ce.lst cl] := List.prefix_append _ _
 have e2 : (S ++ [Ce.lst []] ++ [Ce.lst cl])[(S ++ [Ce.lst []]).length]? = some (.lst cl) := by simp
 have hn2 : S.length < (S ++ [Ce.lst []]).length := by simp
 generalize (S ++ [Ce.lst []]).length = sn at e2 hn2 ⊢
 have q2 := p1.trans p2
 have c2 := pre_at p2 c1
 generalize S ++ [Ce.lst []] ++ [Ce.lst cl] = S2 at q2 c2 e2 ⊢
 refine ⟨cl, lstAt_of e2, cl, lstAt_of e2, ?_⟩
 refine wx_forI (xs := cl) (fun i ρ S3 => ∃ a4 a5 ps, ρ = [some (.ref 0), some (.int way), some (.int size), some (.ref S.length), a4, a5, none, none, none] ∧ S <+: S3 ∧ S3[sn]? = some (.lst cl) ∧ S3[S.length]? = some (.lst (ps.map (pairX (wayK way)))) ∧ ps.length = i ∧ (∀ p ∈ ps, GK (wayK way) p.1 ∧ (wayK way = false → p.1.length = size.toNat) ∧ QOk 6 p.2) ∧ Few ps) ?_ ?_ ?_ ?_
 ·rintro i ρ S3 _ ⟨_, _, _, _, _, e, _⟩
  exact lstAt_of e
 ·rintro i w ρ S3 hw ⟨a4, a5, ps, rfl, p3, e3, c3, l3, ok3, f3⟩
  obtain ⟨z, rfl⟩ := hcut w (List.mem_of_getElem? hw)
  have hi : i < cl.length := (List.getElem?_eq_some_iff.1 hw).1
  refine .of rfl ?_
  dsimp only [List.set]
  walk_at "w"
  refine (t_mix (by decide) (by decide)).imp ?_
  rintro _ _ ⟨t, rfl, t0, t1, rfl⟩
  walk_at "w"
  refine (t_mix (by decide) (by decide)).imp ?_
  rintro _ _ ⟨b, rfl, b0, b1, rfl⟩
  walk_at "w"
  refine (t_llowest hbg (by omega) (by unfold small; omega)).imp ?_
  rintro _ _ ⟨rfl, rfl⟩
  walk_at "w"
  refine wx_mt ?_
  walk_at "w"
  refine ⟨⟨_, lstAt_of c3⟩, ?_⟩
  walk_at "w"
  refine (t_thing w0 s0 s1).imp ?_
  rintro _ S4 ⟨p4, l, rfl, g1, g2, g3, g4⟩
  walk_at "w"
  have c4 := pre_at p4 c3
  refine ox_append (wlAt_of c4) (by rw [List.length_map]; exact sz100 (by omega)) ?_
  refine ⟨_, _, ps ++ [(l, lowQ (t - 6) (1 + b))], rfl, pre_wr (p3.trans p4) (Nat.le_refl _), ?_, ?_, by simp [l3], fun p hp => ?_, fun p hp => ?_⟩
  ·rw [List.getElem?_set, if_neg (by omega)]
   exact pre_at p4 e3
  ·rw [set_cell c4, List.map_append]
   rfl
  ·rcases List.mem_append.1 hp with hp | hp
   ·exact ok3 p hp
   ·simp only [List.mem_singleton] at hp
    subst hp
    exact ⟨g1, g2, share_ok (by omega) (by omega) (by omega) (by omega)⟩
  ·rcases List.mem_append.1 hp with hp | hp
   ·exact f3 p hp
   ·simp only [List.mem_singleton] at hp
    subst hp
    exact ⟨g3, g4⟩
 ·exact ⟨_, _, [], rfl, q2, e2, c2, rfl, by simp, fun p hp => by cases hp⟩
 rintro ρ S3 ⟨a4, a5, ps, rfl, p3, e3, c3, l3, ok3, f3⟩
 have pok : POk (wayK way) ps := ⟨by omega, fun p hp => (ok3 p hp).1, ⟨size.toNat, fun p hp h => (ok3 p hp).2.1 h⟩, fun p hp => (ok3 p hp).2.2.mono (by decide)⟩
 refine wx_seq (wx_if (W.imp (P := fun b S4 => S3 = S4 ∧ (b = true → 0 < ps.length)) ?_ ?_))
 ·refine wx_and ?_
  walk_at "w"
  refine ox_len (lstAt_of c3) ?_
  walk_at "w"
  refine wx_ifT (fun hz => ?_) (fun _ => ⟨rfl, fun z => (by cases z)⟩)
  walk_at "w"
  refine (t_lcell (by decide) (frz p3)).imp ?_
  rintro _ _ ⟨c5, rfl, rfl⟩
  walk_at "w"
  refine (t_mix (by decide) (by decide)).imp ?_
  rintro _ _ ⟨c6, rfl, _, _, rfl⟩
  walk_at "w"
  exact ⟨rfl, fun _ => by rw [List.length_map] at hz; omega⟩
 rintro b _ ⟨rfl, hb⟩
 refine ⟨fun e => ?_, fun _ => ?_⟩
 rotate_left
 ·walk_at "w"
  exact ⟨p3, _, _, ps, rfl, c3, pok, f3⟩
 have hpos := hb e
 walk_at "w"
 refine (t_lcell (by decide) (frz p3)).imp ?_
 rintro _ _ ⟨c5, rfl, rfl⟩
 walk_at "w"
 refine ox_len (lstAt_of c3) ?_
 walk_at "w"
 rw [List.length_map]
 refine (t_mix (by decide) (by omega)).imp ?_
 rintro _ _ ⟨at_, rfl, a0, a1, rfl⟩
 have hat : at_.toNat < ps.length := by omega
 have hpa : ps[at_.toNat]? = some ps[at_.toNat] := List.getElem?_eq_getElem hat
 have hpm := List.mem_of_getElem? hpa
 generalize ps[at_.toNat] = p at hpa hpm
 refine ox_ixL (lstAt_of c3) (atI_nn a0 (by rw [List.getElem?_map, hpa]; rfl)) ?_
 unfold pairX
 walk_at "w"
 refine wx_asg (wx_dgetN ?_)
 walk_at "w"
 refine (t_sums hbg pok (lstAt_of c3)).imp ?_
 rintro _ S4 ⟨p4, dn, rfl, _, c4⟩
 walk_at "w"
 have so := sums_ok pok ps.length (Nat.le_refl _)
 rw [List.take_length] at so
 have hkey := sums_all (ps := ps) ps.length (Nat.le_refl _) p (by rw [List.take_length]; exact hpm)
 rw [List.take_length] at hkey
 obtain ⟨q, eq⟩ := mem_get hkey
 have q6 := sums_six (k := wayK way) (ps := ps) (fun p hp => (ok3 p hp).2.2) ps.length (Nat.le_refl _) (p.1, q) (by rw [List.take_length]; exact get_mem eq)
 have hg := get_cell c4 so.gk (ok3 p hpm).1
 rw [eq] at hg
 refine ⟨_, hg, ?_⟩
 refine .of rfl ?_
 dsimp only [List.set]
 refine wx_expr (wx_mt ?_)
 walk_at "w"
 have c5 := pre_at p4 c3
 refine ⟨⟨_, lstAt_of c5⟩, ?_⟩
 walk_at "w"
 refine ox_append (wlAt_of c5) (by rw [List.length_map]; exact sz100 (by omega)) ?_
 refine wx_ret (wx_var rfl ?_)
 refine ⟨pre_wr (p3.trans p4) (Nat.le_refl _), _, wayK way, ps ++ [(p.1, (-q.1, q.2))], rfl, ?_, ⟨by simp; omega, fun r hr => ?_, ⟨size.toNat, fun r hr h => ?_⟩, fun r hr => ?_⟩, fun r hr => ?_⟩
 ·rw [set_cell c5, List.map_append]
  rfl
 ·rcases List.mem_append.1 hr with hr | hr
  ·exact pok.gk r hr
  ·simp only [List.mem_singleton] at hr; subst hr; exact pok.gk p hpm
 ·rcases List.mem_append.1 hr with hr | hr
  ·exact (ok3 r hr).2.1 h
  ·simp only [List.mem_singleton] at hr; subst hr; exact (ok3 p hpm).2.1 h
 ·rcases List.mem_append.1 hr with hr | hr
  ·exact pok.q r hr
  ·simp only [List.mem_singleton] at hr
   subst hr
   have q6 : QOk (6 * ps.length) q := q6
   exact (q6.mono (by omega)).neg
 ·rcases List.mem_append.1 hr with hr | hr
  ·exact f3 r hr
  ·simp only [List.mem_singleton] at hr; subst hr; exact f3 p hpm
noncomputable def pairD (k : Bool) (p : List Int × Q2) : D := .tup [thD k p.1, .tup [.int p.2.1, .int p.2.2]]
theorem tell_pairs {k : Bool} {ps : List (List Int × Q2)} (h : lstAt S x = some (ps.map (pairX k))) : tell S 40 x = some (.lst (ps.map (pairD k))) := by
 have e : tellL (tell S 39) (ps.map (pairX k)) = some (ps.map (pairD k)) := tellL_map (fun l => tell_two tell_th tell_q) _
 cases x <;> simp only [lstAt, reduceCtorEq] at h
 rename_i m
 unfold tell
 dsimp only
 rw [show lstAt S (.ref m) = _ from h, Option.bind_some, e]
 rfl
theorem eqG_th (n : Nat) (k : Bool) (l : List Int) : eqG (n + 1) (thD k l) (thD k l) = some true := by
 unfold thD
 cases k with
 | true => simp [eqG]
 | false =>
  rw [if_neg (by decide)]
  have : ∀ l : List Int, allZ (eqG n) (l.map D.int) (l.map D.int) = some true := by
   intro l
   induction l with
   | nil => rfl
   | cons a l ih =>
    rw [List.map_cons]
    unfold allZ
    rw [ih]
    cases n <;> simp [eqG]
  unfold eqG
  dsimp only
  rw [this]
  simp
theorem eqG_pairs (k : Bool) (ps : List (List Int × Q2)) : eqG 40 (.lst (ps.map (pairD k))) (.lst (ps.map (pairD k))) = some true := by
 have row : ∀ p, eqG 39 (pairD k p) (pairD k p) = some true := fun p => by
  unfold pairD eqG
  dsimp only
  unfold allZ allZ allZ
  rw [eqG_th]
  have : eqG 38 (.tup [.int p.2.1, .int p.2.2]) (.tup [.int p.2.1, .int p.2.2]) = some true := by simp [eqG, allZ]
  rw [this]
  rfl
 have all : ∀ ps : List (List Int × Q2), allZ (eqG 39) (ps.map (pairD k)) (ps.map (pairD k)) = some true := by
  intro ps
  induction ps with
  | nil => rfl
  | cons p r ih =>
   rw [List.map_cons]
   unfold allZ
   rw [row, ih]
   rfl
 unfold eqG
 dsimp only
 rw [if_pos rfl]
 exact all ps
theorem w_law (hbg : Big fu) (ns : List Int) : W (tw_law fu [.ref 0] [.frz (ns.map Xv.int)]) fun v _ => v = .bl true := by
 walk_at "wr"; unfold tb_law; walk_at "w"
 refine (t_pairs hbg (S := [.frz (ns.map Xv.int)]) rfl).imp ?_
 rintro _ S1 ⟨p1, pn, k, ps, rfl, c1, pok, few⟩
 walk_at "w"
 refine ox_list (lstAt_of c1) ?_
 walk_at "w"
 have c2 := pre_at (List.prefix_append S1 [.lst (ps.map (pairX k))]) c1
 have h2 : (S1 ++ [Ce.lst (ps.map (pairX k))])[S1.length]? = some (.lst (ps.map (pairX k))) := by simp
 generalize S1.length = hn at h2 ⊢
 generalize S1 ++ [Ce.lst (ps.map (pairX k))] = S2 at c2 h2 ⊢
 refine (t_gathered hbg pok (lstAt_of h2)).imp ?_
 rintro _ S3 ⟨p3, fn, rfl, hfn, c3⟩
 walk_at "w"
 refine wx_if (wx_or ?_)
 walk_at "w"
 refine (t_right hbg pok few (lstAt_of (pre_at p3 c2)) c3).imp ?_
 rintro _ S4 ⟨rfl, p4⟩
 refine ⟨_, rfl, fun z => (by cases z), fun _ => ?_⟩
 walk_at "w"
 refine ox_eqG (tell_pairs (lstAt_of (pre_at (p3.trans p4) h2))) (tell_pairs (lstAt_of (pre_at (p3.trans p4) c2))) rfl (eqG_pairs k ps) ?_
 refine ⟨_, rfl, fun z => (by cases z), fun _ => ?_⟩
 have c4 := pre_at p4 c3
 have hl := pok.len
 have dl : (dueOf k ps).length ≤ 63 := by
  have so := sums_ok pok ps.length (Nat.le_refl _)
  rw [List.take_length] at so
  have := List.length_filter_le (fun l => decide ((getQ (sumsQ ps) l).getD (0, 1) ≠ (0, 1))) (keysS k (sumsQ ps))
  rw [keysS_len] at this
  have := so.len
  unfold dueOf rowsOf
  rw [List.length_map]
  omega
 walk_at "w"
 refine wx_mt ?_
 walk_at "w"
 refine ⟨⟨_, lstAt_of c4⟩, ?_⟩
 walk_at "w"
 refine ox_append (wlAt_of c4) (sz100 (by omega)) ?_
 have q5 : S2 <+: S4.set fn (.lst (dueOf k ps ++ [Xv.tup [.int 0, .tup [.int 1, .int 1]]])) := pre_wr (p3.trans p4) hfn
 have c5 := set_cell (c' := .lst (dueOf k ps ++ [Xv.tup [.int 0, .tup [.int 1, .int 1]]])) c4
 generalize S4.set fn (.lst (dueOf k ps ++ [Xv.tup [.int 0, .tup [.int 1, .int 1]]])) = S5 at q5 c5 ⊢
 walk_at "w"
 refine wx_mt ?_
 walk_at "w"
 refine ⟨⟨_, lstAt_of c5⟩, ?_⟩
 walk_at "w"
 refine WO.of (show mReverse (.ref fn) [] S5 = some (.non, S5.set fn (.lst (dueOf k ps ++ [Xv.tup [.int 0, .tup [.int 1, .int 1]]]).reverse)) by unfold mReverse; rw [wlAt_of c5]) ?_
 have q6 : S2 <+: S5.set fn (.lst (dueOf k ps ++ [Xv.tup [.int 0, .tup [.int 1, .int 1]]]).reverse) := pre_wr q5 hfn
 generalize S5.set fn (.lst (dueOf k ps ++ [Xv.tup [.int 0, .tup [.int 1, .int 1]]]).reverse) = S6 at q6 ⊢
 walk_at "w"
 refine (t_gathered hbg pok (lstAt_of (pre_at q6 h2))).imp ?_
 rintro _ S7 ⟨p7, gn, rfl, _, c7⟩
 walk_at "w"
 refine (t_right hbg pok few (lstAt_of (pre_at (q6.trans p7) c2)) c7).imp ?_
 rintro _ S8 ⟨rfl, _⟩
 exact rfl
theorem t_law (hbg : Big fu) (ns : List Int) (hl : ns.length ≤ 63) : ∃ S, tw_law fu [.ref 0] [.frz (ns.map Xv.int)] = some (.ok (.bl true) S) := by
 obtain ⟨v, S, e, rfl⟩ := w_law hbg ns
 exact ⟨S, e⟩
end
end
noncomputable def lawFuel : Nat := 2 ^ 9000
theorem big_lawFuel : Big lawFuel := by unfold Big lawFuel; exact Nat.le_refl _
theorem ok_law {P : Program} {w : World} {K : PySem.W.Frag} {mg : Str → Option Value} {base : Heap} (T : Tx K mg) : FnOk P w K mg base (CXE P w) 5 T.a_law T.fd_law ["_law_script"] (spLawX K) := law_tw (okT_law (fu := lawFuel) T) fun ns hl => t_law big_lawFuel ns hl
theorem all_mk {l : PySem.W.OpenLaw} {w : World} {K : PySem.W.Frag} {h : Heap} {mg : Str → Option Value} {fa : Addr} (X : K.In h) (G : h.Ns mainGlobals mg) (hfa : mg "law" = some (.ref fa))
     {f0 : Addr} {od0 an0 : Option Addr} {sl0 : Array (Option Value)} {oc0 kV0 dc0 pm0 cd0 ct0 : Value} {f1 : Addr} {od1 an1 : Option Addr} {sl1 : Array (Option Value)} {oc1 kV1 dc1 pm1 cd1 ct1 : Value} {f2 : Addr} {od2 an2 : Option Addr} {sl2 : Array (Option Value)} {oc2 kV2 dc2 pm2 cd2 ct2 : Value} {f3 : Addr} {od3 an3 : Option Addr} {sl3 : Array (Option Value)} {oc3 kV3 dc3 pm3 cd3 ct3 : Value} {f4 : Addr} {od4 an4 : Option Addr} {sl4 : Array (Option Value)} {oc4 kV4 dc4 pm4 cd4 ct4 : Value} {f5 : Addr} {od5 an5 : Option Addr} {sl5 : Array (Option Value)} {oc5 kV5 dc5 pm5 cd5 ct5 : Value} {f6 : Addr} {od6 an6 : Option Addr} {sl6 : Array (Option Value)} {oc6 kV6 dc6 pm6 cd6 ct6 : Value} {f7 : Addr} {od7 an7 : Option Addr} {sl7 : Array (Option Value)} {oc7 kV7 dc7 pm7 cd7 ct7 : Value} {f8 : Addr} {od8 an8 : Option Addr} {sl8 : Array (Option Value)} {oc8 kV8 dc8 pm8 cd8 ct8 : Value} {f9 : Addr} {od9 an9 : Option Addr} {sl9 : Array (Option Value)} {oc9 kV9 dc9 pm9 cd9 ct9 : Value} {f10 : Addr} {od10 an10 : Option Addr} {sl10 : Array (Option Value)} {oc10 kV10 dc10 pm10 cd10 ct10 : Value} {f11 : Addr} {od11 an11 : Option Addr} {sl11 : Array (Option Value)} {oc11 kV11 dc11 pm11 cd11 ct11 : Value} {f12 : Addr} {od12 an12 : Option Addr} {sl12 : Array (Option Value)} {oc12 kV12 dc12 pm12 cd12 ct12 : Value} {q_NOUGHT : Addr} {qd_NOUGHT : Option Addr} {qn_NOUGHT : Nat} {qs_NOUGHT : Array (Option Value)} {qt_NOUGHT_0 : Tok} {qt_NOUGHT_1 : Tok}
    (A0 : PySem.W.nsIn K mainGlobals "common_part" = some (some (.ref f0))) (L0 : K.lookup f0 = some ⟨oc0, od0, .func (PySem.W.fnOf "common_part" "common_part" (defArgs s_common_part) (defBody s_common_part) (defScope s_common_part) .none kV0 dc0 pm0 an0 cd0 ct0), sl0⟩) (C0 : PySem.W.codeIn K cd0 "common_part" = true) (K0 : PySem.W.keepIn K (.ref f0) = true)
    (A1 : PySem.W.nsIn K mainGlobals "lowest" = some (some (.ref f1))) (L1 : K.lookup f1 = some ⟨oc1, od1, .func (PySem.W.fnOf "lowest" "lowest" (defArgs s_lowest) (defBody s_lowest) (defScope s_lowest) .none kV1 dc1 pm1 an1 cd1 ct1), sl1⟩) (C1 : PySem.W.codeIn K cd1 "lowest" = true) (K1 : PySem.W.keepIn K (.ref f1) = true)
    (A2 : PySem.W.nsIn K mainGlobals "plus" = some (some (.ref f2))) (L2 : K.lookup f2 = some ⟨oc2, od2, .func (PySem.W.fnOf "plus" "plus" (defArgs s_plus) (defBody s_plus) (defScope s_plus) .none kV2 dc2 pm2 an2 cd2 ct2), sl2⟩) (C2 : PySem.W.codeIn K cd2 "plus" = true) (K2 : PySem.W.keepIn K (.ref f2) = true)
    (A3 : PySem.W.nsIn K mainGlobals "gathered" = some (some (.ref f3))) (L3 : K.lookup f3 = some ⟨oc3, od3, .func (PySem.W.fnOf "gathered" "gathered" (defArgs s_gathered) (defBody s_gathered) (defScope s_gathered) .none kV3 dc3 pm3 an3 cd3 ct3), sl3⟩) (C3 : PySem.W.codeIn K cd3 "gathered" = true) (K3 : PySem.W.keepIn K (.ref f3) = true)
    (A4 : PySem.W.nsIn K mainGlobals "_law_cell" = some (some (.ref f4))) (L4 : K.lookup f4 = some ⟨oc4, od4, .func (PySem.W.fnOf "_law_cell" "_law_cell" (defArgs s__law_cell) (defBody s__law_cell) (defScope s__law_cell) .none kV4 dc4 pm4 an4 cd4 ct4), sl4⟩) (C4 : PySem.W.codeIn K cd4 "_law_cell" = true) (K4 : PySem.W.keepIn K (.ref f4) = true)
    (A5 : PySem.W.nsIn K mainGlobals "_law_mix" = some (some (.ref f5))) (L5 : K.lookup f5 = some ⟨oc5, od5, .func (PySem.W.fnOf "_law_mix" "_law_mix" (defArgs s__law_mix) (defBody s__law_mix) (defScope s__law_mix) .none kV5 dc5 pm5 an5 cd5 ct5), sl5⟩) (C5 : PySem.W.codeIn K cd5 "_law_mix" = true) (K5 : PySem.W.keepIn K (.ref f5) = true)
    (A6 : PySem.W.nsIn K mainGlobals "_law_common" = some (some (.ref f6))) (L6 : K.lookup f6 = some ⟨oc6, od6, .func (PySem.W.fnOf "_law_common" "_law_common" (defArgs s__law_common) (defBody s__law_common) (defScope s__law_common) .none kV6 dc6 pm6 an6 cd6 ct6), sl6⟩) (C6 : PySem.W.codeIn K cd6 "_law_common" = true) (K6 : PySem.W.keepIn K (.ref f6) = true)
    (A7 : PySem.W.nsIn K mainGlobals "_law_lowest" = some (some (.ref f7))) (L7 : K.lookup f7 = some ⟨oc7, od7, .func (PySem.W.fnOf "_law_lowest" "_law_lowest" (defArgs s__law_lowest) (defBody s__law_lowest) (defScope s__law_lowest) .none kV7 dc7 pm7 an7 cd7 ct7), sl7⟩) (C7 : PySem.W.codeIn K cd7 "_law_lowest" = true) (K7 : PySem.W.keepIn K (.ref f7) = true)
    (A8 : PySem.W.nsIn K mainGlobals "_law_thing" = some (some (.ref f8))) (L8 : K.lookup f8 = some ⟨oc8, od8, .func (PySem.W.fnOf "_law_thing" "_law_thing" (defArgs s__law_thing) (defBody s__law_thing) (defScope s__law_thing) .none kV8 dc8 pm8 an8 cd8 ct8), sl8⟩) (C8 : PySem.W.codeIn K cd8 "_law_thing" = true) (K8 : PySem.W.keepIn K (.ref f8) = true)
    (A9 : PySem.W.nsIn K mainGlobals "_law_pairs" = some (some (.ref f9))) (L9 : K.lookup f9 = some ⟨oc9, od9, .func (PySem.W.fnOf "_law_pairs" "_law_pairs" (defArgs s__law_pairs) (defBody s__law_pairs) (defScope s__law_pairs) .none kV9 dc9 pm9 an9 cd9 ct9), sl9⟩) (C9 : PySem.W.codeIn K cd9 "_law_pairs" = true) (K9 : PySem.W.keepIn K (.ref f9) = true)
    (A10 : PySem.W.nsIn K mainGlobals "_law_sums" = some (some (.ref f10))) (L10 : K.lookup f10 = some ⟨oc10, od10, .func (PySem.W.fnOf "_law_sums" "_law_sums" (defArgs s__law_sums) (defBody s__law_sums) (defScope s__law_sums) .none kV10 dc10 pm10 an10 cd10 ct10), sl10⟩) (C10 : PySem.W.codeIn K cd10 "_law_sums" = true) (K10 : PySem.W.keepIn K (.ref f10) = true)
    (A11 : PySem.W.nsIn K mainGlobals "_law_right" = some (some (.ref f11))) (L11 : K.lookup f11 = some ⟨oc11, od11, .func (PySem.W.fnOf "_law_right" "_law_right" (defArgs s__law_right) (defBody s__law_right) (defScope s__law_right) .none kV11 dc11 pm11 an11 cd11 ct11), sl11⟩) (C11 : PySem.W.codeIn K cd11 "_law_right" = true) (K11 : PySem.W.keepIn K (.ref f11) = true)
    (A12 : PySem.W.nsIn K mainGlobals "law" = some (some (.ref f12))) (L12 : K.lookup f12 = some ⟨oc12, od12, .func (PySem.W.fnOf "law" "law" (defArgs s_law) (defBody s_law) (defScope s_law) .none kV12 dc12 pm12 an12 cd12 ct12), sl12⟩) (C12 : PySem.W.codeIn K cd12 "law" = true) (K12 : PySem.W.keepIn K (.ref f12) = true)
    (N_abs : PySem.W.nsIn K mainGlobals "abs" = some none)
    (N_isinstance : PySem.W.nsIn K mainGlobals "isinstance" = some none)
    (N_len : PySem.W.nsIn K mainGlobals "len" = some none)
    (N_list : PySem.W.nsIn K mainGlobals "list" = some none)
    (N_range : PySem.W.nsIn K mainGlobals "range" = some none)
    (N_repr : PySem.W.nsIn K mainGlobals "repr" = some none)
    (N_sorted : PySem.W.nsIn K mainGlobals "sorted" = some none)
    (N_tuple : PySem.W.nsIn K mainGlobals "tuple" = some none)
    (a_NOUGHT : PySem.W.nsIn K mainGlobals "NOUGHT" = some (some (.ref q_NOUGHT)))
    (l_NOUGHT : K.lookup q_NOUGHT = some ⟨.type "tuple", qd_NOUGHT, .seq #[.int 0 qt_NOUGHT_0, .int 1 qt_NOUGHT_1] qn_NOUGHT, qs_NOUGHT⟩) :
    ∃ fd : FuncData, (∀ (s : Shared) (v : Value), BindsTo s fd ⟨[v], []⟩ [("_law_script", v)]) ∧ ∀ base : Heap, K.In base → base.Ns mainGlobals mg → FnOk l.prog w K mg base (CXE l.prog w) 5 fa fd ["_law_script"] (spLawX K) := by
  have e := hfa.symm.trans (PySem.W.mg_of X G A12)
  cases e
  let T : Tx K mg := { a_common_part := f0, fd_common_part := _, F_common_part := fun_mk (st := s_common_part) L0 C0 K0, m_common_part := PySem.W.mg_of X G A0, b_common_part := (fun_mk (st := s_common_part) L0 C0 K0).binds (ps := ["one", "other"]) fun _ _ _ _ _ _ us hl => match us, hl with | [_, _], _ => rfl, a_lowest := f1, fd_lowest := _, F_lowest := fun_mk (st := s_lowest) L1 C1 K1, m_lowest := PySem.W.mg_of X G A1, b_lowest := (fun_mk (st := s_lowest) L1 C1 K1).binds (ps := ["top", "bottom"]) fun _ _ _ _ _ _ us hl => match us, hl with | [_, _], _ => rfl, a_plus := f2, fd_plus := _, F_plus := fun_mk (st := s_plus) L2 C2 K2, m_plus := PySem.W.mg_of X G A2, b_plus := (fun_mk (st := s_plus) L2 C2 K2).binds (ps := ["one", "other"]) fun _ _ _ _ _ _ us hl => match us, hl with | [_, _], _ => rfl, a_gathered := f3, fd_gathered := _, F_gathered := fun_mk (st := s_gathered) L3 C3 K3, m_gathered := PySem.W.mg_of X G A3, b_gathered := (fun_mk (st := s_gathered) L3 C3 K3).binds (ps := ["pairs"]) fun _ _ _ _ _ _ us hl => match us, hl with | [_], _ => rfl, a__law_cell := f4, fd__law_cell := _, F__law_cell := fun_mk (st := s__law_cell) L4 C4 K4, m__law_cell := PySem.W.mg_of X G A4, b__law_cell := (fun_mk (st := s__law_cell) L4 C4 K4).binds (ps := ["_law_script", "_law_k"]) fun _ _ _ _ _ _ us hl => match us, hl with | [_, _], _ => rfl, a__law_mix := f5, fd__law_mix := _, F__law_mix := fun_mk (st := s__law_mix) L5 C5 K5, m__law_mix := PySem.W.mg_of X G A5, b__law_mix := (fun_mk (st := s__law_mix) L5 C5 K5).binds (ps := ["_law_cell_here", "_law_prime", "_law_many"]) fun _ _ _ _ _ _ us hl => match us, hl with | [_, _, _], _ => rfl, a__law_common := f6, fd__law_common := _, F__law_common := fun_mk (st := s__law_common) L6 C6 K6, m__law_common := PySem.W.mg_of X G A6, b__law_common := (fun_mk (st := s__law_common) L6 C6 K6).binds (ps := ["_law_one", "_law_other"]) fun _ _ _ _ _ _ us hl => match us, hl with | [_, _], _ => rfl, a__law_lowest := f7, fd__law_lowest := _, F__law_lowest := fun_mk (st := s__law_lowest) L7 C7 K7, m__law_lowest := PySem.W.mg_of X G A7, b__law_lowest := (fun_mk (st := s__law_lowest) L7 C7 K7).binds (ps := ["_law_top", "_law_bottom"]) fun _ _ _ _ _ _ us hl => match us, hl with | [_, _], _ => rfl, a__law_thing := f8, fd__law_thing := _, F__law_thing := fun_mk (st := s__law_thing) L8 C8 K8, m__law_thing := PySem.W.mg_of X G A8, b__law_thing := (fun_mk (st := s__law_thing) L8 C8 K8).binds (ps := ["_law_cell_here", "_law_way", "_law_size"]) fun _ _ _ _ _ _ us hl => match us, hl with | [_, _, _], _ => rfl, a__law_pairs := f9, fd__law_pairs := _, F__law_pairs := fun_mk (st := s__law_pairs) L9 C9 K9, m__law_pairs := PySem.W.mg_of X G A9, b__law_pairs := (fun_mk (st := s__law_pairs) L9 C9 K9).binds (ps := ["_law_script"]) fun _ _ _ _ _ _ us hl => match us, hl with | [_], _ => rfl, a__law_sums := f10, fd__law_sums := _, F__law_sums := fun_mk (st := s__law_sums) L10 C10 K10, m__law_sums := PySem.W.mg_of X G A10, b__law_sums := (fun_mk (st := s__law_sums) L10 C10 K10).binds (ps := ["_law_pairs_here"]) fun _ _ _ _ _ _ us hl => match us, hl with | [_], _ => rfl, a__law_right := f11, fd__law_right := _, F__law_right := fun_mk (st := s__law_right) L11 C11 K11, m__law_right := PySem.W.mg_of X G A11, b__law_right := (fun_mk (st := s__law_right) L11 C11 K11).binds (ps := ["_law_found", "_law_pairs_here"]) fun _ _ _ _ _ _ us hl => match us, hl with | [_, _], _ => rfl, a_law := fa, fd_law := _, F_law := fun_mk (st := s_law) L12 C12 K12, m_law := PySem.W.mg_of X G A12, b_law := (fun_mk (st := s_law) L12 C12 K12).binds (ps := ["_law_script"]) fun _ _ _ _ _ _ us hl => match us, hl with | [_], _ => rfl, n_abs := PySem.W.mg_none_of X G N_abs, n_isinstance := PySem.W.mg_none_of X G N_isinstance, n_len := PySem.W.mg_none_of X G N_len, n_list := PySem.W.mg_none_of X G N_list, n_range := PySem.W.mg_none_of X G N_range, n_repr := PySem.W.mg_none_of X G N_repr, n_sorted := PySem.W.mg_none_of X G N_sorted, n_tuple := PySem.W.mg_none_of X G N_tuple, a_NOUGHT := q_NOUGHT, m_NOUGHT := PySem.W.mg_of X G a_NOUGHT, c_NOUGHT := fun H => .inr ⟨_, _, _, l_NOUGHT, rfl, rfl, by show 2 ≤ sizeLine; decide, (.cons ⟨_, rfl⟩ (.cons ⟨_, rfl⟩ .nil))⟩ }
  exact ⟨_, fun s v => .of_eq rfl, fun base _ _ => ok_law T⟩
theorem walk {l : PySem.W.OpenLaw} {q : Program} {loose : List Str} {XP : (Str → Option Value) → Heap → Prop} {YP : World → Heap → Prop} {d : DefRec} {K : Params → PySem.W.Frag} (hn : l.most = some 63) (hdf : d.params.defaults = [])
  (hY : ∀ (w : World) (h : Heap), YP w h → (K w.params).In h)
  (F : ∀ (w : World) (mg : Str → Option Value) (fa : Addr) (h : Heap), (K w.params).In h → h.Ns mainGlobals mg → mg d.name = some (.ref fa) →
   ∃ fd : FuncData, (∀ (s : Shared) (u : Value), BindsTo s fd ⟨[u], []⟩ [("_law_script", u)]) ∧ ∀ base : Heap, (K w.params).In base → base.Ns mainGlobals mg → FnOk l.prog w (K w.params) mg base (CXE l.prog w) 5 fa fd ["_law_script"] (spLawX (K w.params))) :
  PySem.W.WalkO q loose XP YP l.row.toRowW d [] (fun f vs => PySem.call f vs) :=
 L2.walk_of (n := 63) (k := 5) (x := "_law_script") (CX := fun w => CXE l.prog w) (sp := fun w => spLawX (K w.params)) hn (by decide) hdf ⟨rfl, by decide, by decide, rfl⟩ hY F (fun _ _ a ns hl hO hS => ⟨a, ns, rfl, hO, hS, hl, fun _ => rfl⟩) fun _ _ _ _ _ ⟨_, _, _, _, _, z⟩ => z
end Prf
open PySem PySem.W PyProof.Rows
set_option maxRecDepth 100000 in
set_option maxHeartbeats 0 in
theorem PySem.Challenge.cw_lots_k04_gathered_holds : PySem.Challenge.rw_lots_k04_gathered.Holds := by
 w_on; o_law; k_head; (case hw => w_witness2)
 k_fill
 refine Prf.walk (l := PySem.Challenge.rw_lots_k04_gathered) rfl rfl (fun w h Y => PySem.W.kIn_of Y) ?F
 case F =>
  intro w mg fa h KX G hmg
  refine' Prf.all_mk KX G hmg ?A0 ?L0 ?C0 ?K0 ?A1 ?L1 ?C1 ?K1 ?A2 ?L2 ?C2 ?K2 ?A3 ?L3 ?C3 ?K3 ?A4 ?L4 ?C4 ?K4 ?A5 ?L5 ?C5 ?K5 ?A6 ?L6 ?C6 ?K6 ?A7 ?L7 ?C7 ?K7 ?A8 ?L8 ?C8 ?K8 ?A9 ?L9 ?C9 ?K9 ?A10 ?L10 ?C10 ?K10 ?A11 ?L11 ?C11 ?K11 ?A12 ?L12 ?C12 ?K12 ?N_abs ?N_isinstance ?N_len ?N_list ?N_range ?N_repr ?N_sorted ?N_tuple ?a_NOUGHT ?l_NOUGHT
  (case A0 => k_is); (case L0 => k_is); (case C0 => k_is); (case K0 => k_is); (case A1 => k_is); (case L1 => k_is)
  (case C1 => k_is); (case K1 => k_is); (case A2 => k_is); (case L2 => k_is); (case C2 => k_is); (case K2 => k_is)
  (case A3 => k_is); (case L3 => k_is); (case C3 => k_is); (case K3 => k_is); (case A4 => k_is); (case L4 => k_is)
  (case C4 => k_is); (case K4 => k_is); (case A5 => k_is); (case L5 => k_is); (case C5 => k_is); (case K5 => k_is)
  (case A6 => k_is); (case L6 => k_is); (case C6 => k_is); (case K6 => k_is); (case A7 => k_is); (case L7 => k_is)
  (case C7 => k_is); (case K7 => k_is); (case A8 => k_is); (case L8 => k_is); (case C8 => k_is); (case K8 => k_is)
  (case A9 => k_is); (case L9 => k_is); (case C9 => k_is); (case K9 => k_is); (case A10 => k_is); (case L10 => k_is)
  (case C10 => k_is); (case K10 => k_is); (case A11 => k_is); (case L11 => k_is); (case C11 => k_is); (case K11 => k_is)
  (case A12 => k_is); (case L12 => k_is); (case C12 => k_is); (case K12 => k_is); (case N_abs => k_is); (case N_isinstance => k_is)
  (case N_len => k_is); (case N_list => k_is); (case N_range => k_is); (case N_repr => k_is); (case N_sorted => k_is); (case N_tuple => k_is)
  (case a_NOUGHT => k_is); (case l_NOUGHT => k_is)
