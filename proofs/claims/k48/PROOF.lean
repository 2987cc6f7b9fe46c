import PyProof.Rows.All
import Wide.All
import OpenK.AllK
import Wide.FinOn
import Lean
import PyProof.EqAt
import PyProof.EqKinds
import PyProof.NeKinds
import PyProof.TupleCall
import PySem.Challenge.RW_leanestate_k48_all_refuse_in_order
set_option Elab.async false
set_option linter.all false
set_option maxRecDepth 100000
set_option genSizeOf false
set_option genSizeOfSpec false
namespace L2
open PySem PySem.Spec PyProof.Rows

noncomputable abbrev Key := Sum Int Str
noncomputable def keyIs : Key → Value → Bool
 | .inl k, v => Value.isInt k v
 | .inr x, v => Value.isStrOf x v
noncomputable def keyH (w : World) : Key → Int
 | .inl k => hashInt k
 | .inr x => hashStr w x
theorem keyIs_shape : ∀ {k : Key} {v : Value}, keyIs k v = true → (∃ i t, k = Sum.inl i ∧ v = Value.int i t) ∨ (∃ x t, k = Sum.inr x ∧ v = Value.str x t)
 | .inl i, v, h => by
  obtain ⟨t, e⟩ := Value.isInt_shape (k := i) (v := v) h
  exact .inl ⟨i, t, rfl, e⟩
 | .inr x, v, h => by
  obtain ⟨t, e⟩ := Value.isStrOf_shape (x := x) (v := v) h
  exact .inr ⟨x, t, rfl, e⟩
theorem key_ll (a b : Int) : decide ((Sum.inl a : Key) = Sum.inl b) = (a == b) := by
 by_cases e : a = b
 ·subst e; simp
 ·have h : ¬ (Sum.inl a : Key) = Sum.inl b := fun q => e (Sum.inl.inj q)
  rw [decide_eq_false h]
  exact (beq_eq_false_iff_ne.mpr e).symm
theorem key_rr (a b : Str) : decide ((Sum.inr a : Key) = Sum.inr b) = decide (a = b) := by
 by_cases e : a = b
 ·subst e; simp
 ·have h : ¬ (Sum.inr a : Key) = Sum.inr b := fun q => e (Sum.inr.inj q)
  rw [decide_eq_false h, decide_eq_false e]
theorem key_lr (a : Int) (b : Str) : decide ((Sum.inl a : Key) = Sum.inr b) = false := decide_eq_false (fun q => nomatch q)
theorem key_rl (a : Str) (b : Int) : decide ((Sum.inr a : Key) = Sum.inl b) = false := decide_eq_false (fun q => nomatch q)

noncomputable def mixKind (prog : Program) (w : World) : PySem.KeyKind prog w Key where
 is := keyIs
 hash := keyH w
 inj := fun v a b ha hb => by
  rcases keyIs_shape ha with ⟨i, t, rfl, rfl⟩ | ⟨x, t, rfl, rfl⟩
  ·rcases keyIs_shape hb with ⟨j, u, rfl, e⟩ | ⟨y, u, rfl, e⟩
   ·injection e with e1 _; rw [e1]
   ·exact nomatch e
  ·rcases keyIs_shape hb with ⟨j, u, rfl, e⟩ | ⟨y, u, rfl, e⟩
   ·exact nomatch e
   ·injection e with e1 _; rw [e1]
 byValue := fun k v h => by
  rcases keyIs_shape h with ⟨i, t, rfl, rfl⟩ | ⟨x, t, rfl, rfl⟩ <;> rfl
 pyHash := fun hv h => by
  rcases keyIs_shape hv with ⟨i, t, rfl, rfl⟩ | ⟨x, t, rfl, rfl⟩
  ·exact wpAny_pyHash_int h
  ·exact wpAny_pyHash_str h
 eqBool := fun hu hv h => by
  rcases keyIs_shape hu with ⟨i, t, rfl, rfl⟩ | ⟨x, t, rfl, rfl⟩
  ·rcases keyIs_shape hv with ⟨j, u, rfl, rfl⟩ | ⟨y, u, rfl, rfl⟩
   ·rw [key_ll] at h; exact wpAny_eqBool_int h
   ·rw [key_lr] at h; exact SeqAt.EqAt.int_str i t y u _ _ _ _ h
  ·rcases keyIs_shape hv with ⟨j, u, rfl, rfl⟩ | ⟨y, u, rfl, rfl⟩
   ·rw [key_rl] at h; exact SeqAt.EqAt.str_int x t j u _ _ _ _ h
   ·rw [key_rr] at h; exact wpAny_eqBool_str h
 «strs» := fun k x t v h => by
  rcases keyIs_shape h with ⟨i, u, rfl, e⟩ | ⟨y, u, rfl, e⟩
  ·exact nomatch e
  ·injection e with e1 _
   subst e1
   cases v <;> rfl

end L2

namespace L2
open PySem PySem.Spec PyProof.Rows

inductive V where
 | non | bl (b : Bool) | int (i : Int) | str (x : Str) | byt (b : Array UInt8) | flt (b : UInt64) | ref (a : Addr) | ty (n : String)
 deriving DecidableEq

noncomputable def RelV : V → Value → Prop
 | .non, u => u = Value.none
 | .bl b, u => u = Value.bool b
 | .int i, u => ∃ t, u = Value.int i t
 | .str x, u => ∃ t, u = Value.str x t
 | .byt b, u => ∃ t, u = Value.bytes b t
 | .flt b, u => ∃ t, u = Value.float b t
 | .ref a, u => u = Value.ref a
 | .ty n, u => u = Value.type n

noncomputable abbrev Vals : List V → List Value → Prop := Paired RelV
theorem Vals.length {xs : List V} {us : List Value} (r : Vals xs us) : xs.length = us.length := Paired.length r
theorem Vals.get : ∀ {xs : List V} {us : List Value} {i : Nat} {x : V}, Vals xs us → xs[i]? = some x → ∃ u, us[i]? = some u ∧ RelV x u
 | _, _, _, _, .nil, e => by simp at e
 | _, _, 0, _, .cons r _, e => by simp at e; subst e; exact ⟨_, rfl, r⟩
 | _, _, i + 1, x, .cons _ t, e => by
  obtain ⟨u, h1, h2⟩ := Vals.get (i := i) (x := x) t (by simpa using e)
  exact ⟨u, by simpa using h1, h2⟩
theorem Vals.set {x : V} {u : Value} (r : RelV x u) : ∀ {xs : List V} {us : List Value} (i : Nat), Vals xs us → Vals (xs.set i x) (us.set i u)
 | _, _, _, .nil => .nil
 | _, _, 0, .cons _ t => .cons r t
 | _, _, i + 1, .cons q t => .cons q (Vals.set r i t)
theorem Vals.append : ∀ {xs ys : List V} {us ws : List Value}, Vals xs us → Vals ys ws → Vals (xs ++ ys) (us ++ ws)
 | _, _, _, _, .nil, s => s
 | _, _, _, _, .cons r t, s => .cons r (Vals.append t s)
theorem Vals.take : ∀ {xs : List V} {us : List Value} (n : Nat), Vals xs us → Vals (xs.take n) (us.take n)
 | _, _, 0, _ => .nil
 | _, _, _ + 1, .nil => .nil
 | _, _, n + 1, .cons r t => .cons r (Vals.take n t)
theorem Vals.drop : ∀ {xs : List V} {us : List Value} (n : Nat), Vals xs us → Vals (xs.drop n) (us.drop n)
 | _, _, 0, r => r
 | _, _, _ + 1, .nil => .nil
 | _, _, n + 1, .cons _ t => Vals.drop n t
noncomputable def RelO : Option V → Option Value → Prop
 | some v, some u => RelV v u
 | none, none => True
 | _, _ => False
noncomputable def KV {κ : Type} : List (κ × V) → List (κ × Value) → Prop := Paired fun (p : κ × V) (q : κ × Value) => p.1 = q.1 ∧ RelV p.2 q.2

noncomputable def kV : Key → V
 | .inl i => .int i
 | .inr x => .str x

inductive HO where
 /-- a list -/
 | lst (xs : List V)
 /-- a tuple (never changes) -/
 | tup (xs : List V)
 /-- a dict whose keys are ints and texts; one whose keys are tuples of ints and texts (the empty one is both) -/
 | dK (kvs : List (Key × V)) | dT (kvs : List (List Key × V))
 /-- a set of ints: its members, its size -/
 | set (S : Int → Bool) (n : Nat)
 /-- an instance of the class at C, its dict at dx, its attributes -/
 | ins (C dx : Addr) (fs : List (Str × V))
 /-- the dict of the instance at x -/
 | own (x : Addr)
 /-- the dict of an exception -/
 | xd (fs : List (Str × V))
 /-- a bound method, f of x -/
 | met (f x : Addr)
 /-- a range object lo, lo + 1, .. below hi -/
 | rng (lo hi : Int)
 /-- a thing that is known to the object (the script; a dict while a loop walks it): read, never written while it is so -/
 | frz (o : Obj) (u : HO)
 /-- a code object's table -/
 | tbl (ps : Array Value)
 /-- any other thing, by what is true of its one object (a def of one's own: SetO a S n := HO.ext fun h => ..) -/
 | ext (φ : Heap → Prop)

noncomputable abbrev Hp := Addr → Option HO
noncomputable def upd (H : Hp) (a : Addr) (o : HO) : Hp := fun b => if b = a then some o else H b
theorem upd_same {H : Hp} {a : Addr} {o : HO} : upd H a o a = some o := by unfold upd; rw [if_pos rfl]
theorem upd_ne {H : Hp} {a b : Addr} {o : HO} (h : b ≠ a) : upd H a o b = H b := by unfold upd; rw [if_neg h]
theorem ne_of {H : Hp} {a b : Addr} {o u : HO} (h : H a = some o) (h' : H b = some u) (d : o ≠ u) : a ≠ b := by
 intro e; subst e; rw [h] at h'; exact d (Option.some.inj h')
theorem ne_of_none {H : Hp} {a b : Addr} {o : HO} (h : H a = some o) (h' : H b = none) : a ≠ b := by
 intro e; subst e; rw [h] at h'; cases h'

section
variable (P : Program) (w : World)
noncomputable def ObjOk (H : Hp) (h : Heap) (a : Addr) : HO → Prop
 | .lst xs => xs.length ≤ sizeLine ∧ ∃ (its : List Value) (n : Nat), Vals xs its ∧ h.get? a = some { cls := .type "list", data := .seq its.toArray n }
 | .tup xs => xs.length ≤ sizeLine ∧ ∃ its : List Value, Vals xs its ∧ IsTup h a its.toArray
 | .dK kvs => kvs.length ≤ sizeLine ∧ (a == sysModules) = false ∧ ∃ vs, KV kvs vs ∧ h.DictOf (mixKind P w) a vs
 | .dT kvs => kvs.length ≤ sizeLine ∧ (a == sysModules) = false ∧ ∃ xs : List (List Key × Addr × Value),
   Paired (fun (p : List Key × V) (q : List Key × Addr × Value) => p.1 = q.1 ∧ H q.2.1 = some (.tup (p.1.map kV)) ∧ RelV p.2 q.2.2) kvs xs ∧
   ∃ o es ep, h.get? a = some o ∧ o.ExactDict ∧ o.data = .dict es ep ∧ es.toList = xs.map (entryOfKey (tupleKind (mixKind P w))) ∧ (xs.map (·.1)).Nodup
 | .set S n => h.SetOf (intKind P w) a S n
 | .ins C dx fs => H dx = some (.own a) ∧ fs.length ≤ 1000 ∧ dx ≠ a ∧ h.get? a = some (PySem.W.instObj C dx) ∧
   ∃ mA, h.Ns1 dx mA ∧ (∀ f, RelO (fs.lookup f) (mA f)) ∧ PySem.Within mA (fs.map (·.1))
 | .own _ => ∃ o, h.get? a = some o
 | .xd fs => ∃ mA, h.Ns1 a mA ∧ ∀ f, RelO (fs.lookup f) (mA f)
 | .rng lo hi => ∃ t u v, h.get? a = some { cls := .type "range", data := .fields #[.int lo t, .int hi u, .int 1 v] }
 | .frz o u => h.get? a = some o ∧ ObjOk H h a u
 | .tbl ps => h.get? a = some { cls := .none, data := .fields ps }
 | .met f x => h.get? a = some (PySem.W.methodObj (.ref f) (.ref x))
 | .ext φ => φ h ∧ (∃ o, h.get? a = some o) ∧ ∀ h1 h2 : Heap, φ h1 → (∀ o, h1.get? a = some o → h2.get? a = some o) → φ h2
noncomputable def HOk (H : Hp) (h : Heap) : Prop := ∀ a o, H a = some o → ObjOk P w H h a o
end

section
variable {P : Program} {w : World} {H H' : Hp} {h h' : Heap} {a : Addr} {o : HO}
theorem ObjOk.lt (x : ObjOk P w H h a o) : a < h.objs.size := by
 cases o with
 | lst xs => obtain ⟨_, _, _, _, e⟩ := x; exact Heap.lt_size e
 | tup xs => obtain ⟨_, _, _, p⟩ := x; exact p.lt
 | dK kvs => obtain ⟨_, _, _, _, o, _, _, e, _⟩ := x; exact Heap.lt_size e
 | dT kvs => obtain ⟨_, _, _, _, o, _, _, e, _⟩ := x; exact Heap.lt_size e
 | set S n => obtain ⟨o, _, _, _, e, _⟩ := x; exact Heap.lt_size e
 | ins C dx fs => obtain ⟨_, _, _, e, _⟩ := x; exact Heap.lt_size e
 | own y => obtain ⟨_, e⟩ := x; exact Heap.lt_size e
 | xd fs => obtain ⟨_, ⟨_, _, _, e, _⟩, _⟩ := x; exact Heap.lt_size e
 | rng lo hi => obtain ⟨_, _, _, e⟩ := x; exact Heap.lt_size e
 | frz ob u => obtain ⟨e, _⟩ := x; exact Heap.lt_size e
 | tbl ps => exact Heap.lt_size (show h.get? a = some _ from x)
 | met f y => exact Heap.lt_size (show h.get? a = some _ from x)
 | ext φ => obtain ⟨_, ⟨_, e⟩, _⟩ := x; exact Heap.lt_size e
theorem Paired.mapP {α β : Type} {F G : α → β → Prop} : ∀ {l₁ : List α} {l₂ : List β}, Paired F l₁ l₂ → (∀ a b, F a b → G a b) → Paired G l₁ l₂
 | _, _, .nil, _ => .nil
 | _, _, .cons r t, f => .cons (f _ _ r) (Paired.mapP t f)
theorem ObjOk.stay (x : ObjOk P w H h a o) (k : ∀ b u, (b = a ∨ H b = some (.own a)) → h.get? b = some u → h'.get? b = some u)
  (ho : ∀ b, H b = some (.own a) → H' b = some (.own a)) (ht : ∀ b xs, H b = some (.tup xs) → H' b = some (.tup xs)) : ObjOk P w H' h' a o := by
 induction o with
 | lst xs => obtain ⟨z, its, n, r, e⟩ := x; exact ⟨z, its, n, r, k _ _ (.inl rfl) e⟩
 | tup xs => obtain ⟨z, its, r, ob, e, c⟩ := x; exact ⟨z, its, r, ob, k _ _ (.inl rfl) e, c⟩
 | dK kvs => obtain ⟨z, y, vs, r, ob, es, ep, e, c⟩ := x; exact ⟨z, y, vs, r, ob, es, ep, k _ _ (.inl rfl) e, c⟩
 | dT kvs =>
  obtain ⟨z, y, xs, r, ob, es, ep, e, c⟩ := x
  exact ⟨z, y, xs, Paired.mapP r fun p q z => ⟨z.1, ht _ _ z.2.1, z.2.2⟩, ob, es, ep, k _ _ (.inl rfl) e, c⟩
 | set S n => obtain ⟨ob, es, ep, t, e, c⟩ := x; exact ⟨ob, es, ep, t, k _ _ (.inl rfl) e, c⟩
 | ins C dx fs =>
  obtain ⟨d, z, ne, e, mA, ⟨od, es, ep, e2, c⟩, r⟩ := x
  exact ⟨ho _ d, z, ne, k _ _ (.inl rfl) e, mA, ⟨od, es, ep, k _ _ (.inr d) e2, c⟩, r⟩
 | own y => obtain ⟨ob, e⟩ := x; exact ⟨ob, k _ _ (.inl rfl) e⟩
 | xd fs => obtain ⟨mA, ⟨od, es, ep, e, c⟩, r⟩ := x; exact ⟨mA, ⟨od, es, ep, k _ _ (.inl rfl) e, c⟩, r⟩
 | rng lo hi => obtain ⟨t, u, v, e⟩ := x; exact ⟨t, u, v, k _ _ (.inl rfl) e⟩
 | frz ob u ih => obtain ⟨e, q⟩ := x; exact ⟨k _ _ (.inl rfl) e, ih q⟩
 | tbl ps =>
  have e : h.get? a = some { cls := .none, data := .fields ps } := x
  show h'.get? a = some { cls := .none, data := .fields ps }
  exact k a _ (.inl rfl) e
 | met f y =>
  have e : h.get? a = some (PySem.W.methodObj (.ref f) (.ref y)) := x
  show h'.get? a = some (PySem.W.methodObj (.ref f) (.ref y))
  exact k a _ (.inl rfl) e
 | ext φ => obtain ⟨p, ⟨o, e⟩, st⟩ := x; exact ⟨st _ _ p fun o q => k _ _ (.inl rfl) q, ⟨o, k _ _ (.inl rfl) e⟩, st⟩
theorem HOk.lt (x : HOk P w H h) (e : H a = some o) : a < h.objs.size := (x a o e).lt
theorem HOk.fresh (x : HOk P w H h) (e : h.objs.size ≤ a) : H a = none := by
 cases q : H a with
 | none => rfl
 | some u => exact absurd (Nat.lt_of_lt_of_le (x.lt q) e) (Nat.lt_irrefl _)
theorem HOk.kept (x : HOk P w H h) (k : ∀ b u, h.get? b = some u → h'.get? b = some u) : HOk P w H h' := fun a o e =>
 (x a o e).stay (fun b u _ q => k b u q) (fun _ q => q) fun _ _ q => q
theorem HOk.laid (x : HOk P w H h) (k : ∀ b u, h.get? b = some u → h'.get? b = some u) (hp : h.objs.size ≤ a) (new : ObjOk P w (upd H a o) h' a o) : HOk P w (upd H a o) h' := fun b u e => by
 have hn := x.fresh hp
 by_cases hb : b = a
 ·subst hb; rw [upd_same] at e; cases e; exact new
 ·rw [upd_ne hb] at e
  exact (x b u e).stay (fun c v _ q => k c v q) (fun c q => by rw [upd_ne (ne_of_none q hn)]; exact q) fun c xs q => by rw [upd_ne (ne_of_none q hn)]; exact q
end

noncomputable def Rd (H : Hp) (a : Addr) (u : HO) : Prop := H a = some u ∨ ∃ o, H a = some (.frz o u)
theorem Rd.ok {P : Program} {w : World} {H : Hp} {h : Heap} {a : Addr} {u : HO} (r : Rd H a u) (x : HOk P w H h) : ObjOk P w H h a u := by
 rcases r with r | ⟨o, r⟩
 ·exact x a u r
 ·obtain ⟨_, q⟩ := x a _ r
  exact q
noncomputable def Mut : Option HO → Prop
 | some (.lst _) => True
 | some (.dK _) => True
 | some (.dT _) => True
 | some (.set _ _) => True
 | some (.ins _ _ _) => True
 | some (.ext _) => True
 | _ => False
section
variable {P : Program} {w : World} {H : Hp} {h h' : Heap} {x e : Addr} {o' : HO}
theorem HOk.write (ok : HOk P w H h) (mu : Mut (H x)) (he : e = x ∨ H e = some (.own x)) (k : ∀ b u, b ≠ e → h.get? b = some u → h'.get? b = some u) (heo : ∃ u, h'.get? e = some u)
  (new : ObjOk P w (upd H x o') h' x o') : HOk P w (upd H x o') h' := fun b u q => by
 have nown : ∀ c y, H c = some (.own y) → c ≠ x := fun c y r z => by subst z; rw [r] at mu; exact mu
 have ntup : ∀ c xs, H c = some (.tup xs) → c ≠ x := fun c xs r z => by subst z; rw [r] at mu; exact mu
 by_cases hb : b = x
 ·subst hb; rw [upd_same] at q; cases q; exact new
 ·rw [upd_ne hb] at q
  by_cases hbe : b = e
  ·have q' : H b = some (.own x) := by
    rcases he with z | z
    ·exact absurd (hbe.trans z) hb
    ·rw [hbe]; exact z
   rw [q] at q'; cases q'
   obtain ⟨v, hv⟩ := heo
   exact ⟨v, by rw [hbe]; exact hv⟩
  ·refine (ok b u q).stay (fun c v hc r => k c v ?_ r) (fun c r => by rw [upd_ne (nown c b r)]; exact r) fun c xs r => by rw [upd_ne (ntup c xs r)]; exact r
   rcases hc with rfl | hc
   ·exact hbe
   ·rintro rfl
    rcases he with z | z
    ·exact nown c b hc z
    ·rw [hc] at z; cases z; exact hb rfl
end

set_option genInjectivity false in
structure Un (fs ex : List Addr) (H H' : Hp) (h h' : Heap) : Prop where
 keep : ∀ b o, h.get? b = some o → H b = none → b ∉ fs → b ∉ ex → h'.get? b = some o
 slot : ∀ b o, h.get? b = some o → H b = none → b ∈ fs → b ∉ ex → ∃ sl, h'.get? b = some { o with slots := sl }
 free : ∀ b o, h.get? b = some o → H b = none → b ∉ ex → H' b = none
 there : ∀ b o, h.get? b = some o → b ∉ ex → ∃ o', h'.get? b = some o'
 tups : ∀ b xs, H b = some (.tup xs) → H' b = some (.tup xs)
 frzs : ∀ b o u, H b = some (.frz o u) → H' b = some (.frz o u)
 tbls : ∀ b ps, H b = some (.tbl ps) → ∃ more, H' b = some (.tbl (ps ++ more))
section
variable {fs fs' ex ex' : List Addr} {H H1 H2 : Hp} {h h1 h2 h' : Heap} {a x e : Addr} {o : HO}
theorem Un.any (u : Un fs ex H H1 h h1) {b : Addr} {ob : Obj} (q : h.get? b = some ob) (n : H b = none) (hx : b ∉ ex) : ∃ sl, h1.get? b = some { ob with slots := sl } := by
 by_cases hb : b ∈ fs
 ·exact u.slot b ob q n hb hx
 ·exact ⟨ob.slots, u.keep b ob q n hb hx⟩
theorem Un.kept (k : ∀ b u, h.get? b = some u → h'.get? b = some u) : Un fs ex H H h h' :=
 ⟨fun b ob q _ _ _ => k b ob q, fun b ob q _ _ _ => ⟨ob.slots, k b ob q⟩, fun _ _ _ n _ => n, fun b ob q _ => ⟨ob, k b ob q⟩, fun _ _ q => q, fun _ _ _ q => q, fun _ ps q => ⟨#[], by rw [q]; simp⟩⟩
theorem Un.refl : Un fs ex H H h h := Un.kept fun _ _ q => q
theorem Un.laid (k : ∀ b u, h.get? b = some u → h'.get? b = some u) (hp : h.objs.size ≤ a) (hn : H a = none) : Un fs ex H (upd H a o) h h' where
 keep := fun b u q _ _ _ => k b u q
 slot := fun b u q _ _ _ => ⟨u.slots, k b u q⟩
 free := fun b u q n _ => by rw [upd_ne (Nat.ne_of_lt (Nat.lt_of_lt_of_le (Heap.lt_size q) hp))]; exact n
 there := fun b u q _ => ⟨u, k b u q⟩
 tups := fun b xs q => by rw [upd_ne (ne_of_none q hn)]; exact q
 frzs := fun b u xs q => by rw [upd_ne (ne_of_none q hn)]; exact q
 tbls := fun b ps q => ⟨#[], by rw [upd_ne (ne_of_none q hn), q]; simp⟩
theorem Un.write (mu : Mut (H x)) (he : e = x ∨ H e = some (.own x)) (k : ∀ b u, b ≠ e → h.get? b = some u → h'.get? b = some u) (heo : ∃ u, h'.get? e = some u) : Un fs ex H (upd H x o) h h' := by
 have hx : ∀ b, H b = none → b ≠ x := fun b n z => by subst z; rw [n] at mu; exact mu
 have hb : ∀ b, H b = none → b ≠ e := fun b n z => by
  subst z
  rcases he with r | r
  ·exact hx b n r
  ·rw [n] at r; cases r
 have hm : ∀ b u, H b = some u → ¬ Mut (some u) → b ≠ x := fun b u q nm z => by subst z; rw [q] at mu; exact nm mu
 refine ⟨fun b u q n _ _ => k b u (hb b n) q, fun b u q n _ _ => ⟨u.slots, k b u (hb b n) q⟩, fun b u q n _ => by rw [upd_ne (hx b n)]; exact n, fun b u q _ => ?_,
  fun b xs q => by rw [upd_ne (hm b _ q fun z => z)]; exact q, fun b u xs q => by rw [upd_ne (hm b _ q fun z => z)]; exact q, fun b ps q => ⟨#[], by rw [upd_ne (hm b _ q fun z => z), q]; simp⟩⟩
 by_cases hbe : b = e
 ·subst hbe; exact heo
 ·exact ⟨u, k b u hbe q⟩
end

noncomputable def trk (h : Heap) (H : Hp) : List Addr := (List.range h.objs.size).filter fun a => (H a).isSome
noncomputable def hidT (h : Heap) (H : Hp) : Heap := PySem.W.hideAll h (trk h H)
theorem hidT_size (h : Heap) (H : Hp) : (hidT h H).objs.size = h.objs.size := PySem.W.hideAll_size _ _
theorem hidT_get {h : Heap} {H : Hp} {b : Addr} {o : Obj} (e : h.get? b = some o) (n : H b = none) : (hidT h H).get? b = some o :=
 PySem.W.hideAll_get _ e fun hm => by
  have q : (H b).isSome = true := (List.mem_filter.mp hm).2
  rw [n] at q; simp at q
theorem of_hidT {h : Heap} {H : Hp} {b : Addr} {o : Obj} (e : (hidT h H).get? b = some o) : h.get? b = some o ∧ H b = none := by
 have e' : h.get? b = some o := PySem.W.of_hideAll (trk h H) e
 refine ⟨e', ?_⟩
 cases q : H b with
 | none => rfl
 | some x =>
  have hm : b ∈ trk h H := List.mem_filter.mpr ⟨List.mem_range.mpr (Heap.lt_size e'), by simp [q]⟩
  have z : (hidT h H).get? b = none := PySem.W.hideAll_none (trk h H) hm
  rw [z] at e; cases e

noncomputable def allNews (g h : Heap) (L : Addr) : List (Addr × Obj) := (List.range h.objs.size).filterMap fun a => if a = L ∨ (g.get? a).isSome = true then none else (h.get? a).map fun o => (a, o)
noncomputable def rest (g h : Heap) (L d : Addr) : List (Addr × Obj) := (allNews g h L).filter fun p => decide (p.1 ≠ d)
end L2

namespace L2
open PySem PySem.Spec PyProof.Rows

structure Mod (K : PySem.W.Frag) (mg : Str → Option Value) (base : Heap) : Prop where
 kin : K.In base
 glob : base.Ns mainGlobals mg
 blt : ∃ mb, base.Ns builtinsNs mb ∧ ∀ x : Str, x ≠ "__name__" → mb x = bootBuiltins x
 nolimit : base.NoLimit

set_option genInjectivity false in
structure Cx where
 prog : Program
 w : World
 K : PySem.W.Frag
 mg : Str → Option Value
 base : Heap
 A : Around
 N : List Str
 s₀ : Shared
 H₀ : Hp
 env : Env
 outer : List Env
 stack : List Env
 ex : List Addr
 fn : Str → Bool
 calm : Bool
 pn : List (Addr × Obj)
 xe : Value → Shared → Prop
noncomputable def frs (l : List Env) : List Addr := l.filterMap (·.frame)
noncomputable abbrev Cx.fs (X : Cx) : List Addr := frs X.outer

noncomputable def Vis (sc : Scope) (x : Str) : Prop := sc.names.lookup x = some .local ∨ sc.names.lookup x = some .cell ∨ sc.names.lookup x = some .free
noncomputable def Loc (sc : Scope) (x : Str) : Prop := sc.names.lookup x = some .local ∨ sc.names.lookup x = some .cell
noncomputable def Look (env : Env) (h : Heap) (m : Str → Option Value) (x : Str) (u : Value) : Prop :=
 (env.kindOf x = some .local ∧ m x = some u) ∨ ((env.kindOf x = some .cell ∨ env.kindOf x = some .free) ∧ ∃ c, env.cells.lookup x = some c ∧ h.IsCell c (some u))

set_option genInjectivity false in
structure Cx.Ok (X : Cx) : Prop where
 mod : Mod X.K X.mg X.base
 kind : X.env.scope.kind = .function
 glob : X.env.globals = mainGlobals
 blt : X.env.builtins = builtinsNs
 above : X.s₀.heap.objs.size ≤ X.env.locals
 inj : ∀ x y c, X.env.cells.lookup x = some c → X.env.cells.lookup y = some c → x = y
 has : ∀ x, (X.env.kindOf x = some .cell ∨ X.env.kindOf x = some .free) → ∃ c, X.env.cells.lookup x = some c
 cab : ∀ x c, X.fn x = true → X.env.cells.lookup x = some c → X.s₀.heap.objs.size ≤ c
 hd : X.calm = true → X.A.handled = none
 frames : X.A.frames = some X.stack
 stk : X.stack = X.outer ∨ (X.stack = X.env :: X.outer ∧ X.env.frame = some X.env.locals)
 exf : ∀ b ∈ X.ex, b ≠ X.env.locals ∧ ∀ x c, X.env.cells.lookup x = some c → c ≠ b
 bs : ∀ b o, X.base.get? b = some o → X.s₀.heap.get? b = some o ∧ X.H₀ b = none
 bsz : X.base.objs.size ≤ X.s₀.heap.objs.size
 noex : ∀ b o, X.base.get? b = some o → b ∉ X.ex
 exfs : ∀ b ∈ X.ex, b ∉ X.fs
 funs : X.s₀.heap.FunFrames X.base X.outer
 frf : ∀ b ∈ X.fs, X.H₀ b = none

set_option genInjectivity false in
structure Inv (X : Cx) (pins : List (Addr × Obj)) (σ : List (Option V)) (H : Hp) (s : Shared) : Prop where
 ok : X.Ok
 os : s.os = X.s₀.os
 bare : AllBare s.gens
 base : Un X.fs X.ex X.H₀ H X.s₀.heap s.heap
 loc : ∃ m, s.heap.Ns X.env.locals m ∧ ∀ (i : Nat) (x : Str) (v : V), X.N[i]? = some x → σ[i]? = some (some v) → Vis X.env.scope x → ∃ u, RelV v u ∧ Look X.env s.heap m x u
 cell : ∀ x c, X.env.cells.lookup x = some c → ∃ v, s.heap.IsCell c v
 free : H X.env.locals = none
 freeC : ∀ x c, X.env.cells.lookup x = some c → H c = none
 pin : ∀ p ∈ X.pn ++ pins, s.heap.get? p.1 = some p.2 ∧ H p.1 = none ∧ p.1 ≠ X.env.locals ∧ p.1 ∉ X.fs ∧ ∀ v, p.2.data ≠ .cell v
 hok : HOk X.prog X.w H s.heap
 len : σ.length = X.N.length

section
variable {X : Cx} {pins : List (Addr × Obj)} {σ : List (Option V)} {H H' : Hp} {s : Shared} {h' : Heap}

theorem Cx.Ok.nofr (ok : X.Ok) {b : Addr} {o : Obj} (e : X.base.get? b = some o) : b ∉ X.fs := fun hb => by
 have := (ok.funs.mem hb).1
 rw [e] at this; cases this
theorem Inv.bs (I : Inv X pins σ H s) : ∀ b o, X.base.get? b = some o → s.heap.get? b = some o ∧ H b = none := fun b o e =>
 ⟨I.base.keep b o (I.ok.bs b o e).1 (I.ok.bs b o e).2 (I.ok.nofr e) (I.ok.noex b o e), I.base.free b o (I.ok.bs b o e).1 (I.ok.bs b o e).2 (I.ok.noex b o e)⟩
theorem Inv.bk (I : Inv X pins σ H s) : ∀ b o, X.base.get? b = some o → s.heap.get? b = some o := fun b o e => (I.bs b o e).1
theorem Inv.mod (I : Inv X pins σ H s) : Mod X.K X.mg X.base := I.ok.mod
theorem Inv.kIn (I : Inv X pins σ H s) : X.K.In s.heap := I.ok.mod.kin.keeps I.bk
theorem Inv.lt (I : Inv X pins σ H s) : X.env.locals < s.heap.objs.size := let ⟨_, hn, _⟩ := I.loc; hn.lt
theorem Inv.sz (I : Inv X pins σ H s) : X.s₀.heap.objs.size ≤ s.heap.objs.size := Nat.le_trans I.ok.above (Nat.le_of_lt I.lt)
theorem Inv.nofs (I : Inv X pins σ H s) {a : Addr} (h : s.heap.objs.size ≤ a) : a ∉ X.fs := fun hb => by
 obtain ⟨_, o, ho, _⟩ := I.ok.funs.mem hb
 exact absurd (Nat.lt_of_lt_of_le (Heap.lt_size ho) (Nat.le_trans I.sz h)) (Nat.lt_irrefl _)
theorem Inv.cne (I : Inv X pins σ H s) : ∀ x c, X.env.cells.lookup x = some c → c ≠ X.env.locals := fun x c e z => by
 obtain ⟨v, o, ho, hd⟩ := I.cell x c e
 obtain ⟨m, ⟨o', es, ep, ho', hd', _⟩, _⟩ := I.loc
 rw [z, ho'] at ho; cases ho; rw [hd'] at hd; cases hd
theorem Inv.funs (I : Inv X pins σ H s) : s.heap.FunFrames X.base X.outer := by
 have all : ∀ (l : List Env), (∀ b ∈ frs l, b ∈ X.fs) → X.s₀.heap.FunFrames X.base l → s.heap.FunFrames X.base l := by
  intro l
  induction l with
  | nil => intro _ _; trivial
  | cons env r ih =>
   intro hs hl
   obtain ⟨hk, ⟨L, o, hf, hn, ho, hd⟩, hr⟩ := hl
   have hL : L ∈ X.fs := hs L (by unfold frs; rw [List.filterMap_cons, hf]; exact List.mem_cons_self)
   obtain ⟨sl, e⟩ := I.base.slot L o ho (I.ok.frf L hL) hL fun z => I.ok.exfs L z hL
   exact ⟨hk, ⟨L, _, hf, hn, e, hd⟩, ih (fun b hb => hs b (by unfold frs; rw [List.filterMap_cons, hf]; exact List.mem_cons_of_mem _ hb)) hr⟩
 exact all X.outer (fun _ hb => hb) I.ok.funs

theorem Inv.stack (I : Inv X pins σ H s) : s.heap.FunFrames X.base X.stack := by
 rcases I.ok.stk with e | ⟨e, hf⟩
 ·rw [e]; exact I.funs
 ·rw [e]
  obtain ⟨m, hn, _⟩ := I.loc
  refine .cons (by rw [I.ok.kind]; decide) hf hn ?_ I.funs
  exact Heap.get?_none_of_le (Nat.le_trans I.ok.bsz I.ok.above)
theorem Inv.stkSub (I : Inv X pins σ H s) : ∀ b ∈ frs X.stack, b ∈ X.env.locals :: X.fs := fun b hb => by
 rcases I.ok.stk with e | ⟨e, hf⟩
 ·rw [e] at hb; exact List.mem_cons_of_mem _ hb
 ·rw [e] at hb
  unfold frs at hb
  rw [List.filterMap_cons, hf] at hb
  exact hb
theorem Inv.stkFree (I : Inv X pins σ H s) : ∀ b ∈ frs X.stack, H b = none := fun b hb => by
 rcases List.mem_cons.mp (I.stkSub b hb) with e | hb
 ·rw [e]; exact I.free
 ·obtain ⟨_, o, ho, _⟩ := I.ok.funs.mem hb
  exact I.base.free b o ho (I.ok.frf b hb) fun z => I.ok.exfs b z hb

theorem Inv.step {g' : Array GenState} {t' : Nat} {d' : Drawn} {ch : List Addr} (I : Inv X pins σ H s)
  (hch : ∀ b ∈ ch, (b ∈ X.ex ∨ X.s₀.heap.objs.size ≤ b) ∧ b ≠ X.env.locals ∧ (∀ x c, X.env.cells.lookup x = some c → c ≠ b) ∧ ∀ p ∈ X.pn ++ pins, p.1 ≠ b)
  (keep : ∀ b o, b ≠ X.env.locals → b ∉ X.fs → b ∉ ch → s.heap.get? b = some o → H b = none → h'.get? b = some o)
  (slot : ∀ b o, b ≠ X.env.locals → b ∈ X.fs → b ∉ ch → s.heap.get? b = some o → H b = none → ∃ sl, h'.get? b = some { o with slots := sl }) (free : ∀ b o, b ∉ ch → s.heap.get? b = some o → H b = none → H' b = none)
  (there : ∀ b o, b ∉ ch → s.heap.get? b = some o → ∃ o', h'.get? b = some o')
  (tups : ∀ b xs, H b = some (.tup xs) → H' b = some (.tup xs)) (frzs : ∀ b o u, H b = some (.frz o u) → H' b = some (.frz o u)) (tbls : ∀ b ps, H b = some (.tbl ps) → ∃ more, H' b = some (.tbl (ps ++ more)))
  (ns : ∀ m, s.heap.Ns X.env.locals m → h'.Ns X.env.locals m) (hok : HOk X.prog X.w H' h') (hg : AllBare g') :
  Inv X pins σ H' { s with heap := h', gens := g', drawn := d', toks := t' } := by
 have neL : ∀ b o, X.s₀.heap.get? b = some o → b ≠ X.env.locals := fun b o e => Nat.ne_of_lt (Nat.lt_of_lt_of_le (Heap.lt_size e) I.ok.above)
 have neC : ∀ b o, X.s₀.heap.get? b = some o → b ∉ X.ex → b ∉ ch := fun b o e hx hb => by
  rcases (hch b hb).1 with z | z
  ·exact hx z
  ·exact absurd (Nat.lt_of_lt_of_le (Heap.lt_size e) z) (Nat.lt_irrefl _)
 have cellK : ∀ x c, X.env.cells.lookup x = some c → ∀ v, s.heap.IsCell c v → h'.IsCell c v := fun x c e v ⟨o, ho, hd⟩ => by
  have nch : c ∉ ch := fun z => (hch c z).2.2.1 x c e rfl
  by_cases hc : c ∈ X.fs
  ·obtain ⟨sl, q⟩ := slot c o (I.cne x c e) hc nch ho (I.freeC x c e)
   exact ⟨_, q, hd⟩
  ·exact ⟨o, keep c o (I.cne x c e) hc nch ho (I.freeC x c e), hd⟩
 refine ⟨I.ok, I.os, hg, ⟨fun b o e n hb hx => ?_, fun b o e n hb hx => ?_, fun b o e n hx => ?_, fun b o e hx => ?_, fun b xs e => tups b xs (I.base.tups b xs e), fun b o xs e => frzs b o xs (I.base.frzs b o xs e), fun b ps e => ?_⟩, ?_, fun x c e => ?_, ?_, fun x c e => ?_, fun p hp => ?_, hok, I.len⟩
 ·exact keep b o (neL b o e) hb (neC b o e hx) (I.base.keep b o e n hb hx) (I.base.free b o e n hx)
 ·obtain ⟨sl, e1⟩ := I.base.slot b o e n hb hx
  obtain ⟨sl', e2⟩ := slot b _ (neL b o e) hb (neC b o e hx) e1 (I.base.free b o e n hx)
  exact ⟨sl', e2⟩
 ·obtain ⟨o', e1⟩ := I.base.there b o e hx
  exact free b o' (neC b o e hx) e1 (I.base.free b o e n hx)
 ·obtain ⟨o', e1⟩ := I.base.there b o e hx
  exact there b o' (neC b o e hx) e1
 ·obtain ⟨m1, e1⟩ := I.base.tbls b ps e
  obtain ⟨m2, e2⟩ := tbls b _ e1
  exact ⟨m1 ++ m2, by rw [e2, Array.append_assoc]⟩
 ·obtain ⟨m, hn, hl⟩ := I.loc
  refine ⟨m, ns m hn, fun i x v e1 e2 e3 => ?_⟩
  obtain ⟨u, r, l⟩ := hl i x v e1 e2 e3
  refine ⟨u, r, ?_⟩
  rcases l with l | ⟨k, c, e, z⟩
  ·exact .inl l
  ·exact .inr ⟨k, c, e, cellK x c e _ z⟩
 ·obtain ⟨v, z⟩ := I.cell x c e
  exact ⟨v, cellK x c e v z⟩
 ·obtain ⟨m, ⟨o, _, _, ho, _⟩, _⟩ := I.loc
  exact free _ o (fun z => (hch _ z).2.1 rfl) ho I.free
 ·obtain ⟨v, o, ho, hd⟩ := I.cell x c e
  exact free c o (fun z => (hch c z).2.2.1 x c e rfl) ho (I.freeC x c e)
 ·obtain ⟨e, n, ne, nf, d⟩ := I.pin p hp
  have nch : p.1 ∉ ch := fun z => (hch p.1 z).2.2.2 p hp rfl
  exact ⟨keep p.1 p.2 ne nf nch e n, free p.1 p.2 nch e n, ne, nf, d⟩
theorem Inv.un {t' : Nat} (I : Inv X pins σ H s) (u : Un X.fs [] H H' s.heap h') (hok : HOk X.prog X.w H' h') : Inv X pins σ H' { s with heap := h', toks := t' } := by
 obtain ⟨m, ⟨o, es, ep, ho, r⟩, _⟩ := id I.loc
 obtain ⟨sl, hL⟩ := u.any ho I.free (by simp)
 exact I.step (g' := s.gens) (d' := s.drawn) (ch := []) (fun _ z => nomatch z) (fun b o _ hb _ e n => u.keep b o e n hb (by simp)) (fun b o _ hb _ e n => u.slot b o e n hb (by simp)) (fun b o _ e n => u.free b o e n (by simp)) (fun b o _ e => u.there b o e (by simp)) u.tups u.frzs u.tbls (fun m' hm => by
  obtain ⟨o', es', ep', ho', r'⟩ := hm
  rw [ho] at ho'; cases ho'
  exact ⟨_, es', ep', hL, r'⟩) hok I.bare
theorem Inv.call {g' : Array GenState} {t' : Nat} {d' : Drawn} {ch : List Addr} (I : Inv X pins σ H s) (u : Un (frs X.stack) ch H H' s.heap h') (hok : HOk X.prog X.w H' h') (hg : AllBare g')
  (hch : ∀ b ∈ ch, (b ∈ X.ex ∨ X.s₀.heap.objs.size ≤ b) ∧ b ≠ X.env.locals ∧ (∀ x c, X.env.cells.lookup x = some c → c ≠ b) ∧ ∀ p ∈ X.pn ++ pins, p.1 ≠ b) :
  Inv X pins σ H' { s with heap := h', gens := g', drawn := d', toks := t' } := by
 obtain ⟨m, ⟨o, es, ep, ho, r⟩, _⟩ := id I.loc
 obtain ⟨sl, hL⟩ := u.any ho I.free fun z => (hch _ z).2.1 rfl
 exact I.step (ch := ch) hch (fun b o hL hb hc e n => u.keep b o e n (fun z => (List.mem_cons.mp (I.stkSub b z)).elim hL hb) hc) (fun b o _ _ hc e n => u.any e n hc) (fun b o hc e n => u.free b o e n hc) (fun b o hc e => u.there b o e hc) u.tups u.frzs u.tbls (fun m' hm => by
  obtain ⟨o', es', ep', ho', r'⟩ := hm
  rw [ho] at ho'; cases ho'
  exact ⟨_, es', ep', hL, r'⟩) hok hg
theorem Inv.turned {t' : Nat} {it : Addr} (I : Inv X pins σ H s) (k : ∀ b o, b ≠ it → s.heap.get? b = some o → h'.get? b = some o) (hn : H it = none) (hL : it ≠ X.env.locals)
  (h1 : it ∈ X.ex ∨ X.s₀.heap.objs.size ≤ it) (h2 : ∀ x c, X.env.cells.lookup x = some c → c ≠ it) (h3 : ∀ p ∈ X.pn ++ pins, p.1 ≠ it) : Inv X pins σ H { s with heap := h', toks := t' } := by
 have nit : ∀ b u, H b = some u → b ≠ it := fun b u e z => by rw [z, hn] at e; cases e
 refine I.step (g' := s.gens) (d' := s.drawn) (ch := [it]) (fun b hb => ?_) (fun b o _ _ hc e _ => k b o (fun z => hc (by simp [z])) e) (fun b o _ _ hc e _ => ⟨o.slots, k b o (fun z => hc (by simp [z])) e⟩) (fun _ _ _ _ n => n)
  (fun b o hc e => ⟨o, k b o (fun z => hc (by simp [z])) e⟩) (fun _ _ e => e) (fun _ _ _ e => e) (fun b ps e => ⟨#[], by rw [e]; simp⟩) (fun m hm => ?_) (fun b u e => ?_) I.bare
 ·have e : b = it := by simpa using hb
  subst e
  exact ⟨h1, hL, h2, h3⟩
 ·obtain ⟨o, es, ep, ho, r⟩ := hm
  exact ⟨o, es, ep, k _ o (Ne.symm hL) ho, r⟩
 ·refine (I.hok b u e).stay (fun c v hc q => k c v ?_ q) (fun _ q => q) fun _ _ q => q
  rcases hc with z | z
  ·rw [z]; exact nit b u e
  ·exact nit c _ z
theorem Inv.tok (I : Inv X pins σ H s) (t : Nat) : Inv X pins σ H { s with toks := t } := I.un (h' := s.heap) (t' := t) Un.refl I.hok
theorem Inv.kept {t' : Nat} (I : Inv X pins σ H s) (k : ∀ b u, s.heap.get? b = some u → h'.get? b = some u) : Inv X pins σ H { s with heap := h', toks := t' } := I.un (Un.kept k) (I.hok.kept k)
theorem Inv.laid {a : Addr} {o : HO} {t' : Nat} (I : Inv X pins σ H s) (k : ∀ b u, s.heap.get? b = some u → h'.get? b = some u) (hp : s.heap.objs.size ≤ a) (new : ObjOk X.prog X.w (upd H a o) h' a o) :
  Inv X pins σ (upd H a o) { s with heap := h', toks := t' } := I.un (Un.laid k hp (I.hok.fresh hp)) (I.hok.laid k hp new)
theorem Inv.write {x e : Addr} {o : HO} {t' : Nat} (I : Inv X pins σ H s) (mu : Mut (H x)) (he : e = x ∨ H e = some (.own x)) (k : ∀ b u, b ≠ e → s.heap.get? b = some u → h'.get? b = some u) (heo : ∃ u, h'.get? e = some u)
  (new : ObjOk X.prog X.w (upd H x o) h' x o) : Inv X pins σ (upd H x o) { s with heap := h', toks := t' } := I.un (Un.write mu he k heo) (I.hok.write mu he k heo new)
theorem Inv.pins_of {pins' : List (Addr × Obj)} (I : Inv X pins σ H s) (h : ∀ p ∈ pins', s.heap.get? p.1 = some p.2 ∧ H p.1 = none ∧ p.1 ≠ X.env.locals ∧ p.1 ∉ X.fs ∧ ∀ v, p.2.data ≠ .cell v) : Inv X pins' σ H s :=
 ⟨I.ok, I.os, I.bare, I.base, I.loc, I.cell, I.free, I.freeC, fun p hp => (List.mem_append.mp hp).elim (fun z => I.pin p (List.mem_append_left _ z)) (h p), I.hok, I.len⟩

theorem nodup_ix {N : List Str} (hN : N.Nodup) {i j : Nat} {x : Str} (a : N[i]? = some x) (b : N[j]? = some x) : i = j := by
 obtain ⟨h1, e1⟩ := List.getElem?_eq_some_iff.mp a
 obtain ⟨h2, e2⟩ := List.getElem?_eq_some_iff.mp b
 exact (List.getElem_inj hN).mp (e1.trans e2.symm)

theorem store_ok2 {M : Model} {A : Around} {E : Value → Shared → Prop} {i : Nat} {x : Str} {v : V} {u : Value} {Q : Unit → Shared → Prop} (I : Inv X pins σ H s) (hN : X.N.Nodup) (hi : X.N[i]? = some x) (hx : Loc X.env.scope x) (r : RelV v u)
  (h : ∀ s', Inv X pins (σ.set i (some v)) H s' → (∃ a, Heap.SameBut a s.heap s'.heap ∧ (a = X.env.locals ∨ X.env.cells.lookup x = some a)) → Q () s') (hf : X.fn x = true ∨ X.env.scope.names.lookup x = some .local := by first | exact .inl rfl | exact .inr rfl | assumption) : wpAny M A (storeName X.env x u) Q E s := by
 obtain ⟨m, hn, hl⟩ := id I.loc
 have hcls : (X.env.scope.kind == .class || (X.env.scope.kind == .module && X.env.locals != X.env.globals)) = false := by rw [I.ok.kind]; rfl
 have hiσ : i < σ.length := by rw [I.len]; exact (List.getElem?_eq_some_iff.mp hi).1
 have cne := I.cne
 have tracked : ∀ {a : Addr} {h' : Heap}, (∃ o, s.heap.get? a = some o ∧ H a = none) → Heap.SameBut a s.heap h' → HOk X.prog X.w H h' := fun {a h'} ha hs b ob e => by
  obtain ⟨_, _, hfree⟩ := ha
  refine (I.hok b ob e).stay (fun c w' hc q => (hs.2 c ?_).trans q) (fun _ q => q) fun _ _ q => q
  rintro rfl
  rcases hc with rfl | hc
  ·rw [hfree] at e; cases e
  ·rw [hfree] at hc; cases hc
 rcases hx with hk | hk
 ·refine wpAny_storeName_local hk hn (fun h' hn' hs => ?_) hcls
  obtain ⟨oL, _, _, hoL, _⟩ := id hn
  refine h _ ⟨I.ok, I.os, I.bare, ⟨fun b o e n hb hx => ?_, fun b o e n hb hx => ?_, I.base.free, fun b o e hx => ?_, I.base.tups, I.base.frzs, I.base.tbls⟩, ⟨_, hn', fun j y v' e1 e2 e3 => ?_⟩, fun y c e => ?_, I.free, I.freeC, fun p hp => ?_, tracked ⟨oL, hoL, I.free⟩ hs, by simpa using I.len⟩ ⟨_, hs, .inl rfl⟩
  ·exact (hs.2 b (Nat.ne_of_lt (Nat.lt_of_lt_of_le (Heap.lt_size e) I.ok.above))).trans (I.base.keep b o e n hb hx)
  ·obtain ⟨sl, e1⟩ := I.base.slot b o e n hb hx
   exact ⟨sl, (hs.2 b (Nat.ne_of_lt (Nat.lt_of_lt_of_le (Heap.lt_size e) I.ok.above))).trans e1⟩
  ·obtain ⟨o', e1⟩ := I.base.there b o e hx
   exact ⟨o', (hs.2 b (Nat.ne_of_lt (Nat.lt_of_lt_of_le (Heap.lt_size e) I.ok.above))).trans e1⟩
  ·by_cases hj : j = i
   ·subst hj
    rw [hi] at e1; cases e1
    rw [List.getElem?_set_self hiσ] at e2
    cases e2
    exact ⟨u, r, .inl ⟨hk, by simp⟩⟩
   ·rw [List.getElem?_set_ne (Ne.symm hj)] at e2
    obtain ⟨u', r', q⟩ := hl j y v' e1 e2 e3
    refine ⟨u', r', ?_⟩
    rcases q with ⟨k, e⟩ | ⟨k, c, e, z⟩
    ·refine .inl ⟨k, ?_⟩
     have : y ≠ x := fun e => hj (nodup_ix hN e1 (e ▸ hi))
     simp [this, e]
    ·exact .inr ⟨k, c, e, z.sameBut hs (cne y c e)⟩
  ·obtain ⟨w', z⟩ := I.cell y c e
   exact ⟨w', z.sameBut hs (cne y c e)⟩
  ·obtain ⟨e, n, ne, nf, d⟩ := I.pin p hp
   exact ⟨(hs.2 p.1 ne).trans e, n, ne, nf, d⟩
 ·have hfn : X.fn x = true := by
   rcases hf with z | z
   ·exact z
   ·rw [z] at hk; cases hk
  obtain ⟨c, hc⟩ := I.ok.has x (.inl hk)
  obtain ⟨w', z⟩ := I.cell x c hc
  refine wpAny_storeName_cell I.ok.kind hk hc z (fun h' hc' hs => ?_)
  obtain ⟨oc, hoc, hocd⟩ := id z
  refine h { s with heap := h' } ⟨I.ok, I.os, I.bare, ⟨fun b o e n hb hx => ?_, fun b o e n hb hx => ?_, I.base.free, fun b o e hx => ?_, I.base.tups, I.base.frzs, I.base.tbls⟩, ⟨m, hn.sameBut hs (Ne.symm (cne x c hc)), fun j y v' e1 e2 e3 => ?_⟩, fun y c' e => ?_, I.free, I.freeC, fun p hp => ?_, tracked ⟨oc, hoc, I.freeC x c hc⟩ hs, by simpa using I.len⟩ ⟨c, hs, .inr hc⟩
  ·exact (hs.2 b (Nat.ne_of_lt (Nat.lt_of_lt_of_le (Heap.lt_size e) (I.ok.cab x c hfn hc)))).trans (I.base.keep b o e n hb hx)
  ·obtain ⟨sl, e1⟩ := I.base.slot b o e n hb hx
   exact ⟨sl, (hs.2 b (Nat.ne_of_lt (Nat.lt_of_lt_of_le (Heap.lt_size e) (I.ok.cab x c hfn hc)))).trans e1⟩
  ·obtain ⟨o', e1⟩ := I.base.there b o e hx
   exact ⟨o', (hs.2 b (Nat.ne_of_lt (Nat.lt_of_lt_of_le (Heap.lt_size e) (I.ok.cab x c hfn hc)))).trans e1⟩
  ·by_cases hj : j = i
   ·subst hj
    rw [hi] at e1; cases e1
    rw [List.getElem?_set_self hiσ] at e2
    cases e2
    exact ⟨u, r, .inr ⟨.inl hk, c, hc, hc'⟩⟩
   ·rw [List.getElem?_set_ne (Ne.symm hj)] at e2
    obtain ⟨u', r', q⟩ := hl j y v' e1 e2 e3
    refine ⟨u', r', ?_⟩
    rcases q with q | ⟨k, c', e, z'⟩
    ·exact .inl q
    ·refine .inr ⟨k, c', e, z'.sameBut hs ?_⟩
     rintro rfl
     exact hj (nodup_ix hN e1 (I.ok.inj _ _ _ e hc ▸ hi))
  ·by_cases hcc : c' = c
   ·subst hcc; exact ⟨_, hc'⟩
   ·obtain ⟨w2, z2⟩ := I.cell y c' e
    exact ⟨w2, z2.sameBut hs hcc⟩
  ·obtain ⟨e, n, ne, nf, d⟩ := I.pin p hp
   refine ⟨(hs.2 p.1 ?_).trans e, n, ne, nf, d⟩
   intro q
   rw [q, hoc] at e
   have q' : oc = p.2 := Option.some.inj e
   exact d w' (by rw [← q']; exact hocd)
theorem store_ok {M : Model} {A : Around} {E : Value → Shared → Prop} {i : Nat} {x : Str} {v : V} {u : Value} {Q : Unit → Shared → Prop} (I : Inv X pins σ H s) (hN : X.N.Nodup) (hi : X.N[i]? = some x) (hx : Loc X.env.scope x) (r : RelV v u)
  (h : ∀ s', Inv X pins (σ.set i (some v)) H s' → Q () s') (hf : X.fn x = true ∨ X.env.scope.names.lookup x = some .local := by first | exact .inl rfl | exact .inr rfl | assumption) : wpAny M A (storeName X.env x u) Q E s :=
 store_ok2 I hN hi hx r (fun s' I' _ => h s' I') hf
theorem Inv.call' {s' : Shared} {ch : List Addr} (I : Inv X pins σ H s) (ho : s'.os = s.os) (u : Un (frs X.stack) ch H H' s.heap s'.heap) (hok : HOk X.prog X.w H' s'.heap) (hg : AllBare s'.gens)
  (hch : ∀ b ∈ ch, (b ∈ X.ex ∨ X.s₀.heap.objs.size ≤ b) ∧ b ≠ X.env.locals ∧ (∀ x c, X.env.cells.lookup x = some c → c ≠ b) ∧ ∀ p ∈ X.pn ++ pins, p.1 ≠ b) : Inv X pins σ H' s' := by
 obtain ⟨h', g', d', t', o'⟩ := s'
 have e : o' = s.os := ho
 subst e
 exact I.call (g' := g') (t' := t') (d' := d') u hok hg hch
end

noncomputable abbrev XK := Value → Option Addr → Hp → Prop
noncomputable abbrev St := List (Option V)
noncomputable abbrev VK := V → Hp → Prop
noncomputable abbrev TE := St → Hp → VK → Prop
noncomputable abbrev TT := St → Hp → (Bool → Hp → Prop) → Prop
noncomputable abbrev TA := St → Hp → (List V → Hp → Prop) → Prop
set_option genInjectivity false in
structure Ends where
 nx : St → Hp → Prop
 rt : VK
 bk : St → Hp → Prop := fun _ _ => False
 ct : St → Hp → Prop := fun _ _ => False
noncomputable abbrev TS := Ends → St → Hp → Prop

noncomputable def EP (X : Cx) (pins : List (Addr × Obj)) (σ : St) (Q : VK) (u : Value) (s' : Shared) : Prop := ∃ v H', Inv X pins σ H' s' ∧ RelV v u ∧ Q v H'
noncomputable def TP (X : Cx) (pins : List (Addr × Obj)) (σ : St) (Q : Bool → Hp → Prop) (b : Bool) (s' : Shared) : Prop := ∃ H', Inv X pins σ H' s' ∧ Q b H'
noncomputable def AP (X : Cx) (pins : List (Addr × Obj)) (σ : St) (Q : List V → Hp → Prop) (us : List Value) (s' : Shared) : Prop := ∃ vs H', Inv X pins σ H' s' ∧ Vals vs us ∧ Q vs H'
noncomputable def SP (X : Cx) (pins : List (Addr × Obj)) (D : Ends) (f : Flow) (s' : Shared) : Prop :=
 match f with
 | .next => ∃ σ' H', Inv X pins σ' H' s' ∧ D.nx σ' H'
 | .brk => ∃ σ' H', Inv X pins σ' H' s' ∧ D.bk σ' H'
 | .cont => ∃ σ' H', Inv X pins σ' H' s' ∧ D.ct σ' H'
 | .ret u => ∃ v σ' H', Inv X pins σ' H' s' ∧ RelV v u ∧ D.rt v H'

noncomputable def PE (X : Cx) (e : Expr) (t : TE) : Prop :=
 ∀ (pins : List (Addr × Obj)) (s : Shared) (σ : St) (H : Hp) (Q : VK), Inv X pins σ H s → t σ H Q → wpAny (model X.prog X.w) X.A (eval e X.env) (EP X pins σ Q) X.xe s
noncomputable def PT (X : Cx) (e : Expr) (t : TT) : Prop :=
 ∀ (pins : List (Addr × Obj)) (s : Shared) (σ : St) (H : Hp) (Q : Bool → Hp → Prop), Inv X pins σ H s → t σ H Q → wpAny (model X.prog X.w) X.A (isTrue e X.env (eval e X.env)) (TP X pins σ Q) X.xe s
noncomputable def PW (X : Cx) (e : Expr) (t : TT) : Prop :=
 ∀ (whole : Sem Value) (pins : List (Addr × Obj)) (s : Shared) (σ : St) (H : Hp) (Q : Bool → Hp → Prop), Inv X pins σ H s → t σ H Q → wpAny (model X.prog X.w) X.A (isTrue e X.env whole) (TP X pins σ Q) X.xe s
theorem PW.pt {X : Cx} {e : Expr} {t : TT} (h : PW X e t) : PT X e t := h _
noncomputable def PA (X : Cx) (es : List Expr) (t : TA) : Prop :=
 ∀ (pos : Pos) (pins : List (Addr × Obj)) (s : Shared) (σ : St) (H : Hp) (Q : List V → Hp → Prop), Inv X pins σ H s → t σ H Q → wpAny (model X.prog X.w) X.A (spliced (backTo pos (starEach es X.env))) (AP X pins σ Q) X.xe s
noncomputable def PS (X : Cx) (st : Stmt) (t : TS) : Prop :=
 ∀ (pins : List (Addr × Obj)) (s : Shared) (σ : St) (H : Hp) (D : Ends), Inv X pins σ H s → t D σ H → wpAny (model X.prog X.w) X.A (exec st X.env) (SP X pins D) X.xe s
noncomputable def PSs (X : Cx) (st : List Stmt) (t : TS) : Prop :=
 ∀ (pins : List (Addr × Obj)) (s : Shared) (σ : St) (H : Hp) (D : Ends), Inv X pins σ H s → t D σ H → wpAny (model X.prog X.w) X.A (execs st X.env) (SP X pins D) X.xe s
theorem thn {α : Type} {t : Sem α} {Q Q' : α → Shared → Prop} {M : Model} {A : Around} {E : Value → Shared → Prop} {s : Shared} (h : wpAny M A t Q E s) (hQ : ∀ a s, Q a s → Q' a s) : wpAny M A t Q' E s := wpAny_mono h hQ fun _ _ x => x
end L2

namespace L2
open PySem PySem.Spec PyProof.Rows
section
variable {X : Cx}

noncomputable def tVar (i : Nat) : TE := fun σ H Q => ∃ v, σ[i]? = some (some v) ∧ Q v H
noncomputable def tC (v : V) : TE := fun _ H Q => Q v H
theorem pe_var {i : Nat} {x : Str} {pos : Pos} (hN : X.N[i]? = some x) (hv : Vis X.env.scope x) (hd : (x == ("__debug__" : Str)) = false := by decide) (hcd : (x == ("__classdict__" : Str)) = false := by decide) : PE X (.Name x pos) (tVar i) := by
 intro pins s σ H Q I h
 obtain ⟨v, e, h⟩ := h
 obtain ⟨m, hn, hl⟩ := I.loc
 obtain ⟨u, r, l⟩ := hl i x v hN e hv
 have fin : EP X pins σ Q u s := ⟨v, H, I, r, h⟩
 rcases l with ⟨hk, hm⟩ | ⟨hk, c, hc, hcell⟩
 ·exact wpAny_Name (wpAny_loadName_local I.ok.kind hk hn hm fin) hd
 ·rcases hk with hk | hk
  ·exact wpAny_Name (wpAny_loadName_cell I.ok.kind hk hc hcell fin) hd
  ·exact wpAny_Name (wpAny_loadName_free I.ok.kind hk hc hcell fin hcd) hd
theorem pe_int {i j pos} : PE X (.Constant (.int i) j pos) (tC (.int i)) := fun _ _ _ H _ I h => wpAny_Constant_int ⟨.int i, H, I.tok _, ⟨_, rfl⟩, h⟩
theorem pe_bl {b j pos} : PE X (.Constant (.bool b) j pos) (tC (.bl b)) := fun _ _ _ H _ I h => Constant_bool ⟨.bl b, H, I, rfl, h⟩
theorem pe_non {j pos} : PE X (.Constant .none j pos) (tC .non) := fun _ _ _ H _ I h => Constant_none ⟨.non, H, I, rfl, h⟩
theorem pe_str {x j pos} : PE X (.Constant (.str x) j pos) (tC (.str x)) := fun _ _ _ H _ I h => Calls.Constant_str ⟨.str x, H, I.tok _, ⟨_, rfl⟩, h⟩

noncomputable def Gl (X : Cx) (x : Str) : Prop := X.env.kindOf x = some .globalImplicit
theorem ld_glob {E : Value → Shared → Prop} {pins : List (Addr × Obj)} {s : Shared} {σ : St} {H : Hp} {x : Str} {u : Value} {pos : Pos} {Q : Value → Shared → Prop} (I : Inv X pins σ H s) (hg : Gl X x) (hm : X.mg x = some u) (h : Q u s)
  (hd : (x == ("__debug__" : Str)) = false := by decide) : wpAny (model X.prog X.w) X.A (eval (.Name x pos) X.env) Q E s :=
 Calls.Name_function_global I.ok.kind hg (Calls.loadGlobal_global (by rw [I.ok.glob]; exact I.mod.glob.keeps I.bk) hm h) hd
theorem ld_blt {E : Value → Shared → Prop} {pins : List (Addr × Obj)} {s : Shared} {σ : St} {H : Hp} {x : Str} {u : Value} {pos : Pos} {Q : Value → Shared → Prop} (I : Inv X pins σ H s) (hg : Gl X x) (hm : X.mg x = none) (hv : bootBuiltins x = some u) (h : Q u s)
  (hn : x ≠ "__name__" := by decide) (hd : (x == ("__debug__" : Str)) = false := by decide) : wpAny (model X.prog X.w) X.A (eval (.Name x pos) X.env) Q E s := by
 obtain ⟨mb, h1, h2⟩ := I.mod.blt
 exact Calls.Name_function_global I.ok.kind hg (Calls.loadGlobal_builtin (by rw [I.ok.glob]; exact I.mod.glob.keeps I.bk) hm (by rw [I.ok.blt]; exact h1.keeps I.bk) ((h2 x hn).trans hv) h) hd
theorem pe_glob {x : Str} {v : V} {u : Value} {pos : Pos} (hg : Gl X x) (hm : X.mg x = some u) (r : RelV v u) (hd : (x == ("__debug__" : Str)) = false := by decide) : PE X (.Name x pos) (tC v) :=
 fun _ _ _ H _ I h => ld_glob I hg hm ⟨v, H, I, r, h⟩ hd
theorem pe_bltn {x : Str} {v : V} {u : Value} {pos : Pos} (hg : Gl X x) (hm : X.mg x = none) (hv : bootBuiltins x = some u) (r : RelV v u) (hn : x ≠ "__name__" := by decide) (hd : (x == ("__debug__" : Str)) = false := by decide) : PE X (.Name x pos) (tC v) :=
 fun _ _ _ H _ I h => ld_blt I hg hm hv ⟨v, H, I, r, h⟩ hn hd

variable {a b : Expr} {ta tb : TE} {pos : Pos}
noncomputable def tB (t : TE) : TT := fun σ H Q => t σ H fun x H1 => ∃ c, x = .bl c ∧ Q c H1
theorem pt_val {e : Expr} {t : TE} (h : PE X e t) (he : ∀ whole, isTrue e X.env whole = (do let v ← whole; standAt e.pos; holding [v] (truthy v)) := by intro _; rfl) : PT X e (tB t) := by
 intro pins s σ H Q I hw
 refine isTrue_plain (thn (h pins s σ H _ I hw) fun v s1 ⟨x, H1, I1, r1, q1⟩ => ?_) (he _)
 obtain ⟨d, rfl, q⟩ := q1
 cases r1
 exact wpAny_truthy_bool ⟨H1, I1, q⟩

variable {tA tB' : TT} {rest : List Expr}
noncomputable def tAnd (t u : TT) : TT := fun σ H Q => t σ H fun c H1 => if c = true then u σ H1 Q else Q false H1
noncomputable def tOr (t u : TT) : TT := fun σ H Q => t σ H fun c H1 => if c = true then Q true H1 else u σ H1 Q
noncomputable def tNot (t : TT) : TT := fun σ H Q => t σ H fun c H1 => Q (!c) H1
theorem pw_and1 (ha : PT X a tA) : PW X (.BoolOp .And [a] pos) tA := by
 intro wh pins s σ H Q I h
 refine isTrue_and (thn (ha pins s σ H Q I h) fun c s1 e => ?_)
 cases c with
 | true => exact isTrue_and_nil e
 | false => exact e
theorem pw_or1 (ha : PT X a tA) : PW X (.BoolOp .Or [a] pos) tA := by
 intro wh pins s σ H Q I h
 refine isTrue_or (thn (ha pins s σ H Q I h) fun c s1 e => ?_)
 cases c with
 | false => exact isTrue_or_nil e
 | true => exact e
theorem pw_and (ha : PT X a tA) (hb : PW X (.BoolOp .And (b :: rest) pos) tB') : PW X (.BoolOp .And (a :: b :: rest) pos) (tAnd tA tB') := by
 intro wh pins s σ H Q I h
 refine isTrue_and (thn (ha pins s σ H _ I h) fun c s1 ⟨H1, I1, q1⟩ => ?_)
 cases c with
 | true => exact hb wh pins s1 σ H1 Q I1 q1
 | false => exact ⟨H1, I1, q1⟩
theorem pw_or (ha : PT X a tA) (hb : PW X (.BoolOp .Or (b :: rest) pos) tB') : PW X (.BoolOp .Or (a :: b :: rest) pos) (tOr tA tB') := by
 intro wh pins s σ H Q I h
 refine isTrue_or (thn (ha pins s σ H _ I h) fun c s1 ⟨H1, I1, q1⟩ => ?_)
 cases c with
 | true => exact ⟨H1, I1, q1⟩
 | false => exact hb wh pins s1 σ H1 Q I1 q1
theorem pt_not (ha : PT X a tA) : PT X (.UnaryOp .Not a pos) (tNot tA) := by
 intro pins s σ H Q I h
 exact isTrue_not (ha pins s σ H (fun c H1 => Q (!c) H1) I h)
noncomputable def tAndV (ta tb : TE) : TE := fun σ H Q => ta σ H fun x H1 => ∃ c, x = .bl c ∧ if c = true then tb σ H1 Q else Q (.bl false) H1
noncomputable def tNotV (ta : TE) : TE := fun σ H Q => ta σ H fun x H1 => ∃ c, x = .bl c ∧ Q (.bl (!c)) H1
theorem pe_one {op} {t : TE} (h : PE X a t) : PE X (.BoolOp op [a] pos) t := fun pins s σ H Q I hw => BoolOp_one (h pins s σ H Q I hw)
theorem pe_and (ha : PE X a ta) (hb : PE X (.BoolOp .And (b :: rest) pos) tb) : PE X (.BoolOp .And (a :: b :: rest) pos) (tAndV ta tb) := by
 intro pins s σ H Q I h
 refine BoolOp_and (thn (ha pins s σ H _ I h) fun v s1 ⟨x, H1, I1, r1, q1⟩ => ?_)
 obtain ⟨c, rfl, q1⟩ := q1
 cases r1
 refine wpAny_truthy_bool ?_
 cases c with
 | true => exact hb pins s1 σ H1 Q I1 q1
 | false => exact ⟨.bl false, H1, I1, rfl, q1⟩
theorem pe_not (ha : PE X a ta) : PE X (.UnaryOp .Not a pos) (tNotV ta) := by
 intro pins s σ H Q I h
 refine UnaryOp_ (thn (ha pins s σ H _ I h) fun v s1 ⟨x, H1, I1, r1, q1⟩ => ?_)
 obtain ⟨c, rfl, q1⟩ := q1
 cases r1
 exact not_of (wpAny_truthy_bool ⟨.bl (!c), H1, I1, rfl, q1⟩)
noncomputable def tIf (t : TT) (ta tb : TE) : TE := fun σ H Q => t σ H fun c H1 => if c = true then ta σ H1 Q else tb σ H1 Q
theorem pe_ifExp {c : Expr} (hc : PT X c tA) (ha : PE X a ta) (hb : PE X b tb) : PE X (.IfExp c a b pos) (tIf tA ta tb) := by
 intro pins s σ H Q I h
 refine wpAny_IfExp (thn (hc pins s σ H _ I h) fun d s1 ⟨H1, I1, q1⟩ => ?_)
 cases d with
 | true => exact ha pins s1 σ H1 Q I1 q1
 | false => exact hb pins s1 σ H1 Q I1 q1
end
end L2

namespace L2
open PySem PySem.Spec PyProof.Rows

noncomputable def SqL (K : PySem.W.Frag) (H : Hp) (a : Addr) (xs : List V) : Prop :=
 Rd H a (.lst xs) ∨
  ∃ (o : Obj) (its : Array Value) (n : Nat), K.lookup a = some o ∧ o.cls = .type "list" ∧ o.dict = none ∧ o.data = .seq its n ∧ its.size ≤ sizeLine ∧ Vals xs its.toList
noncomputable def SqT (K : PySem.W.Frag) (H : Hp) (a : Addr) (xs : List V) : Prop :=
 Rd H a (.tup xs) ∨
  ∃ (o : Obj) (its : Array Value) (n : Nat), K.lookup a = some o ∧ o.cls = .type "tuple" ∧ o.data = .seq its n ∧ its.size ≤ sizeLine ∧ Vals xs its.toList
noncomputable def absV : Value → Option V
 | .none => some .non
 | .bool b => some (.bl b)
 | .int i _ => some (.int i)
 | .str x _ => some (.str x)
 | .bytes b _ => some (.byt b)
 | .float b _ => some (.flt b)
 | .ref a => some (.ref a)
 | .type n => some (.ty n)
 | _ => none
theorem RelV.abs {x : V} {u : Value} (r : RelV x u) : absV u = some x := by
 cases x with
 | non => cases r; rfl
 | bl _ => cases r; rfl
 | int _ => obtain ⟨t, rfl⟩ := r; rfl
 | str _ => obtain ⟨t, rfl⟩ := r; rfl
 | byt _ => obtain ⟨t, rfl⟩ := r; rfl
 | flt _ => obtain ⟨t, rfl⟩ := r; rfl
 | ref _ => cases r; rfl
 | ty _ => cases r; rfl
theorem RelV.inj {x y : V} {u : Value} (r : RelV x u) (q : RelV y u) : x = y := Option.some.inj (r.abs.symm.trans q.abs)
theorem Vals.inj : ∀ {xs ys : List V} {us : List Value}, Vals xs us → Vals ys us → xs = ys
 | _, _, _, .nil, .nil => rfl
 | _, _, _, .cons r t, .cons r' t' => by rw [r.inj r', Vals.inj t t']
section
variable {X : Cx} {pins : List (Addr × Obj)} {σ : St} {H : Hp} {s : Shared} {a : Addr} {xs ys : List V}
theorem SqL.of {K : PySem.W.Frag} (h : H a = some (.lst xs)) : SqL K H a xs := .inl (.inl h)
theorem SqT.of {K : PySem.W.Frag} (h : H a = some (.tup xs)) : SqT K H a xs := .inl (.inl h)
theorem Inv.list (I : Inv X pins σ H s) (h : SqL X.K H a xs) : ∃ its : List Value, Vals xs its ∧ PlainL s.heap a its.toArray ∧ xs.length ≤ sizeLine := by
 rcases h with h | ⟨o, its, n, hk, hc, hd, hs, hz, r⟩
 ·obtain ⟨z, its, n, r, e⟩ := h.ok I.hok
  exact ⟨its, r, ⟨_, n, e, rfl, rfl, rfl⟩, z⟩
 ·refine ⟨its.toList, r, ⟨o, n, I.kIn a o hk, hc, hd, by simpa using hs⟩, ?_⟩
  have e := r.length
  simp only [Array.length_toList] at e
  omega
theorem Inv.tuple (I : Inv X pins σ H s) (h : SqT X.K H a xs) : ∃ its : List Value, Vals xs its ∧ IsTup s.heap a its.toArray ∧ xs.length ≤ sizeLine := by
 rcases h with h | ⟨o, its, n, hk, hc, hs, hz, r⟩
 ·obtain ⟨z, its, r, p⟩ := h.ok I.hok
  exact ⟨its, r, p, z⟩
 ·refine ⟨its.toList, r, ⟨o, I.kIn a o hk, hc, n, by simpa using hs⟩, ?_⟩
  have e := r.length
  simp only [Array.length_toList] at e
  omega
theorem Inv.list_inj (I : Inv X pins σ H s) (h : SqL X.K H a xs) (h' : SqL X.K H a ys) : xs = ys := by
 obtain ⟨its, r, ⟨o, n, e, _, _, d⟩, _⟩ := I.list h
 obtain ⟨its', r', ⟨o', n', e', _, _, d'⟩, _⟩ := I.list h'
 rw [e] at e'; cases e'
 rw [d] at d'
 injection d' with d1 _
 have : its = its' := by simpa using congrArg Array.toList d1
 subst this
 exact r.inj r'
end

noncomputable abbrev Cx.wish (X : Cx) (E : Value → Shared → Prop) : Cx := { X with xe := E }
theorem Cx.Ok.wish {X : Cx} (ok : X.Ok) (E : Value → Shared → Prop) : (X.wish E).Ok :=
 ⟨ok.mod, ok.kind, ok.glob, ok.blt, ok.above, ok.inj, ok.has, ok.cab, ok.hd, ok.frames, ok.stk, ok.exf, ok.bs, ok.bsz, ok.noex, ok.exfs, ok.funs, ok.frf⟩
theorem Cx.Ok.unwish {X : Cx} {E : Value → Shared → Prop} (ok : (X.wish E).Ok) : X.Ok :=
 ⟨ok.mod, ok.kind, ok.glob, ok.blt, ok.above, ok.inj, ok.has, ok.cab, ok.hd, ok.frames, ok.stk, ok.exf, ok.bs, ok.bsz, ok.noex, ok.exfs, ok.funs, ok.frf⟩
section
variable {X : Cx} {pins : List (Addr × Obj)} {σ : St} {H : Hp} {s : Shared} {E : Value → Shared → Prop}
theorem Inv.wish (I : Inv X pins σ H s) (E : Value → Shared → Prop) : Inv (X.wish E) pins σ H s := ⟨I.ok.wish E, I.os, I.bare, I.base, I.loc, I.cell, I.free, I.freeC, I.pin, I.hok, I.len⟩
theorem Inv.unwish (I : Inv (X.wish E) pins σ H s) : Inv X pins σ H s := ⟨I.ok.unwish, I.os, I.bare, I.base, I.loc, I.cell, I.free, I.freeC, I.pin, I.hok, I.len⟩
end

section
variable {X : Cx} {st : Stmt} {rest : List Stmt} {t u : TS} {e : Expr} {te : TE} {pos : Pos}
noncomputable def tNext : TS := fun D σ H => D.nx σ H
noncomputable def tSeq (t u : TS) : TS := fun D σ H => t { D with nx := u D } σ H
theorem pss_nil : PSs X [] tNext := fun _ _ σ H _ I h => wpAny_execs_nil ⟨σ, H, I, h⟩
theorem pss_cons (h1 : PS X st t) (h2 : PSs X rest u) : PSs X (st :: rest) (tSeq t u) := by
 intro pins s σ H D I h
 refine wpAny_execs_cons (thn (h1 pins s σ H { D with nx := u D } I h) fun f s1 q => ?_)
 cases f with
 | next =>
  obtain ⟨σ', H', I', q⟩ := q
  exact h2 pins s1 σ' H' D I' q
 | ret v => exact q
 | brk => exact q
 | cont => exact q
theorem pss_one (h1 : PS X st t) : PSs X [st] t := by
 intro pins s σ H D I h
 refine wpAny_execs_cons (thn (h1 pins s σ H D I h) fun f s1 q => ?_)
 cases f with
 | next => exact wpAny_execs_nil q
 | ret v => exact q
 | brk => exact q
 | cont => exact q
theorem Inv.quiet {pins : List (Addr × Obj)} {σ : St} {H : Hp} {s : Shared} (I : Inv X pins σ H s) : interactive X.env = false := by simp [interactive, I.ok.kind]
noncomputable def tDrop (te : TE) : TS := fun D σ H => te σ H fun _ H1 => D.nx σ H1
theorem ps_expr (he : PE X e te) (hs : swapsWith e none pos.line X.env = pure false := by rfl) : PS X (.Expr e pos) (tDrop te) := by
 intro pins s σ H D I h
 exact wpAny_Expr_any (thn (he pins s σ H _ I h) fun v s1 ⟨x, H1, I1, r1, q1⟩ => ⟨σ, H1, I1, q1⟩) I.quiet hs
noncomputable def tRet (te : TE) : TS := fun D σ H => te σ H D.rt
theorem ps_ret (he : PE X e te) : PS X (.Return (some e) pos) (tRet te) := by
 intro pins s σ H D I h
 exact wpAny_Return_some (thn (he pins s σ H _ I h) fun v s1 ⟨x, H1, I1, r1, q1⟩ => ⟨x, σ, H1, I1, r1, q1⟩)
noncomputable def tIfS (c : TT) (t u : TS) : TS := fun D σ H => c σ H fun b H1 => if b = true then t D σ H1 else u D σ H1
theorem ps_if {c : Expr} {a b : List Stmt} {tc : TT} (hc : PT X c tc) (ha : PSs X a t) (hb : PSs X b u) : PS X (.If c a b pos) (tIfS tc t u) := by
 intro pins s σ H D I h
 refine wpAny_If (thn (hc pins s σ H _ I h) fun d s1 ⟨H1, I1, q1⟩ => ?_)
 cases d with
 | true => exact ha pins s1 σ H1 D I1 q1
 | false => exact hb pins s1 σ H1 D I1 q1
end

noncomputable abbrev TG := V → St → Hp → (St → Hp → Prop) → Prop
noncomputable abbrev TGs := List V → St → Hp → (St → Hp → Prop) → Prop
noncomputable def PG (X : Cx) (target : Expr) (t : TG) : Prop :=
 ∀ (pins : List (Addr × Obj)) (s : Shared) (σ : St) (H : Hp) (v : V) (u : Value) (Q : St → Hp → Prop), Inv X pins σ H s → RelV v u → t v σ H Q →
  wpAny (model X.prog X.w) X.A (assign target X.env u) (fun _ s' => ∃ σ' H', Inv X pins σ' H' s' ∧ Q σ' H') X.xe s
noncomputable def PGs (X : Cx) (ts : List Expr) (t : TGs) : Prop :=
 ∀ (pins : List (Addr × Obj)) (s : Shared) (σ : St) (H : Hp) (vs : List V) (us : List Value) (Q : St → Hp → Prop), Inv X pins σ H s → Vals vs us → t vs σ H Q →
  wpAny (model X.prog X.w) X.A (assignInOrder ((assignEach ts X.env).map (·.2)) us) (fun _ s' => ∃ σ' H', Inv X pins σ' H' s' ∧ Q σ' H') X.xe s
noncomputable abbrev TSet := V → V → V → Hp → (Hp → Prop) → Prop
noncomputable def PSet (X : Cx) (t : TSet) : Prop :=
 ∀ (pins : List (Addr × Obj)) (s : Shared) (σ : St) (H : Hp) (o i v : V) (ov iv u : Value) (Q : Hp → Prop), Inv X pins σ H s → RelV o ov → RelV i iv → RelV v u → t o i v H Q →
  wpAny (model X.prog X.w) X.A (setItem ov iv u) (fun _ s' => ∃ H', Inv X pins σ H' s' ∧ Q H') X.xe s
section
variable {X : Cx} {pos : Pos}
noncomputable def gName (i : Nat) : TG := fun v σ H Q => Q (σ.set i (some v)) H
theorem pg_name {i : Nat} {x : Str} (hN : X.N.Nodup) (hi : X.N[i]? = some x) (hx : Loc X.env.scope x) (hf : X.fn x = true ∨ X.env.scope.names.lookup x = some .local := by first | exact .inl rfl | exact .inr rfl | assumption) : PG X (.Name x pos) (gName i) := by
 intro pins s σ H v u Q I r h
 exact wpAny_assign_Name (store_ok I hN hi hx r (fun s' I' => ⟨_, H, I', h⟩) hf)
noncomputable def gNil : TGs := fun vs σ H Q => vs = [] ∧ Q σ H
noncomputable def gCons (t : TG) (u : TGs) : TGs := fun vs σ H Q => ∃ v r, vs = v :: r ∧ t v σ H fun σ' H' => u r σ' H' Q
theorem pgs_nil : PGs X [] gNil := by
 intro pins s σ H vs us Q I r h
 obtain ⟨e, h⟩ := h
 subst e
 cases r
 exact assignInOrder_nil ⟨σ, H, I, h⟩
theorem pgs_cons {e : Expr} {es : List Expr} {t : TG} {u : TGs} (h1 : PG X e t) (h2 : PGs X es u)
  (hs : (assignEach (e :: es) X.env).map (·.2) = assign e X.env :: (assignEach es X.env).map (·.2) := by rfl) : PGs X (e :: es) (gCons t u) := by
 intro pins s σ H vs us Q I r h
 obtain ⟨v, vr, e1, h⟩ := h
 subst e1
 cases r with
 | cons r rr =>
  rw [hs]
  refine assignInOrder_cons (thn (h1 pins s σ H _ _ _ I r h) fun _ s1 ⟨σ1, H1, I1, q1⟩ => ?_)
  exact h2 pins s1 σ1 H1 _ _ Q I1 rr q1
noncomputable def gTup (K : PySem.W.Frag) (n : Nat) (t : TGs) : TG := fun v σ H Q => ∃ a xs, v = .ref a ∧ SqT K H a xs ∧ xs.length = n ∧ t xs σ H Q
theorem pg_tup {es : List Expr} {k : Nat} {t : TGs} {n : Nat} (hc : X.calm = true) (h : PGs X es t)
  (hn : (assignEach es X.env).length = n := by rfl) (hst : (assignEach es X.env).findIdx? (·.1) = none := by rfl) : PG X (.Tuple es k pos) (gTup X.K n t) := by
 intro pins s σ H v u Q I r hw
 obtain ⟨a, xs, e1, hq, hl, hw⟩ := hw
 subst e1
 cases r
 obtain ⟨its, rv, ht, hz⟩ := I.tuple hq
 refine assign_Tuple_tuple (I.ok.hd hc) ht (by simp [hn, ← hl, rv.length]) hst fun h' hx => ?_
 have I1 : Inv X pins σ H { s with heap := h' } := I.kept (t' := s.toks) fun b o e => hx b o (Nat.ne_of_lt (Heap.lt_size e)) e
 exact h pins _ σ H xs _ Q I1 (by simpa using rv) hw
noncomputable def gSub (to ti : TE) (t : TSet) : TG := fun v σ H Q => to σ H fun o H1 => ti σ H1 fun i H2 => t o i v H2 fun H3 => Q σ H3
theorem pg_sub {o i : Expr} {to ti : TE} {t : TSet} (ho : PE X o to) (hi : PE X i ti) (hs : PSet X t)
  (ha : ∀ v, assign (.Subscript o i pos) X.env v = (do
   let ov ← holding [v] (eval o X.env)
   let iv ← holding [v, ov] (eval i X.env)
   standAt pos
   holding [v, ov, iv] (setItem ov iv v)
   release [v, ov, iv] []) := by intro _; rfl) : PG X (.Subscript o i pos) (gSub to ti t) := by
 intro pins s σ H v u Q I r h
 rw [ha]
 refine wpAny_bind (wpAny_holding (thn (ho pins s σ H _ I h) fun ov s1 ⟨x, H1, I1, r1, q1⟩ => ?_))
 refine wpAny_bind (wpAny_holding (thn (hi pins s1 σ H1 _ I1 q1) fun iv s2 ⟨y, H2, I2, r2, q2⟩ => ?_))
 refine wpAny_bind (wpAny_standAt (wpAny_bind (wpAny_holding (thn (hs pins s2 σ H2 x y v ov iv u _ I2 r1 r2 r q2) fun _ s3 ⟨H3, I3, q3⟩ => ?_))))
 exact wpAny_release ⟨σ, H3, I3, q3⟩
noncomputable def tAsg (te : TE) (g : TG) : TS := fun D σ H => te σ H fun x H1 => g x σ H1 D.nx
theorem ps_asg {tg e : Expr} {te : TE} {g : TG} (he : PE X e te) (hg : PG X tg g) (hs : swapsWithSole [tg] e pos.line X.env = pure false := by rfl) (hw : swappedStores [tg] e X.env = pure none := by rfl)
  (h1 : (assignEach [tg] X.env).map (·.2) = [assign tg X.env] := by rfl) : PS X (.Assign [tg] e pos) (tAsg te g) := by
 intro pins s σ H D I h
 refine wpAny_Assign_stores (thn (he pins s σ H _ I h) fun v s1 ⟨x, H1, I1, r1, q1⟩ => ?_) hs hw
 rw [h1]
 exact thn (hg pins s1 σ H1 x v _ I1 r1 q1) fun _ s2 q => q
theorem ps_set {i : Nat} {x : Str} {e : Expr} {te : TE} {pos' : Pos} (hN : X.N.Nodup) (hi : X.N[i]? = some x) (hx : Loc X.env.scope x) (he : PE X e te) (hs : swapsWith e (some (.Name x pos')) pos.line X.env = pure false := by rfl) (hf : X.fn x = true ∨ X.env.scope.names.lookup x = some .local := by first | exact .inl rfl | exact .inr rfl | assumption) :
  PS X (.Assign [.Name x pos'] e pos) (tAsg te (gName i)) := by
 intro pins s σ H D I h
 refine wpAny_Assign_Name (thn (he pins s σ H _ I h) fun v s1 ⟨y, H1, I1, r1, q1⟩ => ?_) hs
 exact store_ok I1 hN hi hx r1 (fun s2 I2 => ⟨_, H1, I2, q1⟩) hf
noncomputable def tPar (i j : Nat) (ta : TA) : TS := fun D σ H => ta σ H fun vs H1 => ∃ v w, vs = [v, w] ∧ D.nx ((σ.set i (some v)).set j (some w)) H1
theorem ps_par {i j : Nat} {x y : Str} {a b : Expr} {ta : TA} {px py pt : Pos} {kt k2 pt2} (hc : X.calm = true) (hN : X.N.Nodup) (hi : X.N[i]? = some x) (hj : X.N[j]? = some y) (hij : i ≠ j)
  (hx : X.env.scope.names.lookup x = some .local) (hy : X.env.scope.names.lookup y = some .local) (ha : PA X [a, b] ta)
  (hw : swappedStores [.Tuple [.Name x px, .Name y py] kt pt] (.Tuple [a, b] k2 pt2) X.env = pure (some [x, y]))
  (hs : swapsWithSole [.Tuple [.Name x px, .Name y py] kt pt] (.Tuple [a, b] k2 pt2) pos.line X.env = pure false := by rfl) :
  PS X (.Assign [.Tuple [.Name x px, .Name y py] kt pt] (.Tuple [a, b] k2 pt2) pos) (tPar i j ta) := by
 intro pins s σ H D I h
 rw [exec_Assign_arm]
 refine wpAny_bind (wpAny_standAt ?_)
 rw [hs]
 refine wpAny_bind (wpAny_pure ?_)
 rw [if_neg (by decide)]
 refine wpAny_bind (Tuple_ (thn (ha _ pins s σ H _ I h) fun us s1 ⟨vs, H1, I1, r1, q1⟩ => ?_))
 obtain ⟨v, w, e1, q1⟩ := q1
 subst e1
 obtain ⟨u1, u2, rfl, rv, rw'⟩ : ∃ u1 u2, us = [u1, u2] ∧ RelV v u1 ∧ RelV w u2 := by
  cases r1 with
  | cons p q =>
   cases q with
   | cons p' q' =>
    cases q'
    exact ⟨_, _, rfl, p, p'⟩
 refine wpAny_newObj_type ?_ (by show 2 ≤ sizeLine; decide)
 have I2 : Inv X pins σ H1 { s1 with heap := s1.heap.push { cls := .type "tuple", data := .seq [u1, u2].toArray } } := I1.kept (t' := s1.toks) fun b o e => Heap.get?_push_of_some _ e
 rw [hw]
 refine wpAny_bind (wpAny_pure ?_)
 show wpAny (model X.prog X.w) X.A (do rule "assign.swapped-stores"; let items ← unpackItems (.ref s1.heap.objs.size) 2 none; assignInOrder [fun v => bindName X.env y v, fun v => bindName X.env x v] items.reverse; pure Flow.next) _ _ _
 refine wpAny_bind (wpAny_rule (wpAny_bind (unpackItems_tuple (items := #[u1, u2]) (I.ok.hd hc) (IsTup.new s1.heap _) fun h' hx' => ?_)))
 have I3 := I2.kept (h' := h') (t' := s1.toks) fun b o e => hx' b o (Nat.ne_of_lt (Heap.lt_size e)) e
 show wpAny _ _ (assignInOrder [fun v => bindName X.env y v, fun v => bindName X.env x v] [u2, u1] >>= fun _ => pure Flow.next) _ _ _
 refine wpAny_bind (assignInOrder_cons (wpAny_bindName (store_ok I3 hN hj (.inl hy) rw' (fun s2 I4 => ?_) (.inr hy))))
 refine assignInOrder_cons (wpAny_bindName (store_ok I4 hN hi (.inl hx) rv (fun s3 I5 => assignInOrder_nil (wpAny_pure ?_)) (.inr hx)))
 rw [List.set_comm _ _ (Ne.symm hij)] at I5
 exact ⟨_, H1, I5, q1⟩
end

section
variable {X : Cx} {pos : Pos}
noncomputable def tWhile (c : TT) (tb : TS) : TS := fun D σ H => ∃ W : Nat → St → Hp → Prop, (∃ m, W m σ H) ∧ ∀ m σ H, W m σ H →
 c σ H fun b H1 => if b = true then ∃ N : St → Hp → Prop, (∀ σ' H', N σ' H' → ∃ m', m' < m ∧ W m' σ' H') ∧ tb { D with nx := N, ct := N, bk := D.nx } σ H1 else D.nx σ H1
theorem ps_while {c : Expr} {body : List Stmt} {tc : TT} {tb : TS} (hp : PassesOwn (model X.prog X.w) X.A X.env X.xe) (hc : PT X c tc) (hb : PSs X body tb) : PS X (.While c body [] pos) (tWhile tc tb) := by
 intro pins s σ H D I h
 obtain ⟨W, ⟨m0, w0⟩, turn⟩ := h
 refine wpAny_While (codeAny_whileLoop (fun n s' => ∃ σ' H', Inv X pins σ' H' s' ∧ W n σ' H') ?_ m0 ⟨σ, H, I, w0⟩)
 rintro n s1 ⟨σ1, H1, I1, w1⟩
 refine wpAny_passesOwn hp (thn (hc pins s1 σ1 H1 _ I1 (turn n σ1 H1 w1)) fun b s2 ⟨H2, I2, q2⟩ => ?_)
 cases b with
 | true =>
  obtain ⟨N, hN, q2⟩ := q2
  rw [if_pos rfl]
  refine wpAny_passesOwn hp (thn (hb pins s2 σ1 H2 _ I2 q2) fun f s3 q3 => ?_)
  cases f with
  | next =>
   obtain ⟨σ3, H3, I3, n3⟩ := q3
   obtain ⟨m', hm, w3⟩ := hN σ3 H3 n3
   exact ⟨m', hm, σ3, H3, I3, w3⟩
  | cont =>
   obtain ⟨σ3, H3, I3, n3⟩ := q3
   obtain ⟨m', hm, w3⟩ := hN σ3 H3 n3
   exact ⟨m', hm, σ3, H3, I3, w3⟩
  | brk => exact q3
  | ret v => exact q3
 | false =>
  rw [if_neg Bool.false_ne_true]
  exact wpAny_execs_nil ⟨σ1, H2, I2, q2⟩
end

set_option genInjectivity false in
structure It where
 go : Nat → Hp → Prop
 yld : Nat → Hp → V → Hp → Prop
 stop : Nat → Hp → Prop
noncomputable def FpOk (X : Cx) (pins : List (Addr × Obj)) (H : Hp) (b : Addr) : Prop :=
 H b = none ∧ b ≠ X.env.locals ∧ b ∉ X.fs ∧ (b ∈ X.ex ∨ X.s₀.heap.objs.size ≤ b) ∧ (∀ x c, X.env.cells.lookup x = some c → c ≠ b) ∧ ∀ p ∈ X.pn ++ pins, p.1 ≠ b
theorem Inv.fpOk {X : Cx} {pins : List (Addr × Obj)} {σ : St} {H H' : Hp} {s : Shared} {b : Addr} (I : Inv X pins σ H s) (hb : s.heap.objs.size ≤ b) (hn : H' b = none) : FpOk X pins H' b := by
 refine ⟨hn, Nat.ne_of_gt (Nat.lt_of_lt_of_le I.lt hb), I.nofs hb, .inr (Nat.le_trans I.sz hb), fun x c e z => ?_, fun p hp z => ?_⟩
 ·obtain ⟨v, q⟩ := I.cell x c e
  exact absurd (Nat.lt_of_lt_of_le q.lt (by rw [z]; exact hb)) (Nat.lt_irrefl _)
 ·exact absurd (Nat.lt_of_lt_of_le (Heap.lt_size (I.pin p hp).1) (by rw [z]; exact hb)) (Nat.lt_irrefl _)
set_option genInjectivity false in
structure Turn (P : Program) (w : World) (K : PySem.W.Frag) (tg : Expr) (J : It) (fp : List Addr) (it : Addr) (tn : Nat → Heap → Prop) : Prop where
 mem : it ∈ fp
 obj : ∀ i h, tn i h → ∀ b ∈ fp, ∃ o, h.get? b = some o ∧ ∀ v, o.data ≠ .cell v
 keep : ∀ i h h', tn i h → (∀ b ∈ fp, ∀ o, h.get? b = some o → h'.get? b = some o) → tn i h'
 item : ∀ (X : Cx), X.prog = P → X.w = w → X.K = K → X.calm = true → ∀ (i : Nat) (pins : List (Addr × Obj)) (s : Shared) (σ : St) (H : Hp) (E : Value → Shared → Prop), Inv X pins σ H s → (∀ b ∈ fp, FpOk X pins H b) → tn i s.heap → J.go i H →
  wpAny (model P w) X.A (pyNext (.ref it)) (fun r s1 => ∃ u, r = some u ∧
   wpAny (model P w) X.A (letOwnedTupleGo tg (.ref it) u) (fun _ s2 => ∃ x H', Inv X pins σ H' s2 ∧ RelV x u ∧ J.yld i H x H' ∧ tn (i + 1) s2.heap ∧ ∀ b ∈ fp, H' b = none) E s1) E s
 done : ∀ (X : Cx), X.prog = P → X.w = w → X.K = K → X.calm = true → ∀ (i : Nat) (pins : List (Addr × Obj)) (s : Shared) (σ : St) (H : Hp) (E : Value → Shared → Prop), Inv X pins σ H s → (∀ b ∈ fp, FpOk X pins H b) → tn i s.heap → J.stop i H →
  wpAny (model P w) X.A (pyNext (.ref it)) (fun r s1 => r = none ∧ Inv X pins σ H s1) E s
 self : ∀ (A : Around) (i : Nat) (s : Shared) (Q : Value → Shared → Prop) (E : Value → Shared → Prop), tn i s.heap → Q (.ref it) s → wpAny (model P w) A (pyIter (.ref it)) Q E s
noncomputable abbrev TI := St → Hp → (It → Hp → Prop) → Prop
noncomputable def PIE (X : Cx) (pins : List (Addr × Obj)) (σ : St) (tg : Expr) (R : It → Hp → Prop) (itv : Value) (s2 : Shared) : Prop :=
 ∃ (it : Addr) (fp : List Addr) (tn : Nat → Heap → Prop) (J : It) (H' : Hp), itv = .ref it ∧ Inv X pins σ H' s2 ∧ Turn X.prog X.w X.K tg J fp it tn ∧ tn 0 s2.heap ∧ (∀ b ∈ fp, FpOk X pins H' b) ∧ R J H'
noncomputable def PI (X : Cx) (tg iter : Expr) (wi : TI) : Prop :=
 ∀ (pins : List (Addr × Obj)) (s : Shared) (σ : St) (H : Hp) (R : It → Hp → Prop), Inv X pins σ H s → wi σ H R →
  wpAny (model X.prog X.w) X.A (eval iter X.env) (fun v s1 => wpAny (model X.prog X.w) X.A (pyIter v) (PIE X pins σ tg R) X.xe s1) X.xe s

theorem go_of {M : Model} {A : Around} {E : Value → Shared → Prop} {s : Shared} {tg : Expr} {it : Addr} {u : Value} {o : Obj} {n : String} {vs : Array Value} {Q : Unit → Shared → Prop} (ho : s.heap.get? it = some o) (hc : o.cls = .type n) (hd : o.data = .fields vs)
  (hn : ["enumerate", "zip", "dict_itemiterator", "dict_reverseitemiterator", "odict_iterator", "itertools.zip_longest", "itertools.pairwise"].contains n = false) (hQ : Q () s) : wpAny M A (letOwnedTupleGo tg (.ref it) u) Q E s := by
 unfold letOwnedTupleGo
 cases tg <;> first
  | exact wpAny_pure hQ
  | (cases u <;> first
    | exact wpAny_pure hQ
    | (refine wpAny_bind (wpAny_load ho ?_)
       rw [hc, hd]
       show wpAny M A (if (["enumerate", "zip", "dict_itemiterator", "dict_reverseitemiterator", "odict_iterator", "itertools.zip_longest", "itertools.pairwise"].contains n && vs[0]? == some (rawInt _)) = true then _ else _) Q E s
       rw [if_neg (by intro h; rw [hn, Bool.false_and] at h; cases h)]
       exact wpAny_pure hQ))

noncomputable def Itl (K : PySem.W.Frag) (a : Addr) : It :=
 ⟨fun i H => ∃ xs x, SqL K H a xs ∧ xs[i]? = some x, fun i H x H' => H' = H ∧ ∀ xs, SqL K H a xs → xs[i]? = some x, fun i H => ∃ xs, SqL K H a xs ∧ xs.length ≤ i⟩
noncomputable def Itr (lo : Int) (n : Nat) : It := ⟨fun i _ => i < n, fun i H x H' => H' = H ∧ x = .int (lo + i), fun i _ => n ≤ i⟩
theorem turn_list {P : Program} {w : World} {K : PySem.W.Frag} {tg : Expr} (a it : Addr) : Turn P w K tg (Itl K a) [it] it (fun i h => h.IsListIter it a i) where
 mem := by simp
 obj := fun i h st b hb => by
  have e : b = it := by simpa using hb
  subst e
  obtain ⟨o, e, c, d⟩ := st
  exact ⟨o, e, fun v z => by rw [d] at z; cases z⟩
 keep := fun i h h' st k => st.at fun o e => k it (by simp) o e
 item := by
  intro X hP hw hK hc i pins s σ H E I hf st hg
  subst hP hw hK
  obtain ⟨xs, x, hq, hx⟩ := hg
  obtain ⟨its, rv, p, hz⟩ := I.list hq
  obtain ⟨u, hu, ru⟩ := rv.get hx
  obtain ⟨f0, f1, f2, f3, f4, f5⟩ := hf it (by simp)
  refine wpAny_pyNext_list_item st p.isList (x := u) (by simpa using hu) fun h' st' sb => ?_
  have I1 : Inv X pins σ H { s with heap := h' } := I.turned (t' := s.toks) (fun b o hb e => (sb.2 b hb).trans e) f0 f1 f3 f4 f5
  obtain ⟨o, e, c, d⟩ := id st'
  exact ⟨u, rfl, go_of (s := { s with heap := h' }) e c d (by decide) ⟨x, H, I1, ru, ⟨rfl, fun ys hy => by rw [I.list_inj hy hq]; exact hx⟩, st', fun b hb => (hf b hb).1⟩⟩
 done := by
  intro X hP hw hK hc i pins s σ H E I hf st hg
  subst hP hw hK
  obtain ⟨xs, hq, hx⟩ := hg
  obtain ⟨its, rv, p, hz⟩ := I.list hq
  obtain ⟨f0, f1, f2, f3, f4, f5⟩ := hf it (by simp)
  have hl := rv.length
  exact wpAny_pyNext_list_end (I.ok.hd hc) st p.isList (by simp; omega) fun h' eb => ⟨rfl, I.turned (t' := s.toks) (fun b o hb e => eb b o hb e) f0 f1 f3 f4 f5⟩
 self := fun _ _ _ _ _ st h => wpAny_pyIter_listiter st h
theorem turn_range {P : Program} {w : World} {K : PySem.W.Frag} {tg : Expr} (it : Addr) (lo : Int) (n : Nat) : Turn P w K tg (Itr lo n) [it] it (fun i h => IsRangeIter h it (lo + (i : Nat) * 1) ((n : Int) - (i : Nat)) 1) where
 mem := by simp
 obj := fun i h st b hb => by
  have e : b = it := by simpa using hb
  subst e
  exact ⟨_, st, fun v z => by
   have z' : Data.fields _ = Data.cell v := z
   cases z'⟩
 keep := fun i h h' st k => k it (by simp) _ st
 item := by
  intro X hP hw hK hc i pins s σ H E I hf st hg
  subst hP hw hK
  obtain ⟨f0, f1, f2, f3, f4, f5⟩ := hf it (by simp)
  have W := Walks.range (prog := X.prog) (w := X.w) (I.ok.hd hc) it lo 1 n
  refine W.item i s _ _ hg st fun v h' tk hv st' kk => ?_
  obtain ⟨t, rfl⟩ := hv
  have I1 : Inv X pins σ H { s with heap := h', toks := tk } := I.turned (fun b o hb e => kk b o (by simpa using hb) e) f0 f1 f3 f4 f5
  refine ⟨_, rfl, go_of (s := { s with heap := h', toks := tk }) (n := "range_iterator") st' rfl rfl (by decide) ⟨.int (lo + i), H, I1, ⟨t, ?_⟩, ⟨rfl, rfl⟩, st', fun b hb => (hf b hb).1⟩⟩
  rw [Int.mul_one]
 done := by
  intro X hP hw hK hc i pins s σ H E I hf st hg
  subst hP hw hK
  obtain ⟨f0, f1, f2, f3, f4, f5⟩ := hf it (by simp)
  exact wpAny_pyNext_range_end (I.ok.hd hc) st (by have : n ≤ i := hg; omega) fun h' eb => ⟨rfl, I.turned (t' := s.toks) (fun b o hb e => eb b o hb e) f0 f1 f3 f4 f5⟩
 self := fun _ _ _ _ _ st h => wpAny_pyIter_rangeiter st h
end L2

namespace L2
open PySem PySem.Spec PyProof.Rows
section
variable {X : Cx} {tg : Expr}
noncomputable def iList (K : PySem.W.Frag) (tl : TE) : TI := fun σ H R => tl σ H fun x H1 => ∃ a, x = .ref a ∧ (∃ xs, SqL K H1 a xs) ∧ R (Itl K a) H1
theorem pi_list {l : Expr} {tl : TE} (hl : PE X l tl) : PI X tg l (iList X.K tl) := by
 intro pins s σ H R I h
 refine thn (hl pins s σ H _ I h) fun v s1 ⟨x, H1, I1, r1, q1⟩ => ?_
 obtain ⟨a, e, ⟨xs, hq⟩, q⟩ := q1
 subst e
 cases r1
 obtain ⟨its, rv, p, hz⟩ := I1.list hq
 refine wpAny_pyIter_list p.isList ?_
 refine ⟨s1.heap.objs.size, [s1.heap.objs.size], _, _, H1, rfl, I1.kept (t' := s1.toks) fun b o e => Heap.get?_push_of_some _ e, turn_list a _, ⟨_, Heap.get?_push_size _ rfl, rfl, rfl⟩, fun b hb => ?_, q⟩
 have e : b = s1.heap.objs.size := by simpa using hb
 subst e
 exact I1.fpOk (Nat.le_refl _) (I1.hok.fresh (Nat.le_refl _))
theorem range_it {pins : List (Addr × Obj)} {σ : St} {H : Hp} {s : Shared} {R : It → Hp → Prop} {E : Value → Shared → Prop} {lo hi : Int} {t u v : Tok} {tk : Nat} (I : Inv X pins σ H s) (h1 : -(2 ^ 62) ≤ lo) (h2 : lo < 2 ^ 62) (h3 : -(2 ^ 62) ≤ hi) (h4 : hi < 2 ^ 62)
  (q : R (Itr lo (hi - lo).toNat) H) : wpAny (model X.prog X.w) X.A (pyIter (.ref s.heap.objs.size)) (PIE X pins σ tg R) E { s with heap := s.heap.push { cls := .type "range", data := .fields #[.int lo t, .int hi u, .int 1 v] }, toks := tk } := by
 refine wpAny_pyIter_range (IsRange.new ..) (small_one h1 h2 h3 h4) ?_
 have I1 : Inv X pins σ H { s with heap := s.heap.push { cls := .type "range", data := .fields #[.int lo t, .int hi u, .int 1 v] }, toks := tk } := I.kept fun b o e => Heap.get?_push_of_some _ e
 refine ⟨(s.heap.push { cls := .type "range", data := .fields #[.int lo t, .int hi u, .int 1 v] }).objs.size, [(s.heap.push { cls := .type "range", data := .fields #[.int lo t, .int hi u, .int 1 v] }).objs.size], _, _, H, rfl,
  I1.kept (t' := tk) fun b o e => Heap.get?_push_of_some _ e, turn_range _ lo (hi - lo).toNat, ?_, fun b hb => ?_, q⟩
 ·have e1 : lo + ((0 : Nat) : Int) * 1 = lo := by simp
  have e2 : (((hi - lo).toNat : Nat) : Int) - ((0 : Nat) : Int) = Builtin.Range.rangeSize lo hi 1 := by rw [rangeSize_one]; split <;> omega
  show IsRangeIter _ _ (lo + ((0 : Nat) : Int) * 1) ((((hi - lo).toNat : Nat) : Int) - ((0 : Nat) : Int)) 1
  rw [e1, e2]
  exact Heap.get?_push_size _ rfl
 ·have e : b = (s.heap.push { cls := .type "range", data := .fields #[.int lo t, .int hi u, .int 1 v] }).objs.size := by simpa using hb
  subst e
  exact I1.fpOk (Nat.le_refl _) (I1.hok.fresh (Nat.le_refl _))
noncomputable def iRng1 (ta : TA) : TI := fun σ H R => ta σ H fun vs H1 => ∃ j : Int, vs = [.int j] ∧ -(2 ^ 62) ≤ j ∧ j < 2 ^ 62 ∧ R (Itr 0 j.toNat) H1
noncomputable def iRng2 (ta : TA) : TI := fun σ H R => ta σ H fun vs H1 => ∃ i j : Int, vs = [.int i, .int j] ∧ (-(2 ^ 62) ≤ i ∧ i < 2 ^ 62 ∧ -(2 ^ 62) ≤ j ∧ j < 2 ^ 62) ∧ R (Itr i (j - i).toNat) H1
theorem pi_range1 {a : Expr} {ta : TA} {p pos : Pos} (hg : Gl X "range") (hm : X.mg "range" = none) (ha : PA X [a] ta) (hs : starEach [a] X.env = [(false, eval a X.env)] := by rfl) : PI X tg (.Call (.Name "range" p) [a] [] pos) (iRng1 ta) := by
 intro pins s σ H R I h
 refine Call_ (ld_blt I hg hm boot_range (PyProof.Rows.callWith_type1 (thn (ha pos pins s σ H _ I h) fun us s1 ⟨vs, H1, I1, r1, q1⟩ => ?_) hs rfl))
 obtain ⟨j, e, q1, q2, q⟩ := q1
 subst e
 cases r1 with
 | cons r rr =>
  cases rr
  obtain ⟨t, rfl⟩ := r
  exact call_range_1 (range_it I1 (by omega) (by omega) q1 q2 (by simpa using q))
theorem pi_range2 {a b : Expr} {ta : TA} {p pos : Pos} (hg : Gl X "range") (hm : X.mg "range" = none) (ha : PA X [a, b] ta) (hs : starEach [a, b] X.env = [(false, eval a X.env), (false, eval b X.env)] := by rfl) (hs2 : starEach [b] X.env = [(false, eval b X.env)] := by rfl) :
  PI X tg (.Call (.Name "range" p) [a, b] [] pos) (iRng2 ta) := by
 intro pins s σ H R I h
 refine Call_ (ld_blt I hg hm boot_range (PyProof.Rows.callWith_type1 (thn (ha pos pins s σ H _ I h) fun us s1 ⟨vs, H1, I1, r1, q1⟩ => ?_) (by rw [hs, hs2]) (by rw [hs2]; rfl)))
 obtain ⟨i, j, e, ⟨q1, q2, q3, q4⟩, q⟩ := q1
 subst e
 cases r1 with
 | cons r rr =>
  cases rr with
  | cons r' rr =>
   cases rr
   obtain ⟨t, rfl⟩ := r
   obtain ⟨t', rfl⟩ := r'
   exact call_range_2 (range_it I1 q1 q2 q3 q4 q)

noncomputable def tFor (wi : TI) (g : TG) (tb : TS) : TS := fun D σ H => wi σ H fun J H1 => ∃ W : Nat → Nat → St → Hp → Prop, (∃ m, W 0 m σ H1) ∧ ∀ i m σ H, W i m σ H →
 (J.stop i H ∧ D.nx σ H) ∨ (J.go i H ∧ ∃ N : St → Hp → Prop, (∀ σ' H', N σ' H' → ∃ m', m' < m ∧ W (i + 1) m' σ' H') ∧ ∀ x H', J.yld i H x H' → g x σ H' fun σ2 H2 => tb { D with nx := N, ct := N, bk := D.nx } σ2 H2)
noncomputable def pinsAt (fp : List Addr) (h : Heap) : List (Addr × Obj) := fp.filterMap fun b => (h.get? b).map fun o => (b, o)
theorem mem_pinsAt {fp : List Addr} {h : Heap} {b : Addr} {o : Obj} (hb : b ∈ fp) (e : h.get? b = some o) : (b, o) ∈ pinsAt fp h := List.mem_filterMap.mpr ⟨b, hb, by rw [e]; rfl⟩
theorem of_pinsAt {fp : List Addr} {h : Heap} {p : Addr × Obj} (hp : p ∈ pinsAt fp h) : p.1 ∈ fp ∧ h.get? p.1 = some p.2 := by
 obtain ⟨b, hb, e⟩ := List.mem_filterMap.mp hp
 cases q : h.get? b with
 | none => rw [q] at e; cases e
 | some o =>
  rw [q] at e
  have e' : (b, o) = p := Option.some.inj e
  subst e'
  exact ⟨hb, q⟩
theorem Inv.pinned {pins : List (Addr × Obj)} {σ : St} {H : Hp} {s : Shared} {fp : List Addr} (I : Inv X pins σ H s) (hf : ∀ b ∈ fp, FpOk X pins H b) (ho : ∀ b ∈ fp, ∃ o, s.heap.get? b = some o ∧ ∀ v, o.data ≠ .cell v) : Inv X (pins ++ pinsAt fp s.heap) σ H s :=
 I.pins_of fun p hp => (List.mem_append.mp hp).elim (fun z => I.pin p (List.mem_append_right _ z)) fun z => by
  obtain ⟨hb, e⟩ := of_pinsAt z
  obtain ⟨f0, f1, f2, _⟩ := hf p.1 hb
  obtain ⟨o, e', d⟩ := ho p.1 hb
  rw [e] at e'; cases e'
  exact ⟨e, f0, f1, f2, d⟩
theorem Inv.unpinned {pins pl : List (Addr × Obj)} {σ : St} {H : Hp} {s : Shared} (I : Inv X (pins ++ pl) σ H s) : Inv X pins σ H s := I.pins_of fun p hp => I.pin p (List.mem_append_right _ (List.mem_append_left _ hp))
theorem ps_for {iter : Expr} {body : List Stmt} {wi : TI} {g : TG} {tb : TS} {pos : Pos} (hp : PassesOwn (model X.prog X.w) X.A X.env X.xe) (hc : X.calm = true) (hi : PI X tg iter wi) (hg : PG X tg g) (hb : PSs X body tb)
  (hs : ∀ x, foldedSetIterable iter X.env x = pure x := by intro _; rfl) : PS X (.For tg iter body [] pos) (tFor wi g tb) := by
 intro pins s σ H D I h
 refine wpAny_For (thn (hi pins s σ H _ I h) fun v s1 h1 => thn h1 fun itv s2 h2 => ?_) hs
 obtain ⟨it, fp, tn, J, H2, e, I2, T, st2, f2, W, ⟨m0, w0⟩, turn⟩ := h2
 subst e
 -- what stays true of the iterator's objects through the loop
 have stat : ∀ {H' : Hp}, (∀ b ∈ fp, H' b = none) → ∀ b ∈ fp, FpOk X pins H' b := fun hn b hb => ⟨hn b hb, (f2 b hb).2⟩
 refine codeAny_forLoop_any (fun n s' => ∃ i σ' H', Inv X pins σ' H' s' ∧ tn i s'.heap ∧ (∀ b ∈ fp, H' b = none) ∧ W i n σ' H') ?_ m0 ⟨0, σ, H2, I2, st2, fun b hb => (f2 b hb).1, w0⟩
 rintro n s3 ⟨i, σ3, H3, I3, st3, fr3, w3⟩
 rcases turn i n σ3 H3 w3 with ⟨stop, qn⟩ | ⟨go, N, hN, step⟩
 ·refine wpAny_passesOwn hp (thn (T.done X rfl rfl rfl hc i pins s3 σ3 H3 X.xe I3 (stat fr3) st3 stop) fun r s4 ⟨hr, I4⟩ => ?_)
  subst hr
  exact wpAny_execs_nil ⟨σ3, H3, I4, qn⟩
 ·refine wpAny_passesOwn hp (thn (T.item X rfl rfl rfl hc i pins s3 σ3 H3 X.xe I3 (stat fr3) st3 go) fun r s4 ⟨u, hr, h4⟩ => ?_)
  subst hr
  refine wpAny_passesOwn hp (thn h4 fun _ s5 ⟨x, H5, I5, r5, y5, st5, fr5⟩ => ?_)
  have I5' := I5.pinned (stat fr5) (T.obj _ _ st5)
  refine wpAny_passesOwn hp (thn (hg _ s5 σ3 H5 x u _ I5' r5 (step x H5 y5)) fun _ s6 ⟨σ6, H6, I6, q6⟩ => ?_)
  refine wpAny_passesOwn hp (thn (hb _ s6 σ6 H6 _ I6 q6) fun f s7 q7 => ?_)
  have again : ∀ {σ7 : St} {H7 : Hp}, Inv X (pins ++ pinsAt fp s5.heap) σ7 H7 s7 → N σ7 H7 → ∃ m, m < n ∧ ∃ i σ' H', Inv X pins σ' H' s7 ∧ tn i s7.heap ∧ (∀ b ∈ fp, H' b = none) ∧ W i m σ' H' := fun {σ7 H7} I7 n7 => by
   obtain ⟨m', hm, w7⟩ := hN σ7 H7 n7
   refine ⟨m', hm, i + 1, σ7, H7, I7.unpinned, T.keep _ _ _ st5 fun b hb o e => (I7.pin (b, o) (List.mem_append_right _ (List.mem_append_right _ (mem_pinsAt hb e)))).1, fun b hb => ?_, w7⟩
   obtain ⟨o, e, d⟩ := T.obj _ _ st5 b hb
   exact (I7.pin (b, o) (List.mem_append_right _ (List.mem_append_right _ (mem_pinsAt hb e)))).2.1
  cases f with
  | next => obtain ⟨σ7, H7, I7, n7⟩ := q7; exact again I7 n7
  | cont => obtain ⟨σ7, H7, I7, n7⟩ := q7; exact again I7 n7
  | brk => obtain ⟨σ7, H7, I7, q7⟩ := q7; exact ⟨σ7, H7, I7.unpinned, q7⟩
  | ret v => obtain ⟨x7, σ7, H7, I7, r7, q7⟩ := q7; exact ⟨x7, σ7, H7, I7.unpinned, r7, q7⟩
end

theorem for_list {K : PySem.W.Frag} {a : Addr} {xs : List V} {g : TG} {tb : TS} {D : Ends} {σ : St} {H : Hp} (Pv : Nat → St → Hp → Prop) (h0 : Pv 0 σ H) (hl : ∀ i σ H, i ≤ xs.length → Pv i σ H → SqL K H a xs)
  (hs : ∀ i x σ H, xs[i]? = some x → Pv i σ H → g x σ H fun σ2 H2 => tb { D with nx := Pv (i + 1), ct := Pv (i + 1), bk := D.nx } σ2 H2) (hd : ∀ σ H, Pv xs.length σ H → D.nx σ H) :
  ∃ W : Nat → Nat → St → Hp → Prop, (∃ m, W 0 m σ H) ∧ ∀ i m σ H, W i m σ H →
   ((Itl K a).stop i H ∧ D.nx σ H) ∨ ((Itl K a).go i H ∧ ∃ N : St → Hp → Prop, (∀ σ' H', N σ' H' → ∃ m', m' < m ∧ W (i + 1) m' σ' H') ∧ ∀ x H', (Itl K a).yld i H x H' → g x σ H' fun σ2 H2 => tb { D with nx := N, ct := N, bk := D.nx } σ2 H2) := by
 refine ⟨fun i m σ H => m = xs.length - i ∧ i ≤ xs.length ∧ Pv i σ H, ⟨xs.length, by simp, Nat.zero_le _, h0⟩, ?_⟩
 rintro i m σ H ⟨rfl, hi, p⟩
 have q := hl i σ H hi p
 by_cases hlt : i < xs.length
 ·refine .inr ⟨⟨xs, xs[i], q, by simp [hlt]⟩, Pv (i + 1), fun σ' H' p' => ⟨xs.length - (i + 1), by omega, rfl, hlt, p'⟩, fun x H' y => ?_⟩
  obtain ⟨e, y⟩ := y
  subst e
  exact hs i x σ _ (y xs q) p
 ·have e : i = xs.length := by omega
  subst e
  exact .inl ⟨⟨xs, q, Nat.le_refl _⟩, hd σ H p⟩
theorem for_range {lo : Int} {n : Nat} {g : TG} {tb : TS} {D : Ends} {σ : St} {H : Hp} (Pv : Nat → St → Hp → Prop) (h0 : Pv 0 σ H)
  (hs : ∀ i σ H, i < n → Pv i σ H → g (.int (lo + i)) σ H fun σ2 H2 => tb { D with nx := Pv (i + 1), ct := Pv (i + 1), bk := D.nx } σ2 H2) (hd : ∀ σ H, Pv n σ H → D.nx σ H) :
  ∃ W : Nat → Nat → St → Hp → Prop, (∃ m, W 0 m σ H) ∧ ∀ i m σ H, W i m σ H →
   ((Itr lo n).stop i H ∧ D.nx σ H) ∨ ((Itr lo n).go i H ∧ ∃ N : St → Hp → Prop, (∀ σ' H', N σ' H' → ∃ m', m' < m ∧ W (i + 1) m' σ' H') ∧ ∀ x H', (Itr lo n).yld i H x H' → g x σ H' fun σ2 H2 => tb { D with nx := N, ct := N, bk := D.nx } σ2 H2) := by
 refine ⟨fun i m σ H => m = n - i ∧ i ≤ n ∧ Pv i σ H, ⟨n, by simp, Nat.zero_le _, h0⟩, ?_⟩
 rintro i m σ H ⟨rfl, hi, p⟩
 by_cases hlt : i < n
 ·refine .inr ⟨hlt, Pv (i + 1), fun σ' H' p' => ⟨n - (i + 1), by omega, rfl, hlt, p'⟩, fun x H' y => ?_⟩
  obtain ⟨e, y⟩ := y
  subst e y
  exact hs i σ _ hlt p
 ·have e : i = n := by omega
  subst e
  exact .inl ⟨Nat.le_refl _, hd σ H p⟩
end L2

namespace L2
open PySem PySem.Spec PyProof.Rows

noncomputable abbrev R2 := V → V → Hp → VK → Prop
noncomputable def OpR (X : Cx) (f : Value → Value → Sem Value) (r : R2) : Prop :=
 ∀ (pins : List (Addr × Obj)) (s : Shared) (σ : St) (H : Hp) (x y : V) (v u : Value) (Q : VK), Inv X pins σ H s → RelV x v → RelV y u → r x y H Q →
  wpAny (model X.prog X.w) X.A (f v u) (EP X pins σ Q) X.xe s
noncomputable def UnR (X : Cx) (f : Value → Sem Value) (r : V → Hp → VK → Prop) : Prop :=
 ∀ (pins : List (Addr × Obj)) (s : Shared) (σ : St) (H : Hp) (x : V) (v : Value) (Q : VK), Inv X pins σ H s → RelV x v → r x H Q →
  wpAny (model X.prog X.w) X.A (f v) (EP X pins σ Q) X.xe s
noncomputable def CallR (X : Cx) (f : Value) (r : List V → Hp → VK → Prop) : Prop :=
 ∀ (pins : List (Addr × Obj)) (s : Shared) (σ : St) (H : Hp) (xs : List V) (us : List Value) (Q : VK), Inv X pins σ H s → Vals xs us → r xs H Q →
  wpAny (model X.prog X.w) X.A (call f us) (EP X pins σ Q) X.xe s
noncomputable def tOp (r : R2) (ta tb : TE) : TE := fun σ H Q => ta σ H fun x H1 => tb σ H1 fun y H2 => r x y H2 Q
noncomputable def tUn (r : V → Hp → VK → Prop) (ta : TE) : TE := fun σ H Q => ta σ H fun x H1 => r x H1 Q
noncomputable def rI (C : Int → Int → Prop) (g : Int → Int → V) : R2 := fun x y H Q => ∃ i j, x = .int i ∧ y = .int j ∧ C i j ∧ Q (g i j) H
noncomputable def rI0 (g : Int → Int → V) : R2 := fun x y H Q => ∃ i j, x = .int i ∧ y = .int j ∧ Q (g i j) H
noncomputable def rU (g : Int → V) : V → Hp → VK → Prop := fun x H Q => ∃ i, x = .int i ∧ Q (g i) H

section
variable {X : Cx} {a b c : Expr} {ta tb tc : TE} {pos : Pos}

theorem binT (ha : PE X a ta) (hb : PE X b tb) {pins : List (Addr × Obj)} {s : Shared} {σ : St} {H : Hp} {R : V → V → Hp → Prop} (I : Inv X pins σ H s)
  (h : ta σ H fun x H1 => tb σ H1 fun y H2 => R x y H2) {Q : Value → Shared → Prop} {f : Value → Value → Sem Value}
  (hf : ∀ v u s2 x y H2, Inv X pins σ H2 s2 → RelV x v → RelV y u → R x y H2 → wpAny (model X.prog X.w) X.A (f v u) Q X.xe s2) :
  wpAny (model X.prog X.w) X.A (eval a X.env) (fun v s₁ => wpAny (model X.prog X.w) X.A (eval b X.env) (fun u s₂ => wpAny (model X.prog X.w) X.A (f v u) Q X.xe s₂) X.xe s₁) X.xe s := by
 refine thn (ha pins s σ H _ I h) fun v s1 ⟨x, H1, I1, r1, q1⟩ => ?_
 refine thn (hb pins s1 σ H1 _ I1 q1) fun u s2 ⟨y, H2, I2, r2, q2⟩ => ?_
 exact hf v u s2 x y H2 I2 r1 r2 q2

theorem pe_op {op : Operator} {r : R2} (ho : OpR X (binaryOp op) r) (ha : PE X a ta) (hb : PE X b tb) : PE X (.BinOp a op b pos) (tOp r ta tb) := by
 intro pins s σ H Q I h
 exact wpAny_BinOp (binT ha hb I h fun v u s2 x y H2 I2 rx ry q => ho pins s2 σ H2 x y v u Q I2 rx ry q)
theorem pe_un {op : UnaryOp} {r : V → Hp → VK → Prop} (ho : UnR X (unaryOp op) r) (ha : PE X a ta) : PE X (.UnaryOp op a pos) (tUn r ta) := by
 intro pins s σ H Q I h
 exact UnaryOp_ (thn (ha pins s σ H _ I h) fun v s1 ⟨x, H1, I1, r1, q1⟩ => ho pins s1 σ H1 x v Q I1 r1 q1)
theorem opI {f : Value → Value → Sem Value} {C : Int → Int → Prop} {g : Int → Int → Int}
  (rule : ∀ (i j : Int) (t u : Tok) (s : Shared) (Q : Value → Shared → Prop) (E : Value → Shared → Prop), C i j → Q (.int (g i j) s.toks) { s with toks := s.toks + 1 } → wpAny (model X.prog X.w) X.A (f (.int i t) (.int j u)) Q E s) :
  OpR X f (rI C fun i j => .int (g i j)) := by
 intro pins s σ H x y v u Q I rx ry h
 obtain ⟨i, j, rfl, rfl, hc, q⟩ := h
 obtain ⟨t, rfl⟩ := rx
 obtain ⟨t', rfl⟩ := ry
 exact rule i j t t' s _ _ hc ⟨.int (g i j), H, I.tok _, ⟨_, rfl⟩, q⟩
theorem opI0 {f : Value → Value → Sem Value} {g : Int → Int → Int}
  (rule : ∀ (i j : Int) (t u : Tok) (s : Shared) (Q : Value → Shared → Prop) (E : Value → Shared → Prop), Q (.int (g i j) s.toks) { s with toks := s.toks + 1 } → wpAny (model X.prog X.w) X.A (f (.int i t) (.int j u)) Q E s) :
  OpR X f (rI0 fun i j => .int (g i j)) := by
 intro pins s σ H x y v u Q I rx ry h
 obtain ⟨i, j, rfl, rfl, q⟩ := h
 obtain ⟨t, rfl⟩ := rx
 obtain ⟨t', rfl⟩ := ry
 exact rule i j t t' s _ _ ⟨.int (g i j), H, I.tok _, ⟨_, rfl⟩, q⟩
theorem opB0 {f : Value → Value → Sem Value} {g : Int → Int → Bool}
  (rule : ∀ (i j : Int) (t u : Tok) (s : Shared) (Q : Value → Shared → Prop) (E : Value → Shared → Prop), Q (.bool (g i j)) s → wpAny (model X.prog X.w) X.A (f (.int i t) (.int j u)) Q E s) :
  OpR X f (rI0 fun i j => .bl (g i j)) := by
 intro pins s σ H x y v u Q I rx ry h
 obtain ⟨i, j, rfl, rfl, q⟩ := h
 obtain ⟨t, rfl⟩ := rx
 obtain ⟨t', rfl⟩ := ry
 exact rule i j t t' s _ _ ⟨.bl (g i j), H, I, rfl, q⟩

noncomputable def CPow (i j : Int) : Prop := 0 ≤ j ∧ j ≤ 1000000 ∧ i.natAbs < 2 ^ 64
theorem two_pow_nn (k : Nat) : (0 : Int) ≤ 2 ^ k := by
 rw [two_pow_cast]
 exact Int.natCast_nonneg _

theorem op_add : OpR X (binaryOp .Add) (rI0 fun i j => .int (i + j)) := opI0 fun _ _ _ _ _ _ _ q => add_int q
theorem op_sub : OpR X (binaryOp .Sub) (rI0 fun i j => .int (i - j)) := opI0 fun _ _ _ _ _ _ _ q => sub_int q
theorem op_mod : OpR X (binaryOp .Mod) (rI (fun _ j => 0 < j) fun i j => .int (i % j)) := opI fun i j _ _ _ _ _ hc q => by
 have h1 : (0 : Int) < j := hc
 exact mod_int' (by omega) (by rw [Int.fmod_eq_emod_of_nonneg i (by omega)]; exact q)
theorem op_shl : OpR X (binaryOp .LShift) (rI CPow fun i j => .int (i * 2 ^ j.toNat)) := opI fun _ _ _ _ _ _ _ hc q => lshift_int_small hc.1 hc.2.1 hc.2.2 q
theorem op_shr : OpR X (binaryOp .RShift) (rI (fun _ j => 0 ≤ j) fun i j => .int (i / 2 ^ j.toNat)) := opI fun i j _ _ _ _ _ hc q =>
 rshift_int hc (by rw [Int.fdiv_eq_ediv_of_nonneg i (two_pow_nn _)]; exact q)
theorem op_and : OpR X (binaryOp .BitAnd) (rI0 fun i j => .int (Builtin.bitAnd i j)) := opI0 fun _ _ _ _ _ _ _ q => and_int q
theorem op_or : OpR X (binaryOp .BitOr) (rI0 fun i j => .int (Builtin.bitOr i j)) := opI0 fun _ _ _ _ _ _ _ q => or_int q
theorem unI {f : Value → Sem Value} {g : Int → Int}
  (rule : ∀ (i : Int) (t : Tok) (s : Shared) (Q : Value → Shared → Prop) (E : Value → Shared → Prop), Q (.int (g i) s.toks) { s with toks := s.toks + 1 } → wpAny (model X.prog X.w) X.A (f (.int i t)) Q E s) :
  UnR X f (rU fun i => .int (g i)) := by
 intro pins s σ H x v Q I rx h
 obtain ⟨i, rfl, q⟩ := h
 obtain ⟨t, rfl⟩ := rx
 exact rule i t s _ _ ⟨.int (g i), H, I.tok _, ⟨_, rfl⟩, q⟩
theorem un_neg : UnR X (unaryOp .USub) (rU fun i => .int (-i)) := unI fun _ _ _ _ _ q => neg_int q
end

noncomputable def scal : V → V → Bool
 | .non, .non => true | .non, .int _ => true | .int _, .non => true | .non, .bl _ => true | .bl _, .non => true | .non, .str _ => true | .str _, .non => true
 | .int _, .int _ => true | .bl _, .bl _ => true | .str _, .str _ => true | .byt _, .byt _ => true
 | .int _, .str _ => true | .str _, .int _ => true | .bl _, .str _ => true | .str _, .bl _ => true
 | _, _ => false
noncomputable def rEq : R2 := fun x y H Q => scal x y = true ∧ Q (.bl (decide (x = y))) H
noncomputable def rNe : R2 := fun x y H Q => scal x y = true ∧ Q (.bl (!decide (x = y))) H

theorem dec_int {i j : Int} : decide (V.int i = V.int j) = (i == j) := by
 rw [Bool.eq_iff_iff]
 simp
theorem dec_bl {i j : Bool} : decide (V.bl i = V.bl j) = (i == j) := by
 rw [Bool.eq_iff_iff]
 simp
theorem dec_str {i j : Str} : decide (V.str i = V.str j) = (i == j) := by
 rw [Bool.eq_iff_iff]
 simp
theorem dec_byt {i j : Array UInt8} : decide (V.byt i = V.byt j) = (i.toList == j.toList) := by
 rw [Bool.eq_iff_iff]
 cases i
 cases j
 simp

section
variable {X : Cx} {a b c : Expr} {ta tb tc : TE} {pos : Pos}
theorem fin_bl {pins : List (Addr × Obj)} {σ : St} {H : Hp} {s : Shared} {Q : VK} {k k' : Bool} (I : Inv X pins σ H s) (q : Q (.bl k) H) (e : k = k') : EP X pins σ Q (.bool k') s := by
 subst e
 exact ⟨.bl k, H, I, rfl, q⟩
theorem op_eq : OpR X (compareOp .Eq) rEq := by
 intro pins s σ H x y v u Q I rx ry h
 obtain ⟨hs, q⟩ := h
 cases x with
 | non =>
  cases rx
  cases y with
  | non => cases ry; exact PySem.EqNone.eq_none_none (fin_bl I q (by simp))
  | bl j => cases ry; exact PySem.EqNone.eq_none_bool (fin_bl I q (by simp))
  | int j => obtain ⟨t', rfl⟩ := ry; exact PySem.EqNone.eq_none_int (fin_bl I q (by simp))
  | str j => obtain ⟨t', rfl⟩ := ry; exact PySem.EqNone.eq_none_str (fin_bl I q (by simp))
  | _ => exact absurd (show false = true from hs) Bool.false_ne_true
 | bl i =>
  cases rx
  cases y with
  | non => cases ry; exact PySem.EqNone.eq_bool_none (fin_bl I q (by simp))
  | bl j => cases ry; exact eq_bool (fin_bl I q dec_bl)
  | str j => obtain ⟨t', rfl⟩ := ry; exact PySem.EqMixed.eq_bool_str (fin_bl I q (by simp))
  | _ => exact absurd (show false = true from hs) Bool.false_ne_true
 | int i =>
  obtain ⟨t, rfl⟩ := rx
  cases y with
  | non => cases ry; exact PySem.EqNone.eq_int_none (fin_bl I q (by simp))
  | int j => obtain ⟨t', rfl⟩ := ry; exact eq_int (fin_bl I q dec_int)
  | str j => obtain ⟨t', rfl⟩ := ry; exact PySem.EqMixed.eq_int_str (fin_bl I q (by simp))
  | _ => exact absurd (show false = true from hs) Bool.false_ne_true
 | str i =>
  obtain ⟨t, rfl⟩ := rx
  cases y with
  | non => cases ry; exact PySem.EqNone.eq_str_none (fin_bl I q (by simp))
  | bl j => cases ry; exact PySem.EqMixed.eq_str_bool (fin_bl I q (by simp))
  | int j => obtain ⟨t', rfl⟩ := ry; exact PySem.EqMixed.eq_str_int (fin_bl I q (by simp))
  | str j => obtain ⟨t', rfl⟩ := ry; exact eq_str (fin_bl I q dec_str)
  | _ => exact absurd (show false = true from hs) Bool.false_ne_true
 | byt i =>
  obtain ⟨t, rfl⟩ := rx
  cases y with
  | byt j => obtain ⟨t', rfl⟩ := ry; exact PySem.W.eq_bytes (fin_bl I q dec_byt)
  | _ => exact absurd (show false = true from hs) Bool.false_ne_true
 | _ => cases y <;> exact absurd (show false = true from hs) Bool.false_ne_true
theorem op_ne : OpR X (compareOp .NotEq) rNe := by
 intro pins s σ H x y v u Q I rx ry h
 obtain ⟨hs, q⟩ := h
 cases x with
 | non =>
  cases rx
  cases y with
  | non => cases ry; exact PySem.EqNone.ne_none_none (fin_bl I q (by simp))
  | bl j => cases ry; exact PySem.EqNone.ne_none_bool (fin_bl I q (by simp))
  | int j => obtain ⟨t', rfl⟩ := ry; exact PySem.EqNone.ne_none_int (fin_bl I q (by simp))
  | str j => obtain ⟨t', rfl⟩ := ry; exact PySem.EqNone.ne_none_str (fin_bl I q (by simp))
  | _ => exact absurd (show false = true from hs) Bool.false_ne_true
 | bl i =>
  cases rx
  cases y with
  | non => cases ry; exact PySem.EqNone.ne_bool_none (fin_bl I q (by simp))
  | bl j => cases ry; exact ne_bool (fin_bl I q (congrArg not dec_bl))
  | str j => obtain ⟨t', rfl⟩ := ry; exact PySem.EqMixed.ne_bool_str (fin_bl I q (by simp))
  | _ => exact absurd (show false = true from hs) Bool.false_ne_true
 | int i =>
  obtain ⟨t, rfl⟩ := rx
  cases y with
  | non => cases ry; exact PySem.EqNone.ne_int_none (fin_bl I q (by simp))
  | int j => obtain ⟨t', rfl⟩ := ry; exact ne_int (fin_bl I q (congrArg not dec_int))
  | str j => obtain ⟨t', rfl⟩ := ry; exact PySem.EqMixed.ne_int_str (fin_bl I q (by simp))
  | _ => exact absurd (show false = true from hs) Bool.false_ne_true
 | str i =>
  obtain ⟨t, rfl⟩ := rx
  cases y with
  | non => cases ry; exact PySem.EqNone.ne_str_none (fin_bl I q (by simp))
  | bl j => cases ry; exact PySem.EqMixed.ne_str_bool (fin_bl I q (by simp))
  | int j => obtain ⟨t', rfl⟩ := ry; exact PySem.EqMixed.ne_str_int (fin_bl I q (by simp))
  | str j => obtain ⟨t', rfl⟩ := ry; exact ne_str (fin_bl I q (congrArg not dec_str))
  | _ => exact absurd (show false = true from hs) Bool.false_ne_true
 | byt i =>
  obtain ⟨t, rfl⟩ := rx
  cases y with
  | byt j => obtain ⟨t', rfl⟩ := ry; exact PySem.W.ne_bytes (fin_bl I q (congrArg not dec_byt))
  | _ => exact absurd (show false = true from hs) Bool.false_ne_true
 | _ => cases y <;> exact absurd (show false = true from hs) Bool.false_ne_true

theorem op_lt : OpR X (compareOp .Lt) (rI0 fun i j => .bl (decide (i < j))) := opB0 fun _ _ _ _ _ _ _ q => lt_int q
theorem op_le : OpR X (compareOp .LtE) (rI0 fun i j => .bl (decide (i ≤ j))) := opB0 fun _ _ _ _ _ _ _ q => le_int q
theorem op_gt : OpR X (compareOp .Gt) (rI0 fun i j => .bl (decide (j < i))) := opB0 fun _ _ _ _ _ _ _ q => gt_int q
theorem op_ge : OpR X (compareOp .GtE) (rI0 fun i j => .bl (decide (j ≤ i))) := opB0 fun _ _ _ _ _ _ _ q => ge_int q
theorem nomark (b : Expr) {op : CmpOp} (h : op ≠ .In := by decide) (h2 : op ≠ .NotIn := by decide) : behindInMarks op b = false := by
 have e1 : (op == CmpOp.In) = false := by cases op <;> first | rfl | exact absurd rfl h
 have e2 : (op == CmpOp.NotIn) = false := by cases op <;> first | rfl | exact absurd rfl h2
 cases b <;> simp [behindInMarks, e1, e2]
theorem pe_cmpR {op : CmpOp} {r : R2} (ho : OpR X (compareOp op) r) (ha : PE X a ta) (hb : PE X b tb) (hm : behindInMarks op b = false) : PE X (.Compare a [op] [b] pos) (tOp r ta tb) := by
 intro pins s σ H Q I h
 exact wpAny_Compare1 (binT ha hb I h fun v u s2 x y H2 I2 rx ry q => ho pins s2 σ H2 x y v u Q I2 rx ry q) hm
noncomputable def tTest (t : TE) : TT := fun σ H Q => t σ H fun x H' => ∃ k, x = .bl k ∧ Q k H'
theorem pt_cmpR {op : CmpOp} {r : R2} (ho : OpR X (compareOp op) r) (ha : PE X a ta) (hb : PE X b tb) (hm : behindInMarks op b = false) : PT X (.Compare a [op] [b] pos) (tTest (tOp r ta tb)) := by
 intro pins s σ H Q I h
 refine wpAny_isTrue_Compare1 (thn (ha pins s σ H _ I h) fun v s1 ⟨x, H1, I1, r1, q1⟩ => thn (hb pins s1 σ H1 _ I1 q1) fun u s2 ⟨y, H2, I2, r2, q2⟩ =>
  thn (ho pins s2 σ H2 x y v u _ I2 r1 r2 q2) fun c s3 ⟨z, H3, I3, r3, k, e, q3⟩ => ?_) hm
 subst e
 cases r3
 exact wpAny_truthy_bool ⟨H3, I3, q3⟩
theorem line63 : (sizeLine : Nat) < 2 ^ 63 := by rw [sizeLine_eq]; decide
theorem vals1 {x : V} {us : List Value} (r : Vals [x] us) : ∃ u, us = [u] ∧ RelV x u := by
 cases r with
 | cons r1 r2 => cases r2; exact ⟨_, rfl, r1⟩
theorem vals2 {x y : V} {us : List Value} (r : Vals [x, y] us) : ∃ u w', us = [u, w'] ∧ RelV x u ∧ RelV y w' := by
 cases r with
 | cons r1 r2 =>
  cases r2 with
  | cons r3 r4 => cases r4; exact ⟨_, _, rfl, r1, r3⟩
theorem call_abs : CallR X (.builtin "abs") (fun xs H Q => ∃ i, xs = [.int i] ∧ Q (.int (if i < 0 then -i else i)) H) := by
 intro pins s σ H xs us Q I r h
 obtain ⟨i, rfl, q⟩ := h
 obtain ⟨u, rfl, t, rfl⟩ := vals1 r
 exact call_abs_int fun u tk => ⟨.int (if i < 0 then -i else i), H, I.tok _, ⟨_, rfl⟩, q⟩
theorem call_max2 (hc : X.calm = true) : CallR X (.builtin "max") (fun xs H Q => ∃ i j, xs = [.int i, .int j] ∧ Q (.int (if j > i then j else i)) H) := by
 intro pins s σ H xs us Q I r h
 obtain ⟨i, j, rfl, q⟩ := h
 obtain ⟨u, w', rfl, ⟨t, rfl⟩, ⟨t', rfl⟩⟩ := vals2 r
 refine max_two_ints (I.ok.hd hc) fun h' tk k => ⟨_, H, I.kept k, ?_, q⟩
 by_cases hj : j > i
 ·rw [if_pos hj, if_pos hj]; exact ⟨_, rfl⟩
 ·rw [if_neg hj, if_neg hj]; exact ⟨_, rfl⟩
theorem call_min2 (hc : X.calm = true) : CallR X (.builtin "min") (fun xs H Q => ∃ i j, xs = [.int i, .int j] ∧ Q (.int (if j < i then j else i)) H) := by
 intro pins s σ H xs us Q I r h
 obtain ⟨i, j, rfl, q⟩ := h
 obtain ⟨u, w', rfl, ⟨t, rfl⟩, ⟨t', rfl⟩⟩ := vals2 r
 refine min_two_ints (I.ok.hd hc) fun h' tk k => ⟨_, H, I.kept k, ?_, q⟩
 by_cases hj : j < i
 ·rw [if_pos hj, if_pos hj]; exact ⟨_, rfl⟩
 ·rw [if_neg hj, if_neg hj]; exact ⟨_, rfl⟩
theorem call_int1 : CallR X (.type "int") (fun xs H Q => (∃ i, xs = [.int i] ∧ Q (.int i) H) ∨ ∃ k, xs = [.bl k] ∧ Q (.int (if k then 1 else 0)) H) := by
 intro pins s σ H xs us Q I r h
 rcases h with ⟨i, rfl, q⟩ | ⟨k, rfl, q⟩
 ·obtain ⟨u, rfl, t, rfl⟩ := vals1 r
  exact call_int_int ⟨.int i, H, I, ⟨_, rfl⟩, q⟩
 ·obtain ⟨u, rfl, r1⟩ := vals1 r
  cases r1
  exact call_int_bool ⟨.int (if k then 1 else 0), H, I.tok _, ⟨_, rfl⟩, q⟩
end
end L2

namespace L2
open PySem PySem.Spec PyProof.Rows

structure ObjM (h : Heap) (x dx C : Addr) (mA : Str → Option Value) : Prop where
 obj : h.get? x = some (PySem.W.instObj C dx)
 ns : h.Ns1 dx mA
 ne : dx ≠ x

theorem lookIn_ns {h : Heap} {dx : Addr} {mA : Str → Option Value} (n : h.Ns1 dx mA) : ∃ od, h.get? dx = some od ∧ ∀ name, PySem.W.lookIn name od = some (mA name) := by
 obtain ⟨o, es, ep, ho, hd, hk, _, hm⟩ := n
 refine ⟨o, ho, fun name => ?_⟩
 have e := hm name
 unfold nsFind findBy at e
 rw [← Array.find?_toList] at e
 unfold PySem.W.lookIn
 rw [hd]
 dsimp only
 split
 ·rename_i y q
  rw [q] at e
  exact congrArg some e
 ·rename_i q
  rw [q] at e
  have a : es.toList.any (·.refKey) = false := by
   rw [List.any_eq_false]
   intro y hy
   obtain ⟨z, t, hkey⟩ := hk y (Array.mem_toList_iff.mp hy)
   simp [DictEntry.refKey, hkey]
  have a' : ¬ es.toList.any (·.refKey) = true := by rw [a]; exact Bool.false_ne_true
  rw [if_neg a']
  exact congrArg some e

theorem ObjM.look {h : Heap} {x dx C : Addr} {mA : Str → Option Value} (I : ObjM h x dx C mA) : ∃ od, PySem.W.InstAt h x (PySem.W.instObj C dx) C (some od) ∧ ∀ name, PySem.W.lookIn name od = some (mA name) :=
 let ⟨od, ho, hl⟩ := lookIn_ns I.ns
 ⟨od, ⟨I.obj, rfl, rfl, ho⟩, hl⟩

section
variable {prog : Program} {w : World} {A : Around} {E : Value → Shared → Prop} {s : Shared} {K : PySem.W.Frag} {x dx C f : Addr} {mA : Str → Option Value} {name : Str} {v : Value}

end

section
variable {P : Program} {w : World} {H H' : Hp} {h h' : Heap} {a C dx : Addr} {fs fs' : List (Str × V)}
theorem ins_get (hok : HOk P w H h) (e : H a = some (.ins C dx fs)) : ∃ mA, ObjM h a dx C mA ∧ (∀ f, RelO (fs.lookup f) (mA f)) ∧ PySem.Within mA (fs.map (·.1)) ∧ fs.length ≤ 1000 ∧ H dx = some (.own a) := by
 obtain ⟨d, z, ne, ob, mA, n, r, q⟩ := (show ObjOk P w H h a (.ins C dx fs) from hok a _ e)
 exact ⟨mA, ⟨ob, n, ne⟩, r, q, z, d⟩
end

structure Cls (K : PySem.W.Frag) (C : Addr) : Prop where
 pg : PySem.W.plainGet K C Str.empty = true
 hd : PySem.W.hasDictIn K C = true
 po : PySem.W.plainOver K C = true
 sa : PySem.W.findIn K (.ref C) "__setattr__" = some (some (.builtin "object.__setattr__"))
theorem Cls.get {K : PySem.W.Frag} {C : Addr} (c : Cls K C) (f : Str) : PySem.W.plainGet K C f = true := c.pg
section
variable {X : Cx} {pins : List (Addr × Obj)} {σ : St} {H : Hp} {s : Shared} {a C dx : Addr} {fs : List (Str × V)} {f : Str} {v : V} {A : Around} {E : Value → Shared → Prop}

end

section
variable {X : Cx} {o e value : Expr} {f : Str} {pos pos' tpos : Pos} {ta tv : TE}
end

section
variable {X : Cx} {pins : List (Addr × Obj)} {σ : St} {H : Hp} {s : Shared} {A : Around} {E : Value → Shared → Prop} {Q : Value → Shared → Prop} {c : Value} {b : Bool}
inductive TyOf (K : PySem.W.Frag) (H : Hp) : V → Value → Prop where
 | non : TyOf K H .non (.type "NoneType")
 | bl (x : Bool) : TyOf K H (.bl x) (.type "bool")
 | int (i : Int) : TyOf K H (.int i) (.type "int")
 | str (x : Str) : TyOf K H (.str x) (.type "str")
 | flt (x : UInt64) : TyOf K H (.flt x) (.type "float")
 | lst {a : Addr} {xs : List V} (e : H a = some (.lst xs)) : TyOf K H (.ref a) (.type "list")
 | frz {a : Addr} {o : Obj} {xs : List V} (e : H a = some (.frz o (.lst xs))) : TyOf K H (.ref a) (.type "list")
 | tup {a : Addr} {xs : List V} (e : H a = some (.tup xs)) : TyOf K H (.ref a) (.type "tuple")
 | dK {a : Addr} {kvs : List (Key × V)} (e : H a = some (.dK kvs)) : TyOf K H (.ref a) (.type "dict")
 | dT {a : Addr} {kvs : List (List Key × V)} (e : H a = some (.dT kvs)) : TyOf K H (.ref a) (.type "dict")
 | ins {a C dx : Addr} {fs : List (Str × V)} (e : H a = some (.ins C dx fs)) (cl : Cls K C) (ha : PySem.W.findIn K (.ref C) "__class__" = some (some (.builtin "object.__class__")))
   (hn : PySem.W.specialIn K (.builtin "object.__class__") "__get__" = some (some (.builtin "getset_descriptor.__get__"))) (htk : PySem.W.takesIn K (.builtin "object.__class__") = some true)
   (hm : PySem.W.mroIn K C (.type "object") = some true) : TyOf K H (.ref a) (.ref C)
theorem isinst_ok {x : V} {u t : Value} (I : Inv X pins σ H s) (rx : RelV x u) (ty : TyOf X.K H x t) (e : PySem.W.kitOne X.K t c = some b) (h : ∀ tk, Q (.bool b) { s with toks := tk }) :
  wpAny (model X.prog X.w) A (call (.builtin "isinstance") [u, c]) Q E s := by
 cases ty with
 | non => cases (show u = Value.none from rx); exact PySem.W.kia_one PySem.W.kitx_none I.kIn True.intro e (fun z => nomatch z) h
 | bl y => cases (show u = Value.bool y from rx); exact PySem.W.kia_one PySem.W.kitx_bool I.kIn True.intro e (fun z => nomatch z) h
 | int i => obtain ⟨t, q⟩ := (show ∃ t, u = Value.int i t from rx); cases q; exact PySem.W.kia_one PySem.W.kitx_int I.kIn True.intro e (fun z => nomatch z) h
 | str y => obtain ⟨t, q⟩ := (show ∃ t, u = Value.str y t from rx); cases q; exact PySem.W.kia_one PySem.W.kitx_str I.kIn True.intro e (fun z => nomatch z) h
 | flt y => obtain ⟨t, q⟩ := (show ∃ t, u = Value.float y t from rx); cases q; exact PySem.W.kia_one PySem.W.kitx_float I.kIn True.intro e (fun z => nomatch z) h
 | @lst a xs ea =>
  cases (show u = Value.ref a from rx)
  obtain ⟨_, _, n, _, h1⟩ := (show ObjOk X.prog X.w H s.heap a (.lst xs) from I.hok a _ ea)
  exact PySem.W.kia_one PySem.W.kitx_list I.kIn ⟨_, h1, rfl⟩ e (fun z => nomatch z) h
 | @frz a ob xs ea =>
  cases (show u = Value.ref a from rx)
  obtain ⟨_, _, _, n, _, h1⟩ := (show ObjOk X.prog X.w H s.heap a (.frz ob (.lst xs)) from I.hok a _ ea)
  exact PySem.W.kia_one PySem.W.kitx_list I.kIn ⟨_, h1, rfl⟩ e (fun z => nomatch z) h
 | @tup a xs ea =>
  cases (show u = Value.ref a from rx)
  obtain ⟨_, _, _, p⟩ := (show ObjOk X.prog X.w H s.heap a (.tup xs) from I.hok a _ ea)
  obtain ⟨o, h1, h2, _⟩ := p
  exact PySem.W.kia_one PySem.W.kitx_tuple I.kIn ⟨o, h1, h2⟩ e (fun z => nomatch z) h
 | @dK a kvs ea =>
  cases (show u = Value.ref a from rx)
  obtain ⟨_, _, vs, _, p⟩ := (show ObjOk X.prog X.w H s.heap a (.dK kvs) from I.hok a _ ea)
  obtain ⟨o, es, ep, h1, h2, _⟩ := p
  exact PySem.W.kia_one PySem.W.kitx_dict I.kIn ⟨o, h1, h2.1⟩ e (fun z => nomatch z) h
 | @dT a kvs ea =>
  cases (show u = Value.ref a from rx)
  obtain ⟨_, _, xs, _, o, es, ep, h1, h2, _⟩ := (show ObjOk X.prog X.w H s.heap a (.dT kvs) from I.hok a _ ea)
  exact PySem.W.kia_one PySem.W.kitx_dict I.kIn ⟨o, h1, h2.1⟩ e (fun z => nomatch z) h
 | @ins a C dx fs ea cl ha hn htk hm =>
  cases (show u = Value.ref a from rx)
  obtain ⟨mA, O, _⟩ := ins_get I.hok ea
  obtain ⟨od, J, _⟩ := O.look
  exact PySem.W.kia_one (PySem.W.kitx_own (cl.get _) cl.hd ha hn htk hm) I.kIn J e (fun z => nomatch z) h
end
end L2

namespace L2
open PySem PySem.Spec PyProof.Rows

structure Room (k : Nat) (A : Around) : Prop where
 hd : A.handled = none
 dp : A.depth + 3 * k + 5 < recursionLimit
 un : A.units + 16 * k + 200 < cLine
theorem Room.mono {j k : Nat} {A : Around} (r : Room k A) (h : j ≤ k) : Room j A := ⟨r.hd, by have := r.dp; omega, by have := r.un; omega⟩
theorem Room.deeper {k : Nat} {A : Around} (r : Room (k + 1) A) (env : Env) : Room k (A.deeper env) :=
 ⟨r.hd, by have := r.dp; show A.depth + 1 + 3 * k + 5 < _; omega, by have := r.un; show A.units + 3 + 16 * k + 200 < _; omega⟩
theorem Room.depth {k : Nat} {A : Around} (r : Room k A) : A.depth < recursionLimit := by have := r.dp; omega
theorem Room.units {k : Nat} {A : Around} (r : Room k A) : A.units + 64 < cLine := by have := r.un; omega
theorem Room.units0 {k : Nat} {A : Around} (r : Room k A) : A.units < cLine := by have := r.un; omega

noncomputable def tNil : TA := fun _ H Q => Q [] H
noncomputable def tCons (ta : TE) (tr : TA) : TA := fun σ H Q => ta σ H fun x H1 => tr σ H1 fun xs H2 => Q (x :: xs) H2
section
variable {X : Cx} {e : Expr} {es : List Expr} {te : TE} {t : TA} {pos : Pos}
theorem pa_nil : PA X [] tNil := fun _ _ _ _ H Q I h => Calls.spliced_nil ⟨[], H, I, .nil, h⟩
theorem pa_cons (ha : PE X e te) (hr : PA X es t) (hs : starEach (e :: es) X.env = (false, eval e X.env) :: starEach es X.env := by rfl) : PA X (e :: es) (tCons te t) := by
 intro pos pins s σ H Q I h
 rw [hs]
 show wpAny _ _ (spliced ((false, eval e X.env) :: backTo pos (starEach es X.env))) _ _ s
 refine Calls.spliced_cons (thn (ha pins s σ H _ I h) fun u s1 ⟨x, H1, I1, r1, q1⟩ => ?_)
 exact thn (hr pos pins s1 σ H1 _ I1 q1) fun us s2 ⟨xs, H2, I2, r2, q2⟩ => ⟨x :: xs, H2, I2, .cons r1 r2, q2⟩

noncomputable def tTup (t : TA) : TE := fun σ H Q => t σ H fun xs H1 => xs.length ≤ sizeLine ∧ ∀ p, H1 p = none → Q (.ref p) (upd H1 p (.tup xs))
noncomputable def tLst (t : TA) : TE := fun σ H Q => t σ H fun xs H1 => xs.length ≤ sizeLine ∧ ∀ p, H1 p = none → Q (.ref p) (upd H1 p (.lst xs))
theorem pe_tup {x1} (h : PA X es t) : PE X (.Tuple es x1 pos) (tTup t) := by
 intro pins s σ H Q I hq
 refine wpAny_Tuple_spliced (thn (h pos pins s σ H _ I hq) fun us s1 ⟨xs, H1, I1, r, z, q⟩ => ⟨by rw [← r.length]; exact z, ?_⟩)
 have hf : H1 s1.heap.objs.size = none := I1.hok.fresh (Nat.le_refl _)
 refine ⟨.ref s1.heap.objs.size, upd H1 s1.heap.objs.size (.tup xs), I1.laid (t' := s1.toks) (fun b u e => Heap.get?_push_of_some _ e) (Nat.le_refl _) ?_, rfl, q _ hf⟩
 exact ⟨z, us, r, ⟨_, Heap.get?_push_size _ rfl, rfl, _, rfl⟩⟩
theorem pe_lst (h : PA X es t) : PE X (.List es pos) (tLst t) := by
 intro pins s σ H Q I hq
 refine wpAny_List_spliced (thn (h pos pins s σ H _ I hq) fun us s1 ⟨xs, H1, I1, r, z, q⟩ => ⟨by rw [← r.length]; exact z, ?_⟩)
 have hf : H1 s1.heap.objs.size = none := I1.hok.fresh (Nat.le_refl _)
 refine ⟨.ref s1.heap.objs.size, upd H1 s1.heap.objs.size (.lst xs), I1.laid (t' := s1.toks) (fun b u e => Heap.get?_push_of_some _ e) (Nat.le_refl _) ?_, rfl, q _ hf⟩
 exact ⟨z, us, 0, r, Heap.get?_push_size _ rfl⟩
end

noncomputable abbrev Sp := List V → Hp → VK → XK → Prop
noncomputable abbrev CXT := List Env → Hp → Shared → XK → Value → Shared → Prop

set_option genInjectivity false in
structure Env0 (P : Program) (w : World) (K : PySem.W.Frag) (mg : Str → Option Value) (base : Heap) (A : Around) (outer : List Env) (s : Shared) (H : Hp) : Prop where
 frames : A.frames = some outer
 mod : Mod K mg base
 bs : ∀ b o, base.get? b = some o → s.heap.get? b = some o ∧ H b = none
 bsz : base.objs.size ≤ s.heap.objs.size
 funs : s.heap.FunFrames base outer
 frf : ∀ b ∈ frs outer, H b = none
 hok : HOk P w H s.heap
 bare : AllBare s.gens
noncomputable def CE (outer : List Env) (P : Program) (w : World) (H : Hp) (s : Shared) (Q : VK) (u : Value) (s' : Shared) : Prop :=
 ∃ v H', s'.os = s.os ∧ AllBare s'.gens ∧ Un (frs outer) [] H H' s.heap s'.heap ∧ HOk P w H' s'.heap ∧ RelV v u ∧ Q v H'
noncomputable def CR (CX : CXT) (outer : List Env) (P : Program) (w : World) (H : Hp) (s : Shared) (Q : VK) (E : XK) (r : Result) (s' : Shared) : Prop :=
 match r with
 | .ok (.ret u) => CE outer P w H s Q u s'
 | .ok _ => False
 | .error e => CX outer H s E e s'
structure FnOk (P : Program) (w : World) (K : PySem.W.Frag) (mg : Str → Option Value) (base : Heap) (CX : CXT) (k : Nat) (f : Addr) (fd : FuncData) (ps : List Str) (sp : Sp) : Prop where
 len : ∀ vs H Q E, sp vs H Q E → vs.length = ps.length
 run : ∀ (A : Around) (outer : List Env) (s : Shared) (H : Hp) (args : Args) (us : List Value) (vs : List V) (Q : VK) (E : XK), Room k A → Env0 P w K mg base A outer s H → BindsTo s fd args (ps.zip us) → Vals vs us → sp vs H Q E →
  codeAny (model P w) A (.call (.ref f) args) (CR CX outer P w H s Q E) s
section
variable {X : Cx} {pins : List (Addr × Obj)} {σ : St} {H : Hp} {s s' : Shared}
theorem Inv.env0 (I : Inv X pins σ H s) : Env0 X.prog X.w X.K X.mg X.base X.A X.stack s H :=
 ⟨I.ok.frames, I.ok.mod, I.bs, Nat.le_trans I.ok.bsz I.sz, I.stack, I.stkFree, I.hok, I.bare⟩
theorem Inv.after {Q : VK} {u : Value} (I : Inv X pins σ H s) (h : CE X.stack X.prog X.w H s Q u s') : EP X pins σ Q u s' := by
 obtain ⟨v, H', os, bare, un, hok, r, q⟩ := h
 obtain ⟨hh, g, d, t, os'⟩ := s'
 obtain rfl : os' = s.os := os
 exact ⟨v, H', I.call (h' := hh) (g' := g) (d' := d) (t' := t) (ch := []) un hok bare (fun b z => absurd z (by simp)), r, q⟩
end

noncomputable def tCall (sp : Sp) (dvs : List V) (E : XK) (t : TA) : TE := fun σ H Q => t σ H fun vs H1 => sp (vs ++ dvs) H1 Q E
noncomputable def Binds (K : PySem.W.Frag) (fd : FuncData) (ps : List Str) (ds : List Value) : Prop :=
 ∀ (s : Shared) (us : List Value), K.In s.heap → (us ++ ds).length = ps.length → BindsTo s fd ⟨us, []⟩ (ps.zip (us ++ ds))
theorem Binds.all {K : PySem.W.Frag} {fd : FuncData} {ps : List Str} (h : ∀ us : List Value, us.length = ps.length → bindArgs fd ⟨us, []⟩ = pure (ps.zip us)) : Binds K fd ps [] := fun s us _ hl => by
 rw [List.append_nil] at hl ⊢
 exact .of_eq (h us hl)

noncomputable def Passes (CX : CXT) (X : Cx) (E : XK) : Prop := ∀ (pins : List (Addr × Obj)) (σ : St) (H : Hp) (s : Shared) (e : Value) (s' : Shared), Inv X pins σ H s → CX X.stack H s E e s' → X.xe e s'

section
variable {X : Cx} {CX : CXT} {k : Nat} {f C : Addr} {fd : FuncData} {ps : List Str} {sp : Sp} {dvs : List V} {ds : List Value} {E : XK} {x m : Str} {p pos apos : Pos} {e o : Expr} {es : List Expr} {ta : TE} {t : TA}

theorem run_fn {pins : List (Addr × Obj)} {σ : St} {H : Hp} {s : Shared} {Q : VK} {us : List Value} {vs : List V} (F : FnOk X.prog X.w X.K X.mg X.base CX k f fd ps sp) (hr : Room k X.A) (hb : Binds X.K fd ps ds) (hd : Vals dvs ds) (hx : Passes CX X E)
  (I : Inv X pins σ H s) (r : Vals vs us) (h : sp (vs ++ dvs) H Q E) : wpAny (model X.prog X.w) X.A (call (.ref f) us) (EP X pins σ Q) X.xe s := by
 have r2 : Vals (vs ++ dvs) (us ++ ds) := r.append hd
 have hl : (us ++ ds).length = ps.length := by rw [← r2.length]; exact F.len _ _ _ _ h
 refine wpAny_call (codeAny_mono (F.run X.A X.stack s H ⟨us, []⟩ (us ++ ds) (vs ++ dvs) Q E hr I.env0 (hb s us I.kIn hl) r2 h) fun r s' hq => ?_)
 cases r with
 | error e => exact hx pins σ H s e s' I hq
 | ok fl =>
  cases fl with
  | ret u => exact I.after hq
  | next => exact False.elim hq
  | brk => exact False.elim hq
  | cont => exact False.elim hq

theorem pe_call (F : FnOk X.prog X.w X.K X.mg X.base CX k f fd ps sp) (hr : Room k X.A) (hg : Gl X x) (hm : X.mg x = some (.ref f)) (hk : PySem.W.keepIn X.K (.ref f) = true) (hb : Binds X.K fd ps ds) (hd : Vals dvs ds) (hx : Passes CX X E)
  (ha : PA X (e :: es) t) (hdb : (x == ("__debug__" : Str)) = false := by decide) (he : starEach (e :: es) X.env = (false, eval e X.env) :: starEach es X.env := by rfl) (hpl : (backTo pos (starEach es X.env)).any (·.1) = false := by rfl) :
  PE X (.Call (.Name x p) (e :: es) [] pos) (tCall sp dvs E t) := by
 intro pins s σ H Q I h
 refine wpAny_Call_Name_kw (ld_glob I hg hm ?_ hdb)
 refine PySem.W.callWith_K (h₀ := X.base) I.ok.mod.kin hk (thn (ha pos pins s σ H _ I h) fun us s1 ⟨vs, H1, I1, r, q⟩ => ⟨I1.kIn, ?_⟩) he hpl
 exact run_fn F hr hb hd hx I1 r q
end

noncomputable def PK (X : Cx) (kws : List Keyword) (t : TA) : Prop :=
 ∀ (pos : Pos) (pins : List (Addr × Obj)) (s : Shared) (σ : St) (H : Hp) (Q : List V → Hp → Prop), Inv X pins σ H s → t σ H Q → wpAny (model X.prog X.w) X.A (evalAll ((backToKw pos (keywordEach kws X.env)).map (·.2))) (AP X pins σ Q) X.xe s
section
variable {X : Cx} {CX : CXT} {k : Nat} {f C : Addr} {fd : FuncData} {ps ks : List Str} {sp : Sp} {E : XK} {x m : Str} {p pos apos kpos : Pos} {e o : Expr} {es : List Expr} {kws : List Keyword} {te ta : TE} {t tk : TA} {nm : Option Str}
theorem pk_nil : PK X [] tNil := fun _ _ _ _ H Q I h => wpAny_evalAll_nil ⟨[], H, I, .nil, h⟩
theorem pk_cons (ha : PE X e te) (hr : PK X kws t) : PK X (⟨nm, e, kpos⟩ :: kws) (tCons te t) := by
 intro pos pins s σ H Q I h
 show wpAny _ _ (evalAll ((do let v ← eval e X.env; standAt pos; pure v) :: (backToKw pos (keywordEach kws X.env)).map (·.2))) _ _ s
 refine wpAny_evalAll_cons (wpAny_bind (thn (ha pins s σ H _ I h) fun u s1 ⟨x, H1, I1, r1, q1⟩ => wpAny_bind (wpAny_standAt (wpAny_pure ?_))))
 exact thn (hr pos pins s1 σ H1 _ I1 q1) fun us s2 ⟨xs, H2, I2, r2, q2⟩ => ⟨x :: xs, H2, I2, .cons r1 r2, q2⟩

variable {g : List Value → List Value → List Value} {gV : List V → List V → List V}
end

structure FnScope (N P : List Str) (sc : Scope) : Prop where
 kind : sc.kind = .function
 co : sc.isCoroutine = false
 gen : sc.isGenerator = false
 nd : N.Nodup
 pre : N.take P.length = P
 par : ∀ x ∈ P, sc.names.lookup x = some .local ∨ sc.names.lookup x = some .cell
 nofree : ∀ y ∈ sc.names, y.2 ≠ .free

theorem bindL_out {kindOf : Str → Option NameKind} {x : Str} : ∀ {binds : List (Str × Value)} {m : Str → Option Value}, (∀ v, (x, v) ∉ binds) → bindL kindOf binds m x = m x
 | [], _, _ => rfl
 | (n, v) :: r, m, h => by
  unfold bindL
  rw [bindL_out fun w hw => h w (List.mem_cons_of_mem _ hw)]
  split
  ·have : x ≠ n := by rintro rfl; exact h v List.mem_cons_self
   simp [this]
  ·rfl
theorem bindC_out {kindOf : Str → Option NameKind} {x : Str} : ∀ {binds : List (Str × Value)} {m : Str → Option Value}, (∀ v, (x, v) ∉ binds) → bindC kindOf binds m x = m x
 | [], _, _ => rfl
 | (n, v) :: r, m, h => by
  unfold bindC
  rw [bindC_out fun w hw => h w (List.mem_cons_of_mem _ hw)]
  split
  ·rfl
  ·have : x ≠ n := by rintro rfl; exact h v List.mem_cons_self
   simp [this]
theorem bindL_get {kindOf : Str → Option NameKind} {x : Str} {v : Value} : ∀ {P : List Str} {vs : List Value} {i : Nat} {m : Str → Option Value}, P.Nodup → P[i]? = some x → vs[i]? = some v → kindOf x = some .local →
  bindL kindOf (P.zip vs) m x = some v
 | [], _, _, _, _, h, _, _ => by simp at h
 | _ :: _, [], _, _, _, _, h, _ => by simp at h
 | p :: P, w :: vs, 0, m, nd, h1, h2, hk => by
  simp at h1 h2; subst h1; subst h2
  show bindL kindOf ((p, w) :: P.zip vs) m p = _
  unfold bindL
  rw [bindL_out fun v hv => (List.nodup_cons.mp nd).1 (List.of_mem_zip hv).1, if_pos hk]
  simp
 | p :: P, w :: vs, i + 1, m, nd, h1, h2, hk => by
  show bindL kindOf ((p, w) :: P.zip vs) m x = _
  unfold bindL
  exact bindL_get (i := i) (List.nodup_cons.mp nd).2 (by simpa using h1) (by simpa using h2) hk
theorem bindC_get {kindOf : Str → Option NameKind} {x : Str} {v : Value} : ∀ {P : List Str} {vs : List Value} {i : Nat} {m : Str → Option Value}, P.Nodup → P[i]? = some x → vs[i]? = some v → kindOf x ≠ some .local →
  bindC kindOf (P.zip vs) m x = some v
 | [], _, _, _, _, h, _, _ => by simp at h
 | _ :: _, [], _, _, _, _, h, _ => by simp at h
 | p :: P, w :: vs, 0, m, nd, h1, h2, hk => by
  simp at h1 h2; subst h1; subst h2
  show bindC kindOf ((p, w) :: P.zip vs) m p = _
  unfold bindC
  rw [bindC_out fun v hv => (List.nodup_cons.mp nd).1 (List.of_mem_zip hv).1, if_neg hk]
  simp
 | p :: P, w :: vs, i + 1, m, nd, h1, h2, hk => by
  show bindC kindOf ((p, w) :: P.zip vs) m x = _
  unfold bindC
  exact bindC_get (i := i) (List.nodup_cons.mp nd).2 (by simpa using h1) (by simpa using h2) hk

noncomputable def start (N : List Str) (vs : List V) : St := vs.map some ++ List.replicate (N.length - vs.length) none

noncomputable def cxOf (CX : CXT) (P : Program) (w : World) (K : PySem.W.Frag) (mg : Str → Option Value) (base : Heap) (N : List Str) (qual : Str) (scope : Scope) (f : Addr) (cd : Value) (A : Around) (outer : List Env) (s : Shared) (H : Hp) (E : XK) : Cx where
 prog := P
 w := w
 K := K
 mg := mg
 base := base
 A := A.deeper (envOfC qual scope s.heap.objs.size f cd)
 N := N
 s₀ := s
 H₀ := H
 env := envOfC qual scope s.heap.objs.size f cd
 outer := outer
 stack := envOfC qual scope s.heap.objs.size f cd :: outer
 ex := []
 calm := true
 fn := fun _ => true
 pn := []
 xe := fun e s' => wpAny (model P w) (A.deeper (envOfC qual scope s.heap.objs.size f cd)) (leaving (envOfC qual scope s.heap.objs.size f cd) e) (fun _ s'' => CX outer H s E e s'') (fun e' s'' => CX outer H s E e' s'') s'

theorem cell_has {sc : Scope} {n : Nat} {x : Str} (h : sc.names.lookup x = some .cell) : ∃ c, (cellsFrom n sc.names []).lookup x = some c := by
 have q := PySem.W.cellsFrom_some sc.names n [] (.inl h)
 exact Option.isSome_iff_exists.mp q

theorem inv_start {CX : CXT} {P : Program} {w : World} {K : PySem.W.Frag} {mg : Str → Option Value} {base : Heap} {N ps : List Str} {qual : Str} {scope : Scope} {f : Addr} {cd : Value} {A : Around} {outer : List Env} {s s1 : Shared} {H : Hp} {E : XK} {us : List Value} {vs : List V}
  (S : FnScope N ps scope) (hd : A.handled = none) (e0 : Env0 P w K mg base A outer s H) (hl : vs.length = ps.length) (r : Vals vs us)
  (x : InCallC s s.heap.objs.size (bindL (envOfC qual scope s.heap.objs.size f cd).kindOf (ps.zip us) fun _ => none) (cellsFrom (s.heap.objs.size + 1) scope.names []) (bindC (envOfC qual scope s.heap.objs.size f cd).kindOf (ps.zip us) fun _ => none) s1) :
  Inv (cxOf CX P w K mg base N qual scope f cd A outer s H E) [] (start N vs) H s1 := by
 have hpl : ps.length ≤ N.length := by have := congrArg List.length S.pre; rw [List.length_take] at this; omega
 obtain ⟨h1, tk, rfl, hk⟩ := x.done
 have noA : ∀ b : Addr, b ∉ (cxOf CX P w K mg base N qual scope f cd A outer s H E).ex := fun b z => absurd (show b ∈ ([] : List Addr) from z) (by simp)
 refine ⟨⟨e0.mod, S.kind, rfl, rfl, Nat.le_refl _, fun y z c h1 h2 => ?_, fun y hy => ?_, fun y c _ h => ?_, fun _ => hd, Around.frames_deeper e0.frames, .inr ⟨rfl, rfl⟩, fun b z => absurd z (noA b), e0.bs, e0.bsz, fun b _ _ => noA b, fun b z => absurd z (noA b), e0.funs, e0.frf⟩,
  rfl, e0.bare, Un.kept hk, ⟨_, x.toInCall.ns, fun i y v h1 h2 h3 => ?_⟩, fun y c h => ⟨_, x.cell y c h⟩, e0.hok.fresh (Nat.le_refl _), fun y c h => ?_, fun p hp => absurd (show p ∈ ([] : List (Addr × Obj)) from hp) (by simp), e0.hok.kept hk, ?_⟩
 ·exact name_of_addr x.apart (PySem.mem_of_lookup h1) (PySem.mem_of_lookup h2)
 ·have hy : scope.names.lookup y = some .cell ∨ scope.names.lookup y = some .free := hy
  rcases hy with hy | hy
  ·exact cell_has hy
  ·exact absurd rfl (S.nofree _ (PySem.mem_of_lookup hy))
 ·exact Nat.le_of_lt (x.above y c (PySem.mem_of_lookup h))
 ·have hi : i < vs.length := by
   unfold start at h2
   by_cases hi : i < vs.length
   ·exact hi
   ·rw [List.getElem?_append_right (by simpa using hi)] at h2
    rw [List.getElem?_replicate] at h2
    split at h2 <;> cases h2
  have ha : vs[i]? = some v := by
   unfold start at h2
   rw [List.getElem?_append_left (by simpa using hi), List.getElem?_map] at h2
   cases e : vs[i]? with
   | none => rw [e] at h2; cases h2
   | some a => rw [e] at h2; cases h2; rfl
  obtain ⟨u, hu, rv⟩ := r.get ha
  have hp : ps[i]? = some y := by
   rw [← S.pre, List.getElem?_take_of_lt (by omega)]; exact h1
  have ndP : ps.Nodup := by rw [← S.pre]; exact S.nd.sublist (List.take_sublist _ _)
  refine ⟨u, rv, ?_⟩
  rcases S.par y (List.mem_of_getElem? hp) with k | k
  ·exact .inl ⟨k, bindL_get ndP hp hu k⟩
  ·obtain ⟨c, e⟩ := cell_has (n := s.heap.objs.size + 1) k
   refine .inr ⟨.inl k, c, e, ?_⟩
   have q := x.cell y c e
   rw [bindC_get ndP hp hu (by show scope.names.lookup y ≠ _; rw [k]; decide)] at q
   exact q
 ·exact e0.hok.fresh (Nat.le_of_lt (x.above y c (PySem.mem_of_lookup h)))
 ·unfold start
  show _ = N.length
  rw [List.length_append, List.length_map, List.length_replicate]
  omega

theorem fn_of {CX : CXT} {P : Program} {w : World} {K : PySem.W.Frag} {mg : Str → Option Value} {base : Heap} {k : Nat} {f : Addr} {name qual : Str} {params : Arguments} {body : List Stmt} {scope : Scope} {dV kV doc pm cdv ct oc : Value} {an od : Option Addr}
  {osl : Array (Option Value)} {N ps : List Str} {sp : Sp} (lk : K.lookup f = some ⟨oc, od, .func (PySem.W.fnOf name qual params body scope dV kV doc pm an cdv ct), osl⟩) (hcd : PySem.W.codeIn K cdv qual = true) (S : FnScope N ps scope)
  (len : ∀ vs H Q E, sp vs H Q E → vs.length = ps.length)
  (hbody : ∀ (A : Around) (outer : List Env) (s : Shared) (H : Hp) (vs : List V) (Q : VK) (E : XK), Room k (A.deeper (envOfC qual scope s.heap.objs.size f cdv)) → sp vs H Q E →
   ∃ t, PSs (cxOf CX P w K mg base N qual scope f cdv A outer s H E) body t ∧ t { nx := fun _ H' => Q .non H', rt := Q } (start N vs) H) :
  FnOk P w K mg base CX (k + 1) f (PySem.W.fnOf name qual params body scope dV kV doc pm an cdv ct) ps sp := by
 refine ⟨len, fun A outer s H args us vs Q E hr e0 hb r hsp => ?_⟩
 have hl := len _ _ _ _ hsp
 have KX : K.In s.heap := e0.mod.kin.keeps fun b o e => (e0.bs b o e).1
 have lim : s.heap.NoLimit := e0.mod.nolimit.keeps fun b o e => (e0.bs b o e).1
 have hkind : ∀ y ∈ ps.zip us, scope.names.lookup y.1 = some .local ∨ (scope.names.lookup y.1 = some .cell ∧ ((cellsFrom (s.heap.objs.size + 1) scope.names []).lookup y.1).isSome = true) := fun ⟨n, v⟩ hy => by
  rcases S.par n (List.of_mem_zip hy).1 with q | q
  ·exact .inl q
  ·exact .inr ⟨q, PySem.W.cellsFrom_some _ _ _ (.inl q)⟩
 refine codeAny_call_function hr.depth (KX _ _ lk) rfl S.co S.gen rfl (PySem.W.codeRec_of KX hcd) (hb _ _ _ _ ?_)
 refine wpAny_newFunctionEnv_cells S.kind hkind fun env he s1 x => ?_
 subst he
 refine ⟨lim.keeps x.toInCall.keep, codeAny_func ?_⟩
 obtain ⟨t, ht, hq⟩ := hbody A outer s H vs Q E (hr.deeper _) hsp
 have I : Inv (cxOf CX P w K mg base N qual scope f cdv A outer s H E) [] (start N vs) H s1 := inv_start S hr.hd e0 hl r x
 refine wpAny_mono (ht [] s1 (start N vs) H _ I hq) (fun fl s' hs => ?_) fun e s' hs => hs
 have fin : ∀ {σ' : St} {H' : Hp} {v : V} {u : Value}, Inv (cxOf CX P w K mg base N qual scope f cdv A outer s H E) [] σ' H' s' → RelV v u → Q v H' → CE outer P w H s Q u s' :=
  fun {σ' H' v u} J rv q => ⟨v, H', J.os, J.bare, J.base, J.hok, rv, q⟩
 cases fl with
 | ret u =>
  obtain ⟨v, σ', H', J, rv, q⟩ := hs
  exact fin J rv q
 | next =>
  obtain ⟨σ', H', J, q⟩ := hs
  exact fin (v := V.non) (u := Value.none) J rfl q
 | brk =>
  obtain ⟨_, _, _, q⟩ := hs
  exact False.elim q
 | cont =>
  obtain ⟨_, _, _, q⟩ := hs
  exact False.elim q
end L2

namespace L2
open PySem PySem.Spec PyProof.Rows
section
variable {X : Cx} {x : Str} {p pos : Pos} {e : Expr} {es : List Expr} {t : TA} {id T : String} {r : List V → Hp → VK → Prop}

noncomputable def tCB (r : List V → Hp → VK → Prop) (t : TA) : TE := fun σ H Q => t σ H fun vs H1 => r vs H1 Q
theorem pe_callB (hc : CallR X (.builtin id) r) (hg : Gl X x) (hm : X.mg x = none) (hv : bootBuiltins x = some (.builtin id)) (ha : PA X (e :: es) t) (hn : x ≠ "__name__" := by decide) (hdb : (x == ("__debug__" : Str)) = false := by decide)
  (he : starEach (e :: es) X.env = (false, eval e X.env) :: starEach es X.env := by rfl) (hpl : (backTo pos (starEach es X.env)).any (·.1) = false := by rfl) : PE X (.Call (.Name x p) (e :: es) [] pos) (tCB r t) := by
 intro pins s σ H Q I h
 refine wpAny_Call_Name_kw (ld_blt I hg hm hv ?_ hn hdb)
 exact PyProof.Rows.callWith_builtin1 (thn (ha pos pins s σ H _ I h) fun us s1 ⟨vs, H1, I1, r1, q1⟩ => hc pins s1 σ H1 vs us Q I1 r1 q1) he hpl
theorem pe_callTy (hc : CallR X (.type T) r) (hg : Gl X x) (hm : X.mg x = none) (hv : bootBuiltins x = some (.type T)) (ha : PA X (e :: es) t) (hn : x ≠ "__name__" := by decide) (hdb : (x == ("__debug__" : Str)) = false := by decide)
  (he : starEach (e :: es) X.env = (false, eval e X.env) :: starEach es X.env := by rfl) (hpl : (backTo pos (starEach es X.env)).any (·.1) = false := by rfl) : PE X (.Call (.Name x p) (e :: es) [] pos) (tCB r t) := by
 intro pins s σ H Q I h
 refine wpAny_Call_Name_kw (ld_blt I hg hm hv ?_ hn hdb)
 exact PyProof.Rows.callWith_type1 (thn (ha pos pins s σ H _ I h) fun us s1 ⟨vs, H1, I1, r1, q1⟩ => hc pins s1 σ H1 vs us Q I1 r1 q1) he hpl
end
end L2

namespace HT
open PySem PyProof.Rows

section
open PySem.SeqAt
open PySem.AutoSeq1 (wpAny_loadPart')
open PySem.MeetsSeq PySem.MeetsSeq2 PySem.MeetsSeq3

end

section
variable {prog : Program} {w : World} {A : Around} {E : Value → Shared → Prop} {s : Shared}

noncomputable def sIx (n d : Nat) : Option Int → Nat
 | none => d
 | some v => if v < 0 then (v + (n : Int)).toNat else min v.toNat n
theorem sIx_none (n d : Nat) : sIx n d none = d := rfl
theorem sIx_nat (n d k : Nat) : sIx n d (some (k : Int)) = min k n := by
 show (if (k : Int) < 0 then ((k : Int) + (n : Int)).toNat else min (k : Int).toNat n) = min k n
 rw [if_neg (by omega), Int.toNat_natCast]
end
end HT

namespace L2
open PySem PySem.Spec PyProof.Rows

noncomputable abbrev TO := St → Hp → (Option Int → Hp → Prop) → Prop
noncomputable def PO (X : Cx) (e : Option Expr) (t : TO) : Prop :=
 ∀ (pins : List (Addr × Obj)) (s : Shared) (σ : St) (H : Hp) (Q : Option Int → Hp → Prop), Inv X pins σ H s → t σ H Q →
  wpAny (model X.prog X.w) X.A (evalPart e X.env) (fun u s' => ∃ o H', Inv X pins σ H' s' ∧ IsPart u o ∧ Q o H') X.xe s
noncomputable def tNoPart : TO := fun _ H Q => Q none H
noncomputable def tPart (t : TE) : TO := fun σ H Q => t σ H fun x H1 => ∃ i, x = .int i ∧ Q (some i) H1

section
variable {X : Cx} {e : Expr} {te : TE} {lo hi : Option Expr} {tl th : TO} {pos p2 : Pos}

theorem po_none : PO X none tNoPart := by
 intro pins s σ H Q I h
 rw [evalPart_none]
 exact wpAny_pure ⟨none, H, I, .none, h⟩
theorem po_some (h : PE X e te) : PO X (some e) (tPart te) := by
 intro pins s σ H Q I hw
 rw [evalPart_some]
 refine thn (h pins s σ H _ I hw) fun u s1 ⟨x, H1, I1, r1, q1⟩ => ?_
 obtain ⟨i, rfl, q⟩ := q1
 obtain ⟨t, rfl⟩ := r1
 exact ⟨some i, H1, I1, .int i t, q⟩

noncomputable def SlR (X : Cx) (r : V → Option Int → Option Int → Hp → VK → Prop) : Prop :=
 ∀ (pins : List (Addr × Obj)) (s : Shared) (σ : St) (H : Hp) (x : V) (v vl vu : Value) (lo hi : Option Int) (sl : Addr) (Q : VK), Inv X pins σ H s → RelV x v → s.heap.IsSliceOf sl vl vu .none → IsPart vl lo → IsPart vu hi → r x lo hi H Q →
  ∃ T id, typeLookup (.type T) "__getitem__" = pure (some (.builtin id)) ∧ s.TypeIs v T ∧ wpAny (model X.prog X.w) X.A (getItem v (.ref sl)) (EP X pins σ Q) X.xe s
noncomputable def tSl (r : V → Option Int → Option Int → Hp → VK → Prop) (te : TE) (tl th : TO) : TE := fun σ H Q => te σ H fun x H1 => tl σ H1 fun l H2 => th σ H2 fun u H3 => r x l u H3 Q
theorem pe_slice {r : V → Option Int → Option Int → Hp → VK → Prop} (hr : SlR X r) (he : PE X e te) (hl : PO X lo tl) (hu : PO X hi th) : PE X (.Subscript e (.Slice lo hi none p2) pos) (tSl r te tl th) := by
 intro pins s σ H Q I h
 refine Subscript_ (thn (he pins s σ H _ I h) fun v s1 ⟨x, H1, I1, r1, q1⟩ => ?_)
 refine wpAny_Slice (thn (hl pins s1 σ H1 _ I1 q1) fun vl s2 ⟨l, H2, I2, pl, q2⟩ => thn (hu pins s2 σ H2 _ I2 q2) fun vu s3 ⟨u, H3, I3, pu, q3⟩ => ?_)
 rw [evalPart_none]
 refine wpAny_pure ?_
 have I4 : Inv X pins σ H3 { s3 with heap := s3.heap.push { cls := .type "slice", data := .fields #[vl, vu, .none] } } := I3.kept (t' := s3.toks) fun b ob q => Heap.get?_push_of_some _ q
 obtain ⟨T, id, hT, ht, hg⟩ := hr pins { s3 with heap := s3.heap.push { cls := .type "slice", data := .fields #[vl, vu, .none] } } σ H3 x v vl vu l u s3.heap.objs.size Q I4 r1 (Heap.IsSliceOf.new ..) pl pu q3
 show wpAny (model X.prog X.w) X.A (subscriptTail e (.Slice lo hi none p2) v (.ref s3.heap.objs.size)) (EP X pins σ Q) X.xe { s3 with heap := s3.heap.push { cls := .type "slice", data := .fields #[vl, vu, .none] } }
 exact tail_any (ops := [.ref s3.heap.objs.size, v]) ht hT hg (by with_unfolding_all rfl)

noncomputable def cutV (xs : List V) (lo hi : Option Int) : List V := (xs.drop (HT.sIx xs.length 0 lo)).take (HT.sIx xs.length xs.length hi - HT.sIx xs.length 0 lo)
theorem cutV_length (xs : List V) (lo hi : Option Int) : (cutV xs lo hi).length ≤ xs.length := by
 unfold cutV
 rw [List.length_take, List.length_drop]
 omega
end
end L2

namespace L2
open PySem PySem.Spec PyProof.Rows

noncomputable def ixN (n : Nat) (i : Int) : Option Nat := if 0 ≤ i then (if i < n then some i.toNat else none) else if -(n : Int) ≤ i then some (i + n).toNat else none
noncomputable def atI {α : Type} (xs : List α) (i : Int) : Option α := (ixN xs.length i).bind fun j => xs[j]?
theorem ixN_seq {n : Nat} {i : Int} {j : Nat} (h : ixN n i = some j) : seqIndex? i n = some j ∧ j < n ∧ -(n : Int) ≤ i ∧ i < n := by
 unfold ixN at h
 by_cases h0 : 0 ≤ i
 ·rw [if_pos h0] at h
  by_cases h1 : i < n
  ·rw [if_pos h1] at h
   have e : i.toNat = j := Option.some.inj h
   exact ⟨by rw [seqIndex_of h0 h1, e], by omega, by omega, h1⟩
  ·rw [if_neg h1] at h; cases h
 ·rw [if_neg h0] at h
  by_cases h1 : -(n : Int) ≤ i
  ·rw [if_pos h1] at h
   have e : (i + n).toNat = j := Option.some.inj h
   exact ⟨by rw [seqIndex_neg (by omega) h1, e], by omega, h1, by omega⟩
  ·rw [if_neg h1] at h; cases h
theorem atI_get {α : Type} {xs : List α} {i : Int} {v : α} (h : atI xs i = some v) : ∃ j, seqIndex? i xs.length = some j ∧ xs[j]? = some v ∧ j < xs.length ∧ -(xs.length : Int) ≤ i ∧ i < xs.length := by
 unfold atI at h
 cases e : ixN xs.length i with
 | none => rw [e] at h; cases h
 | some j =>
  rw [e] at h
  obtain ⟨h1, h2, h3, h4⟩ := ixN_seq e
  exact ⟨j, h1, h, h2, h3, h4⟩
theorem atI_nat {α : Type} {xs : List α} {j : Nat} {v : α} (h : xs[j]? = some v) : atI xs (j : Int) = some v := by
 have hj : j < xs.length := (List.getElem?_eq_some_iff.mp h).1
 have e : ixN xs.length (j : Int) = some j := by
  unfold ixN
  rw [if_pos (by omega), if_pos (by omega)]; simp
 unfold atI; rw [e]; exact h
noncomputable def PlainIx (b : Expr) : Prop := ∀ o i, subscripted b false o i = operate [o, i] (getItem o i)
noncomputable def IxR (X : Cx) (r : R2) : Prop :=
 ∀ (value slice : Expr) (pins : List (Addr × Obj)) (s : Shared) (σ : St) (H : Hp) (x y : V) (v u : Value) (Q : VK), Inv X pins σ H s → RelV x v → RelV y u → r x y H Q →
  subscripted slice false v u = operate [v, u] (getItem v u) → wpAny (model X.prog X.w) X.A (subscriptTail value slice v u) (EP X pins σ Q) X.xe s
noncomputable def MtR (X : Cx) (id : String) (r : V → List V → Hp → VK → Prop) : Prop :=
 ∀ (pins : List (Addr × Obj)) (s : Shared) (σ : St) (H : Hp) (x : V) (xs : List V) (v : Value) (us : List Value) (Q : VK), Inv X pins σ H s → RelV x v → Vals xs us → r x xs H Q →
  wpAny (model X.prog X.w) X.A (call (.builtin id) (v :: us)) (EP X pins σ Q) X.xe s
section
variable {X : Cx} {a b : Expr} {ta tb : TE} {pos : Pos}
theorem pe_ix {r : R2} (hr : IxR X r) (ha : PE X a ta) (hb : PE X b tb) (hs : PlainIx b) : PE X (.Subscript a b pos) (tOp r ta tb) := by
 intro pins s σ H Q I h
 exact Subscript_ (binT ha hb I h fun v u s2 x y H2 I2 rx ry q => hr a b pins s2 σ H2 x y v u Q I2 rx ry q (hs _ _))

noncomputable def rIxL (K : PySem.W.Frag) : R2 := fun x y H Q => ∃ p xs i v, x = .ref p ∧ y = .int i ∧ SqL K H p xs ∧ atI xs i = some v ∧ Q v H
noncomputable def rIxT (K : PySem.W.Frag) : R2 := fun x y H Q => ∃ p xs i v, x = .ref p ∧ y = .int i ∧ SqT K H p xs ∧ atI xs i = some v ∧ Q v H
theorem ix_list : IxR X (rIxL X.K) := by
 intro value slice pins s σ H x y v u Q I rx ry h hs
 obtain ⟨p, xs, i, z, rfl, rfl, hq, he, q⟩ := h
 cases rx
 obtain ⟨t, rfl⟩ := ry
 obtain ⟨its, r, pl, hz⟩ := I.list hq
 obtain ⟨j, h1, h2, h3, h4, h5⟩ := atI_get he
 obtain ⟨w, ew, rw'⟩ := r.get h2
 have hl := r.length
 have hn := line63
 have fin : EP X pins σ Q w s := ⟨z, H, I, rw', q⟩
 by_cases h0 : 0 ≤ i
 ·have hj : i.toNat = j := by
   rw [seqIndex_of h0 h5] at h1
   exact Option.some.inj h1
  exact item_listR pl.isList h0 (by omega) (by rw [hj]; simpa using ew) fin hs
 ·have hj : (i + (its.toArray.size : Int)).toNat = j := by
   rw [seqIndex_neg (by omega) h4] at h1
   rw [List.size_toArray, ← hl]
   exact Option.some.inj h1
  exact subscriptTail_builtinR (x := w) pl.isList.typeIs slot_list_getitem.lookup
   (wpAny_getItem_list_neg (Q := fun r s' => r = w ∧ EP X pins σ Q r s') pl.isList (by omega) (by rw [List.size_toArray] <;> omega) (by omega) (by rw [hj]; simpa using ew) ⟨rfl, fin⟩) hs
theorem ix_tup : IxR X (rIxT X.K) := by
 intro value slice pins s σ H x y v u Q I rx ry h hs
 obtain ⟨p, xs, i, z, rfl, rfl, hq, he, q⟩ := h
 cases rx
 obtain ⟨t, rfl⟩ := ry
 obtain ⟨its, r, pl, hz⟩ := I.tuple hq
 obtain ⟨j, h1, h2, h3, h4, h5⟩ := atI_get he
 obtain ⟨w, ew, rw'⟩ := r.get h2
 have hl := r.length
 have hn := line63
 have fin : EP X pins σ Q w s := ⟨z, H, I, rw', q⟩
 exact subscriptTail_builtinR (x := w) pl.typeIs slot_tuple_getitem.lookup
  (getItem_tuple (j := j) (Q := fun r s' => r = w ∧ EP X pins σ Q r s') pl (by omega) (by omega) (by rw [List.size_toArray, ← hl]; exact h1) (by simpa using ew) ⟨rfl, fin⟩) hs
theorem mapSeq_set (its : List Value) (n j : Nat) (u : Value) : Obj.mapSeq (·.setIfInBounds j u) { cls := .type "list", data := .seq its.toArray n } = { cls := .type "list", data := .seq (its.set j u).toArray n } := by
 simp [Obj.mapSeq]
theorem Inv.lst {pins : List (Addr × Obj)} {σ : St} {H : Hp} {s : Shared} {p : Addr} {xs : List V} (I : Inv X pins σ H s) (h : H p = some (.lst xs)) :
  ∃ (its : List Value) (n : Nat), Vals xs its ∧ s.heap.get? p = some { cls := .type "list", data := .seq its.toArray n } ∧ xs.length ≤ sizeLine := by
 obtain ⟨z, its, n, r, e⟩ := I.hok p _ h
 exact ⟨its, n, r, e, z⟩
theorem Inv.lstUpd {pins : List (Addr × Obj)} {σ : St} {H : Hp} {s : Shared} {p : Addr} {xs ys : List V} {its its' : List Value} {n n' : Nat} {f : Obj → Obj} (I : Inv X pins σ H s) (h : H p = some (.lst xs))
  (ho : s.heap.get? p = some { cls := .type "list", data := .seq its.toArray n }) (hf : f { cls := .type "list", data := .seq its.toArray n } = { cls := .type "list", data := .seq its'.toArray n' }) (r : Vals ys its') (hz : ys.length ≤ sizeLine) (t : Nat) :
  Inv X pins σ (upd H p (.lst ys)) { s with heap := s.heap.update p f, toks := t } := by
 have e : (s.heap.update p f).get? p = some { cls := .type "list", data := .seq its'.toArray n' } := by
  rw [Heap.get?_update_self f ho (by rw [hf] <;> rfl), hf]
 refine I.write (x := p) (e := p) (by rw [h]; trivial) (.inl rfl) (fun b u hb q => (Heap.get?_update_other _ _ (Ne.symm hb)).trans q) ⟨_, e⟩ ?_
 exact ⟨hz, its', n', r, e⟩
noncomputable def rSetL : V → V → V → Hp → (Hp → Prop) → Prop := fun o i v H Q => ∃ p xs k j, o = .ref p ∧ i = .int k ∧ H p = some (.lst xs) ∧ ixN xs.length k = some j ∧ Q (upd H p (.lst (xs.set j v)))
theorem set_list : PSet X rSetL := by
 intro pins s σ H o i v ov iv u Q I ro ri rv h
 obtain ⟨p, xs, k, j, rfl, rfl, hp, hj, q⟩ := h
 cases ro
 obtain ⟨t, rfl⟩ := ri
 obtain ⟨its, n, r, ho, hz⟩ := I.lst hp
 obtain ⟨h1, h2, h3, h4⟩ := ixN_seq hj
 have hl := r.length
 have hn := line63
 have I' : Inv X pins σ (upd H p (.lst (xs.set j v))) { s with heap := s.heap.update p (Obj.mapSeq (·.setIfInBounds j u)) } :=
  I.lstUpd hp ho (mapSeq_set its n j u) (r.set rv j) (by rw [List.length_set]; exact hz) s.toks
 by_cases h0 : 0 ≤ k
 ·have hk : k.toNat = j := by
   rw [seqIndex_of h0 h4] at h1
   exact Option.some.inj h1
  exact PySem.W.ki_setAt ho h0 (by omega) (by rw [List.size_toArray, ← hl]; exact h4) (by rw [hk]; exact ⟨_, I', q⟩)
 ·have hk : (k + (its.toArray.size : Int)).toNat = j := by
   rw [seqIndex_neg (by omega) h3] at h1
   rw [List.size_toArray, ← hl]
   exact Option.some.inj h1
  exact PySem.W.ki_setBack ho (by omega) (by rw [List.size_toArray, ← hl]; exact h3) (by omega) (by rw [hk]; exact ⟨_, I', q⟩)

theorem slice_bounds (lo hi : Option Int) (n : Nat) : (sliceBounds lo hi none n).1 = ((HT.sIx n 0 lo : Nat) : Int) ∧ (sliceBounds lo hi none n).2.1 = ((HT.sIx n n hi : Nat) : Int) ∧ (sliceBounds lo hi none n).2.2 = 1 := by
 refine ⟨?_, ?_, rfl⟩
 ·cases lo with
  | none => simp [sliceBounds, HT.sIx]
  | some i =>
   simp only [sliceBounds, HT.sIx, Option.getD_none, show (1 : Int) > 0 by decide, if_true]
   by_cases h : i < 0
   ·simp only [h, if_true] <;> omega
   ·simp only [h, if_false] <;> omega
 ·cases hi with
  | none => simp [sliceBounds, HT.sIx]
  | some i =>
   simp only [sliceBounds, HT.sIx, Option.getD_none, show (1 : Int) > 0 by decide, if_true]
   by_cases h : i < 0
   ·simp only [h, if_true] <;> omega
   ·simp only [h, if_false] <;> omega
theorem slicePick_cut (its : List Value) (lo hi : Option Int) : slicePick its.toArray lo hi none = ((its.drop (HT.sIx its.length 0 lo)).take (HT.sIx its.length its.length hi - HT.sIx its.length 0 lo)).toArray := by
 obtain ⟨h1, h2, h3⟩ := slice_bounds lo hi its.toArray.size
 unfold slicePick
 rw [h1, h2, h3]
 simp only [sliceRange_one, pick_run, List.size_toArray] <;> rfl
noncomputable def rSlL (K : PySem.W.Frag) : V → Option Int → Option Int → Hp → VK → Prop := fun x lo hi H Q => ∃ a xs, x = .ref a ∧ SqL K H a xs ∧ ∀ p, H p = none → Q (.ref p) (upd H p (.lst (cutV xs lo hi)))
theorem sl_list : SlR X (rSlL X.K) := by
 intro pins s σ H x v vl vu lo hi sl Q I rx hs pl pu h
 obtain ⟨a, xs, rfl, hx, q⟩ := h
 cases rx
 obtain ⟨its, r, ht, hz⟩ := I.list hx
 have hlen := r.length
 refine ⟨"list", _, slot_list_getitem.lookup, ht.isList.typeIs, ?_⟩
 refine wpAny_getItem_list_slice ht.isList hs pl pu .none (by simp) ?_ (by rw [List.size_toArray] <;> omega)
 rw [slicePick_cut, ← hlen]
 refine ⟨.ref s.heap.objs.size, _, I.laid (t' := s.toks) (o := .lst (cutV xs lo hi)) (fun b ob q => Heap.get?_push_of_some _ q) (Nat.le_refl _) ?_, rfl, q _ (I.hok.fresh (Nat.le_refl _))⟩
 exact ⟨Nat.le_trans (cutV_length xs lo hi) hz, _, 0, (r.drop (HT.sIx xs.length 0 lo)).take (HT.sIx xs.length xs.length hi - HT.sIx xs.length 0 lo), Heap.get?_push_size _ rfl⟩

noncomputable def flatV : V → Bool
 | .non => true
 | .bl _ => true
 | .int _ => true
 | .str _ => true
 | _ => false
noncomputable def eqV : V → V → Bool
 | .non, .non => true
 | .bl a, .bl b => a == b
 | .bl a, .int b => (if a then 1 else 0) == b
 | .int a, .bl b => a == (if b then 1 else 0)
 | .int a, .int b => a == b
 | .str a, .str b => a == b
 | _, _ => false
theorem eqAt_V {A : Around} {s : Shared} {y x : V} {u v : Value} (ry : RelV y u) (rx : RelV x v) (fy : flatV y = true) (fx : flatV x = true) : SeqAt.EqAt A s u v (eqV y x) := by
 cases y with
 | non =>
  cases ry
  cases x with
  | non => cases rx; exact SeqAt.EqAt.same _
  | bl b => cases rx; exact SeqAt.EqAt.none_bool b
  | int b => obtain ⟨t, rfl⟩ := rx; exact SeqAt.EqAt.none_int b t
  | str b => obtain ⟨t, rfl⟩ := rx; exact SeqAt.EqAt.none_str b t
  | _ => exact absurd (show false = true from fx) Bool.false_ne_true
 | bl a =>
  cases ry
  cases x with
  | non => cases rx; exact SeqAt.EqAt.bool_none a
  | bl b => cases rx; exact SeqAt.EqAt.bool_bool a b
  | int b => obtain ⟨t, rfl⟩ := rx; exact SeqAt.EqAt.bool_int a b t
  | str b => obtain ⟨t, rfl⟩ := rx; exact SeqAt.EqAt.bool_str a b t
  | _ => exact absurd (show false = true from fx) Bool.false_ne_true
 | int a =>
  obtain ⟨t', rfl⟩ := ry
  cases x with
  | non => cases rx; exact SeqAt.EqAt.int_none a t'
  | bl b => cases rx; exact SeqAt.EqAt.int_bool a t' b
  | int b => obtain ⟨t, rfl⟩ := rx; exact SeqAt.EqAt.int_int a t' b t
  | str b => obtain ⟨t, rfl⟩ := rx; exact SeqAt.EqAt.int_str a t' b t
  | _ => exact absurd (show false = true from fx) Bool.false_ne_true
 | str a =>
  obtain ⟨t', rfl⟩ := ry
  cases x with
  | non => cases rx; exact SeqAt.EqAt.str_none a t'
  | bl b => cases rx; exact SeqAt.EqAt.str_bool a t' b
  | int b => obtain ⟨t, rfl⟩ := rx; exact SeqAt.EqAt.str_int a t' b t
  | str b => obtain ⟨t, rfl⟩ := rx; exact SeqAt.EqAt.str_str a t' b t
  | _ => exact absurd (show false = true from fx) Bool.false_ne_true
 | _ => exact absurd (show false = true from fy) Bool.false_ne_true
noncomputable def eqU (x : V) (u : Value) : Bool := match u with
 | .none => eqV .non x
 | .bool b => eqV (.bl b) x
 | .int i _ => eqV (.int i) x
 | .str z _ => eqV (.str z) x
 | _ => false
theorem eqU_of {x y : V} {u : Value} (r : RelV y u) (f : flatV y = true) : eqU x u = eqV y x := by
 cases y with
 | non => cases r; rfl
 | bl b => cases r; rfl
 | int i => obtain ⟨t, rfl⟩ := r; rfl
 | str z => obtain ⟨t, rfl⟩ := r; rfl
 | _ => exact absurd (show false = true from f) Bool.false_ne_true
theorem any_eqU {x : V} : ∀ {xs : List V} {us : List Value}, Vals xs us → xs.all flatV = true → us.any (eqU x) = xs.any fun y => eqV y x
 | _, _, .nil, _ => rfl
 | y :: xs, u :: us, .cons r t, f => by
  rw [List.all_cons, Bool.and_eq_true] at f
  rw [List.any_cons, List.any_cons, eqU_of r f.1, any_eqU t f.2]
theorem mem_eqAt {A : Around} {s : Shared} {x : V} {v : Value} (rx : RelV x v) (fx : flatV x = true) : ∀ {xs : List V} {us : List Value}, Vals xs us → xs.all flatV = true → ∀ u ∈ us, SeqAt.EqAt A s u v (eqU x u)
 | _, _, .nil, _ => fun u hu => by cases hu
 | y :: xs, u :: us, .cons r t, f => fun u' hu => by
  rw [List.all_cons, Bool.and_eq_true] at f
  rcases List.mem_cons.mp hu with rfl | hu
  ·rw [eqU_of r f.1]; exact eqAt_V r rx f.1 fx
  ·exact mem_eqAt rx fx t f.2 u' hu
noncomputable def inV (x : V) (xs : List V) : Bool := xs.any fun y => eqV y x
noncomputable def rIn (K : PySem.W.Frag) (neg : Bool) : R2 := fun x y H Q => ∃ p xs, y = .ref p ∧ (SqL K H p xs ∨ SqT K H p xs) ∧ flatV x = true ∧ xs.all flatV = true ∧ Q (.bl (if neg then !inV x xs else inV x xs)) H
theorem op_in_seq : OpR X (compareOp .In) (rIn X.K false) := by
 intro pins s σ H x y v u Q I rx ry h
 obtain ⟨p, xs, rfl, hq, fx, fs, q⟩ := h
 cases ry
 rcases hq with hq | hq
 ·obtain ⟨its, r, pl, hz⟩ := I.list hq
  refine SeqAt.in_listAt (eqU x) pl.isList (fun w hw => mem_eqAt rx fx r fs w (by simpa using hw)) ⟨.bl _, H, I, rfl, ?_⟩
  rw [show its.toArray.any (eqU x) = its.any (eqU x) by simp, any_eqU r fs]
  exact q
 ·obtain ⟨its, r, pl, hz⟩ := I.tuple hq
  refine SeqAt.in_tupleAt (eqU x) pl (fun w hw => mem_eqAt rx fx r fs w (by simpa using hw)) ⟨.bl _, H, I, rfl, ?_⟩
  rw [show its.toArray.any (eqU x) = its.any (eqU x) by simp, any_eqU r fs]
  exact q
theorem op_notIn_seq : OpR X (compareOp .NotIn) (rIn X.K true) := by
 intro pins s σ H x y v u Q I rx ry h
 obtain ⟨p, xs, rfl, hq, fx, fs, q⟩ := h
 cases ry
 rcases hq with hq | hq
 ·obtain ⟨its, r, pl, hz⟩ := I.list hq
  refine SeqAt.notIn_listAt (eqU x) pl.isList (fun w hw => mem_eqAt rx fx r fs w (by simpa using hw)) ⟨.bl _, H, I, rfl, ?_⟩
  rw [show its.toArray.any (eqU x) = its.any (eqU x) by simp, any_eqU r fs]
  exact q
 ·obtain ⟨its, r, pl, hz⟩ := I.tuple hq
  refine SeqAt.notIn_tupleAt (eqU x) pl (fun w hw => mem_eqAt rx fx r fs w (by simpa using hw)) ⟨.bl _, H, I, rfl, ?_⟩
  rw [show its.toArray.any (eqU x) = its.any (eqU x) by simp, any_eqU r fs]
  exact q
theorem call_len_seq : CallR X (.builtin "len") (fun xs H Q => ∃ p ys, xs = [.ref p] ∧ (SqL X.K H p ys ∨ SqT X.K H p ys) ∧ Q (.int ys.length) H) := by
 intro pins s σ H xs us Q I r h
 obtain ⟨p, ys, rfl, hq, q⟩ := h
 obtain ⟨u, rfl, rx⟩ := vals1 r
 cases rx
 have hn := line63
 rcases hq with hq | hq
 ·obtain ⟨its, r', pl, hz⟩ := I.list hq
  have hlen := r'.length
  exact Calls.call_len_list pl.isList (by simp only [List.size_toArray] <;> omega) ⟨.int ys.length, H, I.tok _, ⟨s.toks + 1, by rw [List.size_toArray, hlen]⟩, q⟩
 ·obtain ⟨its, r', pl, hz⟩ := I.tuple hq
  have hlen := r'.length
  exact len_tuple pl (by simp only [List.size_toArray] <;> omega) ⟨.int ys.length, H, I.tok _, ⟨s.toks + 1, by rw [List.size_toArray, hlen]⟩, q⟩
theorem call_list_of : CallR X (.type "list") (fun xs H Q => ∃ p ys, xs = [.ref p] ∧ (SqL X.K H p ys ∨ SqT X.K H p ys) ∧ ∀ l, H l = none → Q (.ref l) (upd H l (.lst ys))) := by
 intro pins s σ H xs us Q I r h
 obtain ⟨p, ys, rfl, hq, q⟩ := h
 obtain ⟨u, rfl, rx⟩ := vals1 r
 cases rx
 have fin : ∀ (its : List Value), Vals ys its → ys.length ≤ sizeLine → ∀ (h' : Heap) (c' : Nat), (∀ b o', s.heap.get? b = some o' → h'.get? b = some o') →
   h'.get? s.heap.objs.size = some { cls := .type "list", dict := none, data := .seq its.toArray c', slots := #[] } → EP X pins σ Q (.ref s.heap.objs.size) { s with heap := h' } := fun its r' hz h' c' kp e =>
  ⟨.ref s.heap.objs.size, _, I.laid (t' := s.toks) kp (Nat.le_refl _) (show ObjOk X.prog X.w _ h' _ (.lst ys) from ⟨hz, its, c', r', e⟩), rfl, q _ (I.hok.fresh (Nat.le_refl _))⟩
 rcases hq with hq | hq
 ·obtain ⟨its, r', pl, hz⟩ := I.list hq
  have hlen := r'.length
  obtain ⟨o, ho, hc, n, hd⟩ := pl.isList
  exact call_list_seq p (.inl rfl) ho hc hd (fun h' c' kp e => fin its r' hz h' c' kp e) (by simp only [List.size_toArray] <;> omega)
 ·obtain ⟨its, r', pl, hz⟩ := I.tuple hq
  have hlen := r'.length
  obtain ⟨o, ho, hc, n, hd⟩ := pl
  exact call_list_seq p (.inr rfl) ho hc hd (fun h' c' kp e => fin its r' hz h' c' kp e) (by simp only [List.size_toArray] <;> omega)
theorem call_tuple_of : CallR X (.type "tuple") (fun xs H Q => ∃ p ys, xs = [.ref p] ∧ ((SqL X.K H p ys ∧ ∀ l, H l = none → Q (.ref l) (upd H l (.tup ys))) ∨ (SqT X.K H p ys ∧ Q (.ref p) H))) := by
 intro pins s σ H xs us Q I r h
 obtain ⟨p, ys, rfl, h⟩ := h
 obtain ⟨u, rfl, rx⟩ := vals1 r
 cases rx
 rcases h with ⟨hq, q⟩ | ⟨hq, q⟩
 ·obtain ⟨its, r', pl, hz⟩ := I.list hq
  have hlen := r'.length
  refine call_tuple_list pl.isList (fun h' kp => ?_) (by simp only [List.size_toArray] <;> omega)
  have I1 : Inv X pins σ H { s with heap := h' } := I.kept (t' := s.toks) kp
  have I2 : Inv X pins σ (upd H h'.objs.size (.tup ys)) { s with heap := h'.push { cls := .type "tuple", data := .seq its.toArray } } :=
   I1.laid (t' := s.toks) (fun b o e => Heap.get?_push_of_some _ e) (Nat.le_refl _) (show ObjOk X.prog X.w _ _ _ (.tup ys) from ⟨hz, its, r', IsTup.new _ _⟩)
  exact ⟨.ref h'.objs.size, _, I2, rfl, q _ (I1.hok.fresh (Nat.le_refl _))⟩
 ·obtain ⟨its, r', pl, hz⟩ := I.tuple hq
  exact call_tuple_same pl ⟨.ref p, H, I, rfl, q⟩

noncomputable def tyV (K : PySem.W.Frag) (T : String) (x : V) (H : Hp) : Prop := match x with
 | .str _ => T = "str"
 | .int _ => T = "int"
 | .ref p => (T = "list" ∧ ∃ xs, SqL K H p xs) ∨ (T = "tuple" ∧ ∃ o, K.lookup p = some o ∧ o.cls = .type "tuple" ∧ o.dict = none) ∨
   (T = "dict" ∧ ((∃ kvs, H p = some (.dK kvs)) ∨ ∃ kvs, H p = some (.dT kvs))) ∨ (T = "set" ∧ ∃ S n, H p = some (.set S n))
 | _ => False
theorem tyV_is {pins : List (Addr × Obj)} {σ : St} {H : Hp} {s : Shared} {T : String} {x : V} {v : Value} (I : Inv X pins σ H s) (r : RelV x v) (ty : tyV X.K T x H) :
  s.TypeIs v T ∧ ∀ a, v = .ref a → ∃ ob, s.heap.get? a = some ob ∧ ob.dict = none := by
 cases x with
 | str z =>
  obtain ⟨t, rfl⟩ := r
  cases (show T = "str" from ty)
  exact ⟨typeIs_str s z t, fun _ e => nomatch e⟩
 | int i =>
  obtain ⟨t, rfl⟩ := r
  cases (show T = "int" from ty)
  exact ⟨typeIs_int s i t, fun _ e => nomatch e⟩
 | ref p =>
  cases r
  rcases ty with ⟨rfl, xs, hq⟩ | ⟨rfl, o, hk, hc, hd⟩ | ⟨rfl, hk⟩ | ⟨rfl, S, n, hk⟩
  ·obtain ⟨its, _, pl, _⟩ := I.list hq
   refine ⟨pl.isList.typeIs, fun a e => ?_⟩
   cases e
   obtain ⟨o, n, e, c, hd, _⟩ := pl
   exact ⟨o, e, hd⟩
  ·refine ⟨⟨o, I.kIn p o hk, hc⟩, fun a e => ?_⟩
   cases e
   exact ⟨o, I.kIn _ o hk, hd⟩
  ·have z : ∃ o, s.heap.get? p = some o ∧ o.ExactDict := by
    rcases hk with ⟨kvs, hk⟩ | ⟨kvs, hk⟩
    ·obtain ⟨_, _, _, _, o, _, _, e, ex, _⟩ := I.hok p _ hk
     exact ⟨o, e, ex⟩
    ·obtain ⟨_, _, _, _, o, _, _, e, ex, _⟩ := I.hok p _ hk
     exact ⟨o, e, ex⟩
   obtain ⟨o, e, ex⟩ := z
   refine ⟨⟨o, e, ex.1⟩, fun a e2 => ?_⟩
   cases e2
   exact ⟨o, e, ex.2.1⟩
  ·obtain ⟨o, _, _, _, e, ex, _⟩ := I.hok p _ hk
   refine ⟨⟨o, e, ex.1⟩, fun a e2 => ?_⟩
   cases e2
   exact ⟨o, e, ex.2.1⟩
 | _ => exact False.elim ty
noncomputable def tBM (K : PySem.W.Frag) (T : String) (r : V → List V → Hp → VK → Prop) (to : TE) (t : TA) : TE := fun σ H Q => to σ H fun x H1 => tyV K T x H1 ∧ t σ H1 fun xs H2 => r x xs H2 Q
variable {o e : Expr} {es : List Expr} {to : TE} {t : TA} {name : Str} {apos cpos : Pos} {T id : String} {r : V → List V → Hp → VK → Prop}
theorem pe_bm (pa : PlainAttrs T) (slot : Slot T name id) (hty : typeOf (.builtin id) = pure (.type "method_descriptor")) (hm : MtR X id r) (ho : PE X o to) (ha : PA X (e :: es) t)
  (hbase : attributeBase o name X.env (eval o X.env) = eval o X.env := by rfl)
  (hfew : ((backTo cpos (starEach (e :: es) X.env)).all (fun x => !x.1) && (backToKw cpos (keywordEach [] X.env)).all (fun x => x.1.isSome)
   && decide ((e :: es).length + ([] : List Keyword).length + (if ([] : List Keyword).isEmpty then 0 else 1) < 30)) = true := by rfl)
  (hline : (apos.endLine == cpos.line) = true := by rfl) (hs : starEach (e :: es) X.env = (false, eval e X.env) :: starEach es X.env := by rfl) (hplain : (backTo cpos (starEach es X.env)).any (·.1) = false := by rfl) :
  PE X (.Call (.Attribute o name apos) (e :: es) [] cpos) (tBM X.K T r to t) := by
 intro pins s σ H Q I h
 refine wpAny_Call_method_late hbase hfew hline rfl (thn (ho pins s σ H _ I h) fun v s1 ⟨x, H1, I1, r1, ty, q1⟩ => ?_)
 obtain ⟨h1, h2⟩ := tyV_is I1 r1 ty
 refine ⟨T, id, pa, slot, hty, h1, h2, ?_⟩
 have hA := ha cpos pins s1 σ H1 _ I1 q1
 rw [hs] at hA ⊢
 refine Calls.callWith_builtin (by show (false || (backTo cpos (starEach es X.env)).any (·.1)) = false; rw [hplain] <;> rfl) (Calls.evalArgs_plain ?_)
 exact thn hA fun us s2 ⟨vs, H2, I2, r2, q2⟩ => hm pins s2 σ H2 x vs v us Q I2 r1 r2 q2
end
end L2

namespace L2
open PySem PySem.Spec PyProof.Rows

noncomputable def MtM (X : Cx) (id : String) (r : V → List V → Hp → VK → Prop) : Prop :=
 ∀ (pins : List (Addr × Obj)) (s : Shared) (σ : St) (H : Hp) (x : V) (xs : List V) (v : Value) (us : List Value) (Q : VK), Inv X pins σ H s → RelV x v → Vals xs us → r x xs H Q →
  wpAny (model X.prog X.w) X.A (call (.builtin id) (v :: us)) (EP X pins σ Q) X.xe s

theorem Vals.one : ∀ {x : V} {us : List Value}, Vals [x] us → ∃ u, us = [u] ∧ RelV x u
 | _, _, .cons r .nil => ⟨_, rfl, r⟩
theorem Vals.two {x y : V} {us : List Value} (h : Vals [x, y] us) : ∃ u v, us = [u, v] ∧ RelV x u ∧ RelV y v := by
 cases h with
 | cons r t => cases t with
  | cons q t => cases t with
   | nil => exact ⟨_, _, rfl, r, q⟩
theorem Vals.rep {xs : List V} {us : List Value} (h : Vals xs us) : ∀ k : Nat, Vals (List.replicate k xs).flatten (List.replicate k us).flatten
 | 0 => .nil
 | k + 1 => by
  rw [List.replicate_succ, List.replicate_succ, List.flatten_cons, List.flatten_cons]
  exact Vals.append h (Vals.rep h k)
theorem foldl_rep (its : List Value) : ∀ (k : Nat) (acc : List Value),
  List.foldl (fun x1 x2 => x1 ++ x2) acc.toArray (List.replicate k its.toArray) = (acc ++ (List.replicate k its).flatten).toArray
 | 0, acc => by simp
 | k + 1, acc => by
  have e : acc.toArray ++ its.toArray = (acc ++ its).toArray := by simp
  have e2 : (acc ++ its) ++ (List.replicate k its).flatten = acc ++ (List.replicate (k + 1) its).flatten := by
   rw [List.replicate_succ, List.flatten_cons, List.append_assoc]
  rw [← e2, ← foldl_rep its k (acc ++ its), ← e, List.replicate_succ, List.foldl_cons]

section
variable {X : Cx} {pins : List (Addr × Obj)} {σ : St} {H : Hp} {s : Shared} {l b : Addr} {xs ys zs : List V}

theorem Inv.lset {its its' : List Value} {n : Nat} {f : Array Value → Array Value} {t' : Nat} (I : Inv X pins σ H s) (hH : H l = some (.lst xs))
  (e : s.heap.get? l = some { cls := .type "list", data := .seq its.toArray n }) (hf : f its.toArray = its'.toArray) (hv : Vals ys its') (hz : ys.length ≤ sizeLine) :
  Inv X pins σ (upd H l (.lst ys)) { s with heap := s.heap.update l (Obj.mapSeq f), toks := t' } := by
 have q := PySem.IsL.update e f
 rw [hf] at q
 refine I.write (x := l) (e := l) (by rw [hH]; exact trivial) (.inl rfl) (fun b' u hb hu => (Heap.get?_update_other s.heap (Obj.mapSeq f) (Ne.symm hb)).trans hu) ⟨_, q⟩ ?_
 exact ⟨hz, its', _, hv, q⟩
theorem Inv.lnew {its : List Value} {t' : Nat} (I : Inv X pins σ H s) (hv : Vals ys its) (hz : ys.length ≤ sizeLine) :
  Inv X pins σ (upd H s.heap.objs.size (.lst ys)) { s with heap := s.heap.push { cls := .type "list", data := .seq its.toArray }, toks := t' } :=
 I.laid (fun _ _ q => Heap.get?_push_of_some _ q) (Nat.le_refl _) ⟨hz, its, 0, hv, Heap.get?_push_size _ rfl⟩
theorem Inv.fresh (I : Inv X pins σ H s) : H s.heap.objs.size = none := I.hok.fresh (Nat.le_refl _)
theorem Inv.lstM (I : Inv X pins σ H s) (hH : H l = some (.lst xs)) : xs.length ≤ sizeLine ∧ ∃ (its : List Value) (n : Nat), Vals xs its ∧ xs.length = its.length ∧ s.heap.get? l = some { cls := .type "list", data := .seq its.toArray n } := by
 obtain ⟨z, its, n, r, e⟩ := I.hok l _ hH
 exact ⟨z, its, n, r, r.length, e⟩

theorem notLongL {n : Nat} (h : n ≤ sizeLine) : Builtin.List.listTooLong n = false := by
 unfold Builtin.List.listTooLong
 exact decide_eq_false (by omega)
end

section
variable {X : Cx}

noncomputable def rAppend : V → List V → Hp → VK → Prop := fun x vs H Q => ∃ l xs y, x = .ref l ∧ vs = [y] ∧ H l = some (.lst xs) ∧ xs.length < sizeLine ∧ Q .non (upd H l (.lst (xs ++ [y])))
theorem mt_append : MtM X "list.append" rAppend := by
 intro pins s σ H x vs v us Q I rx rv h
 obtain ⟨l, xs, y, rfl, rfl, hH, hz, q⟩ := h
 cases rx
 obtain ⟨u, rfl, ru⟩ := rv.one
 obtain ⟨z, its, n, r, hl, e⟩ := I.lstM hH
 refine call_meets F.slot_list_append ⟨_, e, rfl⟩ F.entry_list_append (F.args_list_append_2 _ _) (PySem.list_append l its.toArray n u (by rw [List.size_toArray]; omega)) ⟨e, ?_⟩
 refine ⟨.non, _, I.lset (its' := its ++ [u]) hH e (by simp) (r.append (.cons ru .nil)) ?_, rfl, q⟩
 rw [List.length_append, List.length_singleton]
 omega

noncomputable def rCat : R2 := fun x y H Q => ∃ l b xs zs, x = .ref l ∧ y = .ref b ∧ H l = some (.lst xs) ∧ H b = some (.lst zs) ∧ xs.length + zs.length ≤ sizeLine ∧ ∀ p, H p = none → Q (.ref p) (upd H p (.lst (xs ++ zs)))
theorem op_cat : OpR X (binaryOp .Add) rCat := by
 intro pins s σ H x y v u Q I rx ry h
 obtain ⟨l, b, xs, zs, rfl, rfl, hH, hB, hz, q⟩ := h
 cases rx
 cases ry
 obtain ⟨z, its, n, r, hl, e⟩ := I.lstM hH
 obtain ⟨z2, its2, n2, r2, hl2, e2⟩ := I.lstM hB
 refine PySem.P.add_list e e2 ?_ (by rw [List.size_toArray, List.size_toArray]; omega)
 have ea : its.toArray ++ its2.toArray = (its ++ its2).toArray := by simp
 rw [ea]
 exact ⟨.ref _, _, I.lnew (t' := s.toks) (r.append r2) (by rw [List.length_append]; omega), rfl, q _ I.fresh⟩
noncomputable def rRep : R2 := fun x y H Q => ∃ l k xs, x = .ref l ∧ y = .int k ∧ H l = some (.lst xs) ∧ -(2 ^ 63) ≤ k ∧ k < 2 ^ 63 ∧ xs.length * k.toNat ≤ sizeLine ∧
 ∀ p, H p = none → Q (.ref p) (upd H p (.lst (List.replicate k.toNat xs).flatten))
theorem len_rep {α : Type} (xs : List α) (k : Nat) : (List.replicate k xs).flatten.length = k * xs.length := by
 induction k with
 | zero => simp
 | succ k ih => rw [List.replicate_succ, List.flatten_cons, List.length_append, ih, Nat.succ_mul, Nat.add_comm]
theorem op_rep : OpR X (binaryOp .Mult) rRep := by
 intro pins s σ H x y v u Q I rx ry h
 obtain ⟨l, k, xs, rfl, rfl, hH, h1, h2, hz, q⟩ := h
 cases rx
 obtain ⟨t, rfl⟩ := ry
 obtain ⟨z, its, n, r, hl, e⟩ := I.lstM hH
 have hlen : its.toArray.size * k.toNat ≤ sizeLine := by rw [List.size_toArray, ← hl]; exact hz
 have hcap : ¬ its.toArray.size * k.toNat > (2 ^ 63 - 1) / 8 := by
  have : (sizeLine : Nat) ≤ (2 ^ 63 - 1) / 8 := by decide
  omega
 have hfit : ¬ (!Builtin.List.listFitsIndex k) = true := by
  rw [fitsIndex_both h1 h2]
  exact Bool.false_ne_true
 have hlong : ¬ Builtin.List.listTooLong (its.toArray.size * k.toNat) = true := by
  rw [notLongL hlen]
  exact Bool.false_ne_true
 have hnew : List.foldl (fun x1 x2 => x1 ++ x2) #[] (List.replicate (if its.toArray.isEmpty = true then 0 else k.toNat) its.toArray) = (List.replicate k.toNat its).flatten.toArray := by
  have f0 : ∀ m : Nat, List.foldl (fun x1 x2 => x1 ++ x2) #[] (List.replicate m its.toArray) = (List.replicate m its).flatten.toArray := fun m => by
   have := foldl_rep its m []
   rw [List.nil_append] at this
   exact this
  rw [f0]
  cases its with
  | nil => simp
  | cons a r' => rw [if_neg (by simp)]
 refine wpAny_binaryOp_repeat_ref (T := "list") (U := "int") (by decide) ⟨_, e, rfl⟩ (fun s' => typeIs_int s' k t) noFill_list_mul F.fills_int_mul F.slot_int_rmul repeat_list F.slot_int_index.lookup
  (call_meets F.slot_int_rmul (typeIs_int s k t) F.entry_int_rmul (F.args_int_rmul_2 _ _) (int___rmul___int_list k t l its.toArray n)
   ⟨e, rfl, ⟨_, e, rfl⟩, call_meets F.slot_list_mul ⟨_, e, rfl⟩ F.entry_list_mul (F.args_list_mul_2 _ _) (AutoListH.list___mul___list_int_3 l its.toArray n k t hfit hcap hlong) ⟨e, ?_⟩⟩)
 rw [hnew]
 exact ⟨.ref _, _, I.lnew (t' := s.toks) (r.rep k.toNat) (by rw [len_rep, Nat.mul_comm]; exact hz), rfl, q _ I.fresh⟩

end

section
variable {prog : Program} {w : World} {A : Around} {E : Value → Shared → Prop} {s : Shared}
end

section
variable {X : Cx}
end
end L2

namespace Att
open PySem PySem.W PySem.Calls PyProof.Rows

theorem ints_of_wellAll {P : Params} {h : Heap} : ∀ (ns : List Int) (vs : List Value), WellAll P h vs (ns.map WData.int) → IntsAre vs ns := by
 intro ns
 induction ns with
 | nil =>
  intro vs w
  rw [List.map_nil] at w
  cases w
  exact .nil
 | cons n ns ih =>
  intro vs w
  rw [List.map_cons] at w
  cases w with
  | cons a b =>
   cases a
   exact .cons _ _ (ih _ b)

theorem script_of {l : OpenLaw} {n : Nat} (hn : l.most = some n) {P : Params} {h : Heap} {args : List WData} {vals : List Value}
  (hpre : l.row.toRowW.claim.pre args = true) (hwl : WellAll P h vals args) :
  ∃ a vs ns, vals = [Value.ref a] ∧ args = [WData.list (ns.map WData.int)] ∧ h.get? a = some { cls := .type "list", data := .seq vs.toArray } ∧ IntsAre vs ns ∧ ns.length ≤ n := by
 have hsh : WShape.hasAll [] args [.list .int] = true := (pre_splitW hpre).1
 have hc : l.pre.holds [] { args := args } = true := (pre_splitW hpre).2
 obtain ⟨d, r, rfl, h1, h2⟩ := hasAllW_cons hsh
 obtain rfl := hasAllW_nil h2
 obtain ⟨xs, rfl, h3⟩ := hasW_list h1
 obtain ⟨ns, rfl⟩ := items_int h3
 have hlen : ns.length ≤ n := by
  unfold OpenLaw.pre at hc
  have h4 : (WTm.not (.lt (.lit (.int (n : Int))) (.len (.arg 0)))).holds [] { args := [.list (ns.map .int)] } = true := by
   have h4 := (holds_andW hc).1
   rw [hn] at h4
   exact h4
  have h5 := condW_of h4 (w_not (w_lt w_lit (w_len_list (w_arg rfl))))
  rw [List.length_map] at h5
  refine Nat.le_of_not_lt fun q => ?_
  have q' : (n : Int) < ((ns.length : Nat) : Int) := by omega
  first
   | (rw [decide_eq_true q'] at h5; exact absurd h5 (by decide))
   | (simp at h5; omega)
 cases hwl with
 | cons w1 w2 =>
  cases w2
  cases w1 with
  | list ho hall => exact ⟨_, _, ns, rfl, rfl, ho, ints_of_wellAll ns _ hall, hlen⟩

theorem post_true (l : OpenLaw) (args : List WData) : l.row.toRowW.claim.post args (.bool true) args = true :=
 postW_of (r := l.row.toRowW) (X := (true == true))
  (show WShape.has [] (.bool true) .bool = true by first | rfl | decide | simp [WShape.has, WShape.arms, WShape.armsAll])
  (show (WTm.eq .res (.lit (.bool true))).value [] { args := args, res := some (.bool true), after := args } = some (.bool (true == true)) from w_eq_bool (w_res rfl) w_lit) rfl

theorem attach_call {l : OpenLaw} {n : Nat} {q : Program} {loose : List Str} {XP : (Str → Option Value) → Heap → Prop} {YP : World → Heap → Prop} {d : DefRec}
  (hn : l.most = some n) (hdf : d.params.defaults = [])
  (call : ∀ (w : World) (s₀ s₁ : Shared) (mg mb : Str → Option Value) (fa : Addr) (o : Obj) (pm cd doc : Value) (a : Addr) (vs : List Value) (ns : List Int),
   Ground q loose [] XP w s₀ mg mb s₁.heap → YP w s₁.heap →
   s₁.heap.get? fa = some o → o.data = .func (docDef d.name d.params d.body d.scope pm cd doc) → s₁.heap.CodeRec cd d.name → mg d.name = some (.ref fa) →
   s₁.heap.get? a = some { cls := .type "list", data := .seq vs.toArray } → IntsAre vs ns → ns.length ≤ n → s₁.gens = #[] →
   codeAny (model l.prog w) callerA (.call (.ref fa) ⟨[.ref a], []⟩) (fun r s' => r = .ok (.ret (.bool true)) ∧ OldK s₁.heap s'.heap ∧ s'.os = s₁.os ∧ AllBare s'.gens) s₁) :
  WalkO q loose XP YP l.row.toRowW d [] (fun f vs => PySem.call f vs) := by
 intro w s₀ s₁ mg mb G Y fa o pm cd doc dV kV ho hd hcd hD hmg hg args vals as hpre hlay hrd hwl hlo
 obtain rfl : dV = .none := Dflts.none hD hdf
 obtain rfl : kV = .none := Dflts.noKw hD
 obtain ⟨a, vs, ns, rfl, rfl, hobj, hints, hlen⟩ := script_of hn hpre hwl
 refine enter_call (codeAny_mono (call w s₀ s₁ mg mb fa o pm cd doc a vs ns G Y ho (fd_plain hd) hcd hmg hobj hints hlen hg) fun r s' hq => ?_)
 obtain ⟨rfl, h2, h3, h4⟩ := hq
 exact ⟨.inl ⟨.bool true, .bool true, [], rfl, fun _ => rfl, .bool true, post_true l _, fun _ => ⟨List.Pairwise.nil, fun _ hm => (nomatch hm)⟩⟩, h2, h3, h4⟩

section
variable {prog : Program} {w : World} {A : Around} {E : Value → Shared → Prop} {s : Shared} {K : Frag}

end
end Att

namespace L2
open PySem PySem.Spec PyProof.Rows

theorem vals_ints : ∀ {vs : List Value} {ns : List Int}, IntsAre vs ns → Vals (ns.map V.int) vs
 | _, _, .nil => .nil
 | _, _, .cons n t h => .cons ⟨t, rfl⟩ (vals_ints h)

noncomputable def Only (H : Hp) : Prop := ∀ b, H b = none ∨ ∃ o xs, H b = some (.frz o (.lst xs))

theorem law_call {P : Program} {w : World} {K : PySem.W.Frag} {mg mb : Str → Option Value} {CX : CXT} {k : Nat} {fa a : Addr} {fd : FuncData} {x : Str} {sp : Sp} {s₁ : Shared} {vs : List Value} {ns : List Int}
  (KX : K.In s₁.heap) (hns : s₁.heap.Ns mainGlobals mg) (hb : s₁.heap.Ns builtinsNs mb) (hbb : ∀ x : Str, x ≠ "__name__" → mb x = bootBuiltins x) (hlim : s₁.heap.NoLimit) (hg : s₁.gens = #[])
  (ha : s₁.heap.get? a = some { cls := .type "list", data := .seq vs.toArray }) (hi : IntsAre vs ns) (hl : ns.length ≤ sizeLine) (hr : Room k callerA)
  (F : ∀ base : Heap, K.In base → base.Ns mainGlobals mg → FnOk P w K mg base CX k fa fd [x] sp) (hbind : ∀ (s : Shared) (u : Value), BindsTo s fd ⟨[u], []⟩ [(x, u)])
  (hsp : ∀ H : Hp, Only H → SqL K H a (ns.map V.int) → sp [.ref a] H (fun v _ => v = .bl true) fun _ _ _ => False)
  (hCX : ∀ H e s', CX [] H s₁ (fun _ _ _ => False) e s' → False) :
  codeAny (model P w) callerA (.call (.ref fa) ⟨[.ref a], []⟩) (fun r s' => r = .ok (.ret (.bool true)) ∧ OldK s₁.heap s'.heap ∧ s'.os = s₁.os ∧ AllBare s'.gens) s₁ := by
 have rv := vals_ints hi
 have lenV := hi.length
 -- from an abstract heap in which nothing but the script may be tracked
 have core : ∀ H : Hp, Only H → SqL K H a (ns.map V.int) → HOk P w H s₁.heap → (∀ b, H b ≠ none → b = a) → (H a ≠ none → K.lookup a = none) →
   codeAny (model P w) callerA (.call (.ref fa) ⟨[.ref a], []⟩) (fun r s' => r = .ok (.ret (.bool true)) ∧ OldK s₁.heap s'.heap ∧ s'.os = s₁.os ∧ AllBare s'.gens) s₁ := by
  intro H hO hS hok hA hK
  have base_of : ∀ {b : Addr} {o : Obj}, s₁.heap.get? b = some o → H b = none → (hidT s₁.heap H).get? b = some o := fun e n => hidT_get e n
  have noA : ∀ {b : Addr} {o : Obj} {es : Array DictEntry} {ep : Nat}, s₁.heap.get? b = some o → o.data = .dict es ep → H b = none := fun {b o es ep} e d => by
   cases q : H b with
   | none => rfl
   | some u =>
    have e' : b = a := hA b (by rw [q]; simp)
    subst e'
    rw [ha] at e; cases e
    have d' : Data.seq vs.toArray _ = Data.dict es ep := d
    cases d'
  have nsK : ∀ {b : Addr} {m : Str → Option Value}, s₁.heap.Ns b m → (hidT s₁.heap H).Ns b m := fun {b m} ⟨o, es, ep, e, d, r⟩ => ⟨o, es, ep, base_of e (noA e d), d, r⟩
  have hKb : K.In (hidT s₁.heap H) := fun b o e => base_of (KX b o e) (by
   cases q : H b with
   | none => rfl
   | some u =>
    have e' : b = a := hA b (by rw [q]; simp)
    subst e'
    rw [hK (by rw [q]; simp)] at e; cases e)
  have hM : Mod K mg (hidT s₁.heap H) := ⟨hKb, nsK hns, ⟨mb, nsK hb, hbb⟩, let ⟨mc, h1, h2⟩ := hlim; ⟨mc, nsK h1, h2⟩⟩
  have e0 : Env0 P w K mg (hidT s₁.heap H) callerA [] s₁ H := ⟨rfl, hM, fun b o e => of_hidT e, Nat.le_of_eq (hidT_size _ _), trivial, fun b hb => absurd (show b ∈ ([] : List Addr) from hb) (by simp), hok, .of_eq hg⟩
  refine codeAny_mono ((F _ hKb (nsK hns)).run callerA [] s₁ H ⟨[.ref a], []⟩ [.ref a] [.ref a] _ _ hr e0 (hbind s₁ (.ref a)) (.cons rfl .nil) (hsp H hO hS)) fun r s' h => ?_
  cases r with
  | error e => exact (hCX H e s' h).elim
  | ok fl =>
   cases fl with
   | next => exact False.elim h
   | brk => exact False.elim h
   | cont => exact False.elim h
   | ret u =>
    obtain ⟨v, H', os, bare, un, hok', r', q⟩ := h
    have q' : v = .bl true := q
    subst q'
    obtain rfl : u = Value.bool true := r'
    refine ⟨rfl, OldK.of_keep fun b o e => ?_, os, bare⟩
    cases q : H b with
    | none => exact un.keep b o e q (by intro z; exact absurd (show b ∈ ([] : List Addr) from z) (by simp)) (by simp)
    | some u =>
     rcases hO b with z | ⟨ob, xs, z⟩
     ·rw [q] at z; cases z
     ·have z2 := un.frzs b ob _ z
      obtain ⟨e1, _⟩ := hok b _ z
      obtain ⟨e2, _⟩ := hok' b _ z2
      rw [e] at e1; cases e1
      exact e2
 cases hk : K.lookup a with
 | some o =>
  -- the script is one of the module's own objects
  have e := KX a o hk
  rw [ha] at e
  cases e
  refine core (fun _ => none) (fun _ => .inl rfl) (.inr ⟨_, vs.toArray, _, hk, rfl, rfl, rfl, by rw [List.size_toArray, lenV]; exact hl, by simpa using rv⟩) (fun b u z => by have z' : (none : Option HO) = some u := z; cases z') (fun b z => absurd rfl z) fun z => absurd rfl z
 | none =>
  refine core (fun b => if b = a then some (.frz { cls := .type "list", data := .seq vs.toArray } (.lst (ns.map V.int))) else none) (fun b => ?_) (.inl (.inr ⟨{ cls := .type "list", data := .seq vs.toArray }, if_pos rfl⟩)) (fun b u z => ?_) (fun b z => ?_) fun _ => hk
  ·by_cases hb : b = a
   ·exact .inr ⟨_, _, if_pos hb⟩
   ·exact .inl (if_neg hb)
  ·by_cases hb : b = a
   ·have z' := (if_pos hb).symm.trans z
    cases z'
    subst hb
    exact ⟨ha, by rw [List.length_map]; exact hl, vs, _, rv, ha⟩
   ·have z' := (if_neg hb).symm.trans z
    cases z'
  ·by_cases hb : b = a
   ·exact hb
   ·exact absurd (if_neg hb) z
end L2

namespace L2
open PySem PySem.Spec PyProof.Rows

noncomputable abbrev KOf {K : PySem.W.Frag} {h : Heap} (_ : K.In h) : PySem.W.Frag := K

theorem walk_of {l : PySem.W.OpenLaw} {n k : Nat} {q : Program} {loose : List Str} {XP : (Str → Option Value) → Heap → Prop} {YP : World → Heap → Prop} {d : DefRec} {K : Params → PySem.W.Frag} {CX : World → CXT} {sp : World → Sp} {x : Str}
  (hn : l.most = some n) (hn2 : n ≤ sizeLine) (hdf : d.params.defaults = []) (hr : Room k callerA)
  (hY : ∀ (w : World) (h : Heap), YP w h → (K w.params).In h)
  (F : ∀ (w : World) (mg : Str → Option Value) (fa : Addr) (h : Heap), (K w.params).In h → h.Ns mainGlobals mg → mg d.name = some (.ref fa) →
   ∃ fd : FuncData, (∀ (s : Shared) (u : Value), BindsTo s fd ⟨[u], []⟩ [(x, u)]) ∧
    ∀ base : Heap, (K w.params).In base → base.Ns mainGlobals mg → FnOk l.prog w (K w.params) mg base (CX w) k fa fd [x] (sp w))
  (hsp : ∀ (w : World) (H : Hp) (a : Addr) (ns : List Int), ns.length ≤ n → Only H → SqL (K w.params) H a (ns.map V.int) → sp w [.ref a] H (fun v _ => v = .bl true) fun _ _ _ => False)
  (hCX : ∀ (w : World) (H : Hp) (s : Shared) (e : Value) (s' : Shared), CX w [] H s (fun _ _ _ => False) e s' → False) :
  PySem.W.WalkO q loose XP YP l.row.toRowW d [] (fun f vs => PySem.call f vs) := by
 refine Att.attach_call hn hdf fun w s₀ s₁ mg mb fa o pm cd doc a vs ns G Y ho hd hcd hmg hobj hints hlen hg => ?_
 have KX := hY w _ Y
 obtain ⟨fd, hb, hF⟩ := F w mg fa _ KX G.T.g hmg
 exact law_call KX G.T.g G.T.b G.T.builtins G.T.nolimit hg hobj hints (Nat.le_trans hlen hn2) hr hF hb (fun H hO hS => hsp w H a ns hlen hO hS) fun H e s' => hCX w H s₁ e s'
end L2


namespace L2
open PySem PySem.Spec PyProof.Rows

noncomputable def defArgs (s : Stmt) : Arguments := match s with
 | .FunctionDef _ a _ _ _ _ _ _ _ _ => a
 | _ => { posonlyargs := [], args := [], vararg := none, kwonlyargs := [], kw_defaults := [], kwarg := none, defaults := [] }
noncomputable def defBody (s : Stmt) : List Stmt := match s with
 | .FunctionDef _ _ b _ _ _ _ _ _ _ => b
 | _ => []
noncomputable def defScope (s : Stmt) : Scope := match s with
 | .FunctionDef _ _ _ _ _ _ sc _ _ _ => sc
 | _ => { kind := .function, names := [], isGenerator := false, isCoroutine := false }

noncomputable abbrev CX0 : CXT := fun _ _ _ _ _ _ => False
noncomputable abbrev E0 : XK := fun _ _ _ => False
structure Fun (K : PySem.W.Frag) (x qual : Str) (st : Stmt) (f : Addr) (fd : FuncData) : Prop where
 ex : ∃ (oc : Value) (od : Option Addr) (kV doc pm : Value) (an : Option Addr) (cdv ct : Value) (osl : Array (Option Value)),
  fd = PySem.W.fnOf x qual (defArgs st) (defBody st) (defScope st) .none kV doc pm an cdv ct ∧ K.lookup f = some ⟨oc, od, .func fd, osl⟩ ∧ PySem.W.codeIn K cdv qual = true
 kp : PySem.W.keepIn K (.ref f) = true
section
variable {P : Program} {w : World} {K : PySem.W.Frag} {mg : Str → Option Value} {base : Heap}
theorem fun_mk {x qual : Str} {st : Stmt} {f : Addr} {oc : Value} {od an : Option Addr} {osl : Array (Option Value)} {kV doc pm cdv ct : Value} (l : K.lookup f = some ⟨oc, od, .func (PySem.W.fnOf x qual (defArgs st) (defBody st) (defScope st) .none kV doc pm an cdv ct), osl⟩)
  (c : PySem.W.codeIn K cdv qual = true) (k : PySem.W.keepIn K (.ref f) = true) : Fun K x qual st f (PySem.W.fnOf x qual (defArgs st) (defBody st) (defScope st) .none kV doc pm an cdv ct) := ⟨⟨oc, od, kV, doc, pm, an, cdv, ct, osl, rfl, l, c⟩, k⟩
end
theorem hu_of {A : Around} {k : Nat} (hr : Room k A) : A.units + 1 < cLine := Nat.lt_of_le_of_lt (Nat.add_le_add_left (by decide : 1 ≤ 64) _) hr.units
theorem small1000 {n : Nat} (h : n ≤ 1000) : n < sizeLine := Nat.lt_of_le_of_lt h (by decide)

section
variable {X : Cx}
end

theorem iteT {A B : Prop} (h : A) : if true = true then A else B := by
 rw [if_pos rfl]
 exact h
theorem ite2 {c A B : Prop} [Decidable c] (h1 : c → A) (h2 : ¬ c → B) : if c then A else B := by
 by_cases h : c
 ·rw [if_pos h]
  exact h1 h
 ·rw [if_neg h]
  exact h2 h
noncomputable def Same (H H' : Hp) : Prop := ∀ b o, H b = some o → H' b = some o
theorem Same.refl (H : Hp) : Same H H := fun _ _ h => h
theorem Same.trans {H H1 H2 : Hp} (a : Same H H1) (b : Same H1 H2) : Same H H2 := fun c o h => b c o (a c o h)
theorem Same.free {H H' : Hp} (e : Same H H') {l : Addr} (h : H' l = Option.none) : H l = Option.none := by
 cases q : H l with
 | none => rfl
 | some o =>
  rw [e l o q] at h
  cases h
theorem Same.seq {K : PySem.W.Frag} {H H' : Hp} {a : Addr} {xs : List V} (e : Same H H') (h : SqL K H a xs) : SqL K H' a xs := by
 rcases h with (h | ⟨o, h⟩) | h
 ·exact .inl (.inl (e _ _ h))
 ·exact .inl (.inr ⟨o, e _ _ h⟩)
 ·exact .inr h

end L2
set_option maxHeartbeats 4000000
namespace Lm
theorem gcd_turn (a b : Int) : Int.gcd b (a % b) = Int.gcd a b := by
 have e : a % b = a + (-(a / b)) * b := by
  have := Int.emod_add_mul_ediv a b
  rw [Int.neg_mul, Int.mul_comm (a / b) b]; omega
 rw [Int.gcd_comm b (a % b), e]
 exact Int.gcd_add_mul_right_left b a (-(a / b))
theorem dvd_of_gcd {k m n : Int} (h : Int.gcd k m = 1) (d : k ∣ m * n) : k ∣ n := by
 have d' : k.natAbs ∣ m.natAbs * n.natAbs := by
  rw [← Int.natAbs_mul]; exact Int.natAbs_dvd_natAbs.mpr d
 have c : Nat.Coprime k.natAbs m.natAbs := h
 exact Int.natAbs_dvd_natAbs.mp (c.dvd_of_dvd_mul_left d')
noncomputable def dv (a b : Int) : Int := if b < 0 then -(Int.gcd a b : Int) else (Int.gcd a b : Int)
noncomputable def mk1 (a b : Int) : Int := a.fdiv (dv a b)
noncomputable def mk2 (a b : Int) : Int := b.fdiv (dv a b)
theorem gcd_pos {a b : Int} (hb : b ≠ 0) : 0 < (Int.gcd a b : Int) := by
 have : 0 < Int.gcd a b := Int.gcd_pos_of_ne_zero_right a hb
 omega
theorem dv_ne {a b : Int} (hb : b ≠ 0) : dv a b ≠ 0 := by
 have := gcd_pos (a := a) hb
 unfold dv; split <;> omega
theorem dv_dvd_left (a b : Int) : dv a b ∣ a := by
 unfold dv; split
 ·exact Int.neg_dvd.mpr (Int.gcd_dvd_left a b)
 ·exact Int.gcd_dvd_left a b
theorem dv_dvd_right (a b : Int) : dv a b ∣ b := by
 unfold dv; split
 ·exact Int.neg_dvd.mpr (Int.gcd_dvd_right a b)
 ·exact Int.gcd_dvd_right a b
theorem mk1_mul (a b : Int) : mk1 a b * dv a b = a := Int.fdiv_mul_cancel (dv_dvd_left a b)
theorem mk2_mul (a b : Int) : mk2 a b * dv a b = b := Int.fdiv_mul_cancel (dv_dvd_right a b)
theorem mk2_pos {a b : Int} (hb : b ≠ 0) : 0 < mk2 a b := by
 have h := mk2_mul a b
 have g := gcd_pos (a := a) hb
 have hd : (b < 0 ∧ dv a b < 0) ∨ (0 < b ∧ 0 < dv a b) := by
  unfold dv; split <;> omega
 rcases hd with ⟨h1, h2⟩ | ⟨h1, h2⟩
 ·rcases Int.lt_trichotomy (mk2 a b) 0 with q | q | q
  ·have := Int.mul_pos_of_neg_of_neg q h2; omega
  ·rw [q, Int.zero_mul] at h; omega
  ·exact q
 ·rcases Int.lt_trichotomy (mk2 a b) 0 with q | q | q
  ·have := Int.mul_neg_of_neg_of_pos q h2; omega
  ·rw [q, Int.zero_mul] at h; omega
  ·exact q
theorem mk_cross (a b : Int) : mk1 a b * b = a * mk2 a b := by
 have h1 := mk1_mul a b
 have h2 := mk2_mul a b
 calc mk1 a b * b = mk1 a b * (mk2 a b * dv a b) := by rw [h2]
  _ = (mk1 a b * dv a b) * mk2 a b := by rw [Int.mul_comm (mk2 a b), ← Int.mul_assoc]
  _ = a * mk2 a b := by rw [h1]
theorem natAbs_dv (a b : Int) : (dv a b).natAbs = Int.gcd a b := by
 unfold dv; split <;> omega
theorem mk_gcd {a b : Int} (hb : b ≠ 0) : Int.gcd (mk1 a b) (mk2 a b) = 1 := by
 have h1 := mk1_mul a b
 have h2 := mk2_mul a b
 have h3 : Int.gcd (mk1 a b * dv a b) (mk2 a b * dv a b) = Int.gcd (mk1 a b) (mk2 a b) * (dv a b).natAbs := Int.gcd_mul_right _ _ _
 rw [h1, h2, natAbs_dv] at h3
 have h4 : 0 < Int.gcd a b := Int.gcd_pos_of_ne_zero_right a hb
 exact Nat.eq_of_mul_eq_mul_right h4 (by rw [Nat.one_mul]; exact h3.symm)
theorem mk1_le (a b : Int) (hb : b ≠ 0) : (mk1 a b).natAbs ≤ a.natAbs := by
 have h1 := congrArg Int.natAbs (mk1_mul a b)
 rw [Int.natAbs_mul, natAbs_dv] at h1
 have h4 : 0 < Int.gcd a b := Int.gcd_pos_of_ne_zero_right a hb
 rw [← h1]
 exact Nat.le_mul_of_pos_right _ h4
theorem mk2_le (a b : Int) (hb : b ≠ 0) : (mk2 a b).natAbs ≤ b.natAbs := by
 have h1 := congrArg Int.natAbs (mk2_mul a b)
 rw [Int.natAbs_mul, natAbs_dv] at h1
 have h4 : 0 < Int.gcd a b := Int.gcd_pos_of_ne_zero_right a hb
 rw [← h1]
 exact Nat.le_mul_of_pos_right _ h4
theorem lowest_unique {p q r s : Int} (hq : 0 < q) (hs : 0 < s) (h1 : Int.gcd p q = 1) (h2 : Int.gcd r s = 1) (h : p * s = r * q) : p = r ∧ q = s := by
 have d1 : q ∣ s := by
  have : q ∣ p * s := ⟨r, by rw [h, Int.mul_comm]⟩
  exact dvd_of_gcd (by rw [Int.gcd_comm]; exact h1) this
 have d2 : s ∣ q := by
  have : s ∣ r * q := ⟨p, by rw [← h, Int.mul_comm]⟩
  exact dvd_of_gcd (by rw [Int.gcd_comm]; exact h2) this
 have e : q = s := by
  have l1 := Int.le_of_dvd hs d1
  have l2 := Int.le_of_dvd hq d2
  omega
 refine ⟨?_, e⟩
 subst e
 exact Int.eq_of_mul_eq_mul_right (by omega) h
theorem mk_unique {a b p q : Int} (hb : b ≠ 0) (hq : 0 < q) (h1 : Int.gcd p q = 1) (h : p * b = a * q) : mk1 a b = p ∧ mk2 a b = q := by
 have hc := mk_cross a b
 refine lowest_unique (mk2_pos hb) hq (mk_gcd hb) h1 ?_
 -- mk1 * q * b = a * mk2 * q = p * b * mk2
 refine Int.eq_of_mul_eq_mul_right hb ?_
 calc mk1 a b * q * b = (mk1 a b * b) * q := by rw [Int.mul_right_comm]
  _ = (a * mk2 a b) * q := by rw [hc]
  _ = (a * q) * mk2 a b := by rw [Int.mul_right_comm]
  _ = (p * b) * mk2 a b := by rw [h]
  _ = p * mk2 a b * b := by rw [Int.mul_right_comm]
end Lm
namespace Lt
noncomputable def AllD (l : List Nat) : Prop := ∀ c ∈ l, 48 ≤ c ∧ c ≤ 57
instance (l : List Nat) : Decidable (AllD l) := inferInstanceAs (Decidable (∀ c ∈ l, 48 ≤ c ∧ c ≤ 57))
noncomputable def fg (n : Nat) : List Nat := (Nat.toDigits 10 n).map Char.toNat
noncomputable def sg (p : Int) : List Nat := if p < 0 then [45] else []
noncomputable def wr (p q : Int) : List Nat := sg p ++ fg p.natAbs ++ (if q = 1 then [] else 47 :: fg q.natAbs)
end Lt
namespace Lt
noncomputable def fin (l : List Nat) (t b : Int) : Option (Int × Int) := if b = 0 then none else if wr (Lm.mk1 t b) (Lm.mk2 t b) = l then some (Lm.mk1 t b, Lm.mk2 t b) else none
noncomputable def bare (l : List Nat) : List Nat := if l.head? = some 45 then l.tail else l
end Lt
namespace L2
open PySem PySem.Spec PyProof.Rows
structure Has (K : PySem.W.Frag) (mg : Str → Option Value) (x : Str) (st : Stmt) (ps : List Str) (f : Addr) (fd : FuncData) : Prop where
 fn : Fun K x x st f fd
 bd : ∀ us : List Value, us.length = ps.length → bindArgs fd ⟨us, []⟩ = pure (ps.zip us)
 at_ : mg x = some (.ref f)
theorem has_mk {K : PySem.W.Frag} {h : Heap} {mg : Str → Option Value} {x : Str} {st : Stmt} {ps : List Str} {f : Addr} {oc : Value} {od an : Option Addr} {osl : Array (Option Value)} {kV doc pm cdv ct : Value} (X : K.In h) (G : h.Ns mainGlobals mg)
  (a : PySem.W.nsIn K mainGlobals x = some (some (.ref f))) (l : K.lookup f = some ⟨oc, od, .func (PySem.W.fnOf x x (defArgs st) (defBody st) (defScope st) .none kV doc pm an cdv ct), osl⟩)
  (c : PySem.W.codeIn K cdv x = true) (k : PySem.W.keepIn K (.ref f) = true)
  (h : ∀ (kV doc pm : Value) (an : Option Addr) (cdv ct : Value) (us : List Value), us.length = ps.length → bindArgs (PySem.W.fnOf x x (defArgs st) (defBody st) (defScope st) .none kV doc pm an cdv ct) ⟨us, []⟩ = pure (ps.zip us)) :
  Has K mg x st ps f (PySem.W.fnOf x x (defArgs st) (defBody st) (defScope st) .none kV doc pm an cdv ct) :=
 ⟨fun_mk (st := st) l c k, h kV doc pm an cdv ct, PySem.W.mg_of X G a⟩
section
variable {X : Cx} {j k : Nat} {x : Str} {ps : List Str} {sp : Sp} {e : Expr} {es : List Expr} {t : TA} {p pos : Pos}
end

noncomputable abbrev Bd (n : Nat) (x : Int) : Prop := Builtin.Int.intBits x ≤ n
theorem Bd.mono {m n : Nat} {x : Int} (h : Bd m x) (l : m ≤ n) : Bd n x := Nat.le_trans h l
theorem Bd.of_lt {n : Nat} {x : Int} (h : x.natAbs < 2 ^ n) : Bd n x := intBits_le_iff.mpr h
theorem Bd.of_le {n : Nat} {x y : Int} (h : Bd n y) (l : x.natAbs ≤ y.natAbs) : Bd n x := intBits_le_of_natAbs l h
theorem Bd.mul {m n k : Nat} {x y : Int} (hx : Bd m x) (hy : Bd n y) (l : m + n ≤ k) : Bd k (x * y) := Nat.le_trans (intBits_mul_le hx hy) l
theorem Bd.add {m k : Nat} {x y : Int} (hx : Bd m x) (hy : Bd m y) (l : m + 1 ≤ k) : Bd k (x + y) := Nat.le_trans (intBits_add_le hx hy) (by rw [Nat.max_self]; exact l)
theorem Bd.sub {m k : Nat} {x y : Int} (hx : Bd m x) (hy : Bd m y) (l : m + 1 ≤ k) : Bd k (x - y) := Nat.le_trans (intBits_sub_le hx hy) (by rw [Nat.max_self]; exact l)
theorem Bd.fdiv {n : Nat} {x y : Int} (h : Bd n x) : Bd n (x.fdiv y) := intBits_fdiv_le h
noncomputable def CMulB (i j : Int) : Prop := ∃ m, Bd m i ∧ Bd m j ∧ m ≤ 60000000
theorem CMulB.of {m : Nat} {i j : Int} (h1 : Bd m i) (h2 : Bd m j) (h : m ≤ 60000000) : CMulB i j := ⟨m, h1, h2, h⟩
noncomputable def CDivB (_ j : Int) : Prop := j ≠ 0 ∧ Bd 9000 j
noncomputable def CPowB (i j : Int) : Prop := 0 ≤ j ∧ (Builtin.Int.intBits i : Int) * j ≤ 2 ^ 27
theorem log2_of_bd {j : Int} (h0 : j ≠ 0) {n : Nat} (h : Bd n j) : j.natAbs.log2 < n := (Nat.log2_lt (by omega)).mpr (intBits_le_iff.mp h)
section
variable {X : Cx}
theorem op_mulB : OpR X (binaryOp .Mult) (rI CMulB fun i j => .int (i * j)) := opI fun _ _ _ _ _ _ _ hc q =>
 let ⟨_, h1, h2, h3⟩ := hc; PyProof.Rows.mul_int q (IntMulOk.of_le h1 h2 (by omega))
theorem op_fdivB : OpR X (binaryOp .FloorDiv) (rI CDivB fun i j => .int (i.fdiv j)) := opI fun _ _ _ _ _ _ _ hc q => floordiv_int hc.1 q (.inl (PyProof.noPylong_of_log2 (log2_of_bd hc.1 hc.2)))
theorem op_powB : OpR X (binaryOp .Pow) (rI CPowB fun i j => .int (i ^ j.toNat)) := opI fun _ _ _ _ _ _ _ hc q => pow_int hc.1 hc.2 q
end

section
variable {X : Cx} {tg : Expr}
end
section
variable {X : Cx}
structure Kt (K : PySem.W.Frag) : Prop where
 ii : PySem.W.kitOne K (.type "int") (.type "int") = some true
 ib : PySem.W.kitOne K (.type "int") (.type "bool") = some false
 bb : PySem.W.kitOne K (.type "bool") (.type "bool") = some true
 tt : PySem.W.kitOne K (.type "tuple") (.type "tuple") = some true
 ss : PySem.W.kitOne K (.type "str") (.type "str") = some true
 ll : PySem.W.kitOne K (.type "list") (.type "list") = some true
 tl : PySem.W.kitOne K (.type "tuple") (.type "list") = some false
theorem eqTup {A : Around} {s : Shared} {a b c d : Int} {t u v x : Tok} : ∀ j (h1 : j < (#[Value.int a t, Value.int b u] : Array Value).size) (h2 : j < (#[Value.int c v, Value.int d x] : Array Value).size),
  SeqAt.EqAt A s (#[Value.int a t, Value.int b u] : Array Value)[j] (#[Value.int c v, Value.int d x] : Array Value)[j] (if j = 0 then decide (a = c) else decide (b = d)) := by
 intro j h1 h2
 match j, h1 with
 | 0, _ => exact eqAt_V (y := .int a) (x := .int c) ⟨t, rfl⟩ ⟨v, rfl⟩ rfl rfl
 | 1, _ => exact eqAt_V (y := .int b) (x := .int d) ⟨u, rfl⟩ ⟨x, rfl⟩ rfl rfl
theorem vals_pair {a b : Int} {its : List Value} (h : Vals [.int a, .int b] its) : ∃ t u, its = [.int a t, .int b u] := by
 obtain ⟨x, y, rfl, ⟨t, rfl⟩, ⟨u, rfl⟩⟩ := Vals.two h
 exact ⟨t, u, rfl⟩
noncomputable def rEqT (K : PySem.W.Frag) : R2 := fun x y H Q => ∃ l m a b c d, x = .ref l ∧ y = .ref m ∧ SqT K H l [.int a, .int b] ∧ SqT K H m [.int c, .int d] ∧ Q (.bl (decide (a = c) && decide (b = d))) H
theorem range2 {p q : Bool} : (((List.range (min 2 2)).all fun j => if j = 0 then p else q) && (2 == 2)) = (p && q) := by cases p <;> cases q <;> rfl
theorem op_eqT (hu : X.A.units < cLine) : OpR X (compareOp .Eq) (rEqT X.K) := by
 intro pins s σ H x y v u Q I rx ry h
 obtain ⟨l, m, a, b, c, d, rfl, rfl, h1, h2, q⟩ := h
 cases rx
 cases ry
 obtain ⟨its, r1, p1, _⟩ := I.tuple h1
 obtain ⟨jts, r2, p2, _⟩ := I.tuple h2
 obtain ⟨t1, t2, rfl⟩ := vals_pair r1
 obtain ⟨t3, t4, rfl⟩ := vals_pair r2
 refine SeqAt.eq_tupleAt (e := fun j => if j = 0 then decide (a = c) else decide (b = d)) p1 p2 hu eqTup ?_
 exact ⟨.bl _, H, I, congrArg Value.bool range2, q⟩
end
end L2
namespace L2
open PySem PySem.Spec PyProof.Rows
section
variable {P : Program} {w : World} {H H' : Hp} {h h' : Heap} {a : Addr} {o : HO}
theorem ObjOk.has (x : ObjOk P w H h a o) : ∃ ob, h.get? a = some ob := by
 cases o with
 | lst xs => obtain ⟨_, _, _, _, e⟩ := x; exact ⟨_, e⟩
 | tup xs => obtain ⟨_, _, _, ob, e, _⟩ := x; exact ⟨ob, e⟩
 | dK kvs => obtain ⟨_, _, _, _, ob, _, _, e, _⟩ := x; exact ⟨ob, e⟩
 | dT kvs => obtain ⟨_, _, _, _, ob, _, _, e, _⟩ := x; exact ⟨ob, e⟩
 | set S n => obtain ⟨ob, _, _, _, e, _⟩ := x; exact ⟨ob, e⟩
 | ins C dx fs => obtain ⟨_, _, _, e, _⟩ := x; exact ⟨_, e⟩
 | own y => exact x
 | xd fs => obtain ⟨_, ⟨ob, _, _, e, _⟩, _⟩ := x; exact ⟨ob, e⟩
 | rng lo hi => obtain ⟨_, _, _, e⟩ := x; exact ⟨_, e⟩
 | frz ob u => obtain ⟨e, _⟩ := x; exact ⟨_, e⟩
 | tbl ps => exact ⟨_, (show h.get? a = some _ from x)⟩
 | met f y => exact ⟨_, (show h.get? a = some _ from x)⟩
 | ext φ => obtain ⟨_, e, _⟩ := x; exact e
theorem HOk.has (x : HOk P w H h) (e : H a = some o) : ∃ ob, h.get? a = some ob := (x a o e).has
theorem HOk.none_of (x : HOk P w H h) (e : h.get? a = none) : H a = none := by
 cases q : H a with
 | none => rfl
 | some u =>
  obtain ⟨ob, z⟩ := x.has q
  rw [e] at z
  cases z
theorem HOk.stays (x : HOk P w H h) (k : ∀ a o ob, H a = some o → h.get? a = some ob → h'.get? a = some ob) : HOk P w H h' := fun a o e =>
 (x a o e).stay (fun b u hb q => by
  rcases hb with rfl | hb
  ·exact k _ _ _ e q
  ·exact k _ _ _ hb q) (fun _ q => q) fun _ _ q => q
end
set_option genInjectivity false in
structure Flies (P : Program) (w : World) (outer : List Env) (H : Hp) (s : Shared) (e : Addr) (cls : Value) (H' : Hp) (s' : Shared) : Prop where
 os : s'.os = s.os
 bare : AllBare s'.gens
 un : Un (frs outer) [] H H' s.heap s'.heap
 hok : HOk P w H' s'.heap
 fl : ∃ B a0, Heap.FlyingW B outer e cls a0 s'.heap ∧ (∀ b o u, H' b = some u → s'.heap.get? b = some o → B.get? b = some o) ∧ (∀ b o o', s.heap.get? b = some o' → b ∉ frs outer → s'.heap.get? b = some o → B.get? b = some o)
 nw : s.heap.get? e = none
 fr : H' e = none
noncomputable def CXE (P : Program) (w : World) : CXT := fun outer H s E e s' => ∃ (ea : Addr) (cls : Value) (H' : Hp), e = .ref ea ∧ Flies P w outer H s ea cls H' s' ∧ E cls none H'
section
variable {P : Program} {w : World} {K : PySem.W.Frag} {mg : Str → Option Value} {base : Heap} {N : List Str} {qual : Str} {scope : Scope} {f : Addr} {cd : Value} {A : Around} {outer : List Env} {s₀ s s' : Shared} {H₀ H H' : Hp} {E E1 : XK}
 {pins : List (Addr × Obj)} {σ : St} {h' : Heap} {e : Addr} {cls : Value} {vs : List Value}
theorem frs_in {l : List Env} : ∀ env ∈ l, ∀ b, env.frame = some b → b ∈ frs l := fun env he b hb => List.mem_filterMap.mpr ⟨env, he, hb⟩
theorem made_leaves (I : Inv (cxOf (CXE P w) P w K mg base N qual scope f cd A outer s₀ H₀ E) pins σ H s) (hx : Heap.MadeExcOf s.heap h' e cls vs) (q : E cls none H) :
  (cxOf (CXE P w) P w K mg base N qual scope f cd A outer s₀ H₀ E).xe (.ref e) { s with heap := h' } := by
 have fr := I.ok.frames
 have ff := I.stack
 have sub := I.stkSub
 have free := I.stkFree
 have above := I.ok.above
 have un := I.base
 generalize hX : cxOf (CXE P w) P w K mg base N qual scope f cd A outer s₀ H₀ E = X at *
 have st : X.stack = X.env :: X.outer := by subst hX; rfl
 have ex0 : X.ex = [] := by subst hX; rfl
 have goal : wpAny (model P w) X.A (leaving X.env (.ref e)) (fun _ s'' => CXE P w X.outer X.H₀ X.s₀ E (.ref e) s'') (fun e' s'' => CXE P w X.outer X.H₀ X.s₀ E e' s'') { s with heap := h' } := by
  refine wpAny_leaves_madeW (base := PySem.W.hideAll s.heap (frs X.stack)) (h := s.heap) (env := X.env) (outer := X.outer) (L := X.env.locals) (by rw [fr, st]) (by subst hX; rfl) (fun b o z => PySem.W.of_hideAll _ z)
   (by rw [← st]; exact PySem.W.funFrames_hide ff frs_in) hx fun h2 t x1 x2 x3 x4 => ?_
  have stay : ∀ b o, s.heap.get? b = some o → b ∉ frs X.stack → h2.get? b = some o := fun b o z n => x1.1 b o (PySem.W.hideAll_get _ z n)
  have slots : ∀ b o, s.heap.get? b = some o → b ∈ frs X.stack → ∃ sl, h2.get? b = some { o with slots := sl } := fun b o z hb => by
   obtain ⟨_, o', ho', hnf⟩ := ff.mem hb
   rw [z] at ho'
   cases ho'
   exact x4 b o (hx.keeps b o z) hnf
  have trk : ∀ b u, H b = some u → b ∉ frs X.stack := fun b u z hb => by
   rw [free b hb] at z
   cases z
  have neL : ∀ b o, X.s₀.heap.get? b = some o → b ∉ frs X.outer → b ∉ frs X.stack := fun b o z n hb => by
   rcases List.mem_cons.mp (sub b hb) with y | y
   ·exact absurd (Nat.lt_of_lt_of_le (Heap.lt_size z) above) (by rw [y]; exact Nat.lt_irrefl _)
   ·exact n y
  have inS : ∀ b, b ∈ frs X.outer → b ∈ frs X.stack := fun b hb => by
   obtain ⟨env, he, hf⟩ := List.mem_filterMap.mp hb
   exact frs_in env (by rw [st]; exact List.mem_cons_of_mem _ he) b hf
  have nex : ∀ b : Addr, b ∉ X.ex := fun b z => by
   rw [ex0] at z
   exact absurd z (by simp)
  refine ⟨e, cls, H, rfl, ⟨I.os, I.bare, ⟨fun b o z n hb _ => ?_, fun b o z n hb _ => ?_, fun b o z n _ => un.free b o z n (nex b), fun b o z _ => ?_, un.tups, un.frzs, un.tbls⟩, ?_, ⟨_, _, x1, fun b o u z y => ?_, fun b o o' z n y => ?_⟩, ?_, ?_⟩, q⟩
  ·exact stay b o (un.keep b o z n hb (nex b)) (neL b o z hb)
  ·obtain ⟨sl, z1⟩ := un.slot b o z n hb (nex b)
   obtain ⟨sl', z2⟩ := slots b _ z1 (inS b hb)
   exact ⟨sl', z2⟩
  ·obtain ⟨o', z1⟩ := un.there b o z (nex b)
   by_cases hb : b ∈ frs X.stack
   ·obtain ⟨sl, z2⟩ := slots b o' z1 hb
    exact ⟨_, z2⟩
   ·exact ⟨o', stay b o' z1 hb⟩
  ·have hok : HOk P w H s.heap := by have := I.hok; subst hX; exact this
   exact hok.stays fun a u ob z y => stay a ob y (trk a u z)
  ·have hok : HOk P w H s.heap := by have := I.hok; subst hX; exact this
   obtain ⟨ob, y1⟩ := hok.has z
   have y2 := stay b ob y1 (trk b u z)
   rw [y2] at y
   cases y
   exact PySem.W.hideAll_get _ y1 (trk b u z)
  ·obtain ⟨o1, y1⟩ := un.there b o' z (nex b)
   have y2 := stay b o1 y1 (neL b o' z n)
   rw [y2] at y
   cases y
   exact PySem.W.hideAll_get _ y1 (neL b o' z n)
  ·cases z : X.s₀.heap.get? e with
   | none => rfl
   | some o =>
    obtain ⟨o1, y1⟩ := un.there e o z (nex e)
    rw [hx.new] at y1
    cases y1
  ·have hok : HOk P w H s.heap := by have := I.hok; subst hX; exact this
   exact hok.none_of hx.new
 subst hX
 exact goal
theorem passE (hE : ∀ cls H, E1 cls none H → E cls none H) : Passes (CXE P w) (cxOf (CXE P w) P w K mg base N qual scope f cd A outer s₀ H₀ E) E1 := by
 intro pins σ H s ex s' I hc
 obtain ⟨ea, cls, H', rfl, F, q⟩ := hc
 have fr := I.ok.frames
 have ff := I.stack
 have sub := I.stkSub
 have above := I.ok.above
 have un := I.base
 have os := I.os
 generalize hX : cxOf (CXE P w) P w K mg base N qual scope f cd A outer s₀ H₀ E = X at *
 have st : X.stack = X.env :: X.outer := by subst hX; rfl
 have ex0 : X.ex = [] := by subst hX; rfl
 obtain ⟨B, a0, fl, b1, b2⟩ := F.fl
 have goal : wpAny (model P w) X.A (leaving X.env (.ref ea)) (fun _ s'' => CXE P w X.outer X.H₀ X.s₀ E (.ref ea) s'') (fun e' s'' => CXE P w X.outer X.H₀ X.s₀ E e' s'') s' := by
  refine wpAny_leaves_onW (base := B) (env := X.env) (outer := X.outer) (L := X.env.locals) (by rw [fr, st]) (by subst hX; rfl) (by rw [← st]; exact fl) fun h2 x1 x4 => ?_
  have neL : ∀ b o, X.s₀.heap.get? b = some o → b ∉ frs X.outer → b ∉ frs X.stack := fun b o z n hb => by
   rcases List.mem_cons.mp (sub b hb) with y | y
   ·exact absurd (Nat.lt_of_lt_of_le (Heap.lt_size z) above) (by rw [y]; exact Nat.lt_irrefl _)
   ·exact n y
  have inS : ∀ b, b ∈ frs X.outer → b ∈ frs X.stack := fun b hb => by
   obtain ⟨env, he, hf⟩ := List.mem_filterMap.mp hb
   exact frs_in env (by rw [st]; exact List.mem_cons_of_mem _ he) b hf
  have nex : ∀ b : Addr, b ∉ X.ex := fun b z => by
   rw [ex0] at z
   exact absurd z (by simp)
  have ff' : s'.heap.FunFrames B X.stack := fl.2.2.1
  have slots : ∀ b o, s'.heap.get? b = some o → b ∈ frs X.stack → ∃ sl, h2.get? b = some { o with slots := sl } := fun b o z hb => by
   obtain ⟨_, o', ho', hnf⟩ := ff'.mem hb
   rw [z] at ho'
   cases ho'
   exact x4 b o z hnf
  have keep2 : ∀ b o o', s.heap.get? b = some o' → b ∉ frs X.stack → s'.heap.get? b = some o → h2.get? b = some o := fun b o o' z n y => x1.1 b o (b2 b o o' z n y)
  refine ⟨ea, cls, H', rfl, ⟨F.os.trans os, F.bare, ⟨fun b o z n hb _ => ?_, fun b o z n hb _ => ?_, fun b o z n _ => ?_, fun b o z _ => ?_, fun b xs z => F.un.tups b xs (un.tups b xs z), fun b o u z => F.un.frzs b o u (un.frzs b o u z), fun b ps z => ?_⟩, ?_, ⟨B, a0, x1, fun b o u z y => ?_, fun b o o' z n y => ?_⟩, ?_, F.fr⟩, hE _ _ q⟩
  ·have z1 := un.keep b o z n hb (nex b)
   have z2 := F.un.keep b o z1 (un.free b o z n (nex b)) (neL b o z hb) (by simp)
   exact keep2 b o o z1 (neL b o z hb) z2
  ·obtain ⟨sl, z1⟩ := un.slot b o z n hb (nex b)
   obtain ⟨sl', z2⟩ := F.un.slot b _ z1 (un.free b o z n (nex b)) (inS b hb) (by simp)
   obtain ⟨sl'', z3⟩ := slots b _ z2 (inS b hb)
   exact ⟨sl'', z3⟩
  ·obtain ⟨o1, z1⟩ := un.there b o z (nex b)
   exact F.un.free b o1 z1 (un.free b o z n (nex b)) (by simp)
  ·obtain ⟨o1, z1⟩ := un.there b o z (nex b)
   obtain ⟨o2, z2⟩ := F.un.there b o1 z1 (by simp)
   by_cases hb : b ∈ frs X.stack
   ·obtain ⟨sl, z3⟩ := slots b o2 z2 hb
    exact ⟨_, z3⟩
   ·exact ⟨o2, keep2 b o2 o1 z1 hb z2⟩
  ·obtain ⟨m1, e1⟩ := un.tbls b ps z
   obtain ⟨m2, e2⟩ := F.un.tbls b _ e1
   exact ⟨m1 ++ m2, by rw [e2, Array.append_assoc]⟩
  ·exact F.hok.stays fun a u ob z y => x1.1 a ob (b1 a ob u z y)
  ·obtain ⟨ob, y1⟩ := F.hok.has z
   have y2 := x1.1 b ob (b1 b ob u z y1)
   rw [y2] at y
   rw [← Option.some.inj y]
   exact b1 b ob u z y1
  ·obtain ⟨o1, y1⟩ := un.there b o' z (nex b)
   obtain ⟨o2, y2⟩ := F.un.there b o1 y1 (by simp)
   have y3 := keep2 b o2 o1 y1 (neL b o' z n) y2
   rw [y3] at y
   rw [← Option.some.inj y]
   exact b2 b o2 o1 y1 (neL b o' z n) y2
  ·cases z : X.s₀.heap.get? ea with
   | none => rfl
   | some o =>
    obtain ⟨o1, y1⟩ := un.there ea o z (nex ea)
    rw [F.nw] at y1
    cases y1
 subst hX
 exact goal
end
end L2
namespace L2
open PySem PySem.Spec PyProof.Rows
abbrev veMro : List Value := [.type "ValueError", .type "Exception", .type "BaseException", .type "object"]
structure ECls (K : PySem.W.Frag) (mg : Str → Option Value) (x : Str) (C : Addr) : Prop where
 at_ : mg x = some (.ref C)
 ok : PySem.W.excIn K C veMro "ValueError.__new__" = true
theorem own_obj {K : PySem.W.Frag} {h : Heap} {C : Addr} {bmB : List Value} {newId : String} (X : K.In h) (q : PySem.W.excIn K C bmB newId = true) :
  ∃ bm N nm qn bs hdct sn sub ab col dd k0 k1 k2 k3 k5 mN, h.get? C = some (excClassObj nm qn C N bs bm hdct sn sub ab col dd k0 k1 k2 k3 k5 newId) ∧ h.Ns N mN ∧ mN "__init__" = none ∧ OwnTail h bmB bm := by
 unfold PySem.W.excIn at q
 split at q
 ·rename_i dd cd sl ho
  split at q
  ·rename_i C' bm k0 k1 k2 k3 n k5 hm hs
   simp only [Bool.and_eq_true, beq_iff_eq, Bool.not_eq_true'] at q
   obtain ⟨⟨⟨⟨⟨rfl, rfl⟩, hdel⟩, ht⟩, hok⟩, hni⟩ := q
   obtain ⟨nm, bs, mro, ns, qn, hd, sn, sub, ab, col, del⟩ := cd
   dsimp only at hm hdel hok hni
   subst hm hdel
   have hsl : sl = #[k0, k1, k2, k3, some (.builtin n), k5] := by
    obtain ⟨l⟩ := sl
    simp only at hs
    rw [hs]
   subst hsl
   exact ⟨bm, ns, nm, qn, bs, hd, sn, sub, ab, col, dd, k0, k1, k2, k3, k5, _, X _ _ ho, .of_isNs (PySem.W.isNs_of_in X hok), PySem.W.nsMap_none_of_in X hok hni, PySem.W.tail_of_in X ht⟩
  ·cases q
 ·cases q
noncomputable def CalE (P : Program) (w : World) (K : PySem.W.Frag) (mg : Str → Option Value) (base : Heap) (x : Str) (k : Nat) (ps : List Str) (sp : Sp) : Prop :=
 ∃ (f : Addr) (fd : FuncData), FnOk P w K mg base (CXE P w) k f fd ps sp ∧ mg x = some (.ref f) ∧ PySem.W.keepIn K (.ref f) = true ∧ Binds K fd ps []
theorem Has.calE {P : Program} {w : World} {K : PySem.W.Frag} {mg : Str → Option Value} {base : Heap} {x : Str} {st : Stmt} {ps : List Str} {f : Addr} {fd : FuncData} {k : Nat} {sp : Sp} (h : Has K mg x st ps f fd)
  (ok : FnOk P w K mg base (CXE P w) k f fd ps sp) : CalE P w K mg base x k ps sp := ⟨f, fd, ok, h.at_, h.fn.kp, .all h.bd⟩
section
variable {P : Program} {w : World} {K : PySem.W.Frag} {mg : Str → Option Value} {base : Heap}
theorem Fun.okE {x qual : Str} {st : Stmt} {f : Addr} {fd : FuncData} {N ps : List Str} {k : Nat} {sp : Sp} (F : Fun K x qual st f fd) (S : FnScope N ps (defScope st)) (len : ∀ vs H Q E, sp vs H Q E → vs.length = ps.length)
  (hbody : ∀ (cdv : Value) (A : Around) (outer : List Env) (s : Shared) (H : Hp) (vs : List V) (Q : VK) (E : XK), Room k (A.deeper (envOfC qual (defScope st) s.heap.objs.size f cdv)) → sp vs H Q E →
   ∃ t, PSs (cxOf (CXE P w) P w K mg base N qual (defScope st) f cdv A outer s H E) (defBody st) t ∧ t { nx := fun _ H' => Q .non H', rt := Q } (start N vs) H) : FnOk P w K mg base (CXE P w) (k + 1) f fd ps sp := by
 obtain ⟨oc, od, kV, doc, pm, an, cdv, ct, osl, rfl, lk, hcd⟩ := F.ex
 exact fn_of lk hcd S len fun A outer s H vs Q E hr hsp => hbody cdv A outer s H vs Q E hr hsp
end
section
variable {P : Program} {w : World} {K : PySem.W.Frag} {mg : Str → Option Value} {base : Heap} {N : List Str} {qual : Str} {scope : Scope} {f : Addr} {cd : Value} {A : Around} {outer : List Env} {s₀ : Shared} {H₀ : Hp} {E : XK}
 {x : Str} {C : Addr} {e₀ : Expr} {rest : List Expr} {t : TA} {np cpos pos : Pos}
noncomputable def tRaise (E : XK) (C : Addr) (t : TA) : TS := fun _ σ H => t σ H fun vs H1 => vs.length ≤ 1000 ∧ E (.ref C) none H1
theorem ps_raise (EC : ECls K mg x C) (hg : Gl (cxOf (CXE P w) P w K mg base N qual scope f cd A outer s₀ H₀ E) x) (ha : PA (cxOf (CXE P w) P w K mg base N qual scope f cd A outer s₀ H₀ E) (e₀ :: rest) t)
  (hd : (x == ("__debug__" : Str)) = false := by decide)
  (hs : starEach (e₀ :: rest) (cxOf (CXE P w) P w K mg base N qual scope f cd A outer s₀ H₀ E).env = (false, eval e₀ (cxOf (CXE P w) P w K mg base N qual scope f cd A outer s₀ H₀ E).env) :: starEach rest (cxOf (CXE P w) P w K mg base N qual scope f cd A outer s₀ H₀ E).env := by rfl)
  (hpl : (backTo cpos (starEach rest (cxOf (CXE P w) P w K mg base N qual scope f cd A outer s₀ H₀ E).env)).any (·.1) = false := by rfl) :
  PS (cxOf (CXE P w) P w K mg base N qual scope f cd A outer s₀ H₀ E) (.Raise (some (.Call (.Name x np) (e₀ :: rest) [] cpos)) none pos) (tRaise E C t) := by
 intro pins s σ H D I h
 obtain ⟨bm, M, nm, qn, bs, hdct, sn, sub, ab, col, dd, k0, k1, k2, k3, k5, mN, hC, hN, hni, T⟩ := own_obj I.ok.mod.kin EC.ok
 refine wpAny_Raise_call_subT (C := C) (nm := nm) (q := qn) (N := M) (bs := bs) (bm := bm) (hdct := hdct) (sn := sn) (sub := sub) (ab := ab) (col := col) (dd := dd) (k0 := k0) (k1 := k1) (k2 := k2) (k3 := k3) (k5 := k5)
  PySem.F.excBase_ValueError (mN := mN) (T.hasType (by decide)) (I.ok.hd rfl) (by rw [hs]; show (false || (backTo cpos (starEach rest _)).any (·.1)) = false; rw [hpl]; rfl) hni (ld_glob I hg EC.at_ ⟨rfl, ?_⟩ hd)
 have h' := ha cpos pins s σ H _ I h
 rw [hs] at h' ⊢
 refine Calls.evalArgs_plain (thn h' fun us s1 ⟨vs, H1, I1, r, l, q⟩ => ⟨rfl, ?_, I1.bk _ _ hC, hN.keeps I1.bk, T.keeps I1.bk, fun h2 e hm => made_leaves I1 hm q⟩)
 have hl := r.length
 exact Nat.le_trans (Nat.le_of_eq hl.symm) (Nat.le_of_lt (small1000 l))
end
section
variable {P : Program} {w : World} {K : PySem.W.Frag} {mg : Str → Option Value} {base : Heap} {N : List Str} {qual : Str} {scope : Scope} {f : Addr} {cd : Value} {A : Around} {outer : List Env} {s₀ : Shared} {H₀ : Hp} {E : XK}
 {j k : Nat} {x : Str} {ps : List Str} {sp : Sp} {e : Expr} {es : List Expr} {t : TA} {p pos : Pos}
theorem pe_callP (C : CalE P w K mg base x j ps sp) (hr : Room k (cxOf (CXE P w) P w K mg base N qual scope f cd A outer s₀ H₀ E).A) (hj : j ≤ k) (hg : Gl (cxOf (CXE P w) P w K mg base N qual scope f cd A outer s₀ H₀ E) x)
  (ha : PA (cxOf (CXE P w) P w K mg base N qual scope f cd A outer s₀ H₀ E) (e :: es) t) (hdb : (x == ("__debug__" : Str)) = false := by decide)
  (he : starEach (e :: es) (cxOf (CXE P w) P w K mg base N qual scope f cd A outer s₀ H₀ E).env = (false, eval e (cxOf (CXE P w) P w K mg base N qual scope f cd A outer s₀ H₀ E).env) :: starEach es (cxOf (CXE P w) P w K mg base N qual scope f cd A outer s₀ H₀ E).env := by rfl)
  (hpl : (backTo pos (starEach es (cxOf (CXE P w) P w K mg base N qual scope f cd A outer s₀ H₀ E).env)).any (·.1) = false := by rfl) :
  PE (cxOf (CXE P w) P w K mg base N qual scope f cd A outer s₀ H₀ E) (.Call (.Name x p) (e :: es) [] pos) (tCall sp [] E t) := by
 obtain ⟨g, gd, F, m, kp, b⟩ := C
 exact pe_call F (hr.mono hj) hg m kp b .nil (passE fun _ _ q => q) ha hdb he hpl
end
noncomputable abbrev Cx.inH (X : Cx) (ea : Addr) : Cx := { X with A := X.A.mark (some (.ref ea)), calm := false, xe := fun _ _ => False }
noncomputable def IsExc (ea C : Addr) (h : Heap) : Prop := ∃ o vs, h.get? ea = some o ∧ o.cls = .ref C ∧ o.data = .fields vs
section
variable {X : Cx} {pins : List (Addr × Obj)} {σ : St} {H H' : Hp} {s s' : Shared} {ea : Addr}
theorem Inv.inH (I : Inv X pins σ H s) (ea : Addr) : Inv (X.inH ea) pins σ H s :=
 ⟨⟨I.ok.mod, I.ok.kind, I.ok.glob, I.ok.blt, I.ok.above, I.ok.inj, I.ok.has, I.ok.cab, (fun z => Bool.noConfusion z), I.ok.frames, I.ok.stk, I.ok.exf, I.ok.bs, I.ok.bsz, I.ok.noex, I.ok.exfs, I.ok.funs, I.ok.frf⟩, I.os, I.bare, I.base, I.loc, I.cell, I.free, I.freeC, I.pin, I.hok, I.len⟩
theorem Inv.outH (I : Inv (X.inH ea) pins σ H s) (ok : X.Ok) : Inv X pins σ H s := ⟨ok, I.os, I.bare, I.base, I.loc, I.cell, I.free, I.freeC, I.pin, I.hok, I.len⟩
theorem Inv.dropName {i : Nat} {n : Str} {m : Str → Option Value} {h' : Heap} {v : Option Value} {tk : Nat} (I : Inv X pins σ H s) (hN : X.N.Nodup) (hi : X.N[i]? = some n)
  (hm : ∀ (j : Nat) (x : Str) (v : V), X.N[j]? = some x → σ[j]? = some (some v) → Vis X.env.scope x → ∃ u, RelV v u ∧ Look X.env s.heap m x u)
  (hn : h'.Ns X.env.locals (fun x => if x = n then v else m x)) (hs : Heap.SameBut X.env.locals s.heap h') : Inv X pins (σ.set i none) H { s with heap := h', toks := tk } := by
 obtain ⟨_, hn0, _⟩ := id I.loc
 obtain ⟨oL, _, _, hoL, _⟩ := id hn0
 have cne := I.cne
 have hiσ : i < σ.length := by rw [I.len]; exact (List.getElem?_eq_some_iff.mp hi).1
 have neL : ∀ b o, X.s₀.heap.get? b = some o → b ≠ X.env.locals := fun b o e => Nat.ne_of_lt (Nat.lt_of_lt_of_le (Heap.lt_size e) I.ok.above)
 refine ⟨I.ok, I.os, I.bare, ⟨fun b o e n hb hx => ?_, fun b o e n hb hx => ?_, I.base.free, fun b o e hx => ?_, I.base.tups, I.base.frzs, I.base.tbls⟩, ⟨_, hn, fun j y v' e1 e2 e3 => ?_⟩, fun y c e => ?_, I.free, I.freeC, fun p hp => ?_, ?_, by simpa using I.len⟩
 ·exact (hs.2 b (neL b o e)).trans (I.base.keep b o e n hb hx)
 ·obtain ⟨sl, e1⟩ := I.base.slot b o e n hb hx
  exact ⟨sl, (hs.2 b (neL b o e)).trans e1⟩
 ·obtain ⟨o', e1⟩ := I.base.there b o e hx
  exact ⟨o', (hs.2 b (neL b o e)).trans e1⟩
 ·by_cases hj : j = i
  ·subst hj
   rw [List.getElem?_set_self hiσ] at e2
   cases e2
  ·rw [List.getElem?_set_ne (Ne.symm hj)] at e2
   obtain ⟨u', r', q⟩ := hm j y v' e1 e2 e3
   refine ⟨u', r', ?_⟩
   rcases q with ⟨k, e⟩ | ⟨k, c, e, z⟩
   ·refine .inl ⟨k, ?_⟩
    have : y ≠ n := fun e => hj (nodup_ix hN e1 (e ▸ hi))
    simp [this, e]
   ·exact .inr ⟨k, c, e, z.sameBut hs (cne y c e)⟩
 ·obtain ⟨w', z⟩ := I.cell y c e
  exact ⟨w', z.sameBut hs (cne y c e)⟩
 ·obtain ⟨e, n, ne, nf, d⟩ := I.pin p hp
  exact ⟨(hs.2 p.1 ne).trans e, n, ne, nf, d⟩
 ·refine I.hok.stays fun a o ob e q => (hs.2 a ?_).trans q
  rintro rfl
  rw [I.free] at e
  cases e
theorem Flies.land {P : Program} {w : World} {l : List Env} {cls : Value} {B : Heap} {h : Heap} (F : Flies P w l H s ea cls H' s') (ff : s'.heap.FunFrames B l) (b1 : ∀ b o u, H' b = some u → s'.heap.get? b = some o → B.get? b = some o)
  (b2 : ∀ b o o', s.heap.get? b = some o' → b ∉ frs l → s'.heap.get? b = some o → B.get? b = some o) (st : B.StaysIn h) (sm : s'.heap.UpToSlots h) : Un (frs l) [] H H' s.heap h ∧ HOk P w H' h := by
 have slots : ∀ b o, s'.heap.get? b = some o → b ∈ frs l → ∃ sl, h.get? b = some { o with slots := sl } := fun b o z hb => by
  obtain ⟨_, o', ho', hnf⟩ := ff.mem hb
  rw [z] at ho'
  cases ho'
  exact sm b o z hnf
 refine ⟨⟨fun b o z n hb hx => ?_, fun b o z n hb hx => ?_, F.un.free, fun b o z hx => ?_, F.un.tups, F.un.frzs, F.un.tbls⟩, F.hok.stays fun a u ob z y => st a ob (b1 a ob u z y)⟩
 ·exact st b o (b2 b o o z hb (F.un.keep b o z n hb hx))
 ·obtain ⟨sl, z1⟩ := F.un.slot b o z n hb hx
  obtain ⟨sl', z2⟩ := slots b _ z1 hb
  exact ⟨sl', z2⟩
 ·obtain ⟨o1, z1⟩ := F.un.there b o z hx
  by_cases hb : b ∈ frs l
  ·obtain ⟨sl, z2⟩ := slots b o1 z1 hb
   exact ⟨_, z2⟩
  ·exact ⟨o1, st b o1 (b2 b o1 o z hb z1)⟩
end
end L2
namespace L2
open PySem PySem.Spec PyProof.Rows
section
variable {X : Cx} {pins : List (Addr × Obj)} {σ : St} {H H' : Hp} {s s' : Shared} {ea : Addr}
theorem Flies.held {l : List Env} {C : Addr} {h : Heap} (F : Flies X.prog X.w l H s ea (.ref C) H' s') (hl : l = X.stack) (I : Inv X pins σ H s) (un : Un (frs l) [] H H' s.heap h) (hok : HOk X.prog X.w H' h) (ex : IsExc ea C h) :
  Inv X pins σ (upd H' ea (.ext (IsExc ea C))) { s' with heap := h } := by
 have ne : ∀ b o, s.heap.get? b = some o → b ≠ ea := fun b o z q => by
  subst q
  rw [F.nw] at z
  cases z
 have nt : ∀ b u, H' b = some u → b ≠ ea := fun b u z q => by
  subst q
  rw [F.fr] at z
  cases z
 subst hl
 refine I.call' F.os ⟨un.keep, un.slot, fun b o z n hx => ?_, un.there, fun b xs z => ?_, fun b o u z => ?_, fun b ps z => ?_⟩ (fun b u z => ?_) F.bare (fun b z => absurd z (by simp))
 ·rw [upd_ne (ne b o z)]
  exact un.free b o z n hx
 ·have y := un.tups b xs z
  rw [upd_ne (nt b _ y)]
  exact y
 ·have y := un.frzs b o u z
  rw [upd_ne (nt b _ y)]
  exact y
 ·obtain ⟨more, y⟩ := un.tbls b ps z
  exact ⟨more, by rw [upd_ne (nt b _ y)]; exact y⟩
 ·by_cases q : b = ea
  ·subst q
   rw [upd_same] at z
   cases z
   obtain ⟨o, vs, e1, e2, e3⟩ := id ex
   exact ⟨ex, ⟨o, e1⟩, fun h1 h2 p k => by
    obtain ⟨o', vs', f1, f2, f3⟩ := p
    exact ⟨o', vs', k o' f1, f2, f3⟩⟩
  ·rw [upd_ne q] at z
   exact (hok b u z).stay (fun c v _ y => y) (fun c y => by rw [upd_ne (nt c _ y)]; exact y) fun c xs y => by rw [upd_ne (nt c _ y)]; exact y
end
section
variable {X : Cx}
end
structure EKit (K : PySem.W.Frag) (C : Addr) : Prop where
 kc : (PySem.W.clsIn K C).isSome = true
 ga : PySem.W.findIn K (.ref C) "__getattribute__" = some (some (.builtin "BaseException.__getattribute__"))
 gt : PySem.W.findIn K (.ref C) "__getattr__" = some none
 cl : PySem.W.findIn K (.ref C) "__class__" = some (some (.builtin "object.__class__"))
 sg : PySem.W.specialIn K (.builtin "object.__class__") "__get__" = some (some (.builtin "getset_descriptor.__get__"))
 tk : PySem.W.takesIn K (.builtin "object.__class__") = some true
 mo : PySem.W.mroIn K C (.type "object") = some true
 mb : PySem.W.mroIn K C (.type "BaseException") = some true
end L2
namespace Exk
open PySem PySem.Calls PyProof.Rows PySem.Builtin PySem.Builtin.ObjectAttr PySem.Builtin.Getset_descriptor
open L2 (IsExc EKit)
section
variable {prog : Program} {w : World} {K : PySem.W.Frag} {ea C : Addr}
theorem ty {M : Model} {h : Heap} (p : IsExc ea C h) : PySem.W.Looks M h (typeOf (.ref ea)) (.ref C) := by
 obtain ⟨o, vs, e, c, _⟩ := p
 exact c ▸ (PySem.W.Looks.ld e).andThen .now
theorem exc_get {A : Around} {R : Result → Shared → Prop} {s : Shared} {tp : Value} (X : K.In s.heap) (p : IsExc ea C s.heap) (hm : PySem.W.mroIn K C (.type "object") = some true) (h : R (.ok (.ret (.ref C))) s) :
  codeAny (model prog w) A (.call (.builtin "getset_descriptor.__get__") ⟨[.builtin "object.__class__", .ref ea, tp], []⟩) R s := by
 have L0 := ty (M := model prog w) p
 have L1 := PySem.W.looks_mroIn (M := model prog w) X hm
 obtain ⟨hh, g, dr, t, os⟩ := s
 refine codeAny_call_builtin PySem.W.KF.slot_gs.plain PySem.W.KF.entry_gs (PySem.W.KF.slot_gs.check _ _ _ _ _ _ _ _ PySem.W.KF.type_class (PySem.W.KF.args_gs _ _ _) ?_)
 unfold Builtin.«getset_descriptor.__get__» descrGet
 rw [PySem.W.dga_obj]
 refine wpAny_bind (wpAny_pure ?_)
 unfold descrGetter descrCheckInstance descrNameAndClass isInstance
 simp only [PySem.W.KF.owner_class]
 repeat lk
 refine ⟨Code.quiet_builtin _ (by decide +kernel), codeAny_builtin PySem.W.KF.entry_class ?_⟩
 unfold Builtin.«object.__class__» shownTypeOf
 repeat lk
 exact h
theorem exc_find {M : Model} {h : Heap} (X : K.In h) (ek : EKit K C) : PySem.W.Looks M h (find (.ref ea) (.ref C) "__class__") (.bind (.builtin "getset_descriptor.__get__") (.builtin "object.__class__")) := by
 have L1 := PySem.W.looks_findIn (M := M) X ek.cl
 have L2 : PySem.W.Looks M h (getOf (some (.builtin "object.__class__"))) (some (.builtin "getset_descriptor.__get__")) := PySem.W.looks_specialIn X ek.sg
 have L3 := PySem.W.looks_takesIn (M := M) X ek.tk
 refine L1.andThen (L2.andThen ?_)
 exact (show PySem.W.Looks M h (dataDescriptor? (some (.builtin "object.__class__")) (some (.builtin "getset_descriptor.__get__"))) (some (.builtin "getset_descriptor.__get__", .builtin "object.__class__")) from L3.andThen .now).andThen (PySem.W.Looks.tag .now)
theorem exc_entry {A : Around} {E : Value → Shared → Prop} {s : Shared} {tk : Tok} {Q : Fin → Shared → Prop} (X : K.In s.heap) (ek : EKit K C) (p : IsExc ea C s.heap) (h : Q (.done (.ret (.ref C))) s) :
  wpAny (model prog w) A (Builtin.«object.__getattribute__» ⟨[.ref ea, .str "__class__" tk], []⟩) Q E s := by
 have L0 := ty (M := model prog w) p
 have L1 := exc_find (ea := ea) (M := model prog w) X ek
 obtain ⟨hh, g, dr, t, os⟩ := s
 unfold Builtin.«object.__getattribute__»
 iterate 12 lk
 refine wpAny_pure ?_
 refine wpAny_bind (L0.at (wpAny_bind (L1.at ?_)))
 dsimp only
 unfold bindTo
 refine wpAny_bind (wpAny_call (exc_get X p ek.mo (wpAny_pure h)))
theorem exc_check {M : Model} {A : Around} {E : Value → Shared → Prop} {s : Shared} {nameV : Value} {Q : Unit → Shared → Prop} (X : K.In s.heap) (ek : EKit K C) (p : IsExc ea C s.heap) (h : Q () s) :
  wpAny M A (checkBuiltinCall "BaseException.__getattribute__" ⟨[.ref ea, nameV], []⟩) Q E s := by
 have hk : builtinKind "BaseException.__getattribute__" = some .slot := by decide +kernel
 have hsplit : splitId "BaseException.__getattribute__" = some ("BaseException", "__getattribute__") := by decide +kernel
 have ha := PySem.F.args_bexc_ga (.ref ea) nameV
 have L0 := ty (M := M) p
 have LI : PySem.W.Looks M s.heap (isInstance (.ref ea) (.type "BaseException")) true := L0.andThen (PySem.W.looks_mroIn X ek.mb)
 obtain ⟨hh, g, dr, t, os⟩ := s
 simp only [checkBuiltinCall, hk, hsplit]
 refine wpAny_bind (LI.at ?_)
 repeat wp_step
 exact h
theorem exc_class {A : Around} {E : Value → Shared → Prop} {s : Shared} {Q : Option Value → Shared → Prop} (X : K.In s.heap) (ek : EKit K C) (p : IsExc ea C s.heap) (h : Q (some (.ref C)) { s with toks := s.toks + 1 }) :
  wpAny (model prog w) A (getAttr? (.ref ea) "__class__") Q E s := by
 have L0 := ty (M := model prog w) p
 have L1 := PySem.W.looks_findIn (M := model prog w) X ek.ga
 have L2 := PySem.W.looks_findIn (M := model prog w) X ek.gt
 have hb := PySem.F.attr_ValueError.ga.bind (.ref ea)
 obtain ⟨hh, g, d, t, os⟩ := s
 unfold getAttr? getAttrBy? getAttrBy
 refine wpAny_bind (wpAny_mkText (wpAny_bind (wpAny_attempt (wpAny_holding (wpAny_bind (L0.at (wpAny_bind (L1.at ?_))))))))
 show wpAny _ _ (getAttrByItsOwn _ _ _ _ _ _) _ _ _
 unfold getAttrByItsOwn
 refine wpAny_bind (L2.at ?_)
 refine wpAny_bind (wpAny_attempt (wpAny_holding ?_))
 show wpAny _ _ (boundAndCalled _ _ _) _ _ _
 unfold boundAndCalled
 rw [hb]
 refine wpAny_bind (wpAny_pure ?_)
 refine wpAny_call (codeAny_call_builtin PySem.F.attr_ValueError.ga.plain PySem.F.entry_bexc_ga (exc_check X ek p (exc_entry X ek p ?_)))
 exact wpAny_pure (wpAny_pure h)
end
end Exk
namespace L2
open PySem PySem.Spec PyProof.Rows
theorem kitx_exc {K : PySem.W.Frag} {ea C : Addr} (ek : EKit K C) : PySem.W.KitX K (.ref ea) (.ref C) (IsExc ea C) where
 ty := fun _ _ _ p => Exk.ty p
 it := fun _ _ X _ => by
  obtain ⟨cd, hc⟩ := Option.isSome_iff_exists.mp ek.kc
  unfold PySem.W.clsIn at hc
  split at hc
  ·rename_i c' d' cd' sl' ho
   intro A' Q' E' s' k q
   unfold isType loadHead
   exact wpAny_bind (wpAny_loadPart (k _ _ (X _ _ ho)) (wpAny_pure q))
  ·cases hc
 ne := fun h tp dd its n sl X htp => by
  obtain ⟨cd, hc⟩ := Option.isSome_iff_exists.mp ek.kc
  refine Bool.eq_false_iff.mpr fun q => ?_
  have e : C = tp := Value.ref.inj (beq_iff_eq.mp q)
  subst e
  unfold PySem.W.clsIn at hc
  split at hc
  ·rename_i c' d' cd' sl' ho
   have z := (X _ _ ho).symm.trans htp
   cases z
  ·cases hc
 ca := fun X p k => Exk.exc_class X ek p k
end L2
namespace L2
open PySem PySem.Spec PyProof.Rows
section
variable {X : Cx}
theorem boot_ValueError : bootBuiltins "ValueError" = some (.type "ValueError") := by decide +kernel
theorem pe_cls {x : Str} {C : Addr} {pos : Pos} (hg : Gl X x) (hm : X.mg x = some (.ref C)) (hd : (x == ("__debug__" : Str)) = false := by decide) : PE X (.Name x pos) (tC (.ref C)) := pe_glob (v := .ref C) hg hm rfl hd
theorem pe_append {o e : Expr} {to : TE} {t : TA} {apos cpos : Pos} (ho : PE X o to) (ha : PA X [e] t) (hbase : attributeBase o "append" X.env (eval o X.env) = eval o X.env := by rfl)
  (hfew : ((backTo cpos (starEach [e] X.env)).all (fun x => !x.1) && (backToKw cpos (keywordEach [] X.env)).all (fun x => x.1.isSome) && decide ([e].length + ([] : List Keyword).length + (if ([] : List Keyword).isEmpty then 0 else 1) < 30)) = true := by rfl)
  (hline : (apos.endLine == cpos.line) = true := by rfl) (hs : starEach [e] X.env = (false, eval e X.env) :: starEach [] X.env := by rfl) (hplain : (backTo cpos (starEach [] X.env)).any (·.1) = false := by rfl) :
  PE X (.Call (.Attribute o "append" apos) [e] [] cpos) (tBM X.K "list" rAppend to t) :=
 pe_bm PySem.F.plainAttrs_list PySem.F.slot_list_append PySem.F.type_list_append mt_append ho ha hbase hfew hline hs hplain
noncomputable def rIsiO (K : PySem.W.Frag) : List V → Hp → VK → Prop := fun xs H Q => ∃ ea C D b, xs = [.ref ea, .ref D] ∧ H ea = some (.ext (IsExc ea C)) ∧ EKit K C ∧ PySem.W.kitOne K (.ref C) (.ref D) = some b ∧ Q (.bl b) H
noncomputable def rIsiT (K : PySem.W.Frag) : List V → Hp → VK → Prop := fun xs H Q => ∃ ea C T b, xs = [.ref ea, .ty T] ∧ H ea = some (.ext (IsExc ea C)) ∧ EKit K C ∧ PySem.W.kitOne K (.ref C) (.type T) = some b ∧ Q (.bl b) H
noncomputable def rIsiA (K : PySem.W.Frag) : List V → Hp → VK → Prop := fun xs H Q => ∃ (ea C tp : Addr) (ds : List Addr) (b : Bool), xs = [.ref ea, .ref tp] ∧ H ea = some (.ext (IsExc ea C)) ∧ EKit K C ∧ H tp = some (.tup (ds.map V.ref)) ∧ PySem.W.kitAny K (.ref C) (ds.map Value.ref) = some b ∧ Q (.bl b) H
theorem vals_refs : ∀ {ds : List Addr} {its : List Value}, Vals (ds.map V.ref) its → its = ds.map Value.ref
 | [], _, .nil => rfl
 | d :: ds, _, .cons r t => by
  cases r
  rw [vals_refs t]
  rfl
theorem call_isiO : CallR X (.builtin "isinstance") (rIsiO X.K) := by
 intro pins s σ H xs us Q I r h
 obtain ⟨ea, C, D, b, rfl, hE, ek, e, q⟩ := h
 obtain ⟨u, z, rfl, rx, rz⟩ := vals2 r
 cases (show u = Value.ref ea from rx)
 cases (show z = Value.ref D from rz)
 obtain ⟨ex, _, _⟩ := (show ObjOk X.prog X.w H s.heap ea (.ext (IsExc ea C)) from I.hok ea _ hE)
 exact PySem.W.kia_one (kitx_exc ek) I.kIn ex e (fun z => nomatch z) fun tk => ⟨.bl b, H, I.tok tk, rfl, q⟩
theorem call_isiT : CallR X (.builtin "isinstance") (rIsiT X.K) := by
 intro pins s σ H xs us Q I r h
 obtain ⟨ea, C, T, b, rfl, hE, ek, e, q⟩ := h
 obtain ⟨u, z, rfl, rx, rz⟩ := vals2 r
 cases (show u = Value.ref ea from rx)
 cases (show z = Value.type T from rz)
 obtain ⟨ex, _, _⟩ := (show ObjOk X.prog X.w H s.heap ea (.ext (IsExc ea C)) from I.hok ea _ hE)
 exact PySem.W.kia_one (kitx_exc ek) I.kIn ex e (fun z => nomatch z) fun tk => ⟨.bl b, H, I.tok tk, rfl, q⟩
theorem call_isiA : CallR X (.builtin "isinstance") (rIsiA X.K) := by
 intro pins s σ H xs us Q I r h
 obtain ⟨ea, C, tp, ds, b, rfl, hE, ek, hT, e, q⟩ := h
 obtain ⟨u, z, rfl, rx, rz⟩ := vals2 r
 cases (show u = Value.ref ea from rx)
 cases (show z = Value.ref tp from rz)
 obtain ⟨ex, _, _⟩ := (show ObjOk X.prog X.w H s.heap ea (.ext (IsExc ea C)) from I.hok ea _ hE)
 obtain ⟨_, its, rv, ⟨oc, od, oda, osl⟩, h1, h2, n, h3⟩ := (show ObjOk X.prog X.w H s.heap tp (.tup (ds.map V.ref)) from I.hok tp _ hT)
 have ei := vals_refs rv
 subst ei
 dsimp only at h2 h3
 subst h2 h3
 exact PySem.W.kia_tup (kitx_exc ek) I.kIn ex h1 e (fun z => nomatch z) fun tk => ⟨.bl b, H, I.tok tk, rfl, q⟩
noncomputable def rEqB (K : PySem.W.Frag) : R2 := fun x y H Q => ∃ (l m : Addr) (bs : List Bool), x = .ref l ∧ y = .ref m ∧ SqL K H l (bs.map V.bl) ∧ SqL K H m (bs.map V.bl) ∧ Q (.bl true) H
theorem vals_bools : ∀ {bs : List Bool} {its : List Value}, Vals (bs.map V.bl) its → its = bs.map Value.bool
 | [], _, .nil => rfl
 | d :: ds, _, .cons r t => by
  cases r
  rw [vals_bools t]
  rfl
theorem op_eqB (hu : X.A.units < cLine) : OpR X (compareOp .Eq) (rEqB X.K) := by
 intro pins s σ H x y v u Q I rx ry h
 obtain ⟨l, m, bs, rfl, rfl, h1, h2, q⟩ := h
 cases rx
 cases ry
 obtain ⟨its, r1, p1, _⟩ := I.list h1
 obtain ⟨jts, r2, p2, _⟩ := I.list h2
 have e1 := vals_bools r1
 have e2 := vals_bools r2
 subst e1 e2
 refine SeqAt.eq_listAt (e := fun _ => true) p1.isList p2.isList rfl hu (fun j a b => ?_) ?_
 ·exact SeqAt.EqAt.same _
 ·have e : ((List.range ((bs.map Value.bool).toArray).size).all fun _ => true) = true := by simp
  rw [e]
  exact ⟨.bl true, H, I, rfl, q⟩
end
theorem exm_mk {K : PySem.W.Frag} {C L : Addr} (hs : PySem.W.subIn K (.ref L) (.type "BaseException") = some true) (hk : PySem.W.kitOne K (.ref C) (.ref L) = some true) (hne : (Value.ref C == Value.ref L) = false) : PySem.W.exmOne K (.ref C) (.ref L) = some true := by
 unfold PySem.W.exmOne
 rw [hs, if_pos (by decide)]
 unfold PySem.W.kitOne at hk
 rw [hne] at hk
 exact hk
theorem ekit_mk {K : PySem.W.Frag} {C : Addr} (ga : PySem.W.findIn K (.ref C) "__getattribute__" = some (some (.builtin "BaseException.__getattribute__"))) (gt : PySem.W.findIn K (.ref C) "__getattr__" = some none)
  (cl : PySem.W.findIn K (.ref C) "__class__" = some (some (.builtin "object.__class__"))) (sg : PySem.W.specialIn K (.builtin "object.__class__") "__get__" = some (some (.builtin "getset_descriptor.__get__")))
  (tk : PySem.W.takesIn K (.builtin "object.__class__") = some true) (mo : PySem.W.mroIn K C (.type "object") = some true) (mb : PySem.W.mroIn K C (.type "BaseException") = some true) : EKit K C := by
 refine ⟨?_, ga, gt, cl, sg, tk, mo, mb⟩
 obtain ⟨cd, h, _⟩ := Option.bind_eq_some_iff.mp mo
 rw [h]
 rfl
end L2
namespace L2
open PySem PySem.Spec PyProof.Rows
noncomputable def tx (l : List Nat) : Str := ⟨l.toArray⟩
section
variable {X : Cx}
end
end L2
namespace L2
open PySem PySem.Spec PyProof.Rows
section
variable {X : Cx} {a b c e : Expr} {ta tb te : TE} {pos : Pos}
noncomputable def nth : St → Nat → Option V
 | [], _ => none
 | v :: _, 0 => v
 | _ :: r, n + 1 => nth r n
theorem nth_iff : ∀ {σ : St} {i : Nat} {v : V}, σ[i]? = some (some v) ↔ nth σ i = some v
 | [], i, v => by simp [nth]
 | x :: r, 0, v => by simp [nth]
 | x :: r, i + 1, v => by
  rw [List.getElem?_cons_succ]
  exact nth_iff (σ := r) (i := i)
noncomputable def dVar (i : Nat) : TE := fun σ H Q => match nth σ i with | some v => Q v H | none => False
theorem tVar_eq (i : Nat) : tVar i = dVar i := by
 funext σ H Q
 apply propext
 unfold tVar dVar
 constructor
 ·rintro ⟨v, e, q⟩
  rw [nth_iff.mp e]
  exact q
 ·intro h
  split at h
  ·rename_i v e
   exact ⟨v, nth_iff.mpr e, h⟩
  ·exact h.elim
theorem dv (i : Nat) {x : Str} {pos : Pos} (hN : X.N[i]? = some x := by rfl) (hv : Vis X.env.scope x := by first | exact Or.inl rfl | exact Or.inr (Or.inl rfl) | exact Or.inr (Or.inr rfl)) (hd : (x == ("__debug__" : Str)) = false := by decide)
  (hcd : (x == ("__classdict__" : Str)) = false := by decide) : PE X (.Name x pos) (dVar i) := tVar_eq i ▸ pe_var hN hv hd hcd
@[elab_as_elim] theorem byLen0 {α : Type} {P : List α → Prop} (us : List α) (h : us.length = 0) (k : P []) : P us := by
 cases us with
 | nil => exact k
 | cons a r => cases h
@[elab_as_elim] theorem byLen1 {α : Type} {P : List α → Prop} (us : List α) (h : us.length = 1) (k : ∀ a, P [a]) : P us := by
 cases us with
 | nil => cases h
 | cons a r => exact byLen0 r (Nat.succ.inj h) (k a)
@[elab_as_elim] theorem byLen2 {α : Type} {P : List α → Prop} (us : List α) (h : us.length = 2) (k : ∀ a b, P [a, b]) : P us := by
 cases us with
 | nil => cases h
 | cons a r => exact byLen1 r (Nat.succ.inj h) (k a)
@[elab_as_elim] theorem byLen3 {α : Type} {P : List α → Prop} (us : List α) (h : us.length = 3) (k : ∀ a b c, P [a, b, c]) : P us := by
 cases us with
 | nil => cases h
 | cons a r => exact byLen2 r (Nat.succ.inj h) (k a)
@[elab_as_elim] theorem byLen4 {α : Type} {P : List α → Prop} (us : List α) (h : us.length = 4) (k : ∀ a b c d, P [a, b, c, d]) : P us := by
 cases us with
 | nil => cases h
 | cons a r => exact byLen3 r (Nat.succ.inj h) (k a)
@[elab_as_elim] theorem byLen5 {α : Type} {P : List α → Prop} (us : List α) (h : us.length = 5) (k : ∀ a b c d e, P [a, b, c, d, e]) : P us := by
 cases us with
 | nil => cases h
 | cons a r => exact byLen4 r (Nat.succ.inj h) (k a)
theorem OpR.imp {f : Value → Value → Sem Value} {r r' : R2} (h : OpR X f r) (i : ∀ x y H Q, r' x y H Q → r x y H Q) : OpR X f r' := fun pins s σ H x y v u Q I rx ry z => h pins s σ H x y v u Q I rx ry (i _ _ _ _ z)
noncomputable def mI (g : Int → Int → VK → Hp → Prop) : R2 := fun x y H Q => match x, y with | .int i, .int j => g i j Q H | _, _ => False
theorem mI_out {g : Int → Int → VK → Hp → Prop} {x y : V} {H : Hp} {Q : VK} (h : mI g x y H Q) : ∃ i j, x = .int i ∧ y = .int j ∧ g i j Q H := by
 unfold mI at h
 split at h
 ·exact ⟨_, _, rfl, rfl, h⟩
 ·exact h.elim
noncomputable def dAdd : R2 := fun x y H Q => match x, y with | .int i, .int j => Q (.int (i + j)) H | _, _ => False
theorem d_add : OpR X (binaryOp .Add) dAdd := op_add.imp fun _ _ _ _ h => mI_out (g := fun i j Q H => Q (.int (i + j)) H) h
noncomputable def dSub : R2 := fun x y H Q => match x, y with | .int i, .int j => Q (.int (i - j)) H | _, _ => False
theorem d_sub : OpR X (binaryOp .Sub) dSub := op_sub.imp fun _ _ _ _ h => mI_out (g := fun i j Q H => Q (.int (i - j)) H) h
noncomputable def dLt : R2 := fun x y H Q => match x, y with | .int i, .int j => Q (.bl (decide (i < j))) H | _, _ => False
theorem d_lt : OpR X (compareOp .Lt) dLt := op_lt.imp fun _ _ _ _ h => mI_out (g := fun i j Q H => Q (.bl (decide (i < j))) H) h
noncomputable def dLe : R2 := fun x y H Q => match x, y with | .int i, .int j => Q (.bl (decide (i ≤ j))) H | _, _ => False
theorem d_le : OpR X (compareOp .LtE) dLe := op_le.imp fun _ _ _ _ h => mI_out (g := fun i j Q H => Q (.bl (decide (i ≤ j))) H) h
noncomputable def dGt : R2 := fun x y H Q => match x, y with | .int i, .int j => Q (.bl (decide (j < i))) H | _, _ => False
theorem d_gt : OpR X (compareOp .Gt) dGt := op_gt.imp fun _ _ _ _ h => mI_out (g := fun i j Q H => Q (.bl (decide (j < i))) H) h
noncomputable def dGe : R2 := fun x y H Q => match x, y with | .int i, .int j => Q (.bl (decide (j ≤ i))) H | _, _ => False
theorem d_ge : OpR X (compareOp .GtE) dGe := op_ge.imp fun _ _ _ _ h => mI_out (g := fun i j Q H => Q (.bl (decide (j ≤ i))) H) h
noncomputable def dMul : R2 := fun x y H Q => match x, y with | .int i, .int j => CMulB i j ∧ Q (.int (i * j)) H | _, _ => False
theorem d_mul : OpR X (binaryOp .Mult) dMul := op_mulB.imp fun _ _ _ _ h => mI_out (g := fun i j Q H => CMulB i j ∧ Q (.int (i * j)) H) h
noncomputable def dFdiv : R2 := fun x y H Q => match x, y with | .int i, .int j => CDivB i j ∧ Q (.int (i.fdiv j)) H | _, _ => False
theorem d_fdiv : OpR X (binaryOp .FloorDiv) dFdiv := op_fdivB.imp fun _ _ _ _ h => mI_out (g := fun i j Q H => CDivB i j ∧ Q (.int (i.fdiv j)) H) h
noncomputable def dPow : R2 := fun x y H Q => match x, y with | .int i, .int j => CPowB i j ∧ Q (.int (i ^ j.toNat)) H | _, _ => False
theorem d_pow : OpR X (binaryOp .Pow) dPow := op_powB.imp fun _ _ _ _ h => mI_out (g := fun i j Q H => CPowB i j ∧ Q (.int (i ^ j.toNat)) H) h
noncomputable def dNeg : V → Hp → VK → Prop := fun x H Q => match x with | .int i => Q (.int (-i)) H | _ => False
theorem d_neg : UnR X (unaryOp .USub) dNeg := by
 have e : (rU fun i => .int (-i)) = dNeg := by
  funext x H Q
  apply propext
  cases x <;> simp [rU, dNeg]
 exact e ▸ un_neg
noncomputable def dMod : R2 := fun x y H Q => match x, y with | .int i, .int j => 0 < j ∧ Q (.int (i % j)) H | _, _ => False
theorem d_mod : OpR X (binaryOp .Mod) dMod := op_mod.imp fun _ _ _ _ h => mI_out (g := fun i j Q H => 0 < j ∧ Q (.int (i % j)) H) h
theorem CallR.imp {f : Value} {r r' : List V → Hp → VK → Prop} (h : CallR X f r) (i : ∀ xs H Q, r' xs H Q → r xs H Q) : CallR X f r' := fun pins s σ H xs us Q I rx z => h pins s σ H xs us Q I rx (i _ _ _ z)
theorem IxR.imp {r r' : R2} (h : IxR X r) (i : ∀ x y H Q, r' x y H Q → r x y H Q) : IxR X r' := fun va sl pins s σ H x y v u Q I rx ry z hs => h va sl pins s σ H x y v u Q I rx ry (i _ _ _ _ z) hs
theorem PE.imp {t t' : TE} (h : PE X e t) (i : ∀ σ H Q, t' σ H Q → t σ H Q) : PE X e t' := fun pins s σ H Q I z => h pins s σ H Q I (i _ _ _ z)
noncomputable def eqS : V → V → Option Bool
 | .int i, .int j => some (decide (i = j))
 | .str x, .str y => some (decide (x = y))
 | .bl x, .bl y => some (decide (x = y))
 | .non, .non => some true
 | .non, .int _ => some false
 | .int _, .non => some false
 | .str _, .non => some false
 | .non, .str _ => some false
 | _, _ => none
theorem eqS_ok {x y : V} {k : Bool} (h : eqS x y = some k) : scal x y = true ∧ decide (x = y) = k := by
 unfold eqS at h
 split at h <;> first | (cases h; exact ⟨rfl, by simp⟩) | cases h
noncomputable def dEq : R2 := fun x y H Q => match eqS x y with | some k => Q (.bl k) H | none => False
noncomputable def dNe : R2 := fun x y H Q => match eqS x y with | some k => Q (.bl (!k)) H | none => False
theorem d_eq : OpR X (compareOp .Eq) dEq := op_eq.imp fun x y H Q h => by
 unfold dEq at h
 split at h
 ·rename_i k e
  obtain ⟨h1, h2⟩ := eqS_ok e
  exact ⟨h1, by rw [h2]; exact h⟩
 ·exact h.elim
theorem d_ne : OpR X (compareOp .NotEq) dNe := op_ne.imp fun x y H Q h => by
 unfold dNe at h
 split at h
 ·rename_i k e
  obtain ⟨h1, h2⟩ := eqS_ok e
  exact ⟨h1, by rw [h2]; exact h⟩
 ·exact h.elim
noncomputable def asB (Q : Bool → Hp → Prop) : VK := fun x H => match x with | .bl k => Q k H | _ => False
theorem asB_eq (Q : Bool → Hp → Prop) : (fun x H => ∃ k, x = V.bl k ∧ Q k H) = asB Q := by
 funext x H
 apply propext
 cases x <;> simp [asB]
noncomputable def dTest (t : TE) : TT := fun σ H Q => t σ H (asB Q)
theorem tB_eq (t : TE) : tB t = dTest t := by
 funext σ H Q
 unfold tB dTest
 rw [asB_eq]
theorem tTest_eq (t : TE) : tTest t = dTest t := by
 funext σ H Q
 unfold tTest dTest
 rw [asB_eq]
theorem dt_val {e : Expr} {t : TE} (h : PE X e t) (he : ∀ whole, isTrue e X.env whole = (do let v ← whole; standAt e.pos; holding [v] (truthy v)) := by intro _; rfl) : PT X e (dTest t) := tB_eq t ▸ pt_val h he
theorem dt_cmp {op : CmpOp} {r : R2} (ho : OpR X (compareOp op) r) (ha : PE X a ta) (hb : PE X b tb) (hm : behindInMarks op b = false) : PT X (.Compare a [op] [b] pos) (dTest (tOp r ta tb)) := tTest_eq (tOp r ta tb) ▸ pt_cmpR ho ha hb hm
noncomputable def dAndV (ta tb : TE) : TE := fun σ H Q => ta σ H (asB fun c H1 => if c = true then tb σ H1 Q else Q (.bl false) H1)
noncomputable def dNotV (ta : TE) : TE := fun σ H Q => ta σ H (asB fun c H1 => Q (.bl (!c)) H1)
theorem tAndV_eq : tAndV ta tb = dAndV ta tb := by
 funext σ H Q
 unfold tAndV dAndV
 rw [← asB_eq]
theorem tNotV_eq : tNotV ta = dNotV ta := by
 funext σ H Q
 unfold tNotV dNotV
 rw [← asB_eq]
theorem d_and {rest : List Expr} (ha : PE X a ta) (hb : PE X (.BoolOp .And (b :: rest) pos) tb) : PE X (.BoolOp .And (a :: b :: rest) pos) (dAndV ta tb) := tAndV_eq ▸ pe_and ha hb
theorem d_not (ha : PE X a ta) : PE X (.UnaryOp .Not a pos) (dNotV ta) := tNotV_eq ▸ pe_not ha
structure New (H : Hp) (p : Addr) (o : HO) (H' : Hp) : Prop where
 fr : H p = none
 at_ : H' p = some o
 oth : ∀ b, b ≠ p → H' b = H b
theorem New.mk' {H : Hp} {p : Addr} {o : HO} (h : H p = none) : New H p o (upd H p o) := ⟨h, upd_same, fun _ h => upd_ne h⟩
theorem New.same {H H' : Hp} {p : Addr} {o : HO} (h : New H p o H') : Same H H' := fun b u e => by rw [h.oth b (ne_of_none e h.fr)]; exact e
structure Chg (H : Hp) (l : Addr) (o : HO) (H' : Hp) : Prop where
 at_ : H' l = some o
 oth : ∀ b, b ≠ l → H' b = H b
theorem Chg.mk' {H : Hp} {l : Addr} {o : HO} : Chg H l o (upd H l o) := ⟨upd_same, fun _ h => upd_ne h⟩
theorem Chg.same {H0 H H' : Hp} {l : Addr} {o : HO} (h : Chg H l o H') (s : Same H0 H) (f : H0 l = none) : Same H0 H' := fun b u e => by rw [h.oth b (ne_of_none e f)]; exact s b u e
noncomputable def dOk (n : Nat) (A : Prop) : Prop := match Nat.ble n sizeLine with | true => A | false => False
theorem dOk_iff {n : Nat} {A : Prop} : dOk n A ↔ n ≤ sizeLine ∧ A := by
 unfold dOk
 cases h : Nat.ble n sizeLine with
 | true => exact ⟨fun z => ⟨Nat.le_of_ble_eq_true h, z⟩, fun z => z.2⟩
 | false => exact ⟨fun z => z.elim, fun z => by rw [Nat.ble_eq_true_of_le z.1] at h; cases h⟩
noncomputable def dTup (t : TA) : TE := fun σ H Q => t σ H fun xs H1 => dOk xs.length (∀ p H', New H1 p (.tup xs) H' → Q (.ref p) H')
noncomputable def dLst (t : TA) : TE := fun σ H Q => t σ H fun xs H1 => dOk xs.length (∀ p H', New H1 p (.lst xs) H' → Q (.ref p) H')
theorem new_iff {H : Hp} {o : HO} {Q : VK} : (∀ p, H p = none → Q (.ref p) (upd H p o)) ↔ ∀ p H', New H p o H' → Q (.ref p) H' := by
 constructor
 ·intro h p H' n
  have e : H' = upd H p o := by
   funext b
   by_cases q : b = p
   ·subst q; rw [n.at_, upd_same]
   ·rw [n.oth b q, upd_ne q]
  rw [e]
  exact h p n.fr
 ·exact fun h p f => h p _ (.mk' f)
theorem tTup_eq (t : TA) : tTup t = dTup t := by
 funext σ H Q
 unfold tTup dTup
 congr 1
 funext xs H1
 apply propext
 rw [dOk_iff, new_iff]
theorem tLst_eq (t : TA) : tLst t = dLst t := by
 funext σ H Q
 unfold tLst dLst
 congr 1
 funext xs H1
 apply propext
 rw [dOk_iff, new_iff]
theorem d_tup {es : List Expr} {t : TA} {x1} (h : PA X es t) : PE X (.Tuple es x1 pos) (dTup t) := tTup_eq t ▸ pe_tup h
theorem d_lst {es : List Expr} {t : TA} (h : PA X es t) : PE X (.List es pos) (dLst t) := tLst_eq t ▸ pe_lst h
noncomputable def dIxL (K : PySem.W.Frag) : R2 := fun x y H Q => match x, y with | .ref p, .int i => ∃ xs v, SqL K H p xs ∧ atI xs i = some v ∧ Q v H | _, _ => False
theorem d_ixL : IxR X (dIxL X.K) := ix_list.imp fun x y H Q h => by
 unfold dIxL at h
 split at h
 rotate_left
 ·exact h.elim
 obtain ⟨xs, v, h1, h2, q⟩ := h
 exact ⟨_, xs, _, v, rfl, rfl, h1, h2, q⟩
noncomputable def dAbs : List V → Hp → VK → Prop := fun xs H Q => match xs with | [.int i] => Q (.int (if i < 0 then -i else i)) H | _ => False
theorem d_abs : CallR X (.builtin "abs") dAbs := call_abs.imp fun xs H Q h => by
 unfold dAbs at h
 split at h
 ·exact ⟨_, rfl, h⟩
 ·exact h.elim
noncomputable def dLen (K : PySem.W.Frag) : List V → Hp → VK → Prop := fun xs H Q => match xs with | [.ref p] => ∃ ys, (SqL K H p ys ∨ SqT K H p ys) ∧ Q (.int ys.length) H | _ => False
theorem d_len : CallR X (.builtin "len") (dLen X.K) := call_len_seq.imp fun xs H Q h => by
 unfold dLen at h
 split at h
 ·obtain ⟨ys, h1, q⟩ := h
  exact ⟨_, ys, rfl, h1, q⟩
 ·exact h.elim
inductive TyK (K : PySem.W.Frag) (H : Hp) : V → Value → Prop where
 | of {x : V} {t : Value} (h : TyOf K H x t) : TyK K H x t
 | non : TyK K H .non (.type "NoneType")
 | bl (x : Bool) : TyK K H (.bl x) (.type "bool")
 | int (i : Int) : TyK K H (.int i) (.type "int")
 | str (x : Str) : TyK K H (.str x) (.type "str")
 | lst {a : Addr} {xs : List V} (e : H a = some (.lst xs)) : TyK K H (.ref a) (.type "list")
 | tup {a : Addr} {xs : List V} (e : H a = some (.tup xs)) : TyK K H (.ref a) (.type "tuple")
 | kt {a : Addr} {o : Obj} (h : K.lookup a = some o) (hc : o.cls = .type "tuple") : TyK K H (.ref a) (.type "tuple")
theorem isinst_okK {X : Cx} {pins : List (Addr × Obj)} {σ : St} {H : Hp} {s : Shared} {A : Around} {E : Value → Shared → Prop} {Q : Value → Shared → Prop} {b : Bool} {c : Value} {x : V} {u t : Value} (I : Inv X pins σ H s) (rx : RelV x u) (ty : TyK X.K H x t) (e : PySem.W.kitOne X.K t c = some b) (h : ∀ tk, Q (.bool b) { s with toks := tk }) :
  wpAny (model X.prog X.w) A (call (.builtin "isinstance") [u, c]) Q E s := by
 cases ty with
 | of z => exact isinst_ok I rx z e h
 | non => exact isinst_ok I rx .non e h
 | bl y => exact isinst_ok I rx (.bl y) e h
 | int y => exact isinst_ok I rx (.int y) e h
 | str y => exact isinst_ok I rx (.str y) e h
 | lst y => exact isinst_ok I rx (.lst y) e h
 | tup y => exact isinst_ok I rx (.tup y) e h
 | @kt a o h1 h2 =>
  cases (show u = Value.ref a from rx)
  exact PySem.W.kia_one PySem.W.kitx_tuple I.kIn ⟨o, I.kIn a o h1, h2⟩ e (fun z => nomatch z) h
noncomputable def dIsi (K : PySem.W.Frag) : List V → Hp → VK → Prop := fun xs H Q => match xs with | [x, .ty c] => ∃ t b, TyK K H x t ∧ PySem.W.kitOne K t (.type c) = some b ∧ Q (.bl b) H | _ => False
theorem d_isi : CallR X (.builtin "isinstance") (dIsi X.K) := by
 intro pins s σ H xs us Q I r h
 unfold dIsi at h
 split at h
 ·rename_i x c
  obtain ⟨t, b, ty, e, q⟩ := h
  obtain ⟨u, z, rfl, rx, rz⟩ := vals2 r
  cases (show z = Value.type c from rz)
  exact isinst_okK I rx ty e fun tk => ⟨.bl b, H, I.tok tk, rfl, q⟩
 ·exact h.elim
noncomputable def dInt : List V → Hp → VK → Prop := fun xs H Q => match xs with | [.int i] => Q (.int i) H | [.bl k] => Q (.int (if k then 1 else 0)) H | _ => False
theorem d_int : CallR X (.type "int") dInt := call_int1.imp fun xs H Q h => by
 unfold dInt at h
 split at h
 ·exact .inl ⟨_, rfl, h⟩
 ·exact .inr ⟨_, rfl, h⟩
 ·exact h.elim
noncomputable def dApp (to : TE) (t : TA) : TE := fun σ H Q => to σ H fun x H1 => match x with
 | .ref l => (∃ xs, H1 l = some (.lst xs)) ∧ t σ H1 fun vs H2 => match vs with
  | [y] => ∃ xs, H2 l = some (.lst xs) ∧ xs.length < 16000000 ∧ ∀ H', Chg H2 l (.lst (xs ++ [y])) H' → Q .non H'
  | _ => False
 | _ => False
end
section
variable {X : Cx} {o e : Expr} {es : List Expr} {t : TA} {to te : TE} {pos : Pos}
noncomputable def upT (t : TE) : TE := fun σ H Q => ∃ Q' : VK, t σ H Q' ∧ ∀ v H', Q' v H' → Q v H'
theorem PE.up (h : PE X e te) : PE X e (upT te) := fun pins s σ H Q I ⟨Q', z, i⟩ => thn (h pins s σ H Q' I z) fun u s' ⟨v, H', I', r, q⟩ => ⟨v, H', I', r, i _ _ q⟩
noncomputable def upA (t : TA) : TA := fun σ H Q => ∃ Q' : List V → Hp → Prop, t σ H Q' ∧ ∀ v H', Q' v H' → Q v H'
theorem PA.up (h : PA X es t) : PA X es (upA t) := fun p pins s σ H Q I ⟨Q', z, i⟩ => thn (h p pins s σ H Q' I z) fun u s' ⟨v, H', I', r, q⟩ => ⟨v, H', I', r, i _ _ q⟩
theorem d_append {apos cpos : Pos} (ho : PE X o to) (ha : PA X [e] t) (hbase : attributeBase o "append" X.env (eval o X.env) = eval o X.env := by rfl)
  (hfew : ((backTo cpos (starEach [e] X.env)).all (fun x => !x.1) && (backToKw cpos (keywordEach [] X.env)).all (fun x => x.1.isSome) && decide ([e].length + ([] : List Keyword).length + (if ([] : List Keyword).isEmpty then 0 else 1) < 30)) = true := by rfl)
  (hline : (apos.endLine == cpos.line) = true := by rfl) (hs : starEach [e] X.env = (false, eval e X.env) :: starEach [] X.env := by rfl) (hplain : (backTo cpos (starEach [] X.env)).any (·.1) = false := by rfl) :
  PE X (.Call (.Attribute o "append" apos) [e] [] cpos) (dApp to t) :=
 (pe_append ho.up ha.up hbase hfew hline hs hplain).imp fun σ H Q h => by
  refine ⟨_, h, fun v H1 q => ?_⟩
  cases v <;> first | exact q.elim | skip
  obtain ⟨⟨xs, h1⟩, q⟩ := q
  refine ⟨.inl ⟨rfl, xs, SqL.of h1⟩, _, q, fun vs H2 q2 => ?_⟩
  split at q2
  ·obtain ⟨ys, h2, hl, q3⟩ := q2
   exact ⟨_, ys, _, rfl, rfl, h2, Nat.lt_of_lt_of_le hl (by decide), q3 _ .mk'⟩
  ·exact q2.elim
end
theorem br {p A B : Prop} [Decidable p] (h1 : p → A) (h2 : ¬ p → B) : if decide p = true then A else B := ite2 (fun c => h1 (of_decide_eq_true c)) fun c => h2 (of_decide_eq_false (Bool.eq_false_iff.mpr c))
theorem brN {p A B : Prop} [Decidable p] (h1 : ¬ p → A) (h2 : p → B) : if (!decide p) = true then A else B := ite2 (fun c => h1 (of_decide_eq_false (by simpa using c))) fun c => h2 (of_decide_eq_true (by simpa using c))
end L2
namespace L2
open PySem PySem.Spec PyProof.Rows
section
variable {X : Cx}
theorem d_str {x : Str} {l : List Nat} {j pos} (h : x = tx l) : PE X (.Constant (.str x) j pos) (tC (.str (tx l))) := h ▸ pe_str
noncomputable def Cn (mg : Str → Option Value) (x : Str) (v : V) : Prop := ∃ u, mg x = some u ∧ RelV v u
theorem Cn.pe {x : Str} {v : V} {pos : Pos} (h : Cn X.mg x v) (hg : Gl X x) (hd : (x == ("__debug__" : Str)) = false := by decide) : PE X (.Name x pos) (tC v) := by
 obtain ⟨u, m, r⟩ := h
 exact pe_glob hg m r hd
theorem cn_int {K : PySem.W.Frag} {mg : Str → Option Value} {h : Heap} {x : Str} {i j : Int} {t : Tok} (KX : K.In h) (G : h.Ns mainGlobals mg) (a : PySem.W.nsIn K mainGlobals x = some (some (.int i t))) (e : i = j) : Cn mg x (.int j) := ⟨_, PySem.W.mg_of KX G a, ⟨t, by rw [e]⟩⟩
end
section
variable {P : Program} {w : World} {K : PySem.W.Frag} {mg : Str → Option Value} {base : Heap} {N : List Str} {qual : Str} {scope : Scope} {f : Addr} {cd : Value} {A : Around} {outer : List Env} {s₀ : Shared} {H₀ : Hp} {E : XK}
 {j k : Nat} {x : Str} {ps : List Str} {sp : Sp} {p pos : Pos}
end
noncomputable def sp_law (K : PySem.W.Frag) : Sp := fun vs H Q _ => ∃ (a : Addr) (ns : List Int), vs = [.ref a] ∧ SqL K H a (ns.map V.int) ∧ ns.length ≤ 63 ∧ ∀ H', Q (.bl true) H'
theorem walkE {k : Nat} {l : PySem.W.OpenLaw} {q : Program} {loose : List Str} {XP : (Str → Option Value) → Heap → Prop} {YP : World → Heap → Prop} {d : DefRec} {K : Params → PySem.W.Frag} (hk : k ≤ 40) (hn : l.most = some 63) (hdf : d.params.defaults = [])
  (hY : ∀ (w : World) (h : Heap), YP w h → (K w.params).In h)
  (F : ∀ (w : World) (mg : Str → Option Value) (fa : Addr) (h : Heap), (K w.params).In h → h.Ns mainGlobals mg → mg d.name = some (.ref fa) →
   ∃ fd : FuncData, (∀ (s : Shared) (u : Value), BindsTo s fd ⟨[u], []⟩ [("_law_script", u)]) ∧ ∀ base : Heap, (K w.params).In base → base.Ns mainGlobals mg → FnOk l.prog w (K w.params) mg base (CXE l.prog w) k fa fd ["_law_script"] (sp_law (K w.params))) :
  PySem.W.WalkO q loose XP YP l.row.toRowW d [] (fun f vs => PySem.call f vs) :=
 walk_of (n := 63) (k := k) (x := "_law_script") (CX := fun w => CXE l.prog w) (sp := fun w => sp_law (K w.params)) hn (by decide) hdf ((show Room 40 callerA from ⟨rfl, by decide, by decide⟩).mono hk) hY F (fun _ _ a ns hl _ hS => ⟨a, ns, rfl, hS, hl, fun _ => rfl⟩) fun _ _ _ _ _ ⟨_, _, _, _, _, z⟩ => z
end L2
namespace L2
noncomputable abbrev Wn (W : Nat → St → Hp → Prop) (m : Nat) : St → Hp → Prop := fun σ' H' => ∃ m', m' < m ∧ W m' σ' H'
theorem whl_in {W : Nat → St → Hp → Prop} {m : Nat} {tb : TS} {D : Ends} {σ : St} {H1 : Hp} (h : tb { D with nx := Wn W m, ct := Wn W m, bk := D.nx } σ H1) :
  ∃ N : St → Hp → Prop, (∀ σ' H', N σ' H' → ∃ m', m' < m ∧ W m' σ' H') ∧ tb { D with nx := N, ct := N, bk := D.nx } σ H1 := ⟨_, fun _ _ h => h, h⟩
theorem whl {c : TT} {tb : TS} {D : Ends} {σ : St} {H : Hp} (W : Nat → St → Hp → Prop) (m0 : Nat) (h0 : W m0 σ H)
  (hs : ∀ m σ H, W m σ H → c σ H fun b H1 => if b = true then ∃ N : St → Hp → Prop, (∀ σ' H', N σ' H' → ∃ m', m' < m ∧ W m' σ' H') ∧ tb { D with nx := N, ct := N, bk := D.nx } σ H1 else D.nx σ H1) : tWhile c tb D σ H := ⟨W, ⟨m0, h0⟩, hs⟩
end L2
namespace L2
open PySem PySem.Spec PyProof.Rows
section
variable {X : Cx} {e : Expr} {te : TE}
noncomputable def dPart (t : TE) : TO := fun σ H Q => t σ H fun x H1 => match x with | .int i => Q (some i) H1 | _ => False
theorem tPart_eq (t : TE) : tPart t = dPart t := by
 funext σ H Q
 unfold tPart dPart
 congr 1
 funext x H1
 apply propext
 cases x <;> simp
theorem d_some (h : PE X e te) : PO X (some e) (dPart te) := tPart_eq te ▸ po_some h
theorem SlR.imp {r r' : V → Option Int → Option Int → Hp → VK → Prop} (h : SlR X r) (i : ∀ x lo hi H Q, r' x lo hi H Q → r x lo hi H Q) : SlR X r' := by
 intro pins s σ H x v vl vu lo hi sl Q I rx hs pl pu z
 exact h pins s σ H x v vl vu lo hi sl Q I rx hs pl pu (i _ _ _ _ _ z)
noncomputable def dSlL (K : PySem.W.Frag) : V → Option Int → Option Int → Hp → VK → Prop := fun x lo hi H Q => match x with | .ref a => ∃ xs, SqL K H a xs ∧ ∀ p H', New H p (.lst (cutV xs lo hi)) H' → Q (.ref p) H' | _ => False
theorem d_slL : SlR X (dSlL X.K) := sl_list.imp fun x lo hi H Q h => by
 cases x <;> first | exact h.elim | skip
 obtain ⟨xs, h1, q⟩ := h
 exact ⟨_, xs, rfl, h1, new_iff.mpr q⟩
noncomputable def dListOf (K : PySem.W.Frag) : List V → Hp → VK → Prop := fun xs H Q => match xs with | [.ref p] => ∃ ys, (SqL K H p ys ∨ SqT K H p ys) ∧ ∀ l H', New H l (.lst ys) H' → Q (.ref l) H' | _ => False
theorem d_list : CallR X (.type "list") (dListOf X.K) := call_list_of.imp fun xs H Q h => by
 unfold dListOf at h
 split at h
 ·obtain ⟨ys, h1, q⟩ := h
  exact ⟨_, ys, rfl, h1, new_iff.mpr q⟩
 ·exact h.elim
noncomputable def dCat : R2 := fun x y H Q => match x, y with | .ref l, .ref b => ∃ xs zs, H l = some (.lst xs) ∧ H b = some (.lst zs) ∧ xs.length + zs.length ≤ 10000000 ∧ ∀ p H', New H p (.lst (xs ++ zs)) H' → Q (.ref p) H' | _, _ => False
theorem d_cat : OpR X (binaryOp .Add) dCat := op_cat.imp fun x y H Q h => by
 unfold dCat at h
 split at h
 rotate_left
 ·exact h.elim
 obtain ⟨xs, zs, h1, h2, h3, q⟩ := h
 exact ⟨_, _, xs, zs, rfl, rfl, h1, h2, Nat.le_trans h3 (by decide), new_iff.mpr q⟩
end
end L2
namespace L2
open PySem PySem.Spec PyProof.Rows
theorem closure_aux (env : Env) : ∀ (l : List (Str × NameKind)) (acc : List (Str × Addr)), (∀ y ∈ l, y.2 = .free → ∃ c, env.cells.lookup y.1 = some c) → (∀ y c, acc.lookup y = some c → env.cells.lookup y = some c) →
  ∃ cl, (forIn l acc fun x (r : List (Str × Addr)) => match x with
   | (name, kind) => if (kind == NameKind.free) = true then do
     let c ← cellOf env name
     pure (ForInStep.yield ((name, c) :: r))
    else pure (ForInStep.yield r) : Sem (List (Str × Addr))) = pure cl ∧ (∀ y c, cl.lookup y = some c → env.cells.lookup y = some c) ∧ (∀ y, (y, NameKind.free) ∈ l ∨ (∃ c, acc.lookup y = some c) → ∃ c, cl.lookup y = some c)
 | [], acc, _, ha => ⟨acc, rfl, ha, fun y h => h.elim (fun z => by simp at z) id⟩
 | (n, k) :: l, acc, hl, ha => by
  by_cases hk : (k == NameKind.free) = true
  ·have hk' : k = .free := by simpa using hk
   subst hk'
   obtain ⟨c, hc⟩ := hl (n, .free) List.mem_cons_self rfl
   have ha' : ∀ y c', ((n, c) :: acc).lookup y = some c' → env.cells.lookup y = some c' := fun y c' h => by
    rw [List.lookup_cons] at h
    split at h
    ·rename_i z
     rw [show y = n from by simpa using z]
     rw [← h]
     exact hc
    ·exact ha y c' h
   obtain ⟨cl, e, h1, h2⟩ := closure_aux env l ((n, c) :: acc) (fun y hy => hl y (List.mem_cons_of_mem _ hy)) ha'
   refine ⟨cl, ?_, h1, fun y h => h2 y ?_⟩
   ·rw [List.forIn_cons]
    show (cellOf env n >>= fun c => pure (ForInStep.yield ((n, c) :: acc))) >>= _ = _
    rw [show cellOf env n = pure c by unfold cellOf; rw [hc]]
    exact e
   ·rcases h with h | ⟨c', h⟩
    ·rcases List.mem_cons.mp h with z | z
     ·cases z
      exact .inr ⟨c, by rw [List.lookup_cons]; simp⟩
     ·exact .inl z
    ·refine .inr ?_
     rw [List.lookup_cons]
     split
     ·exact ⟨c, rfl⟩
     ·exact ⟨c', h⟩
  ·obtain ⟨cl, e, h1, h2⟩ := closure_aux env l acc (fun y hy => hl y (List.mem_cons_of_mem _ hy)) ha
   refine ⟨cl, ?_, h1, fun y h => h2 y ?_⟩
   ·rw [List.forIn_cons]
    show (if (k == NameKind.free) = true then _ else pure (ForInStep.yield acc)) >>= _ = _
    rw [if_neg hk]
    exact e
   ·rcases h with h | h
    ·rcases List.mem_cons.mp h with z | z
     ·cases z
      exact absurd rfl hk
     ·exact .inl z
    ·exact .inr h
theorem closure_ok {scope : Scope} {env : Env} (h : ∀ y ∈ scope.names, y.2 = .free → ∃ c, env.cells.lookup y.1 = some c) :
  ∃ cl, closureFor scope env = pure cl ∧ (∀ y c, cl.lookup y = some c → env.cells.lookup y = some c) ∧ (∀ y, (y, NameKind.free) ∈ scope.names → ∃ c, cl.lookup y = some c) := by
 obtain ⟨cl, e, h1, h2⟩ := closure_aux env scope.names [] h (fun y c z => by simp at z)
 refine ⟨cl, ?_, h1, fun y z => h2 y (.inl z)⟩
 unfold closureFor
 show (forIn scope.names [] _ >>= fun s => pure s) = _
 have e' : (forIn scope.names ([] : List (Str × Addr)) fun x (r : List (Str × Addr)) => match x with
   | (name, kind) => if (kind == NameKind.free) = true then do
     let c ← cellOf env name
     pure (ForInStep.yield ((name, c) :: r))
    else pure (ForInStep.yield r) : Sem (List (Str × Addr))) >>= (fun s => pure s) = pure cl := by rw [e]; rfl
 exact e'
theorem lookup_relabel_free {env : Env} : ∀ {names : List (Str × NameKind)} {x : Str}, names.lookup x = some .free →
  (names.map fun (n, k) => if (k == NameKind.free && env.scope.kind == .function && env.kindOf n == some .cell) then (n, NameKind.cell) else (n, k)).lookup x = some .cell ∨
  (names.map fun (n, k) => if (k == NameKind.free && env.scope.kind == .function && env.kindOf n == some .cell) then (n, NameKind.cell) else (n, k)).lookup x = some .free
 | [], _, h => by simp at h
 | (n, k) :: r, x, h => by
  have ih := @lookup_relabel_free env r x
  show List.lookup x ((if (k == NameKind.free && env.scope.kind == .function && env.kindOf n == some .cell) = true then (n, NameKind.cell) else (n, k)) :: _) = _ ∨ List.lookup x ((if (k == NameKind.free && env.scope.kind == .function && env.kindOf n == some .cell) = true then (n, NameKind.cell) else (n, k)) :: _) = _
  cases hx : x == n with
  | true =>
   simp only [List.lookup_cons, hx] at h
   cases h
   split
   ·left; simp [List.lookup_cons, hx]
   ·right; simp [List.lookup_cons, hx]
  | false =>
   simp only [List.lookup_cons, hx] at h
   split
   ·simp only [List.lookup_cons, hx]; exact ih h
   ·simp only [List.lookup_cons, hx]; exact ih h
theorem relabel_back {env : Env} : ∀ {names : List (Str × NameKind)} {x : Str}, (∀ y ∈ names, y.2 ≠ .cell) →
  ((names.map fun (n, k) => if (k == NameKind.free && env.scope.kind == .function && env.kindOf n == some .cell) then (n, NameKind.cell) else (n, k)).lookup x = some .cell ∨
  (names.map fun (n, k) => if (k == NameKind.free && env.scope.kind == .function && env.kindOf n == some .cell) then (n, NameKind.cell) else (n, k)).lookup x = some .free) → (x, NameKind.free) ∈ names
 | [], _, _, h => by simp at h
 | (n, k) :: r, x, hc, h => by
  have ih := @relabel_back env r x (fun y hy => hc y (List.mem_cons_of_mem _ hy))
  have h' : List.lookup x ((if (k == NameKind.free && env.scope.kind == .function && env.kindOf n == some .cell) = true then (n, NameKind.cell) else (n, k)) :: (r.map fun (n, k) => if (k == NameKind.free && env.scope.kind == .function && env.kindOf n == some .cell) then (n, NameKind.cell) else (n, k))) = some .cell ∨
   List.lookup x ((if (k == NameKind.free && env.scope.kind == .function && env.kindOf n == some .cell) = true then (n, NameKind.cell) else (n, k)) :: (r.map fun (n, k) => if (k == NameKind.free && env.scope.kind == .function && env.kindOf n == some .cell) then (n, NameKind.cell) else (n, k))) = some .free := h
  have nk := hc (n, k) List.mem_cons_self
  cases hx : x == n with
  | true =>
   have e : x = n := by simpa using hx
   subst e
   split at h'
   ·rename_i z
    have : k = .free := by
     have := (Bool.and_eq_true_iff.mp (Bool.and_eq_true_iff.mp z).1).1
     simpa using this
    rw [this]
    exact List.mem_cons_self
   ·simp only [List.lookup_cons, hx] at h'
    rcases h' with z | z
    ·exact absurd (Option.some.inj z) nk
    ·rw [Option.some.inj z]
     exact List.mem_cons_self
  | false =>
   refine List.mem_cons_of_mem _ (ih ?_)
   split at h' <;> (simp only [List.lookup_cons, hx] at h'; exact h')
theorem mem_of_lookup : ∀ {l : List (Str × NameKind)} {y : Str} {k : NameKind}, l.lookup y = some k → (y, k) ∈ l
 | [], _, _, h => by simp at h
 | (n, k') :: r, y, k, h => by
  rw [List.lookup_cons] at h
  split at h
  ·rename_i z
   rw [show y = n from by simpa using z, ← Option.some.inj h]
   exact List.mem_cons_self
  ·exact List.mem_cons_of_mem _ (mem_of_lookup h)
set_option genInjectivity false in
structure CB where
 cl : List (Str × Addr)
 C : Addr
 s : Shared
 H : Hp
 fp : List Addr
noncomputable def capsOf (ix : List Nat) (σ : St) : St := ix.map (nth σ)
noncomputable abbrev Cx.comp (X : Cx) (scope : Scope) (cl : List (Str × Addr)) (C : Addr) (ns : List Str) (s : Shared) (H : Hp) (fp : List Addr) : Cx :=
 { X with N := ns, s₀ := s, H₀ := H, env := compEnvC scope cl C X.env, outer := X.stack, stack := X.stack, ex := fp, fn := fun _ => false, pn := [], xe := fun _ _ => False }
section
variable {X : Cx} {pins : List (Addr × Obj)} {σ : St} {H : Hp} {s : Shared} {scope : Scope} {cl : List (Str × Addr)} {C : Addr} {ns : List Str} {fp : List Addr}
theorem Inv.compOk (I : Inv X pins σ H s) (hkind : scope.kind = .function) (hcell : ∀ y ∈ scope.names, y.2 ≠ .cell) (hC : s.heap.objs.size ≤ C)
  (h1 : ∀ y c, cl.lookup y = some c → X.env.cells.lookup y = some c) (h2 : ∀ y, (y, NameKind.free) ∈ scope.names → ∃ c, cl.lookup y = some c)
  (hf : ∀ b ∈ fp, FpOk X pins H b) (hfs : ∀ b ∈ fp, b < s.heap.objs.size) : (X.comp scope cl C ns s H fp).Ok where
 mod := I.ok.mod
 kind := hkind
 glob := I.ok.glob
 blt := I.ok.blt
 above := hC
 inj := fun x y c a b => I.ok.inj x y c (h1 x c a) (h1 y c b)
 has := fun x h => h2 x (relabel_back (env := X.env) hcell h)
 cab := fun _ _ h => nomatch h
 hd := I.ok.hd
 frames := I.ok.frames
 stk := .inl rfl
 exf := fun b hb => ⟨Nat.ne_of_lt (Nat.lt_of_lt_of_le (hfs b hb) hC), fun x c e => (hf b hb).2.2.2.2.1 x c (h1 x c e)⟩
 bs := I.bs
 bsz := Nat.le_trans I.ok.bsz I.sz
 noex := fun b o e hb => by
  rcases (hf b hb).2.2.2.1 with z | z
  ·exact I.ok.noex b o e z
  ·exact absurd (Nat.lt_of_lt_of_le (Heap.lt_size e) (Nat.le_trans I.ok.bsz z)) (Nat.lt_irrefl _)
 exfs := fun b hb z => by
  rcases List.mem_cons.mp (I.stkSub b z) with y | y
  ·exact (hf b hb).2.1 y
  ·exact (hf b hb).2.2.1 y
 funs := I.stack
 frf := I.stkFree
theorem Inv.comp {h₁ : Heap} {tk : Nat} {m₁ : Str → Option Value} {x : Str} {cs : List Str} {ix : List Nat} (I : Inv X pins σ H s) (ok : (X.comp scope cl C (x :: cs) s H fp).Ok)
  (h1 : ∀ y c, cl.lookup y = some c → X.env.cells.lookup y = some c) (h2 : ∀ y, (y, NameKind.free) ∈ scope.names → ∃ c, cl.lookup y = some c)
  (hC : s.heap.objs.size ≤ C) (hn : h₁.Ns C m₁) (keep : ∀ b o, s.heap.get? b = some o → h₁.get? b = some o)
  (hix : ix.map (fun i => X.N[i]?) = cs.map some) (hfr : ∀ y ∈ cs, scope.names.lookup y = some .free) (hout : ∀ y ∈ cs, X.env.scope.names.lookup y = some .cell ∨ X.env.scope.names.lookup y = some .free) :
  Inv (X.comp scope cl C (x :: cs) s H fp) [] (none :: capsOf ix σ) H { s with heap := h₁, toks := tk } where
 ok := ok
 os := rfl
 bare := I.bare
 base := Un.kept keep
 loc := by
  refine ⟨m₁, hn, fun i y v e1 e2 _ => ?_⟩
  cases i with
  | zero => cases e2
  | succ j =>
   have e1' : cs[j]? = some y := e1
   have e2' : (ix.map (nth σ))[j]? = some (some v) := e2
   rw [List.getElem?_map] at e2'
   obtain ⟨k, hk, hv⟩ := Option.map_eq_some_iff.mp e2'
   have e3 : X.N[k]? = some y := by
    have z := congrArg (fun l => l[j]?) hix
    simp only [List.getElem?_map] at z
    rw [hk, e1'] at z
    simpa using z
   have hy := List.mem_of_getElem? e1'
   obtain ⟨m, hm, hl⟩ := I.loc
   obtain ⟨u, r, l⟩ := hl k y v e3 (nth_iff.mpr hv) (by rcases hout y hy with z | z; exact .inr (.inl z); exact .inr (.inr z))
   refine ⟨u, r, .inr ⟨lookup_relabel_free (env := X.env) (hfr y hy), ?_⟩⟩
   rcases l with ⟨k1, _⟩ | ⟨_, c, hc, z⟩
   ·have k1' : X.env.scope.names.lookup y = some .local := k1
    rcases hout y hy with w | w <;> (rw [k1'] at w; cases w)
   ·have hmem : (y, NameKind.free) ∈ scope.names := mem_of_lookup (hfr y hy)
    obtain ⟨c', hc'⟩ := h2 y hmem
    have := h1 y c' hc'
    rw [hc] at this
    cases this
    obtain ⟨o, ho, hd⟩ := z
    exact ⟨c, hc', o, keep _ _ ho, hd⟩
 cell := fun y c e => by
  obtain ⟨v, o, ho, hd⟩ := I.cell y c (h1 y c e)
  exact ⟨v, o, keep _ _ ho, hd⟩
 free := I.hok.fresh hC
 freeC := fun y c e => I.freeC y c (h1 y c e)
 pin := fun p hp => by simp at hp
 hok := I.hok.kept keep
 len := by
  show (none :: capsOf ix σ).length = (x :: cs).length
  have := congrArg List.length hix
  rw [List.length_map, List.length_map] at this
  simp [capsOf, this]
theorem Inv.uncomp {pins' : List (Addr × Obj)} {σ' : St} {H' : Hp} {s' : Shared} {h' : Heap} (I : Inv X pins σ H s) (I' : Inv (X.comp scope cl C ns s H fp) pins' σ' H' s') (hf : ∀ b ∈ fp, FpOk X pins H b) (hs : Heap.SameBut C s'.heap h') :
  Inv X pins σ H' { s' with heap := h' } := by
 have ne : ∀ b o, s.heap.get? b = some o → b ≠ C := fun b o e => Nat.ne_of_lt (Nat.lt_of_lt_of_le (Heap.lt_size e) I'.ok.above)
 have un := I'.base
 refine I.call' (ch := fp) I'.os ⟨fun b o e n hb hx => ?_, fun b o e n hb hx => ?_, un.free, fun b o e hx => ?_, un.tups, un.frzs, un.tbls⟩ ?_ I'.bare fun b hb => ?_
 ·exact (hs.2 b (ne b o e)).trans (un.keep b o e n hb hx)
 ·obtain ⟨sl, e1⟩ := un.slot b o e n hb hx
  exact ⟨sl, (hs.2 b (ne b o e)).trans e1⟩
 ·obtain ⟨o', e1⟩ := un.there b o e hx
  exact ⟨o', (hs.2 b (ne b o e)).trans e1⟩
 ·refine I'.hok.stays fun a o ob e q => (hs.2 a ?_).trans q
  intro z
  have f : H' C = none := I'.free
  rw [z, f] at e
  cases e
 ·obtain ⟨_, f1, _, f3, f4, f5⟩ := hf b hb
  exact ⟨f3, f1, f4, f5⟩
end
noncomputable def CompGo (J : It) (D : Addr) (caps : St) (te : CB → TE) (Q : VK) (H2 : Hp) : Prop := ∃ W : Nat → Nat → List V → Hp → Prop, (∃ m, W 0 m [] H2) ∧ ∀ i m ys H, W i m ys H →
 (J.stop i H ∧ Q (.ref D) H) ∨ (J.go i H ∧ ∀ x H', J.yld i H x H' → ∀ z, te z (some x :: caps) H' fun y H3 => H3 D = some (.lst ys) ∧ ys.length < 16000000 ∧ ∀ H4, Chg H3 D (.lst (ys ++ [y])) H4 → ∃ m', m' < m ∧ W (i + 1) m' (ys ++ [y]) H4)
noncomputable def tComp (wi : TI) (ix : List Nat) (te : CB → TE) : TE := fun σ H Q => wi σ H fun J H1 => ∀ D H2, New H1 D (.lst []) H2 → CompGo J D (capsOf ix σ) te Q H2
section
variable {X : Cx}
theorem comp_core {elt iter : Expr} {ifs : List Expr} {x : Str} {px : Pos} {scope : Scope} {pos : Pos} {cs : List Str} {ix : List Nat} {te : CB → TE} {tc : CB → TT} {pins : List (Addr × Obj)} {σ : St} {H : Hp} {s : Shared} {J : It} {it : Addr} {fp : List Addr} {tn : Nat → Heap → Prop}
  {cl : List (Str × Addr)} {E : Value → Shared → Prop} {Q : V → Hp → Prop} {RR : Value → Addr → Result → Shared → Prop}
  (hc : X.calm = true) (hkind : scope.kind = .function) (hcell : ∀ y ∈ scope.names, y.2 ≠ .cell) (hx : scope.names.lookup x = some .local) (hN : (x :: cs).Nodup)
  (hix : ix.map (fun i => X.N[i]?) = cs.map some) (hfr : ∀ y ∈ cs, scope.names.lookup y = some .free) (hout : ∀ y ∈ cs, X.env.scope.names.lookup y = some .cell ∨ X.env.scope.names.lookup y = some .free)
  (h1 : ∀ y c, cl.lookup y = some c → X.env.cells.lookup y = some c) (h2 : ∀ y, (y, NameKind.free) ∈ scope.names → ∃ c, cl.lookup y = some c)
  (htest : (ifs = [] ∧ tc = fun _ _ H Q => Q true H) ∨ ∃ c, ifs = [c] ∧ ∀ z : CB, PT (X.comp scope z.cl z.C (x :: cs) z.s z.H z.fp) c (tc z))
  (helt : ∀ z : CB, PE (X.comp scope z.cl z.C (x :: cs) z.s z.H z.fp) elt (te z))
  (I : Inv X pins σ H s) (T : Turn X.prog X.w X.K (.Name x px) J fp it tn) (st0 : tn 0 s.heap) (hf : ∀ b ∈ fp, FpOk X pins H b)
  (h : ∀ D H2, New H D (.lst []) H2 → ∃ W : Nat → Nat → List V → Hp → Prop, (∃ m, W 0 m [] H2) ∧ ∀ i m ys H, W i m ys H →
   (J.stop i H ∧ Q (.ref D) H) ∨ (J.go i H ∧ ∀ x H', J.yld i H x H' → ∀ z, tc z (some x :: capsOf ix σ) H' fun b H5 => if b = true then te z (some x :: capsOf ix σ) H5 fun y H3 => H3 D = some (.lst ys) ∧ ys.length < 16000000 ∧ ∀ H4, Chg H3 D (.lst (ys ++ [y])) H4 → ∃ m', m' < m ∧ W (i + 1) m' (ys ++ [y]) H4
    else ∃ m', m' < m ∧ W (i + 1) m' ys H5))
  (hRR : ∀ D C s1 H', (∃ m, s1.heap.Ns C m) → (∀ h', Heap.SameBut C s1.heap h' → Inv X pins σ H' { s1 with heap := h' }) → FpOk X pins H' C → Q (.ref D) H' → RR (.ref D) C (.ok .next) s1) :
  wpAny (model X.prog X.w) X.A (newList []) (fun acc s₃ => wpAny (model X.prog X.w) X.A (newFunctionEnv scope X.env.globals cl [] X.env.qual none .none (some X.env)) (fun cenv s₄ =>
   codeAny (model X.prog X.w) X.A (.compStart (.ListComp elt [⟨.Name x px, iter, ifs, 0⟩] scope pos) 0 (.ref it) acc { cenv with scope := relabel scope X.env }) (RR acc cenv.locals) s₄) E s₃) E s := by
 refine wpAny_newObj_type ?_
 have fD : H s.heap.objs.size = none := I.hok.fresh (Nat.le_refl _)
 have I3 : Inv X pins σ (upd H s.heap.objs.size (.lst [])) { s with heap := s.heap.push { cls := .type "list", data := .seq ([] : List Value).toArray } } := by
  refine I.laid (t' := s.toks) (fun b u e => Heap.get?_push_of_some _ e) (Nat.le_refl _) ?_
  exact ⟨Nat.zero_le _, [], _, .nil, Heap.get?_push_size _ rfl⟩
 have n3 : New H s.heap.objs.size (.lst []) (upd H s.heap.objs.size (.lst [])) := .mk' fD
 generalize hD : s.heap.objs.size = D at *
 obtain ⟨W, ⟨m0, w0⟩, turn⟩ := h D _ n3
 have st3 : tn 0 (s.heap.push { cls := .type "list", data := .seq ([] : List Value).toArray }) := T.keep 0 _ _ st0 fun b _ o e => Heap.get?_push_of_some _ e
 have fpD : ∀ b ∈ fp, b ≠ D := fun b hb z => by
  obtain ⟨o, e, _⟩ := T.obj 0 _ st0 b hb
  exact absurd (Heap.lt_size e) (by rw [z, hD]; exact Nat.lt_irrefl _)
 have hf3 : ∀ b ∈ fp, FpOk X pins (upd H D (.lst [])) b := fun b hb => by
  obtain ⟨f0, r⟩ := hf b hb
  exact ⟨by rw [upd_ne (fpD b hb)]; exact f0, r⟩
 generalize hs3 : ({ s with heap := s.heap.push { cls := .type "list", data := .seq ([] : List Value).toArray } } : Shared) = s3 at *
 have st3' : tn 0 s3.heap := by rw [← hs3]; exact st3
 generalize upd H D (.lst []) = H3 at *
 refine wpAny_newFunctionEnv hcell (by intro y hy; simp at hy) (fun h₁ hns₁ hsb₁ => ?_) hkind
 have keep : ∀ b o, s3.heap.get? b = some o → h₁.get? b = some o := fun b o e => hsb₁.extBut b o (Nat.ne_of_lt (Heap.lt_size e)) (Heap.get?_push_of_some _ e)
 have hfs : ∀ b ∈ fp, b < s3.heap.objs.size := fun b hb => by
  obtain ⟨o, e, _⟩ := T.obj 0 _ st3' b hb
  exact Heap.lt_size e
 have ok := I3.compOk (ns := x :: cs) hkind hcell (Nat.le_refl _) h1 h2 hf3 hfs
 have I4 := I3.comp (tk := s3.toks + ([] : List (Str × Value)).length) ok h1 h2 (Nat.le_refl _) hns₁ keep hix hfr hout
 have st4 : tn 0 h₁ := T.keep 0 _ _ st3' fun b _ o e => keep b o e
 generalize hC : s3.heap.objs.size = C at *
 have stat : ∀ {H' : Hp} {pins'}, pins' = [] → (∀ b ∈ fp, H' b = none) → ∀ b ∈ fp, FpOk (X.comp scope cl C (x :: cs) s3 H3 fp) pins' H' b := fun hp hn b hb => by
  subst hp
  exact ⟨hn b hb, (ok.exf b hb).1, ok.exfs b hb, .inl hb, (ok.exf b hb).2, fun p hp => by simp at hp⟩
 have hPG : PG (X.comp scope cl C (x :: cs) s3 H3 fp) (.Name x px) (gName 0) := pg_name (X := X.comp scope cl C (x :: cs) s3 H3 fp) (i := 0) hN rfl (.inl (lookup_relabel_local hx)) (.inr (lookup_relabel_local hx))
 have loop : ∀ s5 : Shared, s5 = { s3 with heap := h₁, toks := s3.toks + ([] : List (Str × Value)).length } →
   codeAny (model X.prog X.w) X.A (.compLoop (.ListComp elt [⟨.Name x px, iter, ifs, 0⟩] scope pos) 0 (.ref it) (.ref D) (compEnvC scope cl C X.env)) (RR (.ref D) C) s5 := by
  rintro s5 rfl
  refine codeAny_compLoop_tests (fun n s' => ∃ i v0 H' ys, Inv (X.comp scope cl C (x :: cs) s3 H3 fp) [] (v0 :: capsOf ix σ) H' s' ∧ tn i s'.heap ∧ (∀ b ∈ fp, H' b = none) ∧ W i n ys H') ?_ m0 ⟨0, none, H3, [], I4, st4, fun b hb => (hf3 b hb).1, w0⟩
  rintro n s6 ⟨i, v0, H6, ys, I6, st6, fr6, w6⟩
  rcases turn i n ys H6 w6 with ⟨stop, qn⟩ | ⟨go, step⟩
  ·refine wpAny_mono (T.done (X.comp scope cl C (x :: cs) s3 H3 fp) rfl rfl rfl hc i [] s6 _ H6 (fun _ _ => False) I6 (stat rfl fr6) st6 stop) (fun r s7 ⟨hr, I7⟩ => ?_) fun _ _ z => z.elim
   subst hr
   exact hRR D C s7 H6 (by obtain ⟨m, hm, _⟩ := I7.loc; exact ⟨m, hm⟩) (fun h' hs => I3.uncomp I7 hf3 hs) (I3.fpOk (Nat.le_of_eq hC) I7.free) qn
  ·refine wpAny_mono (T.item (X.comp scope cl C (x :: cs) s3 H3 fp) rfl rfl rfl hc i [] s6 _ H6 (fun _ _ => False) I6 (stat rfl fr6) st6 go) (fun r s7 ⟨u, hr, h7⟩ => ?_) fun _ _ z => z.elim
   subst hr
   show wpAny (model X.prog X.w) X.A (letOwnedTupleGo (.Name x px) (.ref it) u >>= fun _ => assign (.Name x px) (compEnvC scope cl C X.env) u) _ _ s7
   refine wpAny_bind (wpAny_mono h7 (fun _ s8 ⟨xv, H8, I8, r8, y8, st8, fr8⟩ => ?_) fun _ _ z => z.elim)
   have I8' := I8.pinned (stat rfl fr8) (T.obj _ _ st8)
   refine wpAny_mono (hPG _ s8 _ H8 xv u (fun σ9 H9 => σ9 = some xv :: capsOf ix σ ∧ H9 = H8) I8' r8 ⟨rfl, rfl⟩) (fun _ s9 ⟨σ9, H9, I9, e1, e2⟩ => ?_) fun _ _ z => z.elim
   subst e1 e2
   have stp := step xv H9 y8 ⟨cl, C, s3, H3, fp⟩
   have again : ∀ {H7 : Hp} {s7 : Shared} {zs : List V} {m' : Nat}, Inv (X.comp scope cl C (x :: cs) s3 H3 fp) ([] ++ pinsAt fp s8.heap) (some xv :: capsOf ix σ) H7 s7 → m' < n → W (i + 1) m' zs H7 →
     ∃ m, m < n ∧ ∃ i v0 H' ys, Inv (X.comp scope cl C (x :: cs) s3 H3 fp) [] (v0 :: capsOf ix σ) H' s7 ∧ tn i s7.heap ∧ (∀ b ∈ fp, H' b = none) ∧ W i m ys H' := fun {H7 s7 zs m'} I7 hm w7 => by
    refine ⟨m', hm, i + 1, _, H7, zs, I7.unpinned, T.keep _ _ _ st8 fun b hb o e => (I7.pin (b, o) (List.mem_append_right _ (List.mem_append_right _ (mem_pinsAt hb e)))).1, fun b hb => ?_, w7⟩
    obtain ⟨o, e, d⟩ := T.obj _ _ st8 b hb
    exact (I7.pin (b, o) (List.mem_append_right _ (List.mem_append_right _ (mem_pinsAt hb e)))).2.1
   have body : ∀ {H5 : Hp} {s5 : Shared}, Inv (X.comp scope cl C (x :: cs) s3 H3 fp) ([] ++ pinsAt fp s8.heap) (some xv :: capsOf ix σ) H5 s5 →
     (te ⟨cl, C, s3, H3, fp⟩ (some xv :: capsOf ix σ) H5 fun y H3 => H3 D = some (.lst ys) ∧ ys.length < 16000000 ∧ ∀ H4, Chg H3 D (.lst (ys ++ [y])) H4 → ∃ m', m' < n ∧ W (i + 1) m' (ys ++ [y]) H4) →
     ∀ E' : Value → Shared → Prop, wpAny (model X.prog X.w) X.A (eval elt (compEnvC scope cl C X.env)) (fun y s4 => wpAny (model X.prog X.w) X.A (call (.builtin "list.append") [.ref D, y]) (fun _ s5 => ∃ m, m < n ∧ ∃ i v0 H' ys, Inv (X.comp scope cl C (x :: cs) s3 H3 fp) [] (v0 :: capsOf ix σ) H' s5 ∧ tn i s5.heap ∧ (∀ b ∈ fp, H' b = none) ∧ W i m ys H') E' s4) E' s5 := fun {H5 s5} I5 q5 E' => by
    refine wpAny_mono (helt ⟨cl, C, s3, H3, fp⟩ _ s5 _ H5 _ I5 q5) (fun y s10 ⟨yv, H10, I10, r10, hDy, hl, q10⟩ => ?_) fun _ _ z => z.elim
    refine wpAny_mono (mt_append (X := X.comp scope cl C (x :: cs) s3 H3 fp) _ s10 _ H10 (.ref D) [yv] (.ref D) [y] (fun _ H11 => ∃ m', m' < n ∧ W (i + 1) m' (ys ++ [yv]) H11) I10 rfl (.cons r10 .nil) ⟨D, ys, yv, rfl, rfl, hDy, Nat.lt_of_lt_of_le hl (by decide), q10 _ .mk'⟩) (fun _ s11 ⟨_, H11, I11, _, m', hm, w11⟩ => ?_) fun _ _ z => z.elim
    exact again I11 hm w11
   rcases htest with ⟨e0, e1⟩ | ⟨c, e0, hpt⟩
   ·subst e0 e1
    refine wpAny_tests_nil ?_
    rw [if_pos rfl]
    have stp' := (show (if true = true then _ else _) from stp)
    rw [if_pos rfl] at stp'
    exact body I9 stp' _
   ·subst e0
    refine wpAny_tests_one (wpAny_mono (hpt ⟨cl, C, s3, H3, fp⟩ _ s9 _ H9 _ I9 stp) (fun b s10 ⟨H10, I10, q10⟩ => ?_) fun _ _ z => z.elim)
    cases b with
    | true =>
     rw [if_pos rfl] at q10 ⊢
     exact body I10 q10 _
    | false =>
     rw [if_neg Bool.false_ne_true] at q10 ⊢
     obtain ⟨m', hm, w10⟩ := q10
     exact again I10 hm w10
 exact codeAny_compStart_list (loop _ rfl) (T.self X.A 0 _ _ _ st4 (loop _ rfl))
theorem pe_comp {elt iter : Expr} {x : Str} {px : Pos} {scope : Scope} {pos : Pos} {wi : TI} {te : CB → TE} (sc0 : Scope) (cs : List Str) (ix : List Nat) (hc : X.calm = true) (hi : PI X (.Name x px) iter wi)
  (helt : ∀ z : CB, PE (X.comp scope z.cl z.C (x :: cs) z.s z.H z.fp) elt (te z)) (hN : (x :: cs).Nodup := by decide +kernel) (hkind : scope.kind = .function := by rfl) (hcell : ∀ y ∈ scope.names, y.2 ≠ .cell := by decide +kernel)
  (hx : scope.names.lookup x = some .local := by rfl) (hnames : ∀ y ∈ scope.names, y.2 = .local → scope.names.lookup y.1 = some .local := by decide +kernel)
  (hix : ix.map (fun i => X.N[i]?) = cs.map some := by rfl) (hfr : ∀ y ∈ cs, scope.names.lookup y = some .free := by decide +kernel) (hout' : ∀ y ∈ cs, sc0.names.lookup y = some .cell ∨ sc0.names.lookup y = some .free := by decide +kernel)
  (hfree' : ∀ y ∈ scope.names, y.2 = .free → sc0.names.lookup y.1 = some .cell ∨ sc0.names.lookup y.1 = some .free := by decide +kernel) (hsc : X.env.scope = sc0 := by rfl)
  (hs : ∀ x, foldedSetIterable iter X.env x = pure x := by intro _; rfl) :
  PE X (.ListComp elt [⟨.Name x px, iter, [], 0⟩] scope pos) (tComp wi ix te) := by
 have hout : ∀ y ∈ cs, X.env.scope.names.lookup y = some .cell ∨ X.env.scope.names.lookup y = some .free := by rw [hsc]; exact hout'
 have hfree : ∀ y ∈ scope.names, y.2 = .free → X.env.scope.names.lookup y.1 = some .cell ∨ X.env.scope.names.lookup y.1 = some .free := by rw [hsc]; exact hfree'
 intro pins s σ H Q I h
 obtain ⟨cl, hcl, h1, h2⟩ := closure_ok (scope := scope) (env := X.env) fun y hy hk => I.ok.has y.1 (hfree y hy hk)
 rw [eval_ListComp]
 refine wpAny_comprehension_free (use := none) rfl hs hcl hkind hnames (wpAny_mono (hi pins s σ H _ I h) (fun v s1 h3 => wpAny_mono h3 (fun itv s2 h4 => ?_) fun _ _ z => z) fun _ _ z => z)
 obtain ⟨it, fp, tn, J, H2, rfl, I2, T, st, hf, q⟩ := h4
 refine comp_core (Q := Q) (tc := fun _ _ H Q => Q true H) hc hkind hcell hx hN hix hfr hout h1 h2 (.inl ⟨rfl, rfl⟩) helt I2 T st hf (fun D H3 n3 => ?_) fun D C s3 H3 hm hI hCf hq => ?_
 ·obtain ⟨W, w0, turn⟩ := q D H3 n3
  refine ⟨W, w0, fun i m ys H w => ?_⟩
  rcases turn i m ys H w with z | ⟨go, step⟩
  ·exact .inl z
  ·refine .inr ⟨go, fun x H' y z => ?_⟩
   exact iteT (step x H' y z)
 ·obtain ⟨m, hm⟩ := hm
  exact ⟨m, hm, fun h' hs' => ⟨.ref D, H3, hI h' hs', rfl, hq⟩⟩
theorem ps_setComp {elt iter : Expr} {x y : Str} {px py : Pos} {scope : Scope} {pos spos : Pos} {wi : TI} {te : CB → TE} {k : Nat} (sc0 : Scope) (cs : List Str) (ix : List Nat) (hNy : X.N.Nodup) (hk : X.N[k]? = some y) (hy : Loc X.env.scope y) (hc : X.calm = true) (hi : PI X (.Name x px) iter wi)
  (helt : ∀ z : CB, PE (X.comp scope z.cl z.C (x :: cs) z.s z.H z.fp) elt (te z)) (hN : (x :: cs).Nodup := by decide +kernel) (hkind : scope.kind = .function := by rfl) (hcell : ∀ y ∈ scope.names, y.2 ≠ .cell := by decide +kernel)
  (hx : scope.names.lookup x = some .local := by rfl) (hnames : ∀ y ∈ scope.names, y.2 = .local → scope.names.lookup y.1 = some .local := by decide +kernel)
  (hix : ix.map (fun i => X.N[i]?) = cs.map some := by rfl) (hfr : ∀ y ∈ cs, scope.names.lookup y = some .free := by decide +kernel) (hout' : ∀ y ∈ cs, sc0.names.lookup y = some .cell ∨ sc0.names.lookup y = some .free := by decide +kernel)
  (hfree' : ∀ y ∈ scope.names, y.2 = .free → sc0.names.lookup y.1 = some .cell ∨ sc0.names.lookup y.1 = some .free := by decide +kernel) (hsc : X.env.scope = sc0 := by rfl)
  (hs : ∀ x, foldedSetIterable iter X.env x = pure x := by intro _; rfl) (hsw : swapsWith (.ListComp elt [⟨.Name x px, iter, [], 0⟩] scope pos) (some (.Name y py)) spos.line X.env = pure true := by with_unfolding_all rfl)
  (hf : X.fn y = true ∨ X.env.scope.names.lookup y = some .local := by first | exact .inl rfl | exact .inr rfl | assumption) :
  PS X (.Assign [.Name y py] (.ListComp elt [⟨.Name x px, iter, [], 0⟩] scope pos) spos) (tAsg (tComp wi ix te) (gName k)) := by
 have hout : ∀ y ∈ cs, X.env.scope.names.lookup y = some .cell ∨ X.env.scope.names.lookup y = some .free := by rw [hsc]; exact hout'
 have hfree : ∀ y ∈ scope.names, y.2 = .free → X.env.scope.names.lookup y.1 = some .cell ∨ X.env.scope.names.lookup y.1 = some .free := by rw [hsc]; exact hfree'
 intro pins s σ H D0 I h
 obtain ⟨cl, hcl, h1, h2⟩ := closure_ok (scope := scope) (env := X.env) fun y hy hk => I.ok.has y.1 (hfree y hy hk)
 rw [exec_Assign_Name_used _ _ _ _ hsw]
 refine wpAny_bind (wpAny_standAt (wpAny_bind ?_))
 show wpAny _ X.A (do let _ ← comprehension (.ListComp elt [⟨.Name x px, iter, [], 0⟩] scope pos) scope X.env _ (newList []) false (eval iter X.env) (some (assign (.Name y py) X.env))) _ _ s
 refine wpAny_bind (wpAny_mono (wpAny_comprehension_free (use := some (assign (.Name y py) X.env)) (Q := fun _ s' => SP X pins D0 .next s') rfl hs hcl hkind hnames
  (wpAny_mono (hi pins s σ H _ I h) (fun v s1 h3 => wpAny_mono h3 (fun itv s2 h4 => ?_) fun _ _ z => z) fun _ _ z => z)) (fun _ s' hq => wpAny_pure (wpAny_pure hq)) fun _ _ e => e)
 obtain ⟨it, fp, tn, J, H2, rfl, I2, T, st, hf2, q⟩ := h4
 refine comp_core (Q := fun v H' => gName k v σ H' D0.nx) (tc := fun _ _ H Q => Q true H) hc hkind hcell hx hN hix hfr hout h1 h2 (.inl ⟨rfl, rfl⟩) helt I2 T st hf2 (fun D H3 n3 => ?_) fun D C s3 H3 hm hI hCf hq => ?_
 ·obtain ⟨W, w0, turn⟩ := q D H3 n3
  refine ⟨W, w0, fun i m ys H w => ?_⟩
  rcases turn i m ys H w with z | ⟨go, step⟩
  ·exact .inl z
  ·refine .inr ⟨go, fun x H' y z => ?_⟩
   exact iteT (step x H' y z)
 ·obtain ⟨m, hm⟩ := hm
  have I3 : Inv X pins σ H3 s3 := by
   have := hI s3.heap ⟨rfl, fun _ _ => rfl⟩
   exact this
  show wpAny _ X.A (assign (.Name y py) X.env (.ref D)) _ _ s3
  refine wpAny_assign_Name (store_ok2 I3 hNy hk hy (v := .ref D) rfl (fun s4 I4 ⟨a, hsa, ha⟩ => ?_) hf)
  obtain ⟨g0, g1, _, g3, g4, g5⟩ := hCf
  have aC : C ≠ a := fun z => by
   rcases ha with ha | ha
   ·exact g1 (z.trans ha)
   ·exact g4 y a ha z.symm
  refine ⟨m, hm.sameBut hsa aC, fun h' hs' => ?_⟩
  exact ⟨_, H3, I4.turned (t' := s4.toks) (fun b o hb e => (hs'.2 b hb).trans e) g0 g1 g3 g4 g5, hq⟩
end
end L2
namespace L2
open PySem PySem.Spec PyProof.Rows
section
variable {X : Cx}
theorem passN {P : Program} {w : World} : Passes (CXE P w) X E0 := fun _ _ _ _ _ _ _ ⟨_, _, _, _, _, z⟩ => z.elim
theorem pe_callN {j k : Nat} {x : Str} {ps : List Str} {sp : Sp} {e : Expr} {es : List Expr} {t : TA} {p pos : Pos} (C : CalE X.prog X.w X.K X.mg X.base x j ps sp) (hr : Room k X.A) (hj : j ≤ k) (hg : Gl X x) (ha : PA X (e :: es) t) (hdb : (x == ("__debug__" : Str)) = false := by decide)
  (he : starEach (e :: es) X.env = (false, eval e X.env) :: starEach es X.env := by rfl) (hpl : (backTo pos (starEach es X.env)).any (·.1) = false := by rfl) :
  PE X (.Call (.Name x p) (e :: es) [] pos) (tCall sp [] E0 t) := by
 obtain ⟨f, fd, F, m, kp, b⟩ := C
 exact pe_call F (hr.mono hj) hg m kp b .nil passN ha hdb he hpl
theorem vals_intsT : ∀ {ns : List Int} {its : List Value}, Vals (ns.map V.int) its → ∃ ts : List (Int × Tok), its = ts.map (fun p => Value.int p.1 p.2) ∧ ts.map (·.1) = ns
 | [], _, .nil => ⟨[], rfl, rfl⟩
 | n :: ns, _, .cons r t => by
  obtain ⟨k, rfl⟩ := r
  obtain ⟨ts, e, h⟩ := vals_intsT t
  exact ⟨(n, k) :: ts, by rw [e]; rfl, by rw [List.map_cons, h]⟩
noncomputable def dSum (K : PySem.W.Frag) : List V → Hp → VK → Prop := fun xs H Q => match xs with | [.ref p] => ∃ ns : List Int, SqL K H p (ns.map V.int) ∧ Q (.int ns.sum) H | _ => False
theorem d_sum (hc : X.calm = true) : CallR X (.builtin "sum") (dSum X.K) := by
 intro pins s σ H xs us Q I r h
 unfold dSum at h
 split at h
 ·rename_i p
  obtain ⟨ns, hs, q⟩ := h
  obtain ⟨u, rfl, ru⟩ := vals1 r
  cases (show u = Value.ref p from ru)
  obtain ⟨its, rv, pl, _⟩ := I.list hs
  obtain ⟨ts, e, hn⟩ := vals_intsT rv
  have e2 : its.toArray = intItems ts.toArray := by rw [e]; simp [intItems]
  refine sum_intListG (xs := ts.toArray) (I.ok.hd hc) (by rw [← e2]; exact pl.isList) fun h' tk t' hk => ?_
  refine ⟨.int ns.sum, H, I.kept (t' := tk) hk, ⟨t', ?_⟩, q⟩
  rw [preSum_eq, List.take_of_length_le (by simp), ← hn]
 ·exact h.elim
noncomputable def dMin : List V → Hp → VK → Prop := fun xs H Q => match xs with | [.int i, .int j] => Q (.int (min i j)) H | _ => False
noncomputable def dMax : List V → Hp → VK → Prop := fun xs H Q => match xs with | [.int i, .int j] => Q (.int (max i j)) H | _ => False
theorem d_min (hc : X.calm = true) : CallR X (.builtin "min") dMin := (call_min2 hc).imp fun xs H Q h => by
 unfold dMin at h
 split at h
 ·rename_i i j
  refine ⟨i, j, rfl, ?_⟩
  have e : (if j < i then j else i) = min i j := by split <;> omega
  rw [e]
  exact h
 ·exact h.elim
theorem d_max (hc : X.calm = true) : CallR X (.builtin "max") dMax := (call_max2 hc).imp fun xs H Q h => by
 unfold dMax at h
 split at h
 ·rename_i i j
  refine ⟨i, j, rfl, ?_⟩
  have e : (if j > i then j else i) = max i j := by split <;> omega
  rw [e]
  exact h
 ·exact h.elim
theorem all_eq {α : Type} [DecidableEq α] {ps qs : List α} (h : ps.length = qs.length) : ((List.range ps.length).all fun j => decide (ps[j]? = qs[j]?)) = decide (ps = qs) := by
 by_cases e : ps = qs
 ·subst e
  simp
 ·rw [decide_eq_false e, List.all_eq_false]
  by_cases ex : ∃ j, j < ps.length ∧ ps[j]? ≠ qs[j]?
  ·obtain ⟨j, hj, hn⟩ := ex
   exact ⟨j, List.mem_range.mpr hj, by simpa using hn⟩
  ·exfalso
   refine e (List.ext_getElem? fun j => ?_)
   by_cases hj : j < ps.length
   ·by_cases z : ps[j]? = qs[j]?
    ·exact z
    ·exact absurd ⟨j, hj, z⟩ ex
   ·rw [List.getElem?_eq_none (by omega), List.getElem?_eq_none (by omega)]
theorem vals_at {vs : List V} {its : List Value} (r : Vals vs its) {j : Nat} (h : j < its.toArray.size) : ∃ v, vs[j]? = some v ∧ RelV v its.toArray[j] := by
 have hl := r.length
 have hj : j < its.length := by simpa using h
 have hj' : j < vs.length := by omega
 obtain ⟨u, h1, h2⟩ := r.get (List.getElem?_eq_getElem hj')
 refine ⟨_, List.getElem?_eq_getElem hj', ?_⟩
 have : u = its.toArray[j] := by
  rw [List.getElem?_eq_getElem hj] at h1
  simpa using (Option.some.inj h1).symm
 rw [← this]
 exact h2
noncomputable def dEqX {α : Type} [DecidableEq α] (At : Hp → V → α → Prop) (K : PySem.W.Frag) (neg : Bool) : R2 := fun x y H Q => match x, y with
 | .ref l, .ref m => ∃ (vs ws : List V) (ps qs : List α), SqL K H l vs ∧ SqL K H m ws ∧ vs.length = ps.length ∧ ws.length = qs.length ∧ (∀ (j : Nat) v p, vs[j]? = some v → ps[j]? = some p → At H v p) ∧ (∀ (j : Nat) v p, ws[j]? = some v → qs[j]? = some p → At H v p) ∧
   Q (.bl (if neg then !decide (ps = qs) else decide (ps = qs))) H
 | _, _ => False
theorem d_eqX {α : Type} [DecidableEq α] {At : Hp → V → α → Prop} (hu : X.A.units + 1 < cLine)
  (he : ∀ {pins : List (Addr × Obj)} {σ : St} {H : Hp} {s : Shared} (_ : Inv X pins σ H s) {x y : V} {u v : Value} {p q : α}, RelV x u → RelV y v → At H x p → At H y q → SeqAt.EqAt X.A.in1 s u v (decide (p = q))) :
  OpR X (compareOp .Eq) (dEqX At X.K false) ∧ OpR X (compareOp .NotEq) (dEqX At X.K true) := by
 have hu0 : X.A.units < cLine := by omega
 constructor
 ·intro pins s σ H x y v u Q I rx ry h
  unfold dEqX at h
  split at h
  rotate_left
  ·exact h.elim
  obtain ⟨vs, ws, ps, qs, h1, h2, l1, l2, a1, a2, q⟩ := h
  cases rx
  cases ry
  obtain ⟨its, r1, p1, _⟩ := I.list h1
  obtain ⟨jts, r2, p2, _⟩ := I.list h2
  have z1 := r1.length
  have z2 := r2.length
  have s1 : its.toArray.size = ps.length := by rw [List.size_toArray, ← z1, l1]
  have s2 : jts.toArray.size = qs.length := by rw [List.size_toArray, ← z2, l2]
  by_cases hl : ps.length = qs.length
  ·refine SeqAt.eq_listAt (e := fun j => decide (ps[j]? = qs[j]?)) p1.isList p2.isList (by rw [s1, s2]; exact hl) hu0 (fun j b1 b2 => ?_) ?_
   ·obtain ⟨v, hv, rv⟩ := vals_at r1 b1
    obtain ⟨w, hw, rw'⟩ := vals_at r2 b2
    rw [s1] at b1
    rw [s2] at b2
    rw [List.getElem?_eq_getElem b1, List.getElem?_eq_getElem b2]
    have := he I rv rw' (a1 j v _ hv (List.getElem?_eq_getElem b1)) (a2 j w _ hw (List.getElem?_eq_getElem b2))
    rw [show decide (some ps[j] = some qs[j]) = decide (ps[j] = qs[j]) from by simp]
    exact this
   ·rw [s1, all_eq hl]
    exact ⟨.bl _, H, I, rfl, q⟩
  ·refine SeqAt.eq_list_lengthsAt p1.isList p2.isList (by rw [s1, s2]; simpa using hl) hu0 ?_
   rw [decide_eq_false (fun z => hl (by rw [z]))] at q
   exact ⟨.bl _, H, I, rfl, q⟩
 ·intro pins s σ H x y v u Q I rx ry h
  unfold dEqX at h
  split at h
  rotate_left
  ·exact h.elim
  obtain ⟨vs, ws, ps, qs, h1, h2, l1, l2, a1, a2, q⟩ := h
  cases rx
  cases ry
  obtain ⟨its, r1, p1, _⟩ := I.list h1
  obtain ⟨jts, r2, p2, _⟩ := I.list h2
  have z1 := r1.length
  have z2 := r2.length
  have s1 : its.toArray.size = ps.length := by rw [List.size_toArray, ← z1, l1]
  have s2 : jts.toArray.size = qs.length := by rw [List.size_toArray, ← z2, l2]
  by_cases hl : ps.length = qs.length
  ·have z := SeqAt.RcNeAt.lists (A := X.A) (s := s) (e := fun j => decide (ps[j]? = qs[j]?)) p1.isList p2.isList (by rw [s1, s2]; exact hl) hu0 (fun j b1 b2 => ?_) X.prog X.w X.xe
   ·refine z _ ?_
    rw [s1, all_eq hl]
    exact ⟨.bl _, H, I, rfl, q⟩
   ·obtain ⟨v, hv, rv⟩ := vals_at r1 b1
    obtain ⟨w, hw, rw'⟩ := vals_at r2 b2
    rw [s1] at b1
    rw [s2] at b2
    rw [List.getElem?_eq_getElem b1, List.getElem?_eq_getElem b2]
    have := he I rv rw' (a1 j v _ hv (List.getElem?_eq_getElem b1)) (a2 j w _ hw (List.getElem?_eq_getElem b2))
    rw [show decide (some ps[j] = some qs[j]) = decide (ps[j] = qs[j]) from by simp]
    exact this
  ·refine SeqAt.RcNeAt.lists_lengths p1.isList p2.isList (by rw [s1, s2]; simpa using hl) hu0 X.prog X.w X.xe _ ?_
   rw [decide_eq_false (fun z => hl (by rw [z]))] at q
   exact ⟨.bl _, H, I, rfl, q⟩
noncomputable def InAt (_ : Hp) (v : V) (p : Int) : Prop := v = .int p
theorem d_eqIn (hu : X.A.units + 1 < cLine) : OpR X (compareOp .Eq) (dEqX InAt X.K false) ∧ OpR X (compareOp .NotEq) (dEqX InAt X.K true) := by
 refine d_eqX (At := InAt) hu ?_
 intro pins σ H s I x y u v p q rx ry h1 h2
 cases h1
 cases h2
 have := eqAt_V (A := X.A.in1) (s := s) (y := .int p) (x := .int q) rx ry rfl rfl
 have e : eqV (.int p) (.int q) = decide (p = q) := by
  show (p == q) = decide (p = q)
  rw [Bool.beq_eq_decide_eq]
 rw [e] at this
 exact this
end
theorem nx_eq {n i : Nat} (h : i < n) (P : Prop) : (∃ m', m' < n - i ∧ m' = n - (i + 1) ∧ i + 1 ≤ n ∧ P) = P := by
 apply propext
 exact ⟨fun ⟨_, _, _, _, p⟩ => p, fun p => ⟨n - (i + 1), by omega, rfl, h, p⟩⟩
noncomputable abbrev Onto (D : Addr) (ys : List V) (P : List V → Hp → Prop) : VK := fun y H3 => H3 D = some (.lst ys) ∧ ys.length < 16000000 ∧ ∀ H4, Chg H3 D (.lst (ys ++ [y])) H4 → P (ys ++ [y]) H4
theorem onto_eq {D : Addr} {ys : List V} {n i : Nat} (h : i < n) (Pv : Nat → List V → Hp → Prop) :
  (fun (y : V) (H3 : Hp) => H3 D = some (.lst ys) ∧ ys.length < 16000000 ∧ ∀ H4, Chg H3 D (.lst (ys ++ [y])) H4 → ∃ m', m' < n - i ∧ m' = n - (i + 1) ∧ i + 1 ≤ n ∧ Pv (i + 1) (ys ++ [y]) H4) = Onto D ys (Pv (i + 1)) := by
 funext y H3
 apply propext
 simp only [nx_eq h]
theorem comp_by {J : It} {D : Addr} {caps : St} {te : CB → TE} {Q : VK} {H2 : Hp} (n : Nat) (Pv : Nat → List V → Hp → Prop) (h0 : Pv 0 [] H2)
  (hgo : ∀ i ys H, i < n → Pv i ys H → J.go i H) (hst : ∀ ys H, Pv n ys H → J.stop n H)
  (hs : ∀ i ys H x H' z, i < n → Pv i ys H → J.yld i H x H' → te z (some x :: caps) H' (Onto D ys (Pv (i + 1)))) (hd : ∀ ys H, Pv n ys H → Q (.ref D) H) :
  CompGo J D caps te Q H2 := by
 refine ⟨fun i m ys H => m = n - i ∧ i ≤ n ∧ Pv i ys H, ⟨n, by simp, Nat.zero_le _, h0⟩, ?_⟩
 rintro i m ys H ⟨rfl, hi, p⟩
 by_cases hlt : i < n
 ·refine .inr ⟨hgo i ys H hlt p, fun x H' y z => ?_⟩
  rw [onto_eq hlt Pv]
  exact hs i ys H x H' z hlt p y
 ·obtain rfl : i = n := by omega
  exact .inl ⟨hst ys H p, hd ys H p⟩
theorem comp_list {K : PySem.W.Frag} {a D : Addr} {xs : List V} {caps : St} {te : CB → TE} {Q : VK} {H2 : Hp} (Pv : Nat → List V → Hp → Prop) (h0 : Pv 0 [] H2) (hl : ∀ i ys H, i ≤ xs.length → Pv i ys H → SqL K H a xs)
  (hs : ∀ i x ys H z, xs[i]? = some x → Pv i ys H → te z (some x :: caps) H (Onto D ys (Pv (i + 1)))) (hd : ∀ ys H, Pv xs.length ys H → Q (.ref D) H) :
  CompGo (Itl K a) D caps te Q H2 := by
 refine comp_by xs.length Pv h0 (fun i ys H hi p => ?_) (fun ys H p => ?_) (fun i ys H x H' z hi p y => ?_) hd
 ·exact ⟨xs, xs[i], hl i ys H (Nat.le_of_lt hi) p, by simp [hi]⟩
 ·exact ⟨xs, hl _ ys H (Nat.le_refl _) p, by simp⟩
 ·obtain ⟨e, y⟩ := y
  subst e
  exact hs i x ys _ z (y xs (hl i ys _ (Nat.le_of_lt hi) p)) p
theorem comp_range {lo : Int} {n : Nat} {D : Addr} {caps : St} {te : CB → TE} {Q : VK} {H2 : Hp} (Pv : Nat → List V → Hp → Prop) (h0 : Pv 0 [] H2)
  (hs : ∀ i ys H z, i < n → Pv i ys H → te z (some (.int (lo + i)) :: caps) H (Onto D ys (Pv (i + 1)))) (hd : ∀ ys H, Pv n ys H → Q (.ref D) H) :
  CompGo (Itr lo n) D caps te Q H2 := by
 refine comp_by n Pv h0 (fun i ys H hi p => hi) (fun ys H p => Nat.le_refl _) (fun i ys H x H' z hi p y => ?_) hd
 obtain ⟨e, y⟩ := y
 subst e y
 exact hs i ys _ z hi p
end L2
namespace L2
open PySem PySem.Spec PyProof.Rows
section
variable {X : Cx} {a b c : Expr} {ta tb tc : TE} {pos : Pos}
noncomputable def dgNil : TGs := fun vs σ H Q => match vs with | [] => Q σ H | _ => False
noncomputable def dgCons (t : TG) (u : TGs) : TGs := fun vs σ H Q => match vs with | v :: r => t v σ H fun σ' H' => u r σ' H' Q | [] => False
noncomputable def dgTup (K : PySem.W.Frag) (n : Nat) (t : TGs) : TG := fun v σ H Q => match v with | .ref a => ∃ xs, SqT K H a xs ∧ xs.length = n ∧ t xs σ H Q | _ => False
theorem gNil_eq : gNil = dgNil := by
 funext vs σ H Q
 apply propext
 cases vs <;> simp [gNil, dgNil]
theorem gCons_eq {t : TG} {u : TGs} : gCons t u = dgCons t u := by
 funext vs σ H Q
 apply propext
 cases vs with
 | nil => simp [gCons, dgCons]
 | cons v r => exact ⟨fun ⟨_, _, e, h⟩ => by cases e; exact h, fun h => ⟨v, r, rfl, h⟩⟩
theorem gTup_eq {K : PySem.W.Frag} {n : Nat} {t : TGs} : gTup K n t = dgTup K n t := by
 funext v σ H Q
 apply propext
 cases v <;> simp [gTup, dgTup]
theorem dg_nil : PGs X [] dgNil := gNil_eq ▸ pgs_nil
theorem dg_cons {e : Expr} {es : List Expr} {t : TG} {u : TGs} (h1 : PG X e t) (h2 : PGs X es u)
  (hs : (assignEach (e :: es) X.env).map (·.2) = assign e X.env :: (assignEach es X.env).map (·.2) := by rfl) : PGs X (e :: es) (dgCons t u) := gCons_eq ▸ pgs_cons h1 h2 hs
theorem dg_tup {es : List Expr} {k : Nat} {t : TGs} {n : Nat} (hc : X.calm = true) (h : PGs X es t)
  (hn : (assignEach es X.env).length = n := by rfl) (hst : (assignEach es X.env).findIdx? (·.1) = none := by rfl) : PG X (.Tuple es k pos) (dgTup X.K n t) := gTup_eq ▸ pg_tup hc h hn hst
noncomputable def dPar (i j : Nat) (ta : TA) : TS := fun D σ H => ta σ H fun vs H1 => match vs with | [v, w] => D.nx ((σ.set i (some v)).set j (some w)) H1 | _ => False
theorem tPar_eq {i j : Nat} {ta : TA} : tPar i j ta = dPar i j ta := by
 funext D σ H
 unfold tPar dPar
 congr 1
 funext vs H1
 apply propext
 constructor
 ·rintro ⟨v, w, rfl, h⟩
  exact h
 ·intro h
  split at h
  ·exact ⟨_, _, rfl, h⟩
  ·exact h.elim
theorem d_par {i j : Nat} {x y : Str} {a b : Expr} {ta : TA} {px py pt : Pos} {kt k2 pt2} (hc : X.calm = true) (hN : X.N.Nodup) (hi : X.N[i]? = some x) (hj : X.N[j]? = some y) (hij : i ≠ j)
  (hx : X.env.scope.names.lookup x = some .local) (hy : X.env.scope.names.lookup y = some .local) (ha : PA X [a, b] ta)
  (hw : swappedStores [.Tuple [.Name x px, .Name y py] kt pt] (.Tuple [a, b] k2 pt2) X.env = pure (some [x, y]) := by with_unfolding_all rfl)
  (hs : swapsWithSole [.Tuple [.Name x px, .Name y py] kt pt] (.Tuple [a, b] k2 pt2) pos.line X.env = pure false := by rfl) :
  PS X (.Assign [.Tuple [.Name x px, .Name y py] kt pt] (.Tuple [a, b] k2 pt2) pos) (dPar i j ta) := tPar_eq ▸ ps_par hc hN hi hj hij hx hy ha hw hs
noncomputable def dSetL : V → V → V → Hp → (Hp → Prop) → Prop := fun o i v H Q => match o, i with | .ref p, .int k => ∃ xs j, H p = some (.lst xs) ∧ ixN xs.length k = some j ∧ ∀ H', Chg H p (.lst (xs.set j v)) H' → Q H' | _, _ => False
theorem d_setL : PSet X dSetL := by
 intro pins s σ H o i v ov iv u Q I ro ri rv h
 refine set_list pins s σ H o i v ov iv u Q I ro ri rv ?_
 unfold dSetL at h
 split at h
 rotate_left
 ·exact h.elim
 obtain ⟨xs, j, h1, h2, q⟩ := h
 exact ⟨_, xs, _, j, rfl, rfl, h1, h2, q _ .mk'⟩
noncomputable def dRep : R2 := fun x y H Q => match x, y with | .ref l, .int k => ∃ xs, H l = some (.lst xs) ∧ 0 ≤ k ∧ k < 2 ^ 60 ∧ xs.length * k.toNat ≤ 10000000 ∧ ∀ p H', New H p (.lst (List.replicate k.toNat xs).flatten) H' → Q (.ref p) H' | _, _ => False
theorem d_rep : OpR X (binaryOp .Mult) dRep := op_rep.imp fun x y H Q h => by
 unfold dRep at h
 split at h
 rotate_left
 ·exact h.elim
 obtain ⟨xs, h1, h2, h3, h4, q⟩ := h
 exact ⟨_, _, xs, rfl, rfl, h1, by omega, by omega, Nat.le_trans h4 (by decide), new_iff.mpr q⟩
end
end L2
namespace Lr
noncomputable def rt (a b : Int) : Rat := Rat.divInt a b
theorem rt_mk {a b : Int} (hb : b ≠ 0) : Lm.mk1 a b = (rt a b).num ∧ Lm.mk2 a b = ((rt a b).den : Int) := by
 have h1 : Rat.divInt (rt a b).num ((rt a b).den : Int) = Rat.divInt a b := Rat.num_divInt_den _
 have hd : ((rt a b).den : Int) ≠ 0 := by have := (rt a b).den_nz; omega
 have hx : (rt a b).num * b = a * ((rt a b).den : Int) := (Rat.divInt_eq_divInt_iff hd hb).mp h1
 refine Lm.mk_unique hb (by have := (rt a b).den_pos; omega) ?_ hx
 have := (rt a b).reduced
 exact this
theorem rt_self (x : Rat) : rt x.num x.den = x := Rat.num_divInt_den x
theorem den_pos (x : Rat) : 0 < (x.den : Int) := by have := x.den_pos; omega
theorem rt_add {a b c d : Int} (hb : b ≠ 0) (hd : d ≠ 0) : rt a b + rt c d = rt (a * d + c * b) (b * d) := Rat.divInt_add_divInt a c hb hd
theorem rt_sub {a b c d : Int} (hb : b ≠ 0) (hd : d ≠ 0) : rt a b - rt c d = rt (a * d - c * b) (b * d) := Rat.divInt_sub_divInt a c hb hd
theorem rt_mul {a b c d : Int} (hb : b ≠ 0) (hd : d ≠ 0) : rt a b * rt c d = rt (a * c) (b * d) := Rat.divInt_mul_divInt a c
theorem rt_eq {a b : Int} : rt a b = (a : Rat) / (b : Rat) := by unfold rt; rw [Rat.divInt_eq_div]
theorem add_eq (x y : Rat) : x + y = rt (x.num * y.den + y.num * x.den) (x.den * y.den) := by
 conv => lhs; rw [← rt_self x, ← rt_self y]
 exact rt_add (by have := den_pos x; omega) (by have := den_pos y; omega)
theorem sub_eq (x y : Rat) : x - y = rt (x.num * y.den - y.num * x.den) (x.den * y.den) := by
 conv => lhs; rw [← rt_self x, ← rt_self y]
 exact rt_sub (by have := den_pos x; omega) (by have := den_pos y; omega)
theorem mul_eq (x y : Rat) : x * y = rt (x.num * y.num) (x.den * y.den) := by
 conv => lhs; rw [← rt_self x, ← rt_self y]
 exact rt_mul (by have := den_pos x; omega) (by have := den_pos y; omega)
theorem div_eq (x y : Rat) (hy : y ≠ 0) : x / y = rt (x.num * y.den) (x.den * y.num) := by
 have hn : y.num ≠ 0 := fun h => hy (Rat.num_eq_zero.mp h)
 have hx := den_pos x
 have hyd := den_pos y
 rw [rt_eq]
 have ex : x = (x.num : Rat) / ((x.den : Int) : Rat) := by rw [← rt_eq]; exact (rt_self x).symm
 have ey : y = (y.num : Rat) / ((y.den : Int) : Rat) := by rw [← rt_eq]; exact (rt_self y).symm
 have h1 : ((x.den : Int) : Rat) ≠ 0 := by exact_mod_cast (show (x.den : Int) ≠ 0 by omega)
 have h2 : ((y.den : Int) : Rat) ≠ 0 := by exact_mod_cast (show (y.den : Int) ≠ 0 by omega)
 have h3 : (y.num : Rat) ≠ 0 := by exact_mod_cast hn
 conv => lhs; rw [ex, ey]
 rw [Rat.intCast_mul, Rat.intCast_mul]
 grind
theorem lt_iff (x y : Rat) : x < y ↔ x.num * y.den < y.num * x.den := Rat.lt_iff x y
theorem num_nonneg (x : Rat) : 0 ≤ x.num ↔ 0 ≤ x := Rat.num_nonneg
theorem ext_iff {x y : Rat} : x = y ↔ x.num = y.num ∧ (x.den : Int) = y.den := by
 constructor
 ·rintro rfl; exact ⟨rfl, rfl⟩
 ·rintro ⟨h1, h2⟩
  exact Rat.ext h1 (by omega)
end Lr
namespace L2
open PySem PySem.Spec PyProof.Rows
noncomputable abbrev pr (x : Rat) : HO := .tup [.int x.num, .int (x.den : Int)]
noncomputable def KT (K : PySem.W.Frag) (a : Addr) (xs : List V) : Prop := ∃ (o : Obj) (its : Array Value) (n : Nat), K.lookup a = some o ∧ o.cls = .type "tuple" ∧ o.data = .seq its n ∧ its.size ≤ sizeLine ∧ Vals xs its.toList
theorem kt_mk {K : PySem.W.Frag} {a : Addr} {o : Obj} {i j i' j' : Int} {t u : Tok} {n : Nat} (h : K.lookup a = some o) (hc : o.cls = .type "tuple") (hd : o.data = .seq #[.int i t, .int j u] n) (ei : i = i') (ej : j = j') : KT K a [.int i', .int j'] := by
 subst ei ej
 exact ⟨o, _, n, h, hc, hd, by show 2 ≤ sizeLine; decide, .cons ⟨_, rfl⟩ (.cons ⟨_, rfl⟩ .nil)⟩
noncomputable def RatV (K : PySem.W.Frag) (H : Hp) (v : V) (x : Rat) : Prop := ∃ a, v = .ref a ∧ (H a = some (pr x) ∨ KT K a [.int x.num, .int (x.den : Int)])
variable {K : PySem.W.Frag}
theorem RatV.sq {H : Hp} {v : V} {x : Rat} (h : RatV K H v x) : ∃ a, v = .ref a ∧ SqT K H a [.int x.num, .int (x.den : Int)] := by
 obtain ⟨a, e, h | h⟩ := h
 ·exact ⟨a, e, SqT.of h⟩
 ·exact ⟨a, e, .inr h⟩
theorem RatV.ty {H : Hp} {v : V} {x : Rat} (h : RatV K H v x) : TyK K H v (.type "tuple") := by
 obtain ⟨a, rfl, h | ⟨o, _, _, h1, h2, _⟩⟩ := h
 ·exact .tup h
 ·exact .kt h1 h2
theorem RatV.k {H : Hp} {a : Addr} {x : Rat} {i j : Int} (h : KT K a [.int i, .int j]) (e1 : x.num = i) (e2 : (x.den : Int) = j) : RatV K H (.ref a) x := ⟨a, rfl, .inr (by rw [e1, e2]; exact h)⟩
noncomputable def TpS (H H' : Hp) : Prop := ∀ a xs, H a = some (.tup xs) → H' a = some (.tup xs)
theorem Same.ts {H H' : Hp} (s : Same H H') : TpS H H' := fun a xs h => s a _ h
theorem New.ts {H H' : Hp} {p : Addr} {o : HO} (n : New H p o H') : TpS H H' := n.same.ts
theorem Chg.ts {H H' : Hp} {l : Addr} {ys : List V} {o : HO} (c : Chg H l o H') (h : H l = some (.lst ys)) : TpS H H' := fun a xs e => by rw [c.oth a (ne_of e h (by intro z; cases z))]; exact e
theorem RatV.ts {H H' : Hp} {v : V} {x : Rat} (s : TpS H H') (h : RatV K H v x) : RatV K H' v x := by
 obtain ⟨a, e, h | h⟩ := h
 ·exact ⟨a, e, .inl (s a _ h)⟩
 ·exact ⟨a, e, .inr h⟩
theorem RatV.same {H H' : Hp} {v : V} {x : Rat} (s : Same H H') (h : RatV K H v x) : RatV K H' v x := h.ts s.ts
theorem RatV.new {H H' : Hp} {p : Addr} {x : Rat} (n : New H p (pr x) H') : RatV K H' (.ref p) x := ⟨p, rfl, .inl n.at_⟩
structure RatsV (K : PySem.W.Frag) (H : Hp) (vs : List V) (xs : List Rat) : Prop where
 len : vs.length = xs.length
 at_ : ∀ (j : Nat) (v : V) (x : Rat), vs[j]? = some v → xs[j]? = some x → RatV K H v x
theorem RatsV.ts {H H' : Hp} {vs : List V} {xs : List Rat} (s : TpS H H') (h : RatsV K H vs xs) : RatsV K H' vs xs := ⟨h.len, fun j v x a b => (h.at_ j v x a b).ts s⟩
theorem RatsV.nil {H : Hp} : RatsV K H [] [] := ⟨rfl, fun j v x h => by simp at h⟩
theorem RatsV.snoc {H : Hp} {vs : List V} {xs : List Rat} {v : V} {x : Rat} (h : RatsV K H vs xs) (g : RatV K H v x) : RatsV K H (vs ++ [v]) (xs ++ [x]) := by
 refine ⟨by simp [h.len], fun j w y a b => ?_⟩
 by_cases hj : j < vs.length
 ·rw [List.getElem?_append_left hj] at a
  rw [List.getElem?_append_left (by rw [← h.len]; exact hj)] at b
  exact h.at_ j w y a b
 ·rw [List.getElem?_append_right (by omega)] at a
  rw [List.getElem?_append_right (by rw [← h.len]; omega)] at b
  have e : j - vs.length = 0 := by
   have := (List.getElem?_eq_some_iff.mp a).1
   simp at this
   omega
  have e' : j - xs.length = 0 := by rw [← h.len]; exact e
  rw [e] at a
  rw [e'] at b
  simp at a b
  subst a b
  exact g
theorem RatsV.app {H : Hp} {vs ws : List V} {xs ys : List Rat} (h : RatsV K H vs xs) (g : RatsV K H ws ys) : RatsV K H (vs ++ ws) (xs ++ ys) := by
 refine ⟨by simp [h.len, g.len], fun j w y a b => ?_⟩
 by_cases hj : j < vs.length
 ·rw [List.getElem?_append_left hj] at a
  rw [List.getElem?_append_left (by rw [← h.len]; exact hj)] at b
  exact h.at_ j w y a b
 ·rw [List.getElem?_append_right (by omega)] at a
  rw [List.getElem?_append_right (by rw [← h.len]; omega), ← h.len] at b
  exact g.at_ _ w y a b
theorem RatsV.get {H : Hp} {vs : List V} {xs : List Rat} {j : Nat} {v : V} (h : RatsV K H vs xs) (e : vs[j]? = some v) : ∃ x, xs[j]? = some x ∧ RatV K H v x := by
 have hj : j < xs.length := by rw [← h.len]; exact (List.getElem?_eq_some_iff.mp e).1
 exact ⟨_, List.getElem?_eq_getElem hj, h.at_ j v _ e (List.getElem?_eq_getElem hj)⟩
theorem RatsV.atI {H : Hp} {vs : List V} {xs : List Rat} {k : Int} (h : RatsV K H vs xs) (h0 : 0 ≤ k) (hk : k < xs.length) : ∃ v x, atI vs k = some v ∧ xs[k.toNat]? = some x ∧ RatV K H v x := by
 have hj : k.toNat < vs.length := by rw [h.len]; omega
 have q : L2.atI vs ((k.toNat : Nat) : Int) = some vs[k.toNat] := atI_nat (List.getElem?_eq_getElem hj)
 rw [show ((k.toNat : Nat) : Int) = k by omega] at q
 obtain ⟨x, hx, r⟩ := h.get (List.getElem?_eq_getElem hj)
 exact ⟨_, x, q, hx, r⟩
noncomputable def RatL (K : PySem.W.Frag) (H : Hp) (a : Addr) (xs : List Rat) : Prop := ∃ vs, H a = some (.lst vs) ∧ RatsV K H vs xs
theorem RatL.same {H H' : Hp} {a : Addr} {xs : List Rat} (s : Same H H') (h : RatL K H a xs) : RatL K H' a xs := let ⟨vs, e, r⟩ := h; ⟨vs, s _ _ e, r.ts s.ts⟩
structure Sz (k : Nat) (x : Rat) : Prop where
 n : Bd k x.num
 d : Bd k (x.den : Int)
theorem Sz.mono {m n : Nat} {x : Rat} (h : Sz m x) (l : m ≤ n) : Sz n x := ⟨h.n.mono l, h.d.mono l⟩
theorem Sz.rt {m n : Nat} {a b : Int} (hb : b ≠ 0) (h1 : Bd n a) (h2 : Bd n b) (l : n ≤ m) : Sz m (Lr.rt a b) := by
 have e := Lr.rt_mk (a := a) hb
 refine ⟨?_, ?_⟩
 ·rw [← e.1]; exact (h1.of_le (Lm.mk1_le _ _ hb)).mono l
 ·rw [← e.2]; exact (h2.of_le (Lm.mk2_le _ _ hb)).mono l
theorem den_ne (x : Rat) : (x.den : Int) ≠ 0 := by have := Lr.den_pos x; omega
theorem Sz.add {m n : Nat} {x y : Rat} (h1 : Sz m x) (h2 : Sz n y) : Sz (m + n + 1) (x + y) := by
 rw [Lr.add_eq]
 refine Sz.rt (n := m + n + 1) (Int.mul_ne_zero (den_ne x) (den_ne y)) ?_ ((h1.d.mul h2.d (Nat.le_refl _)).mono (by omega)) (Nat.le_refl _)
 exact Bd.add (m := m + n) (h1.n.mul h2.d (Nat.le_refl _)) ((h2.n.mul h1.d (Nat.le_refl _)).mono (by omega)) (Nat.le_refl _)
theorem Sz.sub {m n : Nat} {x y : Rat} (h1 : Sz m x) (h2 : Sz n y) : Sz (m + n + 1) (x - y) := by
 rw [Lr.sub_eq]
 refine Sz.rt (n := m + n + 1) (Int.mul_ne_zero (den_ne x) (den_ne y)) ?_ ((h1.d.mul h2.d (Nat.le_refl _)).mono (by omega)) (Nat.le_refl _)
 exact Bd.sub (m := m + n) (h1.n.mul h2.d (Nat.le_refl _)) ((h2.n.mul h1.d (Nat.le_refl _)).mono (by omega)) (Nat.le_refl _)
theorem Sz.div {m n : Nat} {x y : Rat} (h1 : Sz m x) (h2 : Sz n y) (hy : y ≠ 0) : Sz (m + n) (x / y) := by
 rw [Lr.div_eq x y hy]
 have hn : y.num ≠ 0 := fun h => hy (Rat.num_eq_zero.mp h)
 exact Sz.rt (n := m + n) (Int.mul_ne_zero (den_ne x) hn) (h1.n.mul h2.d (Nat.le_refl _)) (h1.d.mul h2.n (Nat.le_refl _)) (Nat.le_refl _)
theorem Sz.zero : Sz 1 (0 : Rat) := ⟨Bd.of_lt (by decide), Bd.of_lt (by decide)⟩
theorem Chg.new {H1 H3 H4 : Hp} {D : Addr} {o o' : HO} (n : New H1 D o H3) (c : Chg H3 D o' H4) : New H1 D o' H4 := ⟨n.fr, c.at_, fun b hb => by rw [c.oth b hb, n.oth b hb]⟩
theorem comp_ints {K : PySem.W.Frag} {a D : Addr} {ws : List Int} {caps : St} {te : CB → TE} {Q : VK} {H1 H2 : Hp} (f : Int → Int) (n : New H1 D (.lst []) H2) (hS : SqL K H1 a (ws.map V.int)) (hlen : ws.length ≤ 1000000)
  (hte : ∀ w ∈ ws, ∀ z H' (R : VK), R (.int (f w)) H' → te z (some (.int w) :: caps) H' R) (hq : ∀ H', New H1 D (.lst ((ws.map f).map V.int)) H' → Q (.ref D) H') :
  CompGo (Itl K a) D caps te Q H2 := by
 refine comp_list (xs := ws.map V.int) (fun i ys H' => ys = ((ws.take i).map f).map V.int ∧ New H1 D (.lst ys) H') ⟨rfl, n⟩ (fun i ys H' _ h => h.2.same.seq hS) ?_ ?_
 ·rintro i x ys H' z hx ⟨rfl, hn⟩
  rw [List.getElem?_map] at hx
  obtain ⟨w, hw, rfl⟩ := Option.map_eq_some_iff.mp hx
  refine hte w (List.mem_of_getElem? hw) z H' _ ⟨hn.at_, ?_, fun H4 c => ⟨?_, Chg.new hn c⟩⟩
  ·rw [List.length_map, List.length_map, List.length_take]
   omega
  ·rw [List.take_add_one, hw, List.map_append, List.map_append]
   rfl
 ·rintro ys H' ⟨rfl, hn⟩
  rw [List.length_map, List.take_length] at hn
  exact hq H' hn
theorem comp_rats {K : PySem.W.Frag} {a D : Addr} {us : List V} {xs : List Rat} {caps : St} {te : CB → TE} {Q : VK} {H1 H2 : Hp} (n : New H1 D (.lst []) H2) (hS : SqL K H1 a us) (hlen : us.length ≤ 1000000) (hx : us.length = xs.length)
  (hte : ∀ (j : Nat) u x, us[j]? = some u → xs[j]? = some x → ∀ z H', Same H1 H' → ∀ (R : VK), (∀ v H3, Same H' H3 → RatV K H3 v x → R v H3) → te z (some u :: caps) H' R)
  (hq : ∀ H', Same H1 H' → RatL K H' D xs → H1 D = none → Q (.ref D) H') :
  CompGo (Itl K a) D caps te Q H2 := by
 refine comp_list (xs := us) (fun i ys H' => Same H1 H' ∧ H' D = some (.lst ys) ∧ RatsV K H' ys (xs.take i)) ⟨n.same, n.at_, .nil⟩ (fun i ys H' _ h => h.1.seq hS) ?_ ?_
 ·rintro i u ys H' z hu ⟨s, hD, hr⟩
  have hi : i < xs.length := by rw [← hx]; exact (List.getElem?_eq_some_iff.mp hu).1
  have hxi := List.getElem?_eq_getElem hi
  refine hte i u xs[i] hu hxi z H' s _ fun v H3 s3 r => ⟨s3 _ _ hD, ?_, fun H4 c => ⟨c.same (s.trans s3) n.fr, c.at_, ?_⟩⟩
  ·rw [hr.len, List.length_take]
   omega
  ·have t := c.ts (s3 _ _ hD)
   rw [List.take_add_one, hxi]
   exact ((hr.ts s3.ts).ts t).snoc (r.ts t)
 ·rintro ys H' ⟨s, hD, hr⟩
  rw [hx, List.take_length] at hr
  exact hq H' s ⟨ys, hD, hr⟩ n.fr
theorem dec_rat {x y : Rat} : (decide (x.num = y.num) && decide ((x.den : Int) = (y.den : Int))) = decide (x = y) := by
 by_cases h : x = y
 ·subst h; simp
 ·rw [decide_eq_false h]
  by_cases h1 : x.num = y.num
  ·by_cases h2 : (x.den : Int) = y.den
   ·exact absurd (Lr.ext_iff.mpr ⟨h1, h2⟩) h
   ·rw [decide_eq_false h2, Bool.and_false]
  ·rw [decide_eq_false h1, Bool.false_and]
section
variable {X : Cx}
noncomputable def dEqR (K : PySem.W.Frag) : R2 := fun x y H Q => ∃ p q, RatV K H x p ∧ RatV K H y q ∧ Q (.bl (decide (p = q))) H
theorem d_eqR (hu : X.A.units < cLine) : OpR X (compareOp .Eq) (dEqR X.K) := (op_eqT hu).imp fun x y H Q ⟨p, q, r1, r2, k⟩ => let ⟨a, e1, h1⟩ := r1.sq; let ⟨b, e2, h2⟩ := r2.sq; ⟨a, b, _, _, _, _, e1, e2, h1, h2, by rw [dec_rat]; exact k⟩
noncomputable def dIxR (K : PySem.W.Frag) : R2 := fun x y H Q => match y with | .int i => ∃ r, RatV K H x r ∧ (i = 0 ∧ Q (.int r.num) H ∨ i = 1 ∧ Q (.int (r.den : Int)) H) | _ => False
theorem d_ixR : IxR X (dIxR X.K) := ix_tup.imp fun x y H Q h => by
 cases y <;> first | exact h.elim | skip
 obtain ⟨r, ha, h⟩ := h
 obtain ⟨a, rfl, ga⟩ := ha.sq
 rcases h with ⟨rfl, q⟩ | ⟨rfl, q⟩
 ·exact ⟨a, _, _, _, rfl, rfl, ga, rfl, q⟩
 ·exact ⟨a, _, _, _, rfl, rfl, ga, rfl, q⟩
end
end L2
namespace L2
open PySem PySem.Spec PyProof.Rows
noncomputable def Ite (K : PySem.W.Frag) (a : Addr) : It :=
 ⟨fun i H => ∃ xs x, SqL K H a xs ∧ xs[i]? = some x, fun i H x H' => ∃ p v, x = .ref p ∧ New H p (.tup [.int (i : Int), v]) H' ∧ ∀ xs, SqL K H a xs → xs[i]? = some v, fun i H => ∃ xs, SqL K H a xs ∧ xs.length ≤ i⟩
theorem turn_enum {P : Program} {w : World} {K : PySem.W.Frag} {elts : List Expr} {x1 : Nat} {pos : Pos} (a it e : Addr) (hne : e ≠ it) :
  Turn P w K (.Tuple elts x1 pos) (Ite K a) [e, it] e (fun i h => (∃ old, IsEnum h e it ((i : Nat) : Int) old) ∧ h.IsListIter it a i) where
 mem := by simp
 obj := fun i h st b hb => by
  obtain ⟨⟨old, he⟩, ⟨o, e1, c, d⟩⟩ := st
  rcases List.mem_cons.mp hb with z | z
  ·subst z
   exact ⟨_, he, fun v z => by cases z⟩
  ·have z' : b = it := by simpa using z
   subst z'
   exact ⟨o, e1, fun v z => by rw [d] at z; cases z⟩
 keep := fun i h h' st k => by
  obtain ⟨⟨old, he⟩, st2⟩ := st
  exact ⟨⟨old, k e (by simp) _ he⟩, st2.at fun o q => k it (by simp) o q⟩
 item := by
  intro X hP hw hK hc i pins s σ H E I hf st hg
  subst hP hw hK
  obtain ⟨xs, x, hq, hx⟩ := hg
  obtain ⟨⟨old, he⟩, st2⟩ := st
  obtain ⟨its, rv, p, hz⟩ := I.list hq
  obtain ⟨u, hu, ru⟩ := rv.get hx
  obtain ⟨f0, f1, f2, f3, f4, f5⟩ := hf e (by simp)
  obtain ⟨g0, g1, g2, g3, g4, g5⟩ := hf it (by simp)
  refine wpAny_pyNext_enum_item he st2 p.isList (x := u) (by simpa using hu) hne fun h₁ heo hit₁ ht₁ hz₁ hk₁ => ?_
  refine ⟨.ref s.heap.objs.size, rfl, wpAny_letOwnedTupleGo_enum heo fun h₂ he₂ hs₂ => ?_⟩
  have hs₂' : Heap.SameBut e h₁ h₂ := hs₂
  have fD : H s.heap.objs.size = none := I.hok.fresh (Nat.le_refl _)
  have he_lt : e < s.heap.objs.size := Heap.lt_size he
  have keep : ∀ b o, b ≠ e → b ≠ it → s.heap.get? b = some o → h₂.get? b = some o := fun b o h1 h2 q => (hs₂'.2 b h1).trans (hk₁ b o h1 h2 q)
  have htup : h₂.get? s.heap.objs.size = some { cls := .type "tuple", data := .seq #[.int i s.toks, u] } := (hs₂'.2 _ (Nat.ne_of_gt he_lt)).trans ht₁
  have nD : ∀ b o, s.heap.get? b = some o → b ≠ s.heap.objs.size := fun b o q => Nat.ne_of_lt (Heap.lt_size q)
  have ne1 : ∀ b u, H b = some u → b ≠ e ∧ b ≠ it := fun b u q => ⟨fun z => (by rw [z, f0] at q; cases q), fun z => (by rw [z, g0] at q; cases q)⟩
  have tD : ∀ b u, H b = some u → b ≠ s.heap.objs.size := fun b u q => ne_of_none q fD
  have hch : ∀ b, b ∉ [e, it] → b ≠ e ∧ b ≠ it := fun b hb => ⟨fun z => hb (by simp [z]), fun z => hb (by simp [z])⟩
  have I1 : Inv X pins σ (upd H s.heap.objs.size (.tup [.int (i : Int), x])) { s with heap := h₂, toks := s.toks + 1 } := by
   refine I.call' (ch := [e, it]) rfl ⟨fun b o q n hb hx => keep b o (hch b hx).1 (hch b hx).2 q, fun b o q n hb hx => ⟨o.slots, keep b o (hch b hx).1 (hch b hx).2 q⟩, fun b o q n hx => by rw [upd_ne (nD b o q)]; exact n, fun b o q hx => ⟨o, keep b o (hch b hx).1 (hch b hx).2 q⟩,
    fun b ys q => by rw [upd_ne (tD b _ q)]; exact q, fun b o v q => by rw [upd_ne (tD b _ q)]; exact q, fun b ps q => ⟨#[], by rw [upd_ne (tD b _ q), q]; simp⟩⟩ ?_ I.bare ?_
   ·intro b ob q
    by_cases z : b = s.heap.objs.size
    ·subst z
     rw [upd_same] at q
     cases q
     exact ⟨by show 2 ≤ sizeLine; decide, [.int i s.toks, u], .cons ⟨_, rfl⟩ (.cons ru .nil), ⟨_, htup, rfl, _, rfl⟩⟩
    ·rw [upd_ne z] at q
     refine (I.hok b ob q).stay (fun c v hc y => ?_) (fun c y => by rw [upd_ne (tD c _ y)]; exact y) fun c ys y => by rw [upd_ne (tD c _ y)]; exact y
     rcases hc with hc | hc
     ·subst hc
      exact keep c v (ne1 c _ q).1 (ne1 c _ q).2 y
     ·exact keep c v (ne1 c _ hc).1 (ne1 c _ hc).2 y
   ·intro b hb
    rcases List.mem_cons.mp hb with z | z
    ·subst z
     exact ⟨f3, f1, f4, f5⟩
    ·have z' : b = it := by simpa using z
     subst z'
     exact ⟨g3, g1, g4, g5⟩
  refine ⟨.ref s.heap.objs.size, _, I1, rfl, ⟨s.heap.objs.size, x, rfl, .mk' fD, fun ys hy => by rw [I.list_inj hy hq]; exact hx⟩, ⟨⟨u, ?_⟩, ?_⟩, fun b hb => ?_⟩
  ·have : ((i + 1 : Nat) : Int) = (i : Int) + 1 := by push_cast; rfl
   rw [this]
   exact he₂
  ·exact hit₁.at fun o q => (hs₂'.2 it (Ne.symm hne)).trans q
  ·have hbs : b ≠ s.heap.objs.size := by
    rcases List.mem_cons.mp hb with z | z
    ·rw [z]; exact Nat.ne_of_lt he_lt
    ·have z' : b = it := by simpa using z
     obtain ⟨o, q, _⟩ := id st2
     rw [z']; exact Nat.ne_of_lt (Heap.lt_size q)
   rw [upd_ne hbs]
   exact (hf b hb).1
 done := by
  intro X hP hw hK hc i pins s σ H E I hf st hg
  subst hP hw hK
  obtain ⟨xs, hq, hx⟩ := hg
  obtain ⟨⟨old, he⟩, st2⟩ := st
  obtain ⟨its, rv, p, hz⟩ := I.list hq
  obtain ⟨g0, g1, g2, g3, g4, g5⟩ := hf it (by simp)
  have hl := rv.length
  exact wpAny_pyNext_enum_end (I.ok.hd hc) he st2 p.isList (by simp; omega) fun h' eb => ⟨rfl, I.turned (t' := s.toks) (fun b o hb q => eb b o hb q) g0 g1 g3 g4 g5⟩
 self := fun _ _ _ _ _ st h => by
  obtain ⟨⟨old, he⟩, _⟩ := st
  exact wpAny_pyIter_enum he h
section
variable {X : Cx}
noncomputable def iEnum (K : PySem.W.Frag) (ta : TA) : TI := fun σ H R => ta σ H fun vs H1 => match vs with | [.ref a] => (∃ xs, SqL K H1 a xs) ∧ R (Ite K a) H1 | _ => False
theorem pi_enum {elts : List Expr} {x1 : Nat} {tp : Pos} {l : Expr} {ta : TA} {p pos : Pos} (hg : Gl X "enumerate") (hm : X.mg "enumerate" = none) (ha : PA X [l] ta) (hs : starEach [l] X.env = [(false, eval l X.env)] := by rfl) :
  PI X (.Tuple elts x1 tp) (.Call (.Name "enumerate" p) [l] [] pos) (iEnum X.K ta) := by
 intro pins s σ H R I h
 refine Call_ (ld_blt I hg hm boot_enumerate (PyProof.Rows.callWith_type1 (thn (ha pos pins s σ H _ I h) fun us s1 ⟨vs, H1, I1, r1, q1⟩ => ?_) (by rw [hs]; rfl) (by rfl)))
 dsimp only at q1
 split at q1
 ·rename_i a
  obtain ⟨⟨xs, hq⟩, q⟩ := q1
  obtain ⟨u, rfl, ru⟩ := vals1 r1
  cases (show u = Value.ref a from ru)
  obtain ⟨its, rv, pl, _⟩ := I1.list hq
  refine call_enumerate_list pl.isList fun h' he hit hz hk => ?_
  refine wpAny_pyIter_enum he ?_
  have I2 : Inv X pins σ H1 { s1 with heap := h' } := I1.kept (t' := s1.toks) hk
  refine ⟨s1.heap.objs.size + 1, [s1.heap.objs.size + 1, s1.heap.objs.size], _, Ite X.K a, H1, rfl, I2, turn_enum a s1.heap.objs.size (s1.heap.objs.size + 1) (Nat.ne_of_gt (Nat.lt_succ_self _)), ⟨⟨.none, he⟩, hit⟩, fun b hb => ?_, q⟩
  have hb' : s1.heap.objs.size ≤ b := by
   rcases List.mem_cons.mp hb with z | z
   ·rw [z]; exact Nat.le_succ _
   ·have z' : b = s1.heap.objs.size := by simpa using z
    rw [z']; exact Nat.le_refl _
  exact I1.fpOk hb' (I1.hok.fresh hb')
 ·exact q1.elim
end
end L2
namespace L2
open PySem PySem.Spec PyProof.Rows
section
variable {X : Cx} {pins : List (Addr × Obj)} {σ : St} {H : Hp} {s : Shared} {scope : Scope} {cl : List (Str × Addr)} {C : Addr} {ns : List Str} {fp : List Addr}
theorem Inv.comp2 {h₁ : Heap} {tk : Nat} {m₁ : Str → Option Value} {x x2 : Str} {cs : List Str} {ix : List Nat} (I : Inv X pins σ H s) (ok : (X.comp scope cl C (x :: x2 :: cs) s H fp).Ok)
  (h1 : ∀ y c, cl.lookup y = some c → X.env.cells.lookup y = some c) (h2 : ∀ y, (y, NameKind.free) ∈ scope.names → ∃ c, cl.lookup y = some c)
  (hC : s.heap.objs.size ≤ C) (hn : h₁.Ns C m₁) (keep : ∀ b o, s.heap.get? b = some o → h₁.get? b = some o)
  (hix : ix.map (fun i => X.N[i]?) = cs.map some) (hfr : ∀ y ∈ cs, scope.names.lookup y = some .free) (hout : ∀ y ∈ cs, X.env.scope.names.lookup y = some .cell ∨ X.env.scope.names.lookup y = some .free) :
  Inv (X.comp scope cl C (x :: x2 :: cs) s H fp) [] (none :: none :: capsOf ix σ) H { s with heap := h₁, toks := tk } where
 ok := ok
 os := rfl
 bare := I.bare
 base := Un.kept keep
 loc := by
  refine ⟨m₁, hn, fun i y v e1 e2 _ => ?_⟩
  match i, e1, e2 with
  | 0, _, e2 => cases e2
  | 1, _, e2 => cases e2
  | j + 2, e1, e2 =>
   have e1' : cs[j]? = some y := e1
   have e2' : (ix.map (nth σ))[j]? = some (some v) := e2
   rw [List.getElem?_map] at e2'
   obtain ⟨k, hk, hv⟩ := Option.map_eq_some_iff.mp e2'
   have e3 : X.N[k]? = some y := by
    have z := congrArg (fun l => l[j]?) hix
    simp only [List.getElem?_map] at z
    rw [hk, e1'] at z
    simpa using z
   have hy := List.mem_of_getElem? e1'
   obtain ⟨m, hm, hl⟩ := I.loc
   obtain ⟨u, r, l⟩ := hl k y v e3 (nth_iff.mpr hv) (by rcases hout y hy with z | z; exact .inr (.inl z); exact .inr (.inr z))
   refine ⟨u, r, .inr ⟨lookup_relabel_free (env := X.env) (hfr y hy), ?_⟩⟩
   rcases l with ⟨k1, _⟩ | ⟨_, c, hc, z⟩
   ·have k1' : X.env.scope.names.lookup y = some .local := k1
    rcases hout y hy with w | w <;> (rw [k1'] at w; cases w)
   ·have hmem : (y, NameKind.free) ∈ scope.names := mem_of_lookup (hfr y hy)
    obtain ⟨c', hc'⟩ := h2 y hmem
    have := h1 y c' hc'
    rw [hc] at this
    cases this
    obtain ⟨o, ho, hd⟩ := z
    exact ⟨c, hc', o, keep _ _ ho, hd⟩
 cell := fun y c e => by
  obtain ⟨v, o, ho, hd⟩ := I.cell y c (h1 y c e)
  exact ⟨v, o, keep _ _ ho, hd⟩
 free := I.hok.fresh hC
 freeC := fun y c e => I.freeC y c (h1 y c e)
 pin := fun p hp => by simp at hp
 hok := I.hok.kept keep
 len := by
  show (none :: none :: capsOf ix σ).length = (x :: x2 :: cs).length
  have := congrArg List.length hix
  rw [List.length_map, List.length_map] at this
  simp [capsOf, this]
end
noncomputable def CompGo2 (K : PySem.W.Frag) (J : It) (D : Addr) (caps : St) (te : CB → TE) (Q : VK) (H2 : Hp) : Prop := ∃ W : Nat → Nat → List V → Hp → Prop, (∃ m, W 0 m [] H2) ∧ ∀ i m ys H, W i m ys H →
 (J.stop i H ∧ Q (.ref D) H) ∨ (J.go i H ∧ ∀ x H', J.yld i H x H' → ∀ z, ∃ a v1 v2, x = .ref a ∧ SqT K H' a [v1, v2] ∧ te z (some v1 :: some v2 :: caps) H' fun y H3 => H3 D = some (.lst ys) ∧ ys.length < 16000000 ∧ ∀ H4, Chg H3 D (.lst (ys ++ [y])) H4 → ∃ m', m' < m ∧ W (i + 1) m' (ys ++ [y]) H4)
noncomputable def tComp2 (K : PySem.W.Frag) (wi : TI) (ix : List Nat) (te : CB → TE) : TE := fun σ H Q => wi σ H fun J H1 => ∀ D H2, New H1 D (.lst []) H2 → CompGo2 K J D (capsOf ix σ) te Q H2
section
variable {X : Cx}
theorem comp_core2 {elt iter : Expr} {x x2 : Str} {px px2 : Pos} {kt : Nat} {pt : Pos} {scope : Scope} {pos : Pos} {cs : List Str} {ix : List Nat} {te : CB → TE} {pins : List (Addr × Obj)} {σ : St} {H : Hp} {s : Shared} {J : It} {it : Addr} {fp : List Addr} {tn : Nat → Heap → Prop}
  {cl : List (Str × Addr)} {E : Value → Shared → Prop} {Q : V → Hp → Prop} {RR : Value → Addr → Result → Shared → Prop}
  (hc : X.calm = true) (hkind : scope.kind = .function) (hcell : ∀ y ∈ scope.names, y.2 ≠ .cell) (hx : scope.names.lookup x = some .local) (hx2 : scope.names.lookup x2 = some .local) (hN : (x :: x2 :: cs).Nodup)
  (hix : ix.map (fun i => X.N[i]?) = cs.map some) (hfr : ∀ y ∈ cs, scope.names.lookup y = some .free) (hout : ∀ y ∈ cs, X.env.scope.names.lookup y = some .cell ∨ X.env.scope.names.lookup y = some .free)
  (h1 : ∀ y c, cl.lookup y = some c → X.env.cells.lookup y = some c) (h2 : ∀ y, (y, NameKind.free) ∈ scope.names → ∃ c, cl.lookup y = some c)
  (helt : ∀ z : CB, PE (X.comp scope z.cl z.C (x :: x2 :: cs) z.s z.H z.fp) elt (te z))
  (I : Inv X pins σ H s) (T : Turn X.prog X.w X.K (.Tuple [.Name x px, .Name x2 px2] kt pt) J fp it tn) (st0 : tn 0 s.heap) (hf : ∀ b ∈ fp, FpOk X pins H b)
  (h : ∀ D H2, New H D (.lst []) H2 → ∃ W : Nat → Nat → List V → Hp → Prop, (∃ m, W 0 m [] H2) ∧ ∀ i m ys H, W i m ys H →
   (J.stop i H ∧ Q (.ref D) H) ∨ (J.go i H ∧ ∀ x H', J.yld i H x H' → ∀ z, ∃ a v1 v2, x = .ref a ∧ SqT X.K H' a [v1, v2] ∧ te z (some v1 :: some v2 :: capsOf ix σ) H' fun y H3 => H3 D = some (.lst ys) ∧ ys.length < 16000000 ∧ ∀ H4, Chg H3 D (.lst (ys ++ [y])) H4 → ∃ m', m' < m ∧ W (i + 1) m' (ys ++ [y]) H4))
  (hRR : ∀ D C s1 H', (∃ m, s1.heap.Ns C m) → (∀ h', Heap.SameBut C s1.heap h' → Inv X pins σ H' { s1 with heap := h' }) → FpOk X pins H' C → Q (.ref D) H' → RR (.ref D) C (.ok .next) s1) :
  wpAny (model X.prog X.w) X.A (newList []) (fun acc s₃ => wpAny (model X.prog X.w) X.A (newFunctionEnv scope X.env.globals cl [] X.env.qual none .none (some X.env)) (fun cenv s₄ =>
   codeAny (model X.prog X.w) X.A (.compStart (.ListComp elt [⟨.Tuple [.Name x px, .Name x2 px2] kt pt, iter, [], 0⟩] scope pos) 0 (.ref it) acc { cenv with scope := relabel scope X.env }) (RR acc cenv.locals) s₄) E s₃) E s := by
 refine wpAny_newObj_type ?_
 have fD : H s.heap.objs.size = none := I.hok.fresh (Nat.le_refl _)
 have I3 : Inv X pins σ (upd H s.heap.objs.size (.lst [])) { s with heap := s.heap.push { cls := .type "list", data := .seq ([] : List Value).toArray } } := by
  refine I.laid (t' := s.toks) (fun b u e => Heap.get?_push_of_some _ e) (Nat.le_refl _) ?_
  exact ⟨Nat.zero_le _, [], _, .nil, Heap.get?_push_size _ rfl⟩
 have n3 : New H s.heap.objs.size (.lst []) (upd H s.heap.objs.size (.lst [])) := .mk' fD
 generalize hD : s.heap.objs.size = D at *
 obtain ⟨W, ⟨m0, w0⟩, turn⟩ := h D _ n3
 have st3 : tn 0 (s.heap.push { cls := .type "list", data := .seq ([] : List Value).toArray }) := T.keep 0 _ _ st0 fun b _ o e => Heap.get?_push_of_some _ e
 have fpD : ∀ b ∈ fp, b ≠ D := fun b hb z => by
  obtain ⟨o, e, _⟩ := T.obj 0 _ st0 b hb
  exact absurd (Heap.lt_size e) (by rw [z, hD]; exact Nat.lt_irrefl _)
 have hf3 : ∀ b ∈ fp, FpOk X pins (upd H D (.lst [])) b := fun b hb => by
  obtain ⟨f0, r⟩ := hf b hb
  exact ⟨by rw [upd_ne (fpD b hb)]; exact f0, r⟩
 generalize hs3 : ({ s with heap := s.heap.push { cls := .type "list", data := .seq ([] : List Value).toArray } } : Shared) = s3 at *
 have st3' : tn 0 s3.heap := by rw [← hs3]; exact st3
 generalize upd H D (.lst []) = H3 at *
 refine wpAny_newFunctionEnv hcell (by intro y hy; simp at hy) (fun h₁ hns₁ hsb₁ => ?_) hkind
 have keep : ∀ b o, s3.heap.get? b = some o → h₁.get? b = some o := fun b o e => hsb₁.extBut b o (Nat.ne_of_lt (Heap.lt_size e)) (Heap.get?_push_of_some _ e)
 have hfs : ∀ b ∈ fp, b < s3.heap.objs.size := fun b hb => by
  obtain ⟨o, e, _⟩ := T.obj 0 _ st3' b hb
  exact Heap.lt_size e
 have ok := I3.compOk (ns := x :: x2 :: cs) hkind hcell (Nat.le_refl _) h1 h2 hf3 hfs
 have I4 := I3.comp2 (tk := s3.toks + ([] : List (Str × Value)).length) ok h1 h2 (Nat.le_refl _) hns₁ keep hix hfr hout
 have st4 : tn 0 h₁ := T.keep 0 _ _ st3' fun b _ o e => keep b o e
 generalize hC : s3.heap.objs.size = C at *
 have stat : ∀ {H' : Hp} {pins'}, pins' = [] → (∀ b ∈ fp, H' b = none) → ∀ b ∈ fp, FpOk (X.comp scope cl C (x :: x2 :: cs) s3 H3 fp) pins' H' b := fun hp hn b hb => by
  subst hp
  exact ⟨hn b hb, (ok.exf b hb).1, ok.exfs b hb, .inl hb, (ok.exf b hb).2, fun p hp => by simp at hp⟩
 have hPG : PG (X.comp scope cl C (x :: x2 :: cs) s3 H3 fp) (.Tuple [.Name x px, .Name x2 px2] kt pt) (dgTup X.K 2 (dgCons (gName 0) (dgCons (gName 1) dgNil))) :=
  dg_tup (X := X.comp scope cl C (x :: x2 :: cs) s3 H3 fp) hc (dg_cons (pg_name (X := X.comp scope cl C (x :: x2 :: cs) s3 H3 fp) (i := 0) hN rfl (.inl (lookup_relabel_local hx)) (.inr (lookup_relabel_local hx))) (dg_cons (pg_name (X := X.comp scope cl C (x :: x2 :: cs) s3 H3 fp) (i := 1) hN rfl (.inl (lookup_relabel_local hx2)) (.inr (lookup_relabel_local hx2))) dg_nil))
 have loop : ∀ s5 : Shared, s5 = { s3 with heap := h₁, toks := s3.toks + ([] : List (Str × Value)).length } →
   codeAny (model X.prog X.w) X.A (.compLoop (.ListComp elt [⟨.Tuple [.Name x px, .Name x2 px2] kt pt, iter, [], 0⟩] scope pos) 0 (.ref it) (.ref D) (compEnvC scope cl C X.env)) (RR (.ref D) C) s5 := by
  rintro s5 rfl
  refine LCp.codeAny_compLoop_pair (fun n s' => ∃ i v0 v1 H' ys, Inv (X.comp scope cl C (x :: x2 :: cs) s3 H3 fp) [] (v0 :: v1 :: capsOf ix σ) H' s' ∧ tn i s'.heap ∧ (∀ b ∈ fp, H' b = none) ∧ W i n ys H') ?_ m0 ⟨0, none, none, H3, [], I4, st4, fun b hb => (hf3 b hb).1, w0⟩
  rintro n s6 ⟨i, v0, v1, H6, ys, I6, st6, fr6, w6⟩
  rcases turn i n ys H6 w6 with ⟨stop, qn⟩ | ⟨go, step⟩
  ·refine wpAny_mono (T.done (X.comp scope cl C (x :: x2 :: cs) s3 H3 fp) rfl rfl rfl hc i [] s6 _ H6 (fun _ _ => False) I6 (stat rfl fr6) st6 stop) (fun r s7 ⟨hr, I7⟩ => ?_) fun _ _ z => z.elim
   subst hr
   exact hRR D C s7 H6 (by obtain ⟨m, hm, _⟩ := I7.loc; exact ⟨m, hm⟩) (fun h' hs => I3.uncomp I7 hf3 hs) (I3.fpOk (Nat.le_of_eq hC) I7.free) qn
  ·refine wpAny_mono (T.item (X.comp scope cl C (x :: x2 :: cs) s3 H3 fp) rfl rfl rfl hc i [] s6 _ H6 (fun _ _ => False) I6 (stat rfl fr6) st6 go) (fun r s7 ⟨u, hr, h7⟩ => ?_) fun _ _ z => z.elim
   subst hr
   refine wpAny_mono h7 (fun _ s8 ⟨xv, H8, I8, r8, y8, st8, fr8⟩ => ?_) fun _ _ z => z.elim
   have I8' := I8.pinned (stat rfl fr8) (T.obj _ _ st8)
   obtain ⟨pa, w1, w2, ex, hsq, stp⟩ := step xv H8 y8 ⟨cl, C, s3, H3, fp⟩
   subst ex
   refine wpAny_mono (hPG _ s8 _ H8 (.ref pa) u (fun σ9 H9 => σ9 = some w1 :: some w2 :: capsOf ix σ ∧ H9 = H8) I8' r8 ⟨_, hsq, rfl, rfl, rfl⟩) (fun _ s9 ⟨σ9, H9, I9, e1, e2⟩ => ?_) fun _ _ z => z.elim
   subst e1 e2
   have again : ∀ {H7 : Hp} {s7 : Shared} {zs : List V} {m' : Nat}, Inv (X.comp scope cl C (x :: x2 :: cs) s3 H3 fp) ([] ++ pinsAt fp s8.heap) (some w1 :: some w2 :: capsOf ix σ) H7 s7 → m' < n → W (i + 1) m' zs H7 →
     ∃ m, m < n ∧ ∃ i v0 v1 H' ys, Inv (X.comp scope cl C (x :: x2 :: cs) s3 H3 fp) [] (v0 :: v1 :: capsOf ix σ) H' s7 ∧ tn i s7.heap ∧ (∀ b ∈ fp, H' b = none) ∧ W i m ys H' := fun {H7 s7 zs m'} I7 hm w7 => by
    refine ⟨m', hm, i + 1, _, _, H7, zs, I7.unpinned, T.keep _ _ _ st8 fun b hb o e => (I7.pin (b, o) (List.mem_append_right _ (List.mem_append_right _ (mem_pinsAt hb e)))).1, fun b hb => ?_, w7⟩
    obtain ⟨o, e, d⟩ := T.obj _ _ st8 b hb
    exact (I7.pin (b, o) (List.mem_append_right _ (List.mem_append_right _ (mem_pinsAt hb e)))).2.1
   have body : ∀ {H5 : Hp} {s5 : Shared}, Inv (X.comp scope cl C (x :: x2 :: cs) s3 H3 fp) ([] ++ pinsAt fp s8.heap) (some w1 :: some w2 :: capsOf ix σ) H5 s5 →
     (te ⟨cl, C, s3, H3, fp⟩ (some w1 :: some w2 :: capsOf ix σ) H5 fun y H3 => H3 D = some (.lst ys) ∧ ys.length < 16000000 ∧ ∀ H4, Chg H3 D (.lst (ys ++ [y])) H4 → ∃ m', m' < n ∧ W (i + 1) m' (ys ++ [y]) H4) →
     ∀ E' : Value → Shared → Prop, wpAny (model X.prog X.w) X.A (eval elt (compEnvC scope cl C X.env)) (fun y s4 => wpAny (model X.prog X.w) X.A (call (.builtin "list.append") [.ref D, y]) (fun _ s5 => ∃ m, m < n ∧ ∃ i v0 v1 H' ys, Inv (X.comp scope cl C (x :: x2 :: cs) s3 H3 fp) [] (v0 :: v1 :: capsOf ix σ) H' s5 ∧ tn i s5.heap ∧ (∀ b ∈ fp, H' b = none) ∧ W i m ys H') E' s4) E' s5 := fun {H5 s5} I5 q5 E' => by
    refine wpAny_mono (helt ⟨cl, C, s3, H3, fp⟩ _ s5 _ H5 _ I5 q5) (fun y s10 ⟨yv, H10, I10, r10, hDy, hl, q10⟩ => ?_) fun _ _ z => z.elim
    refine wpAny_mono (mt_append (X := X.comp scope cl C (x :: x2 :: cs) s3 H3 fp) _ s10 _ H10 (.ref D) [yv] (.ref D) [y] (fun _ H11 => ∃ m', m' < n ∧ W (i + 1) m' (ys ++ [yv]) H11) I10 rfl (.cons r10 .nil) ⟨D, ys, yv, rfl, rfl, hDy, Nat.lt_of_lt_of_le hl (by decide), q10 _ .mk'⟩) (fun _ s11 ⟨_, H11, I11, _, m', hm, w11⟩ => ?_) fun _ _ z => z.elim
    exact again I11 hm w11
   exact body I9 stp _
 exact codeAny_compStart_list (loop _ rfl) (T.self X.A 0 _ _ _ st4 (loop _ rfl))
theorem pe_comp2 {elt iter : Expr} {x x2 : Str} {px px2 : Pos} {kt : Nat} {pt : Pos} {scope : Scope} {pos : Pos} {wi : TI} {te : CB → TE} (sc0 : Scope) (cs : List Str) (ix : List Nat) (hc : X.calm = true) (hi : PI X (.Tuple [.Name x px, .Name x2 px2] kt pt) iter wi)
  (helt : ∀ z : CB, PE (X.comp scope z.cl z.C (x :: x2 :: cs) z.s z.H z.fp) elt (te z)) (hN : (x :: x2 :: cs).Nodup := by decide +kernel) (hkind : scope.kind = .function := by rfl) (hcell : ∀ y ∈ scope.names, y.2 ≠ .cell := by decide +kernel)
  (hx : scope.names.lookup x = some .local := by rfl) (hx2 : scope.names.lookup x2 = some .local := by rfl) (hnames : ∀ y ∈ scope.names, y.2 = .local → scope.names.lookup y.1 = some .local := by decide +kernel)
  (hix : ix.map (fun i => X.N[i]?) = cs.map some := by rfl) (hfr : ∀ y ∈ cs, scope.names.lookup y = some .free := by decide +kernel) (hout' : ∀ y ∈ cs, sc0.names.lookup y = some .cell ∨ sc0.names.lookup y = some .free := by decide +kernel)
  (hfree' : ∀ y ∈ scope.names, y.2 = .free → sc0.names.lookup y.1 = some .cell ∨ sc0.names.lookup y.1 = some .free := by decide +kernel) (hsc : X.env.scope = sc0 := by rfl)
  (hs : ∀ x, foldedSetIterable iter X.env x = pure x := by intro _; rfl) :
  PE X (.ListComp elt [⟨.Tuple [.Name x px, .Name x2 px2] kt pt, iter, [], 0⟩] scope pos) (tComp2 X.K wi ix te) := by
 have hout : ∀ y ∈ cs, X.env.scope.names.lookup y = some .cell ∨ X.env.scope.names.lookup y = some .free := by rw [hsc]; exact hout'
 have hfree : ∀ y ∈ scope.names, y.2 = .free → X.env.scope.names.lookup y.1 = some .cell ∨ X.env.scope.names.lookup y.1 = some .free := by rw [hsc]; exact hfree'
 intro pins s σ H Q I h
 obtain ⟨cl, hcl, h1, h2⟩ := closure_ok (scope := scope) (env := X.env) fun y hy hk => I.ok.has y.1 (hfree y hy hk)
 rw [eval_ListComp]
 refine wpAny_comprehension_free (use := none) rfl hs hcl hkind hnames (wpAny_mono (hi pins s σ H _ I h) (fun v s1 h3 => wpAny_mono h3 (fun itv s2 h4 => ?_) fun _ _ z => z) fun _ _ z => z)
 obtain ⟨it, fp, tn, J, H2, rfl, I2, T, st, hf, q⟩ := h4
 refine comp_core2 (Q := Q) hc hkind hcell hx hx2 hN hix hfr hout h1 h2 helt I2 T st hf (fun D H3 n3 => ?_) fun D C s3 H3 hm hI hCf hq => ?_
 ·obtain ⟨W, w0, turn⟩ := q D H3 n3
  refine ⟨W, w0, fun i m ys H w => ?_⟩
  rcases turn i m ys H w with z | ⟨go, step⟩
  ·exact .inl z
  ·refine .inr ⟨go, fun x H' y z => ?_⟩
   obtain ⟨a, v1, v2, e, hq, st⟩ := step x H' y z
   exact ⟨a, v1, v2, e, hq, st⟩
 ·obtain ⟨m, hm⟩ := hm
  exact ⟨m, hm, fun h' hs' => ⟨.ref D, H3, hI h' hs', rfl, hq⟩⟩
end
end L2
namespace L2
open PySem PySem.Spec PyProof.Rows
noncomputable def Itz (K : PySem.W.Frag) (a b : Addr) : It :=
 ⟨fun i H => ∃ xs x ys y, SqL K H a xs ∧ xs[i]? = some x ∧ SqL K H b ys ∧ ys[i]? = some y,
   fun i H x H' => ∃ p v w, x = .ref p ∧ New H p (.tup [v, w]) H' ∧ (∀ xs, SqL K H a xs → xs[i]? = some v) ∧ ∀ ys, SqL K H b ys → ys[i]? = some w,
   fun i H => ∃ xs ys, SqL K H a xs ∧ SqL K H b ys ∧ (xs.length ≤ i ∨ ys.length ≤ i)⟩
theorem ne_cls {h : Heap} {a b : Addr} {oa ob : Obj} {s t : String} (ha : h.get? a = some oa) (hb : h.get? b = some ob) (ca : oa.cls = .type s) (cb : ob.cls = .type t) (hn : s ≠ t) : a ≠ b := fun e => by
 subst e
 rw [ha] at hb
 cases hb
 rw [ca] at cb
 injection cb with e
 exact hn e
theorem zipApart {h : Heap} {z TI TO i1 i2 l1 l2 : Addr} {f0 a b c d : Value} {k1 k2 : Nat} {xs ys : Array Value} (hTT : TI ≠ TO) (hii : i1 ≠ i2) (hz : IsZip h z TI TO f0) (hTI : IsPair h TI a b) (hTO : IsPair h TO c d)
  (h1 : h.IsListIter i1 l1 k1) (h2 : h.IsListIter i2 l2 k2) (hl1 : h.IsList l1 xs) (hl2 : h.IsList l2 ys) : ZipApart z TI TO i1 i2 l1 l2 := by
 obtain ⟨o1, e1, c1, _⟩ := h1
 obtain ⟨o2, e2, c2, _⟩ := h2
 obtain ⟨p1, g1, b1, _⟩ := hl1
 obtain ⟨p2, g2, b2, _⟩ := hl2
 exact ⟨ne_cls hTI hz rfl rfl (by decide), ne_cls hTO hz rfl rfl (by decide), ne_cls e1 hz c1 rfl (by decide), ne_cls e2 hz c2 rfl (by decide), hTT,
  ne_cls hTI e1 rfl c1 (by decide), ne_cls hTI e2 rfl c2 (by decide), ne_cls hTO e1 rfl c1 (by decide), ne_cls hTO e2 rfl c2 (by decide), hii,
  ne_cls g1 hz b1 rfl (by decide), ne_cls g1 hTO b1 rfl (by decide), ne_cls g1 e1 b1 c1 (by decide), ne_cls g1 e2 b1 c2 (by decide),
  ne_cls g2 hz b2 rfl (by decide), ne_cls g2 hTO b2 rfl (by decide), ne_cls g2 e1 b2 c1 (by decide), ne_cls g2 e2 b2 c2 (by decide)⟩
theorem turn_zip {P : Program} {w : World} {K : PySem.W.Frag} {elts : List Expr} {x1 : Nat} {pos : Pos} (l1 l2 z TI TO i1 i2 : Addr) (hTT : TI ≠ TO) (hii : i1 ≠ i2) :
  Turn P w K (.Tuple elts x1 pos) (Itz K l1 l2) [z, TI, TO, i1, i2] z (fun i h => IsZip h z TI TO .none ∧ IsPair h TI (.ref i1) (.ref i2) ∧ (∃ a b, IsPair h TO a b) ∧ h.IsListIter i1 l1 i ∧ h.IsListIter i2 l2 i) where
 mem := by simp
 obj := fun i h st b hb => by
  obtain ⟨hz, hTI, ⟨a, c, hTO⟩, ⟨o1, e1, c1, d1⟩, ⟨o2, e2, c2, d2⟩⟩ := st
  simp only [List.mem_cons, List.not_mem_nil, or_false] at hb
  rcases hb with rfl | rfl | rfl | rfl | rfl
  ·exact ⟨_, hz, fun v z => by cases z⟩
  ·exact ⟨_, hTI, fun v z => by cases z⟩
  ·exact ⟨_, hTO, fun v z => by cases z⟩
  ·exact ⟨o1, e1, fun v z => by rw [d1] at z; cases z⟩
  ·exact ⟨o2, e2, fun v z => by rw [d2] at z; cases z⟩
 keep := fun i h h' st k => by
  obtain ⟨hz, hTI, ⟨a, c, hTO⟩, h1, h2⟩ := st
  exact ⟨k z (by simp) _ hz, k TI (by simp) _ hTI, ⟨a, c, k TO (by simp) _ hTO⟩, h1.at fun o q => k i1 (by simp) o q, h2.at fun o q => k i2 (by simp) o q⟩
 item := by
  intro X hP hw hK hc i pins s σ H E I hf st hg
  subst hP hw hK
  obtain ⟨xs, x, ys, y, hq1, hx, hq2, hy⟩ := hg
  obtain ⟨hz, hTI, ⟨a0, b0, hTO⟩, h1, h2⟩ := st
  obtain ⟨its1, rv1, p1, _⟩ := I.list hq1
  obtain ⟨its2, rv2, p2, _⟩ := I.list hq2
  obtain ⟨u, hu, ru⟩ := rv1.get hx
  obtain ⟨v, hv, rv⟩ := rv2.get hy
  have D := zipApart hTT hii hz hTI hTO h1 h2 p1.isList p2.isList
  refine wpAny_pyNext_zip_item D hz hTI hTO h1 h2 p1.isList p2.isList (x := u) (y := v) (by simpa using hu) (by simpa using hv) fun h₁ hz₁ hTO₁ hi1 hi2 ht₁ hsz₁ hk₁ => ?_
  refine ⟨.ref s.heap.objs.size, rfl, wpAny_letOwnedTupleGo_zip hz₁ fun h₂ hz₂ hs₂ => ?_⟩
  have hs₂' : Heap.SameBut z h₁ h₂ := hs₂
  have fD : H s.heap.objs.size = none := I.hok.fresh (Nat.le_refl _)
  have hz_lt : z < s.heap.objs.size := Heap.lt_size hz
  have keep : ∀ b o, b ∉ [z, TI, TO, i1, i2] → s.heap.get? b = some o → h₂.get? b = some o := fun b o hb q => by
   simp only [List.mem_cons, List.not_mem_nil, or_false, not_or] at hb
   exact (hs₂'.2 b hb.1).trans (hk₁ b o hb.1 hb.2.2.1 hb.2.2.2.1 hb.2.2.2.2 q)
  have htup : h₂.get? s.heap.objs.size = some { cls := .type "tuple", data := .seq #[u, v] } := (hs₂'.2 _ (Nat.ne_of_gt hz_lt)).trans ht₁
  have nD : ∀ b o, s.heap.get? b = some o → b ≠ s.heap.objs.size := fun b o q => Nat.ne_of_lt (Heap.lt_size q)
  have nF : ∀ b u, H b = some u → b ∉ [z, TI, TO, i1, i2] := fun b u q hb => by
   have := (hf b hb).1
   rw [this] at q
   cases q
  have tD : ∀ b u, H b = some u → b ≠ s.heap.objs.size := fun b u q => ne_of_none q fD
  have I1 : Inv X pins σ (upd H s.heap.objs.size (.tup [x, y])) { s with heap := h₂ } := by
   refine I.call' (ch := [z, TI, TO, i1, i2]) rfl ⟨fun b o q n hb hx => keep b o hx q, fun b o q n hb hx => ⟨o.slots, keep b o hx q⟩, fun b o q n hx => by rw [upd_ne (nD b o q)]; exact n, fun b o q hx => ⟨o, keep b o hx q⟩,
    fun b ys q => by rw [upd_ne (tD b _ q)]; exact q, fun b o v q => by rw [upd_ne (tD b _ q)]; exact q, fun b ps q => ⟨#[], by rw [upd_ne (tD b _ q), q]; simp⟩⟩ ?_ I.bare ?_
   ·intro b ob q
    by_cases zz : b = s.heap.objs.size
    ·subst zz
     rw [upd_same] at q
     cases q
     exact ⟨by show 2 ≤ sizeLine; decide, [u, v], .cons ru (.cons rv .nil), ⟨_, htup, rfl, _, rfl⟩⟩
    ·rw [upd_ne zz] at q
     refine (I.hok b ob q).stay (fun c v hc y => ?_) (fun c y => by rw [upd_ne (tD c _ y)]; exact y) fun c ys y => by rw [upd_ne (tD c _ y)]; exact y
     rcases hc with hc | hc
     ·subst hc
      exact keep c v (nF c _ q) y
     ·exact keep c v (nF c _ hc) y
   ·intro b hb
    obtain ⟨f0, f1, f2, f3, f4, f5⟩ := hf b hb
    exact ⟨f3, f1, f4, f5⟩
  refine ⟨.ref s.heap.objs.size, _, I1, rfl, ⟨s.heap.objs.size, x, y, rfl, .mk' fD, fun zs hzs => by rw [I.list_inj hzs hq1]; exact hx, fun zs hzs => by rw [I.list_inj hzs hq2]; exact hy⟩, ⟨hz₂, ?_, ⟨_, _, (hs₂'.2 TO D.TOz).trans hTO₁⟩, ?_, ?_⟩, fun b hb => ?_⟩
  ·exact (hs₂'.2 TI D.TIz).trans (hk₁ TI _ D.TIz D.TITO D.TIi1 D.TIi2 hTI)
  ·exact hi1.at fun o q => (hs₂'.2 i1 D.i1z).trans q
  ·exact hi2.at fun o q => (hs₂'.2 i2 D.i2z).trans q
  ·have hbs : b ≠ s.heap.objs.size := by
    simp only [List.mem_cons, List.not_mem_nil, or_false] at hb
    obtain ⟨o1, e1, _⟩ := id h1
    obtain ⟨o2, e2, _⟩ := id h2
    rcases hb with rfl | rfl | rfl | rfl | rfl
    ·exact Nat.ne_of_lt hz_lt
    ·exact Nat.ne_of_lt (Heap.lt_size hTI)
    ·exact Nat.ne_of_lt (Heap.lt_size hTO)
    ·exact Nat.ne_of_lt (Heap.lt_size e1)
    ·exact Nat.ne_of_lt (Heap.lt_size e2)
   rw [upd_ne hbs]
   exact (hf b hb).1
 done := by
  intro X hP hw hK hc i pins s σ H E I hf st hg
  subst hP hw hK
  obtain ⟨xs, ys, hq1, hq2, hx⟩ := hg
  obtain ⟨hz, hTI, ⟨a0, b0, hTO⟩, h1, h2⟩ := st
  obtain ⟨its1, rv1, p1, _⟩ := I.list hq1
  obtain ⟨its2, rv2, p2, _⟩ := I.list hq2
  have D := zipApart hTT hii hz hTI hTO h1 h2 p1.isList p2.isList
  have n1 := rv1.length
  have n2 := rv2.length
  refine wpAny_pyNext_zip_end (I.ok.hd hc) D hz hTI hTO h1 h2 p1.isList p2.isList (by simp; omega) fun h' hk => ⟨rfl, ?_⟩
  have keep : ∀ b o, b ∉ [z, TI, TO, i1, i2] → s.heap.get? b = some o → h'.get? b = some o := fun b o hb q => by
   simp only [List.mem_cons, List.not_mem_nil, or_false, not_or] at hb
   exact hk b o hb.1 hb.2.2.1 hb.2.2.2.1 hb.2.2.2.2 q
  have nF : ∀ b u, H b = some u → b ∉ [z, TI, TO, i1, i2] := fun b u q hb => by
   have := (hf b hb).1
   rw [this] at q
   cases q
  refine I.call' (ch := [z, TI, TO, i1, i2]) rfl ⟨fun b o q n hb hx => keep b o hx q, fun b o q n hb hx => ⟨o.slots, keep b o hx q⟩, fun b o q n hx => n, fun b o q hx => ⟨o, keep b o hx q⟩,
    fun b ys q => q, fun b o v q => q, fun b ps q => ⟨#[], by rw [q]; simp⟩⟩ ?_ I.bare ?_
  ·intro b ob q
   refine (I.hok b ob q).stay (fun c v hc y => ?_) (fun c y => y) fun c ys y => y
   rcases hc with hc | hc
   ·subst hc
    exact keep c v (nF c _ q) y
   ·exact keep c v (nF c _ hc) y
  ·intro b hb
   obtain ⟨f0, f1, f2, f3, f4, f5⟩ := hf b hb
   exact ⟨f3, f1, f4, f5⟩
 self := fun _ _ _ _ _ st h => wpAny_pyIter_zip st.1 h
section
variable {X : Cx}
noncomputable def iZip (K : PySem.W.Frag) (ta : TA) : TI := fun σ H R => ta σ H fun vs H1 => match vs with | [.ref a, .ref b] => (∃ xs, SqL K H1 a xs) ∧ (∃ ys, SqL K H1 b ys) ∧ R (Itz K a b) H1 | _ => False
theorem pi_zip {elts : List Expr} {x1 : Nat} {tp : Pos} {l m : Expr} {ta : TA} {p pos : Pos} (hg : Gl X "zip") (hm : X.mg "zip" = none) (ha : PA X [l, m] ta) (he : starEach [l, m] X.env = (false, eval l X.env) :: starEach [m] X.env := by rfl) (hpl : (backTo pos (starEach [m] X.env)).any (·.1) = false := by rfl) :
  PI X (.Tuple elts x1 tp) (.Call (.Name "zip" p) [l, m] [] pos) (iZip X.K ta) := by
 intro pins s σ H R I h
 refine Call_ (ld_blt I hg hm boot_zip (PyProof.Rows.callWith_type1 (thn (ha pos pins s σ H _ I h) fun us s1 ⟨vs, H1, I1, r1, q1⟩ => ?_) he hpl))
 dsimp only at q1
 split at q1
 ·rename_i a b
  obtain ⟨⟨xs, hq1⟩, ⟨ys, hq2⟩, q⟩ := q1
  obtain ⟨u, v, rfl, ru, rv⟩ := vals2 r1
  cases (show u = Value.ref a from ru)
  cases (show v = Value.ref b from rv)
  obtain ⟨its1, _, p1, _⟩ := I1.list hq1
  obtain ⟨its2, _, p2, _⟩ := I1.list hq2
  refine call_zip_2 p1.isList p2.isList fun h' hz hTI hTO hi1 hi2 hsz hk => ?_
  refine wpAny_pyIter_zip hz ?_
  have I2 : Inv X pins σ H1 { s1 with heap := h' } := I1.kept (t' := s1.toks) hk
  refine ⟨s1.heap.objs.size + 4, [s1.heap.objs.size + 4, s1.heap.objs.size + 2, s1.heap.objs.size + 3, s1.heap.objs.size, s1.heap.objs.size + 1], _, Itz X.K a b, H1, rfl, I2,
   turn_zip a b _ _ _ _ _ (Nat.ne_of_lt (Nat.lt_succ_self _)) (Nat.ne_of_lt (Nat.lt_succ_self _)), ⟨hz, hTI, ⟨_, _, hTO⟩, hi1, hi2⟩, fun c hc => ?_, q⟩
  have hc' : s1.heap.objs.size ≤ c := by
   simp only [List.mem_cons, List.not_mem_nil, or_false] at hc
   rcases hc with rfl | rfl | rfl | rfl | rfl
   ·exact Nat.le_add_right _ _
   ·exact Nat.le_add_right _ _
   ·exact Nat.le_add_right _ _
   ·exact Nat.le_refl _
   ·exact Nat.le_add_right _ _
  exact I1.fpOk hc' (I1.hok.fresh hc')
 ·exact q1.elim
noncomputable def dSorted (K : PySem.W.Frag) : List V → Hp → VK → Prop := fun xs H Q => match xs with
 | [.ref p] => ∃ ns : List Int, SqL K H p (ns.map V.int) ∧ ns.length < 64 ∧ ∀ l (ms : List Int) H', ms.Perm ns → ms.Pairwise (· ≤ ·) → New H l (.lst (ms.map V.int)) H' → Q (.ref l) H'
 | _ => False
theorem intsOf : ∀ {ns : List Int} {its : List Value}, Vals (ns.map V.int) its → IntsAre its ns
 | [], _, .nil => .nil
 | n :: ns, _, .cons r t => by
  obtain ⟨k, rfl⟩ := r
  exact .cons _ _ (intsOf t)
theorem vals_of : ∀ {ns : List Int} {its : List Value}, IntsAre its ns → Vals (ns.map V.int) its
 | [], _, .nil => .nil
 | n :: ns, _, .cons _ _ t => .cons ⟨_, rfl⟩ (vals_of t)
theorem d_sorted : CallR X (.builtin "sorted") (dSorted X.K) := by
 intro pins s σ H xs us Q I r h
 unfold dSorted at h
 split at h
 ·rename_i p
  obtain ⟨ns, hs, h64, q⟩ := h
  obtain ⟨u, rfl, ru⟩ := vals1 r
  cases (show u = Value.ref p from ru)
  obtain ⟨its, rv, pl, _⟩ := I.list hs
  have hl := rv.length
  rw [List.length_map] at hl
  refine sorted_ints pl.isList (intsOf rv) (by omega) fun out ns' hI hp hsrt => ?_
  have fD : H (s.heap.objs.size + 1) = none := I.hok.fresh (Nat.le_succ _)
  obtain ⟨e, he⟩ := sortedAll_at s.heap its out
  have hlen : out.size = ns.length := by
   have h1 := (vals_of hI).length
   rw [List.length_map] at h1
   have h2 := hp.length_eq
   simp at h1
   omega
  have I2 : Inv X pins σ (upd H (s.heap.objs.size + 1) (.lst (ns'.map V.int))) { s with heap := sortedAll s.heap its out } := by
   refine I.laid (t' := s.toks) (fun b o e => sortedAll_old e) (Nat.le_succ _) ?_
   refine ⟨?_, out.toList, e, vals_of hI, by simpa [seqObj] using he⟩
   rw [List.length_map, hp.length_eq]
   have : (64 : Nat) ≤ sizeLine := by decide
   omega
  exact ⟨.ref (s.heap.objs.size + 1), _, I2, rfl, q _ ns' _ hp hsrt (.mk' fD)⟩
 ·exact h.elim
end
end L2
namespace Lr
noncomputable def sm : List Rat → Rat | [] => 0 | x :: r => x + sm r
theorem sm_app (a b : List Rat) : sm (a ++ b) = sm a + sm b := by
 induction a with
 | nil => show sm b = 0 + sm b; grind
 | cons x r ih => show x + sm (r ++ b) = x + sm r + sm b; rw [ih]; grind
theorem sm_one (x : Rat) : sm [x] = x := by show x + 0 = x; grind
theorem sm_snoc (a : List Rat) (x : Rat) : sm (a ++ [x]) = sm a + x := by rw [sm_app, sm_one]
theorem sm_take {xs : List Rat} {i : Nat} {x : Rat} (h : xs[i]? = some x) : sm (xs.take (i + 1)) = sm (xs.take i) + x := by
 rw [List.take_add_one, h]
 exact sm_snoc _ _
theorem sm_perm {a b : List Rat} (h : a.Perm b) : sm a = sm b := by
 induction h with
 | nil => rfl
 | cons x _ ih => show x + _ = x + _; rw [ih]
 | swap x y l => show y + (x + sm l) = x + (y + sm l); grind
 | trans _ _ h1 h2 => exact h1.trans h2
theorem sm_mul (c : Rat) (a : List Rat) : sm (a.map (· * c)) = sm a * c := by
 induction a with
 | nil => show (0 : Rat) = 0 * c; grind
 | cons x r ih => show x * c + sm (r.map (· * c)) = (x + sm r) * c; rw [ih]; grind
theorem sm_nonneg {a : List Rat} (h : ∀ x ∈ a, 0 ≤ x) : 0 ≤ sm a := by
 induction a with
 | nil => exact Rat.le_refl
 | cons x r ih =>
  have h1 := ih fun y hy => h y (List.mem_cons_of_mem _ hy)
  have h2 := h x List.mem_cons_self
  show 0 ≤ x + sm r
  grind
noncomputable def mn (x y : Rat) : Rat := if y < x then y else x
theorem mn_le_r {x y : Rat} : mn x y ≤ y := by unfold mn; grind
theorem mn_l {x y : Rat} (h : x ≤ y) : mn x y = x := by unfold mn; grind
theorem mn_r {x y : Rat} (h : y ≤ x) : mn x y = y := by unfold mn; grind
theorem mn_or (x y : Rat) : mn x y = x ∨ mn x y = y := by unfold mn; grind
theorem mn_mul {x y c : Rat} (hc : 0 < c) : mn (x * c) (y * c) = mn x y * c := by
 unfold mn
 by_cases h : y < x
 ·rw [if_pos h, if_pos (Rat.mul_lt_mul_of_pos_right h hc)]
 ·rw [if_neg h, if_neg]
  have : x ≤ y := by grind
  have := Rat.mul_le_mul_of_nonneg_right this (Rat.le_of_lt hc)
  grind
theorem rt_pos {b : Int} (hb : 0 < b) : (0 : Rat) < (b : Rat) := by exact_mod_cast hb
theorem rt_mul_self {n D : Int} (hD : 0 < D) : rt n D * (D : Rat) = (n : Rat) := by
 rw [rt_eq]
 have := rt_pos hD
 grind
theorem rt_of_mul {x : Rat} {n D : Int} (hD : 0 < D) (h : x * (D : Rat) = (n : Rat)) : x = rt n D := by
 rw [rt_eq, ← h]
 have := rt_pos hD
 grind
theorem rt_le {a b D : Int} (hD : 0 < D) (h : a ≤ b) : rt a D ≤ rt b D := by
 have h1 : (a : Rat) ≤ (b : Rat) := by exact_mod_cast h
 rw [rt_eq, rt_eq, Rat.div_def, Rat.div_def]
 refine Rat.mul_le_mul_of_nonneg_right h1 (Rat.le_of_lt ?_)
 exact Rat.inv_pos.mpr (rt_pos hD)
theorem rt_le_iff {a b D : Int} (hD : 0 < D) : rt a D ≤ rt b D ↔ a ≤ b := by
 refine ⟨fun h => ?_, rt_le hD⟩
 have := Rat.mul_le_mul_of_nonneg_right h (Rat.le_of_lt (rt_pos hD))
 rw [rt_mul_self hD, rt_mul_self hD] at this
 exact_mod_cast this
theorem rt_zero {D : Int} (hD : 0 < D) : rt 0 D = 0 := by
 rw [rt_eq, Rat.div_def]
 show (0 : Rat) * _ = 0
 grind
theorem rt_nonneg {a D : Int} (hD : 0 < D) : 0 ≤ rt a D ↔ 0 ≤ a := by
 have := rt_le_iff (a := 0) (b := a) hD
 rw [rt_zero hD] at this
 exact this
noncomputable def Ov (D : Int) (M : Nat) (x : Rat) : Prop := ∃ n : Int, x = rt n D ∧ n.natAbs ≤ M
theorem Ov.mono {D : Int} {M N : Nat} {x : Rat} (h : Ov D M x) (l : M ≤ N) : Ov D N x := let ⟨n, e, b⟩ := h; ⟨n, e, Nat.le_trans b l⟩
theorem Ov.zero {D : Int} (hD : 0 < D) {M : Nat} : Ov D M 0 := ⟨0, (rt_zero hD).symm, Nat.zero_le _⟩
theorem rt_add_same {a b D : Int} (hD : 0 < D) : rt a D + rt b D = rt (a + b) D := by
 refine rt_of_mul hD ?_
 rw [Rat.add_mul, rt_mul_self hD, rt_mul_self hD, Rat.intCast_add]
theorem rt_sub_same {a b D : Int} (hD : 0 < D) : rt a D - rt b D = rt (a - b) D := by
 refine rt_of_mul hD ?_
 have h1 := rt_mul_self (n := a) hD
 have h2 := rt_mul_self (n := b) hD
 rw [Rat.intCast_sub]
 grind
theorem Ov.add {D : Int} (hD : 0 < D) {M N : Nat} {x y : Rat} (h : Ov D M x) (g : Ov D N y) : Ov D (M + N) (x + y) := by
 obtain ⟨a, rfl, ha⟩ := h
 obtain ⟨b, rfl, hb⟩ := g
 exact ⟨a + b, rt_add_same hD, by omega⟩
theorem Ov.sub {D : Int} (hD : 0 < D) {M N : Nat} {x y : Rat} (h : Ov D M x) (g : Ov D N y) : Ov D (M + N) (x - y) := by
 obtain ⟨a, rfl, ha⟩ := h
 obtain ⟨b, rfl, hb⟩ := g
 exact ⟨a - b, rt_sub_same hD, by omega⟩
theorem Ov.mn {D : Int} {M : Nat} {x y : Rat} (h : Ov D M x) (g : Ov D M y) : Ov D M (mn x y) := by
 rcases mn_or x y with e | e <;> rw [e] <;> assumption
theorem Ov.sm {D : Int} (hD : 0 < D) {M : Nat} : ∀ {a : List Rat}, (∀ x ∈ a, Ov D M x) → Ov D (a.length * M) (sm a)
 | [], _ => Ov.zero hD
 | x :: r, h => by
  have h1 := Ov.sm hD fun y hy => h y (List.mem_cons_of_mem _ hy)
  have h2 := h x List.mem_cons_self
  refine (h2.add hD h1).mono ?_
  rw [List.length_cons, Nat.add_mul, Nat.one_mul, Nat.add_comm]
  exact Nat.le_refl _
theorem Ov.den {D : Int} (hD : 0 < D) {M : Nat} {x : Rat} (h : Ov D M x) : (x.den : Int) ∣ D := by
 obtain ⟨n, rfl, _⟩ := h
 have h1 : (rt n D).num * D = n * ((rt n D).den : Int) := by
  have := rt_mk (a := n) (b := D) (by omega)
  have h1 : Rat.divInt (rt n D).num ((rt n D).den : Int) = Rat.divInt n D := Rat.num_divInt_den _
  exact (Rat.divInt_eq_divInt_iff (by have := den_pos (rt n D); omega) (by omega)).mp h1
 have h2 : Nat.Coprime (rt n D).den (rt n D).num.natAbs := (rt n D).reduced.symm
 have h3 : (rt n D).den ∣ (rt n D).num.natAbs * D.natAbs := by
  rw [← Int.natAbs_mul, h1, Int.natAbs_mul]
  exact ⟨n.natAbs, by rw [Nat.mul_comm]; rfl⟩
 have h4 := h2.dvd_of_dvd_mul_left h3
 exact Int.ofNat_dvd_left.mpr h4
theorem lcm_step {b d : Int} (hb : 0 < b) (hd : 0 < d) : 0 < b * (d.fdiv (Int.gcd b d)) ∧ b ∣ b * (d.fdiv (Int.gcd b d)) ∧ d ∣ b * (d.fdiv (Int.gcd b d)) ∧ ∀ D, b ∣ D → d ∣ D → b * (d.fdiv (Int.gcd b d)) ∣ D := by
 have hg : 0 < (Int.gcd b d : Int) := by have := Int.gcd_pos_of_ne_zero_left d (show b ≠ 0 by omega); omega
 have e : d.fdiv (Int.gcd b d) = d / (Int.gcd b d) := Int.fdiv_eq_ediv_of_nonneg _ (by omega)
 rw [e]
 obtain ⟨b', eb⟩ := Int.gcd_dvd_left b d
 obtain ⟨d', ed⟩ := Int.gcd_dvd_right b d
 have e2 : d / (Int.gcd b d : Int) = d' := by
  conv => lhs; lhs; rw [ed]
  exact Int.mul_ediv_cancel_left _ (by omega)
 rw [e2]
 have hd' : 0 < d' := by
  rcases Int.lt_or_le 0 d' with h | h
  ·exact h
  ·have := Int.mul_nonpos_of_nonneg_of_nonpos (Int.le_of_lt hg) h
   omega
 refine ⟨Int.mul_pos hb hd', Int.dvd_mul_right _ _, ⟨b', ?_⟩, fun D h1 h2 => ?_⟩
 ·conv => lhs; rw [eb]
  conv => rhs; rw [ed]
  rw [Int.mul_assoc, Int.mul_assoc, Int.mul_comm b' d']
 ·have hl : (Int.lcm b d : Int) ∣ D := by
   have h3 : b ∣ ((D.natAbs : Nat) : Int) := by rw [Int.dvd_natAbs]; exact h1
   have h4 : d ∣ ((D.natAbs : Nat) : Int) := by rw [Int.dvd_natAbs]; exact h2
   have := Int.lcm_dvd h3 h4
   have : ((Int.lcm b d : Nat) : Int) ∣ ((D.natAbs : Nat) : Int) := Int.ofNat_dvd.mpr this
   rw [Int.dvd_natAbs] at this
   exact this
  have h5 := Int.gcd_mul_lcm b d
  have h6 : (Int.gcd b d : Int) * (Int.lcm b d : Int) = b * d := by
   have : ((Int.gcd b d * Int.lcm b d : Nat) : Int) = ((b.natAbs * d.natAbs : Nat) : Int) := by rw [h5]
   push_cast at this
   rw [this, Int.natAbs_of_nonneg (by omega), Int.natAbs_of_nonneg (by omega)]
  have h7 : (Int.gcd b d : Int) * (b * d') = (Int.gcd b d : Int) * (Int.lcm b d : Int) := by
   rw [h6]
   conv => rhs; rw [ed]
   rw [← Int.mul_assoc, Int.mul_comm _ b, Int.mul_assoc]
  have h8 := Int.eq_of_mul_eq_mul_left (by omega) h7
  rw [h8]
  exact hl
theorem top_eq {x : Rat} {B : Int} (hB : 0 < B) (h : (x.den : Int) ∣ B) : ((x.num * (B.fdiv x.den) : Int) : Rat) = x * (B : Rat) := by
 obtain ⟨k, rfl⟩ := h
 have hd := den_pos x
 rw [Int.fdiv_eq_ediv_of_nonneg _ (by omega), Int.mul_ediv_cancel_left _ (by omega), Rat.intCast_mul, Rat.intCast_mul]
 have e : x * ((x.den : Int) : Rat) = (x.num : Rat) := by
  have := rt_mul_self (n := x.num) hd
  rw [rt_self] at this
  exact this
 rw [← Rat.mul_assoc, e]
theorem top_bd {D B n : Int} {M : Nat} {x : Rat} (hB : 0 < B) (hD : 0 < D) (hBD : B ∣ D) (h : Ov D M x) (e : (n : Rat) = x * (B : Rat)) : n.natAbs ≤ M := by
 obtain ⟨m, rfl, hm⟩ := h
 obtain ⟨k, rfl⟩ := hBD
 have hk : 0 < k := by
  rcases Int.lt_or_le 0 k with h | h
  ·exact h
  ·have := Int.mul_nonpos_of_nonneg_of_nonpos (Int.le_of_lt hB) h
   omega
 have h1 : (n : Rat) * (k : Rat) = (m : Rat) := by
  rw [e, Rat.mul_assoc, ← Rat.intCast_mul]
  exact rt_mul_self hD
 have h2 : n * k = m := by exact_mod_cast h1
 rw [← h2, Int.natAbs_mul] at hm
 have : 1 ≤ k.natAbs := by omega
 exact Nat.le_trans (Nat.le_mul_of_pos_right _ this) hm
structure Gain (cs : List Rat) (e g : Rat) : Prop where
 g0 : 0 ≤ g
 sum : sm (cs.map (mn · g)) = e
 top : ∀ u, 0 ≤ u → (∀ c ∈ cs, c ≤ u) → g ≤ u
structure Lp (ts : List Int) (E : Int) (i : Nat) (rest : Int) : Prop where
 r : rest = E - (ts.take i).sum
 l : ∀ t ∈ ts.take i, t * (ts.length - i : Int) < rest
theorem Lp.init {ts : List Int} {E : Int} : Lp ts E 0 E := ⟨by simp, by simp⟩
theorem take_mem_le {ts : List Int} (hs : ts.Pairwise (· ≤ ·)) {i : Nat} {x : Int} (hx : ts[i]? = some x) : ∀ t ∈ ts.take i, t ≤ x := by
 intro t ht
 obtain ⟨j, hj⟩ := List.mem_iff_getElem?.mp ht
 rw [List.getElem?_take] at hj
 split at hj
 ·rename_i hlt
  have h1 := (List.getElem?_eq_some_iff.mp hj)
  have h2 := (List.getElem?_eq_some_iff.mp hx)
  obtain ⟨l1, e1⟩ := h1
  obtain ⟨l2, e2⟩ := h2
  rw [← e1, ← e2]
  exact List.pairwise_iff_getElem.mp hs j i l1 l2 hlt
 ·cases hj
theorem drop_mem_ge {ts : List Int} (hs : ts.Pairwise (· ≤ ·)) {i : Nat} {x : Int} (hx : ts[i]? = some x) : ∀ t ∈ ts.drop i, x ≤ t := by
 intro t ht
 obtain ⟨j, hj⟩ := List.mem_iff_getElem?.mp ht
 rw [List.getElem?_drop] at hj
 obtain ⟨l2, e2⟩ := List.getElem?_eq_some_iff.mp hx
 obtain ⟨l1, e1⟩ := List.getElem?_eq_some_iff.mp hj
 rw [← e1, ← e2]
 by_cases h0 : j = 0
 ·subst h0; exact Int.le_refl _
 ·exact List.pairwise_iff_getElem.mp hs i (i + j) l2 l1 (by omega)
theorem isum_snoc (a : List Int) (x : Int) : (a ++ [x]).sum = a.sum + x := by simp
theorem Lp.next {ts : List Int} {E : Int} {i : Nat} {rest x : Int} (hs : ts.Pairwise (· ≤ ·)) (h : Lp ts E i rest) (hx : ts[i]? = some x) (hn : ¬ rest ≤ x * (ts.length - i : Int)) : Lp ts E (i + 1) (rest - x) := by
 have hi := (List.getElem?_eq_some_iff.mp hx).1
 have e : (x : Int) * (ts.length - i : Int) = x * (ts.length - (i + 1 : Nat) : Int) + x := by
  push_cast
  rw [show (ts.length - i : Int) = (ts.length - (i + 1) : Int) + 1 by omega, Int.mul_add, Int.mul_one]
 constructor
 ·rw [List.take_add_one, hx]
  show rest - x = E - ((ts.take i) ++ [x]).sum
  rw [isum_snoc, h.r]
  omega
 ·intro t ht
  rw [List.take_add_one, hx] at ht
  have hle : t ≤ x := by
   rcases List.mem_append.mp ht with ht | ht
   ·exact take_mem_le hs hx t ht
   ·have : t = x := by simpa using ht
    omega
  have : t * (ts.length - (i + 1 : Nat) : Int) ≤ x * (ts.length - (i + 1 : Nat) : Int) := Int.mul_le_mul_of_nonneg_right hle (by omega)
  omega
theorem Lp.end_ {ts : List Int} {E rest : Int} (h : Lp ts E ts.length rest) (hE : E ≤ ts.sum) : ts = [] := by
 cases ts with
 | nil => rfl
 | cons x r =>
  have h1 := h.l x (by rw [List.take_length]; exact List.mem_cons_self)
  have h2 := h.r
  rw [List.take_length] at h2
  rw [Int.sub_self, Int.mul_zero] at h1
  omega
theorem sm_le_const {q : Rat} : ∀ {l : List Rat}, (∀ t ∈ l, t ≤ q) → sm (l.map (mn · q)) = sm l
 | [], _ => rfl
 | x :: r, h => by
  show mn x q + sm (r.map (mn · q)) = x + sm r
  rw [sm_le_const fun y hy => h y (List.mem_cons_of_mem _ hy), mn_l (h x List.mem_cons_self)]
theorem sm_ge_const {q : Rat} : ∀ {l : List Rat}, (∀ t ∈ l, q ≤ t) → sm (l.map (mn · q)) = q * (l.length : Nat)
 | [], _ => by show (0 : Rat) = q * (0 : Nat); grind
 | x :: r, h => by
  show mn x q + sm (r.map (mn · q)) = q * ((r.length + 1 : Nat) : Rat)
  rw [sm_ge_const fun y hy => h y (List.mem_cons_of_mem _ hy), mn_r (h x List.mem_cons_self), Rat.natCast_add]
  grind
theorem sm_int (l : List Int) : sm (l.map fun (t : Int) => (t : Rat)) = ((l.sum : Int) : Rat) := by
 induction l with
 | nil => rfl
 | cons x r ih => show (x : Rat) + sm _ = ((List.sum (x :: r) : Int) : Rat); rw [ih, List.sum_cons, Rat.intCast_add]
theorem Lp.out {ts : List Int} {E rest x : Int} {i : Nat} (hs : ts.Pairwise (· ≤ ·)) (h0 : ∀ t ∈ ts, 0 ≤ t) (hE0 : 0 ≤ E) (h : Lp ts E i rest) (hx : ts[i]? = some x) (hr : rest ≤ x * (ts.length - i : Int)) :
  0 ≤ rest ∧ (0 : Int) < ts.length - i ∧ sm (ts.map fun (t : Int) => mn (t : Rat) (rt rest (ts.length - i))) = (E : Rat) ∧ rt rest (ts.length - i) ≤ (x : Rat) := by
 have hi := (List.getElem?_eq_some_iff.mp hx).1
 have hN : (0 : Int) < ts.length - i := by omega
 have hr0 : 0 ≤ rest := by
  cases i with
  | zero => have := h.r; simp at this; omega
  | succ j =>
   have hm : ts[j]'(by omega) ∈ ts.take (j + 1) := by
    rw [List.mem_take_iff_getElem]
    exact ⟨j, by omega, rfl⟩
   have := h.l _ hm
   have h2 := h0 _ (List.mem_of_mem_take hm)
   have := Int.mul_nonneg h2 (Int.le_of_lt hN)
   omega
 generalize hq : rt rest (ts.length - i : Int) = q
 have hqm : q * ((ts.length - i : Int) : Rat) = (rest : Rat) := by rw [← hq]; exact rt_mul_self hN
 have up : q ≤ (x : Rat) := by
  have e : (x : Rat) = rt (x * (ts.length - i : Int)) (ts.length - i) := rt_of_mul hN (by rw [Rat.intCast_mul])
  rw [e, ← hq]
  exact rt_le hN hr
 refine ⟨hr0, hN, ?_, up⟩
 have lo : ∀ t ∈ (ts.take i).map (fun (t : Int) => (t : Rat)), t ≤ q := by
  intro t ht
  obtain ⟨m, hm, rfl⟩ := List.mem_map.mp ht
  have := h.l m hm
  have e : (m : Rat) = rt (m * (ts.length - i : Int)) (ts.length - i) := rt_of_mul hN (by rw [Rat.intCast_mul])
  rw [e, ← hq]
  exact rt_le hN (by omega)
 have hi2 : ∀ t ∈ (ts.drop i).map (fun (t : Int) => (t : Rat)), q ≤ t := by
  intro t ht
  obtain ⟨m, hm, rfl⟩ := List.mem_map.mp ht
  have : x ≤ m := drop_mem_ge hs hx m hm
  have : (x : Rat) ≤ (m : Rat) := by exact_mod_cast this
  grind
 have e1 : (ts.map fun (t : Int) => mn (t : Rat) q) = ((ts.take i).map (fun (t : Int) => (t : Rat))).map (mn · q) ++ ((ts.drop i).map (fun (t : Int) => (t : Rat))).map (mn · q) := by
  rw [List.map_map, List.map_map, ← List.map_append, List.take_append_drop]
  rfl
 rw [e1, sm_app, sm_le_const lo, sm_ge_const hi2, sm_int, List.length_map, List.length_drop]
 have e2 : (((ts.length - i : Nat) : Nat) : Rat) = ((ts.length - i : Int) : Rat) := by
  have : ((ts.length - i : Nat) : Int) = (ts.length - i : Int) := by omega
  rw [← this]
  rfl
 rw [e2, hqm, h.r, Rat.intCast_sub]
 grind
theorem Gain.of_tops {cs : List Rat} {ts tps : List Int} {B E rest x : Int} {e : Rat} {i : Nat} (hB : 0 < B) (hp : ts.Perm tps) (ht : tps.map (fun (t : Int) => (t : Rat)) = cs.map (· * (B : Rat))) (he : (E : Rat) = e * (B : Rat)) (hs : ts.Pairwise (· ≤ ·)) (h0 : ∀ c ∈ cs, 0 ≤ c) (hE0 : 0 ≤ e)
  (h : Lp ts E i rest) (hx : ts[i]? = some x) (hr : rest ≤ x * (ts.length - i : Int)) : 0 ≤ rest ∧ (0 : Int) < ts.length - i ∧ Gain cs e (rt rest (B * (ts.length - i))) := by
 have hBr := rt_pos hB
 have t0 : ∀ t ∈ tps, 0 ≤ t := by
  intro t htm
  have : (t : Rat) ∈ cs.map (· * (B : Rat)) := by rw [← ht]; exact List.mem_map_of_mem htm
  obtain ⟨c, hc, e1⟩ := List.mem_map.mp this
  have := Rat.mul_nonneg (h0 c hc) (Rat.le_of_lt hBr)
  rw [e1] at this
  exact_mod_cast this
 have E0 : 0 ≤ E := by
  have := Rat.mul_nonneg hE0 (Rat.le_of_lt hBr)
  rw [← he] at this
  exact_mod_cast this
 obtain ⟨r0, N0, s1, u1⟩ := h.out hs (fun t htm => t0 t (hp.mem_iff.mp htm)) E0 hx hr
 refine ⟨r0, N0, ?_⟩
 have hBN : 0 < B * (ts.length - i : Int) := Int.mul_pos hB N0
 have eq : rt rest (B * (ts.length - i)) * (B : Rat) = rt rest (ts.length - i) := by
  have h1 := rt_mul_self (n := rest) hBN
  rw [Rat.intCast_mul] at h1
  refine rt_of_mul N0 ?_
  rw [Rat.mul_assoc]
  exact h1
 generalize rt rest (B * (ts.length - i)) = g at eq
 generalize rt rest (ts.length - i : Int) = q at s1 u1 eq
 refine ⟨?_, ?_, ?_⟩
 ·have q0 : 0 ≤ q * ((ts.length - i : Int) : Rat) ∨ True := .inr trivial
  by_cases hg : 0 ≤ g
  ·exact hg
  ·exfalso
   have hneg : g < 0 := by grind
   have h3 : q < 0 := by
    rw [← eq]
    have := Rat.mul_lt_mul_of_pos_right hneg hBr
    grind
   -- each part is below 0 then, so is the sum
   have : ∀ l : List Int, sm (l.map fun (t : Int) => mn (t : Rat) q) ≤ 0 ∧ (l ≠ [] → sm (l.map fun (t : Int) => mn (t : Rat) q) < 0) := fun l => by
    induction l with
    | nil => exact ⟨Rat.le_refl, fun z => absurd rfl z⟩
    | cons y r ih =>
     have := mn_le_r (x := (y : Rat)) (y := q)
     have e5 : sm ((y :: r).map fun (t : Int) => mn (t : Rat) q) = mn (y : Rat) q + sm (r.map fun (t : Int) => mn (t : Rat) q) := rfl
     rw [e5]
     exact ⟨by grind, fun _ => by grind⟩
   have h4 := (this ts).2 (by intro z; rw [z] at hx; cases hx)
   rw [s1] at h4
   have : (0 : Rat) ≤ (E : Rat) := by exact_mod_cast E0
   grind
 ·have e1 : sm (tps.map fun (t : Int) => mn (t : Rat) q) = (E : Rat) := by
   rw [← s1]
   exact sm_perm ((hp.map _).symm)
  have e2 : (tps.map fun (t : Int) => mn (t : Rat) q) = (cs.map (mn · g)).map (· * (B : Rat)) := by
   have : (tps.map fun (t : Int) => mn (t : Rat) q) = (tps.map (fun (t : Int) => (t : Rat))).map (mn · q) := by rw [List.map_map]; rfl
   rw [this, ht, List.map_map, List.map_map]
   apply List.map_congr_left
   intro c _
   show mn (c * (B : Rat)) q = mn c g * (B : Rat)
   rw [← eq, mn_mul hBr]
  rw [e2, sm_mul, he] at e1
  have hb : (B : Rat) ≠ 0 := by grind
  grind
 ·intro u hu hc
  have hxm : (x : Rat) ∈ cs.map (· * (B : Rat)) := by
   rw [← ht]
   exact List.mem_map_of_mem (hp.mem_iff.mp (List.mem_of_getElem? hx))
  obtain ⟨c, hcm, e3⟩ := List.mem_map.mp hxm
  have e3' : c * (B : Rat) = (x : Rat) := e3
  have h4 := hc c hcm
  rw [← eq, ← e3'] at u1
  have h5 : g ≤ c := by
   by_cases z : g ≤ c
   ·exact z
   ·have : c < g := by grind
    have := Rat.mul_lt_mul_of_pos_right this hBr
    grind
  grind
theorem lvl_int {rest B D N : Int} {g : Rat} (hB : 0 < B) (hD : 0 < D) (hBD : B ∣ D) (h1 : 1 ≤ N) (h8 : N ≤ 8) (hg : rt rest (B * N) = g) : ∃ m : Int, g * ((840 * D : Int) : Rat) = (m : Rat) := by
 obtain ⟨k, rfl⟩ := hBD
 obtain ⟨j, hj⟩ : ∃ j : Int, N * j = 840 := by
  rcases (show N = 1 ∨ N = 2 ∨ N = 3 ∨ N = 4 ∨ N = 5 ∨ N = 6 ∨ N = 7 ∨ N = 8 by omega) with rfl | rfl | rfl | rfl | rfl | rfl | rfl | rfl
  ·exact ⟨840, rfl⟩
  ·exact ⟨420, rfl⟩
  ·exact ⟨280, rfl⟩
  ·exact ⟨210, rfl⟩
  ·exact ⟨168, rfl⟩
  ·exact ⟨140, rfl⟩
  ·exact ⟨120, rfl⟩
  ·exact ⟨105, rfl⟩
 refine ⟨rest * k * j, ?_⟩
 have h := rt_mul_self (n := rest) (D := B * N) (Int.mul_pos hB (by omega))
 rw [hg] at h
 have e : (840 * (B * k) : Int) = (B * N) * (k * j) := by rw [← hj]; ac_rfl
 rw [e, Rat.intCast_mul, ← Rat.mul_assoc, h, Rat.intCast_mul, Rat.intCast_mul, Rat.intCast_mul]
 grind
theorem Gain.ov {cs : List Rat} {e g : Rat} {D : Int} {M : Nat} (h : Gain cs e g) (hD : 0 < D) (ho : ∀ c ∈ cs, Ov D M c) (hm : ∃ m : Int, g * ((840 * D : Int) : Rat) = (m : Rat)) : Ov (840 * D) (840 * M) g := by
 obtain ⟨m, hm⟩ := hm
 have h84 : (0 : Int) < 840 * D := by omega
 have e1 := rt_of_mul h84 hm
 refine ⟨m, e1, ?_⟩
 have up : g ≤ rt M D := h.top _ ((rt_nonneg hD).mpr (by omega)) fun c hc => by
  obtain ⟨n, rfl, hn⟩ := ho c hc
  exact rt_le hD (by omega)
 have e2 : rt M D = rt (840 * M) (840 * D) := by
  refine rt_of_mul h84 ?_
  have := rt_mul_self (n := M) hD
  rw [Rat.intCast_mul, Rat.intCast_mul]
  grind
 have h0 := h.g0
 rw [e1] at h0 up
 rw [e2] at up
 have a1 := (rt_nonneg h84).mp h0
 have a2 := (rt_le_iff h84).mp up
 omega
theorem Gain.none {e : Rat} (h : e = 0) : Gain [] e 0 := ⟨Rat.le_refl, h.symm, fun u hu _ => hu⟩
end Lr
namespace L2
open PySem PySem.Spec PyProof.Rows
variable {K : PySem.W.Frag}
theorem RatL.sq {H : Hp} {a : Addr} {xs : List Rat} (h : RatL K H a xs) : ∃ vs, SqL K H a vs ∧ RatsV K H vs xs ∧ H a = some (.lst vs) := let ⟨vs, e, r⟩ := h; ⟨vs, SqL.of e, r, e⟩
theorem RatL.new {H H' : Hp} {a : Addr} {vs : List V} {xs : List Rat} (n : New H a (.lst vs) H') (r : RatsV K H vs xs) : RatL K H' a xs := ⟨vs, n.at_, r.ts n.ts⟩
theorem comp_RI {a D : Addr} {vs : List V} {xs : List Rat} {caps : St} {te : CB → TE} {Q : VK} {H1 H2 : Hp} (f : Rat → Int) (n : New H1 D (.lst []) H2) (hL : H1 a = some (.lst vs)) (hr : RatsV K H1 vs xs) (hlen : xs.length ≤ 1000000)
  (hte : ∀ x ∈ xs, ∀ u z H', RatV K H' u x → ∀ R : VK, R (.int (f x)) H' → te z (some u :: caps) H' R) (hq : ∀ H', New H1 D (.lst ((xs.map f).map V.int)) H' → Q (.ref D) H') :
  CompGo (Itl K a) D caps te Q H2 := by
 refine comp_list (xs := vs) (fun i ys H' => ys = ((xs.take i).map f).map V.int ∧ New H1 D (.lst ys) H') ⟨rfl, n⟩ (fun i ys H' _ h => SqL.of (h.2.same _ _ hL)) ?_ ?_
 ·rintro i u ys H' z hu ⟨rfl, hn⟩
  obtain ⟨x, hx, hv⟩ := hr.get hu
  refine hte x (List.mem_of_getElem? hx) u z H' (hv.same hn.same) _ ⟨hn.at_, ?_, fun H4 c => ⟨?_, Chg.new hn c⟩⟩
  ·rw [List.length_map, List.length_map, List.length_take]
   omega
  ·rw [List.take_add_one, hx, List.map_append, List.map_append]
   rfl
 ·rintro ys H' ⟨rfl, hn⟩
  rw [hr.len, List.take_length] at hn
  exact hq H' hn
theorem comp_RR {a D : Addr} {xs : List Rat} {caps : St} {te : CB → TE} {Q : VK} {H1 H2 : Hp} (f : Rat → Rat) (n : New H1 D (.lst []) H2) (hL : RatL K H1 a xs) (hlen : xs.length ≤ 1000000)
  (hte : ∀ x ∈ xs, ∀ u z H', Same H1 H' → RatV K H' u x → ∀ R : VK, (∀ v H3, Same H' H3 → RatV K H3 v (f x) → R v H3) → te z (some u :: caps) H' R) (hq : ∀ H', Same H1 H' → RatL K H' D (xs.map f) → H1 D = none → Q (.ref D) H') :
  CompGo (Itl K a) D caps te Q H2 := by
 obtain ⟨vs, hs, hr, e⟩ := hL.sq
 refine comp_rats (xs := xs.map f) n hs (by rw [hr.len]; exact hlen) (by rw [List.length_map]; exact hr.len) (fun j u y hu hy z H' s R k => ?_) hq
 rw [List.getElem?_map] at hy
 obtain ⟨x, hx, rfl⟩ := Option.map_eq_some_iff.mp hy
 exact hte x (List.mem_of_getElem? hx) u z H' s ((hr.at_ j u x hu hx).same s) R k
theorem comp_by2 {J : It} {D : Addr} {caps : St} {te : CB → TE} {Q : VK} {H2 : Hp} (n : Nat) (Pv : Nat → List V → Hp → Prop) (h0 : Pv 0 [] H2)
  (hgo : ∀ i ys H, i < n → Pv i ys H → J.go i H) (hst : ∀ ys H, Pv n ys H → J.stop n H)
  (hs : ∀ i ys H x H' z, i < n → Pv i ys H → J.yld i H x H' → ∃ a v1 v2, x = .ref a ∧ SqT K H' a [v1, v2] ∧ te z (some v1 :: some v2 :: caps) H' (Onto D ys (Pv (i + 1)))) (hd : ∀ ys H, Pv n ys H → Q (.ref D) H) :
  CompGo2 K J D caps te Q H2 := by
 refine ⟨fun i m ys H => m = n - i ∧ i ≤ n ∧ Pv i ys H, ⟨n, by simp, Nat.zero_le _, h0⟩, ?_⟩
 rintro i m ys H ⟨rfl, hi, p⟩
 by_cases hlt : i < n
 ·refine .inr ⟨hgo i ys H hlt p, fun x H' y z => ?_⟩
  obtain ⟨a, v1, v2, e, hq, h⟩ := hs i ys H x H' z hlt p y
  refine ⟨a, v1, v2, e, hq, ?_⟩
  rw [onto_eq hlt Pv]
  exact h
 ·obtain rfl : i = n := by omega
  exact .inl ⟨hst ys H p, hd ys H p⟩
theorem comp_zipR {a b D : Addr} {xs ys : List Rat} {caps : St} {te : CB → TE} {Q : VK} {H1 H2 : Hp} (f : Rat → Rat → Rat) (n : New H1 D (.lst []) H2) (hA : RatL K H1 a xs) (hB : RatL K H1 b ys) (hlen : xs.length ≤ 1000000) (hl : ys.length = xs.length)
  (hte : ∀ x ∈ xs, ∀ y ∈ ys, ∀ u v z H', Same H1 H' → RatV K H' u x → RatV K H' v y → ∀ R : VK, (∀ v H3, Same H' H3 → RatV K H3 v (f x y) → R v H3) → te z (some u :: some v :: caps) H' R)
  (hq : ∀ H', Same H1 H' → RatL K H' D (List.zipWith f xs ys) → H1 D = none → Q (.ref D) H') :
  CompGo2 K (Itz K a b) D caps te Q H2 := by
 obtain ⟨vs, hs, hr, e⟩ := hA.sq
 obtain ⟨ws, hs', hr', e'⟩ := hB.sq
 refine comp_by2 xs.length (fun i zs H' => Same H1 H' ∧ H' D = some (.lst zs) ∧ RatsV K H' zs ((List.zipWith f xs ys).take i)) ⟨n.same, n.at_, .nil⟩ ?_ ?_ ?_ ?_
 ·rintro i zs H' hi ⟨s, -, -⟩
  have h1 : i < vs.length := by rw [hr.len]; exact hi
  have h2 : i < ws.length := by rw [hr'.len]; omega
  exact ⟨vs, _, ws, _, s.seq hs, List.getElem?_eq_getElem h1, s.seq hs', List.getElem?_eq_getElem h2⟩
 ·rintro zs H' ⟨s, -, -⟩
  exact ⟨vs, ws, s.seq hs, s.seq hs', .inl (by rw [hr.len]; exact Nat.le_refl _)⟩
 ·rintro i zs H' x H3 z hi ⟨s, hD, hz⟩ ⟨p, v, w, rfl, np, hv, hw⟩
  have hv' := hv vs (s.seq hs)
  have hw' := hw ws (s.seq hs')
  obtain ⟨x1, hx1, rx⟩ := hr.get hv'
  obtain ⟨y1, hy1, ry⟩ := hr'.get hw'
  have s3 := s.trans np.same
  refine ⟨p, v, w, rfl, SqT.of np.at_, ?_⟩
  refine hte x1 (List.mem_of_getElem? hx1) y1 (List.mem_of_getElem? hy1) v w z H3 s3 (rx.same s3) (ry.same s3) _ fun u H4 s4 r4 => ⟨s4 _ _ (np.same _ _ hD), ?_, fun H5 c => ⟨c.same (s3.trans s4) n.fr, c.at_, ?_⟩⟩
  ·rw [hz.len, List.length_take]
   omega
  ·have t := c.ts (s4 _ _ (np.same _ _ hD))
   have hxy : (List.zipWith f xs ys)[i]? = some (f x1 y1) := by
    rw [List.getElem?_zipWith, hx1, hy1]
   rw [List.take_add_one, hxy]
   exact (((hz.ts np.same.ts).ts s4.ts).ts t).snoc (r4.ts t)
 ·rintro zs H' ⟨s, hD, hz⟩
  rw [List.take_of_length_le (by rw [List.length_zipWith]; omega)] at hz
  exact hq H' s ⟨zs, hD, hz⟩ n.fr
theorem RatL.at {H : Hp} {a : Addr} {xs : List Rat} (h : RatL K H a xs) {k : Int} (h0 : 0 ≤ k) (hk : k < xs.length) : ∃ vs v x, SqL K H a vs ∧ L2.atI vs k = some v ∧ xs[k.toNat]? = some x ∧ RatV K H v x := by
 obtain ⟨vs, hs, hr, e⟩ := h.sq
 obtain ⟨v, x, h1, h2, h3⟩ := hr.atI h0 hk
 exact ⟨vs, v, x, hs, h1, h2, h3⟩
end L2
namespace Lr
@[elab_as_elim] theorem snocInd {α : Type} {P : List α → Prop} (nil : P []) (append_singleton : ∀ l c, P l → P (l ++ [c])) (l : List α) : P l := by
 have key : ∀ r : List α, P r.reverse := fun r => by
  induction r with
  | nil => exact nil
  | cons x r ih => rw [List.reverse_cons]; exact append_singleton _ _ ih
 have := key l.reverse
 rw [List.reverse_reverse] at this
 exact this
noncomputable def fact : Nat → Nat | 0 => 1 | n + 1 => (n + 1) * fact n
theorem fact_pos : ∀ n, 0 < fact n
 | 0 => Nat.one_pos
 | n + 1 => Nat.mul_pos (Nat.succ_pos n) (fact_pos n)
noncomputable def grpS (gs : List (Int × Nat)) (c : Int) : List (Int × Nat) := gs ++ gs.map fun p => (p.1 + c, p.2 + 1)
noncomputable def grp (ts : List Int) : List (Int × Nat) := ts.foldl grpS [(0, 0)]
theorem grp_snoc (ts : List Int) (c : Int) : grp (ts ++ [c]) = grpS (grp ts) c := by unfold grp; rw [List.foldl_append]; rfl
theorem grp_nil : grp [] = [(0, 0)] := rfl
theorem grp_size {ts : List Int} : ∀ p ∈ grp ts, p.2 ≤ ts.length := by
 induction ts using snocInd with
 | nil => intro p hp; rw [grp_nil] at hp; simp at hp; rw [hp]; exact Nat.le_refl _
 | append_singleton l c ih =>
  intro p hp
  rw [grp_snoc] at hp
  rw [List.length_append]
  rcases List.mem_append.mp hp with h | h
  ·have := ih p h; simp; omega
  ·obtain ⟨q, hq, rfl⟩ := List.mem_map.mp h
   have := ih q hq; simp; omega
theorem grp_len {ts : List Int} : (grp ts).length = 2 ^ ts.length := by
 induction ts using snocInd with
 | nil => rfl
 | append_singleton l c ih =>
  rw [grp_snoc, grpS, List.length_append, List.length_map, ih, List.length_append, List.length_singleton, Nat.pow_succ]
  omega
noncomputable def tk (c e t : Int) : Int := min c (max (e - t) 0)
noncomputable def wt (n s : Nat) : Int := (fact s : Int) * (fact (n - s) : Int)
noncomputable def tv (c : Int) (ts : List Int) (e : Int) : Int := ((grp ts).map fun p => wt ts.length p.2 * tk c e p.1).sum
theorem grp_mul (l : Int) (ts : List Int) : grp (ts.map (· * l)) = (grp ts).map fun p => (p.1 * l, p.2) := by
 induction ts using snocInd with
 | nil => simp [grp_nil]
 | append_singleton r c ih =>
  rw [List.map_append, List.map_singleton, grp_snoc, grp_snoc, ih]
  unfold grpS
  rw [List.map_append, List.map_map, List.map_map]
  congr 1
  apply List.map_congr_left
  intro p _
  show (p.1 * l + c * l, p.2 + 1) = ((p.1 + c) * l, p.2 + 1)
  rw [Int.add_mul]
theorem tk_mul {l : Int} (hl : 0 < l) (c e t : Int) : tk (c * l) (e * l) (t * l) = tk c e t * l := by
 unfold tk
 have h1 : max (e * l - t * l) 0 = max (e - t) 0 * l := by
  rw [← Int.sub_mul]
  rcases Int.lt_or_le (e - t) 0 with h | h
  ·rw [Int.max_eq_right (Int.le_of_lt (Int.mul_neg_of_neg_of_pos h hl)), Int.max_eq_right (Int.le_of_lt h), Int.zero_mul]
  ·rw [Int.max_eq_left h, Int.max_eq_left (Int.mul_nonneg h (by omega))]
 rw [h1]
 generalize max (e - t) 0 = m
 rcases Int.le_total c m with h | h
 ·rw [Int.min_eq_left h, Int.min_eq_left (Int.mul_le_mul_of_nonneg_right h (by omega))]
 ·rw [Int.min_eq_right h, Int.min_eq_right (Int.mul_le_mul_of_nonneg_right h (by omega))]
theorem isum_mul (l : Int) (xs : List Int) : (xs.map (· * l)).sum = xs.sum * l := by
 induction xs with
 | nil => simp
 | cons x r ih => rw [List.map_cons, List.sum_cons, List.sum_cons, ih, Int.add_mul]
theorem tv_mul {l : Int} (hl : 0 < l) (c : Int) (ts : List Int) (e : Int) : tv (c * l) (ts.map (· * l)) (e * l) = tv c ts e * l := by
 unfold tv
 rw [grp_mul, List.map_map, ← isum_mul, List.map_map, List.length_map]
 congr 1
 apply List.map_congr_left
 intro p _
 show wt ts.length p.2 * tk (c * l) (e * l) (p.1 * l) = wt ts.length p.2 * tk c e p.1 * l
 rw [tk_mul hl, Int.mul_assoc]
noncomputable def tn (ts : List Int) (e : Int) (i : Nat) : Int := tv (ts.getD i 0) (ts.eraseIdx i) e
theorem tn_mul {l : Int} (hl : 0 < l) (ts : List Int) (e : Int) (i : Nat) : tn (ts.map (· * l)) (e * l) i = tn ts e i * l := by
 unfold tn
 rw [← tv_mul hl]
 congr 1
 ·rw [List.getD_eq_getElem?_getD, List.getD_eq_getElem?_getD, List.getElem?_map]
  cases ts[i]? <;> simp
 ·rw [List.eraseIdx_eq_take_drop_succ, List.eraseIdx_eq_take_drop_succ, List.map_append, List.map_take, List.map_drop]
structure TurnAt (cs : List Rat) (e : Rat) (i : Nat) (p : Rat) : Prop where
 ex : ∀ (D : Int) (ts : List Int) (E : Int), 0 < D → ts.map (fun t => rt t D) = cs → rt E D = e → p = rt (tn ts E i) (D * (fact cs.length : Int))
theorem turnAt_mk {cs : List Rat} {e : Rat} {B E : Int} {ts : List Int} (hB : 0 < B) (ht : ts.map (fun t => rt t B) = cs) (hE : rt E B = e) (i : Nat) : TurnAt cs e i (rt (tn ts E i) (B * (fact cs.length : Int))) := by
 refine ⟨fun D ts' E' hD ht' hE' => ?_⟩
 have hf : (0 : Int) < (fact cs.length : Int) := by have := fact_pos cs.length; omega
 -- both over B * D
 have h1 : ts.map (· * D) = ts'.map (· * B) := by
  have hl : ts.length = ts'.length := by rw [← ht] at ht'; have := congrArg List.length ht'; simpa using this.symm
  refine List.ext_getElem (by simpa using hl) fun j a b => ?_
  rw [List.getElem_map, List.getElem_map]
  have a' : j < ts.length := by simpa using a
  have b' : j < ts'.length := by simpa using b
  have e1 : rt ts[j] B = rt ts'[j] D := by
   have : (ts.map fun t => rt t B)[j]? = (ts'.map fun t => rt t D)[j]? := by rw [ht, ht']
   rw [List.getElem?_map, List.getElem?_map, List.getElem?_eq_getElem a', List.getElem?_eq_getElem b'] at this
   simpa using this
  exact (Rat.divInt_eq_divInt_iff (by omega) (by omega)).mp e1
 have h2 : E * D = E' * B := (Rat.divInt_eq_divInt_iff (by omega) (by omega)).mp (hE.trans hE'.symm)
 have h3 : tn ts E i * D = tn ts' E' i * B := by rw [← tn_mul hD, ← tn_mul hB, h1, h2]
 refine (Rat.divInt_eq_divInt_iff (by have := Int.mul_pos hB hf; omega) (by have := Int.mul_pos hD hf; omega)).mpr ?_
 calc tn ts E i * (D * (fact cs.length : Int)) = tn ts E i * D * (fact cs.length : Int) := by rw [Int.mul_assoc]
  _ = tn ts' E' i * B * (fact cs.length : Int) := by rw [h3]
  _ = tn ts' E' i * (B * (fact cs.length : Int)) := by rw [Int.mul_assoc]
end Lr
namespace Lr
noncomputable def ins (x : Nat) : List Nat → List (List Nat)
 | [] => [[x]]
 | y :: r => (x :: y :: r) :: (ins x r).map (y :: ·)
section
variable (t : Nat → Int)
noncomputable def la (F : Int → Nat → Int) : Int → Nat → List Nat → Int
 | s, p, [] => F s p
 | s, p, y :: r => F s p + la F (s + t y) (p + 1) r
end
end Lr
namespace Lr
inductive Rl where
 | sh : Rl
 | ga : Rl
 | lo : Rl
 | ha : Rl
 | tu : Rl
noncomputable abbrev hv (c : Rat) : Rat := c * rt 1 2
noncomputable def Turns (cs : List Rat) (e : Rat) (ps : List Rat) : Prop := ps.length = cs.length ∧ ∀ (i : Nat) p, ps[i]? = some p → TurnAt cs e i p
noncomputable def RlR : Rl → List Rat → Rat → List Rat → Prop
 | .sh => fun cs e ps => ps = cs.map fun c => if sm cs = 0 then 0 else c * (e / sm cs)
 | .ga => fun cs e ps => ∃ g, Gain cs e g ∧ ps = cs.map (mn · g)
 | .lo => fun cs e ps => ∃ g, Gain cs (sm cs - e) g ∧ ps = cs.map fun c => c - mn c g
 | .ha => fun cs e ps => (e ≤ sm cs - e ∧ ∃ g, Gain (cs.map (· * rt 1 2)) e g ∧ ps = cs.map fun c => mn (c * rt 1 2) g) ∨ (sm cs - e < e ∧ ∃ g, Gain (cs.map (· * rt 1 2)) (sm cs - e) g ∧ ps = cs.map fun c => c - mn (c * rt 1 2) g)
 | .tu => Turns
theorem rt_wide' {t m ba : Int} (hb : 0 < ba) (hm : 0 < m) : rt t ba = rt (m * t) (ba * m) := by
 refine rt_of_mul (Int.mul_pos hb hm) ?_
 have := rt_mul_self (n := t) hb
 rw [Rat.intCast_mul, Rat.intCast_mul, ← this]
 grind
theorem RlR.len {ρ : Rl} {cs : List Rat} {e : Rat} {ps : List Rat} (h : RlR ρ cs e ps) : ps.length = cs.length := by
 cases ρ with
 | sh => rw [show ps = _ from h, List.length_map]
 | ga => obtain ⟨g, G, rfl⟩ := h; rw [List.length_map]
 | lo => obtain ⟨g, G, rfl⟩ := h; rw [List.length_map]
 | ha => rcases h with ⟨l, g, G, rfl⟩ | ⟨l, g, G, rfl⟩ <;> rw [List.length_map]
 | tu => exact h.1
end Lr
namespace Lr
end Lr
namespace Lr
theorem er_map {α β : Type} {f : α → β} {l : List α} {i : Nat} : (l.map f).eraseIdx i = (l.eraseIdx i).map f := by
 rw [List.eraseIdx_eq_take_drop_succ, List.eraseIdx_eq_take_drop_succ, List.map_append, List.map_take, List.map_drop]
end Lr
namespace Lr
noncomputable abbrev cut (cs : List Rat) (e : Rat) : List Rat := cs.map (mn · e)
end Lr
namespace PySem
open Sem (wp)
section
variable {prog : Program} {w : World} {A : Around} {Rs : Result → Shared → Prop} {ir : Addr} {fo wo : List Addr} {n : Nat} {P : Nat → Value → Prop} {St : Nat → Heap → Prop}
end
section
variable {prog : Program} {w : World} {A : Around} {E : Value → Shared → Prop} {sh : Shared}
end
end PySem
namespace L2
open PySem PySem.Spec PyProof.Rows
section
variable {X : Cx}
theorem vals_by : ∀ {xs : List V} {us : List Value}, xs.length = us.length → (∀ (j : Nat) x u, xs[j]? = some x → us[j]? = some u → RelV x u) → Vals xs us
 | [], [], _, _ => .nil
 | x :: xs, u :: us, hl, h => .cons (h 0 x u rfl rfl) (vals_by (by simpa using hl) fun j y v hy hv => h (j + 1) y v hy hv)
noncomputable def tListRange (ta : TA) : TE := fun σ H Q => ta σ H fun vs H1 => match vs with
 | [.int j] => 0 ≤ j ∧ j ≤ 1000000 ∧ ∀ l H', New H1 l (.lst ((List.range j.toNat).map fun (i : Nat) => V.int (i : Int))) H' → Q (.ref l) H'
 | _ => False
theorem pe_listRange {a : Expr} {ta : TA} {p p2 pos pos2 : Pos} (hgl : Gl X "list") (hml : X.mg "list" = none) (hgr : Gl X "range") (hmr : X.mg "range" = none) (ha : PA X [a] ta) (hc : X.calm = true := by rfl)
  (hs : starEach [a] X.env = [(false, eval a X.env)] := by rfl) (hs2 : starEach [.Call (.Name "range" p2) [a] [] pos2] X.env = [(false, eval (.Call (.Name "range" p2) [a] [] pos2) X.env)] := by rfl) :
  PE X (.Call (.Name "list" p) [.Call (.Name "range" p2) [a] [] pos2] [] pos) (tListRange ta) := by
 intro pins s σ H Q I h
 refine wpAny_Call_Name_kw (ld_blt I hgl hml boot_list (PyProof.Rows.callWith_type1 ?_ hs2 rfl))
 rw [hs2]
 show wpAny _ _ (spliced [(false, eval (.Call (.Name "range" p2) [a] [] pos2) X.env)]) _ _ s
 refine Calls.spliced_cons ?_
 refine Call_ (ld_blt I hgr hmr boot_range (PyProof.Rows.callWith_type1 (thn (ha pos2 pins s σ H _ I h) fun us s1 ⟨vs, H1, I1, r1, q1⟩ => ?_) hs rfl))
 dsimp only at q1
 split at q1
 ·rename_i j
  obtain ⟨j0, j1, q⟩ := q1
  obtain ⟨u, rfl, ru⟩ := vals1 r1
  obtain ⟨t, rfl⟩ := ru
  refine call_range_1 ?_
  refine Calls.spliced_nil ?_
  have k2 : ∀ b o, s1.heap.get? b = some o → (s1.heap.push { cls := .type "range", data := .fields #[.int 0 s1.toks, .int j t, .int 1 (s1.toks + 1)] }).get? b = some o := fun b o e => Heap.get?_push_of_some _ e
  have hn : Builtin.Range.rangeSize 0 j 1 = (j.toNat : Int) := by rw [rangeSize_one]; split <;> omega
  have I2 : Inv X pins σ H1 { s1 with heap := s1.heap.push { cls := .type "range", data := .fields #[.int 0 s1.toks, .int j t, .int 1 (s1.toks + 1)] }, toks := s1.toks + 1 + 1 } := I1.kept k2
  refine call_list_range (n := j.toNat) (I.ok.hd hc) (IsRange.new ..) (small_one (by decide) (by decide) (by omega) (by omega)) hn (by omega) fun h' tk acc c hk hat hit => ?_
  generalize ({ s1 with heap := s1.heap.push { cls := .type "range", data := .fields #[.int 0 s1.toks, .int j t, .int 1 (s1.toks + 1)] }, toks := s1.toks + 1 + 1 } : Shared) = s2 at I2 hk hat ⊢
  have fD : H1 s2.heap.objs.size = none := I2.hok.fresh (Nat.le_refl _)
  have rv : Vals ((List.range j.toNat).map fun (i : Nat) => V.int (i : Int)) acc.toList := by
   refine vals_by (by rw [List.length_map, List.length_range, Array.length_toList]; exact hit.1.symm) fun i x u hx hu => ?_
   rw [List.getElem?_map] at hx
   obtain ⟨m, hm, rfl⟩ := Option.map_eq_some_iff.mp hx
   obtain ⟨t', e⟩ := hit.2 i u (by rw [← Array.getElem?_toList]; exact hu)
   have hmi : m = i := by
    have := (List.getElem?_eq_some_iff.mp hm).2
    rw [List.getElem_range] at this
    exact this.symm
   subst hmi
   exact ⟨t', by rw [e]; congr 1; omega⟩
  refine ⟨.ref s2.heap.objs.size, upd H1 s2.heap.objs.size (.lst ((List.range j.toNat).map fun (i : Nat) => V.int (i : Int))), ?_, rfl, q _ _ (.mk' fD)⟩
  refine I2.laid (t' := tk) hk (Nat.le_refl _) ⟨?_, acc.toList, c, rv, by simpa using hat⟩
  rw [List.length_map, List.length_range]
  have : (1000000 : Nat) ≤ sizeLine := by decide
  omega
 ·exact q1.elim
end
end L2
namespace PySem
open Sem (wp)
namespace F
end F
section
variable {prog : Program} {w : World} {A : Around} {E : Value → Shared → Prop} {s : Shared}
end
end PySem
namespace L2
open PySem PySem.Spec PyProof.Rows
section
variable {X : Cx}
end
end L2
namespace L2
open PySem PySem.Spec PyProof.Rows
variable {K : PySem.W.Frag}
noncomputable def PaV (K : PySem.W.Frag) (H : Hp) (v : V) (p : Int × Nat) : Prop := ∃ a, v = .ref a ∧ H a = some (.tup [.int p.1, .int (p.2 : Int)])
theorem PaV.ts {H H' : Hp} {v : V} {p : Int × Nat} (s : TpS H H') (h : PaV K H v p) : PaV K H' v p := let ⟨a, e, g⟩ := h; ⟨a, e, s a _ g⟩
structure PasV (K : PySem.W.Frag) (H : Hp) (vs : List V) (ps : List (Int × Nat)) : Prop where
 len : vs.length = ps.length
 at_ : ∀ (j : Nat) (v : V) (p : Int × Nat), vs[j]? = some v → ps[j]? = some p → PaV K H v p
theorem PasV.ts {H H' : Hp} {vs : List V} {ps : List (Int × Nat)} (s : TpS H H') (h : PasV K H vs ps) : PasV K H' vs ps := ⟨h.len, fun j v p a b => (h.at_ j v p a b).ts s⟩
theorem PasV.nil {H : Hp} : PasV K H [] [] := ⟨rfl, fun j v p h => by simp at h⟩
theorem PasV.app {H : Hp} {vs ws : List V} {ps qs : List (Int × Nat)} (h : PasV K H vs ps) (g : PasV K H ws qs) : PasV K H (vs ++ ws) (ps ++ qs) := by
 refine ⟨by simp [h.len, g.len], fun j w y a b => ?_⟩
 by_cases hj : j < vs.length
 ·rw [List.getElem?_append_left hj] at a
  rw [List.getElem?_append_left (by rw [← h.len]; exact hj)] at b
  exact h.at_ j w y a b
 ·rw [List.getElem?_append_right (by omega)] at a
  rw [List.getElem?_append_right (by rw [← h.len]; omega), ← h.len] at b
  exact g.at_ _ w y a b
theorem PasV.one {H : Hp} {v : V} {p : Int × Nat} (h : PaV K H v p) : PasV K H [v] [p] := by
 refine ⟨rfl, fun j w y a b => ?_⟩
 match j, a, b with
 | 0, a, b =>
  have e1 : v = w := by simpa using a
  have e2 : p = y := by simpa using b
  rw [← e1, ← e2]
  exact h
 | j + 1, a, _ => simp at a
theorem PasV.get {H : Hp} {vs : List V} {ps : List (Int × Nat)} {j : Nat} {v : V} (h : PasV K H vs ps) (e : vs[j]? = some v) : ∃ p, ps[j]? = some p ∧ PaV K H v p := by
 have hj : j < ps.length := by rw [← h.len]; exact (List.getElem?_eq_some_iff.mp e).1
 exact ⟨_, List.getElem?_eq_getElem hj, h.at_ j v _ e (List.getElem?_eq_getElem hj)⟩
noncomputable def PairL (K : PySem.W.Frag) (H : Hp) (a : Addr) (ps : List (Int × Nat)) : Prop := ∃ vs, H a = some (.lst vs) ∧ PasV K H vs ps
theorem comp_PP {a D : Addr} {vs : List V} {ps : List (Int × Nat)} {caps : St} {te : CB → TE} {Q : VK} {H1 H2 : Hp} (f : Int × Nat → Int × Nat) (n : New H1 D (.lst []) H2) (hL : H1 a = some (.lst vs)) (hr : PasV K H1 vs ps) (hlen : ps.length ≤ 1000000)
  (hte : ∀ p ∈ ps, ∀ z H', Same H1 H' → ∀ R : VK, (∀ q H3, New H' q (.tup [.int (f p).1, .int ((f p).2 : Int)]) H3 → R (.ref q) H3) → te z (some (.int p.1) :: some (.int (p.2 : Int)) :: caps) H' R)
  (hq : ∀ H' ws, Same H1 H' → H1 D = none → H' D = some (.lst ws) → PasV K H' ws (ps.map f) → Q (.ref D) H') :
  CompGo2 K (Itl K a) D caps te Q H2 := by
 refine comp_by2 vs.length (fun i ys H' => Same H1 H' ∧ H' D = some (.lst ys) ∧ PasV K H' ys ((ps.map f).take i)) ⟨n.same, n.at_, .nil⟩ ?_ ?_ ?_ ?_
 ·rintro i ys H' hi ⟨s, -, -⟩
  exact ⟨vs, _, SqL.of (s _ _ hL), List.getElem?_eq_getElem hi⟩
 ·rintro ys H' ⟨s, -, -⟩
  exact ⟨vs, SqL.of (s _ _ hL), Nat.le_refl _⟩
 ·rintro i ys H' x H3 z hi ⟨s, hD, hz⟩ ⟨rfl, hx⟩
  have hv := hx vs (SqL.of (s _ _ hL))
  obtain ⟨p, hp, q, rfl, hq'⟩ := hr.get hv
  refine ⟨q, _, _, rfl, SqT.of (s _ _ hq'), ?_⟩
  refine hte p (List.mem_of_getElem? hp) z _ s _ fun r H4 n4 => ⟨n4.same _ _ hD, ?_, fun H5 c => ⟨c.same (s.trans n4.same) n.fr, c.at_, ?_⟩⟩
  ·rw [hz.len, List.length_take, List.length_map]
   omega
  ·have t := c.ts (n4.same _ _ hD)
   have hxy : (ps.map f)[i]? = some (f p) := by rw [List.getElem?_map, hp]; rfl
   rw [List.take_add_one, hxy]
   exact ((hz.ts n4.ts).ts t).app (.one ⟨r, rfl, t _ _ n4.at_⟩)
 ·rintro ys H' ⟨s, hD, hz⟩
  rw [hr.len, List.take_of_length_le (by rw [List.length_map]; exact Nat.le_refl _)] at hz
  exact hq H' ys s n.fr hD hz
theorem comp_PI {a D : Addr} {vs : List V} {ps : List (Int × Nat)} {caps : St} {te : CB → TE} {Q : VK} {H1 H2 : Hp} (f : Int × Nat → Int) (n : New H1 D (.lst []) H2) (hL : H1 a = some (.lst vs)) (hr : PasV K H1 vs ps) (hlen : ps.length ≤ 1000000)
  (hte : ∀ p ∈ ps, ∀ z H', Same H1 H' → ∀ R : VK, R (.int (f p)) H' → te z (some (.int p.1) :: some (.int (p.2 : Int)) :: caps) H' R)
  (hq : ∀ H', New H1 D (.lst ((ps.map f).map V.int)) H' → Q (.ref D) H') :
  CompGo2 K (Itl K a) D caps te Q H2 := by
 refine comp_by2 vs.length (fun i ys H' => ys = ((ps.take i).map f).map V.int ∧ New H1 D (.lst ys) H') ⟨rfl, n⟩ ?_ ?_ ?_ ?_
 ·rintro i ys H' hi ⟨-, s⟩
  exact ⟨vs, _, SqL.of (s.same _ _ hL), List.getElem?_eq_getElem hi⟩
 ·rintro ys H' ⟨-, s⟩
  exact ⟨vs, SqL.of (s.same _ _ hL), Nat.le_refl _⟩
 ·rintro i ys H' x H3 z hi ⟨rfl, hn⟩ ⟨rfl, hx⟩
  have hv := hx vs (SqL.of (hn.same _ _ hL))
  obtain ⟨p, hp, q, rfl, hq'⟩ := hr.get hv
  refine ⟨q, _, _, rfl, SqT.of (hn.same _ _ hq'), ?_⟩
  refine hte p (List.mem_of_getElem? hp) z _ hn.same _ ⟨hn.at_, ?_, fun H4 c => ⟨?_, Chg.new hn c⟩⟩
  ·rw [List.length_map, List.length_map, List.length_take]
   omega
  ·rw [List.take_add_one, hp, List.map_append, List.map_append]
   rfl
 ·rintro ys H' ⟨rfl, hn⟩
  rw [hr.len, List.take_length] at hn
  exact hq H' hn
theorem comp_NI {D : Addr} {m : Nat} {caps : St} {te : CB → TE} {Q : VK} {H1 H2 : Hp} (f : Nat → Int) (n : New H1 D (.lst []) H2) (hlen : m ≤ 1000000)
  (hte : ∀ i, i < m → ∀ z H', Same H1 H' → ∀ R : VK, R (.int (f i)) H' → te z (some (.int (0 + (i : Int))) :: caps) H' R)
  (hq : ∀ H', New H1 D (.lst (((List.range m).map f).map V.int)) H' → Q (.ref D) H') :
  CompGo (Itr 0 m) D caps te Q H2 := by
 refine comp_range (n := m) (fun i ys H' => ys = ((List.range i).map f).map V.int ∧ New H1 D (.lst ys) H') ⟨rfl, n⟩ ?_ ?_
 ·rintro i ys H' z hi ⟨rfl, hn⟩
  refine hte i hi z H' hn.same _ ⟨hn.at_, ?_, fun H4 c => ⟨?_, Chg.new hn c⟩⟩
  ·rw [List.length_map, List.length_map, List.length_range]
   omega
  ·rw [List.range_succ, List.map_append, List.map_append]
   rfl
 ·rintro ys H' ⟨rfl, hn⟩
  exact hq H' hn
theorem comp_NR {D : Addr} {m : Nat} {caps : St} {te : CB → TE} {Q : VK} {H1 H2 : Hp} (f : Nat → Rat) (n : New H1 D (.lst []) H2) (hlen : m ≤ 1000000)
  (hte : ∀ i, i < m → ∀ z H', Same H1 H' → ∀ R : VK, (∀ v H3, Same H' H3 → RatV K H3 v (f i) → R v H3) → te z (some (.int (0 + (i : Int))) :: caps) H' R)
  (hq : ∀ H', Same H1 H' → RatL K H' D ((List.range m).map f) → H1 D = none → Q (.ref D) H') :
  CompGo (Itr 0 m) D caps te Q H2 := by
 refine comp_range (n := m) (fun i ys H' => Same H1 H' ∧ H' D = some (.lst ys) ∧ RatsV K H' ys ((List.range i).map f)) ⟨n.same, n.at_, .nil⟩ ?_ ?_
 ·rintro i ys H' z hi ⟨s, hD, hr⟩
  refine hte i hi z H' s _ fun v H3 s3 r => ⟨s3 _ _ hD, ?_, fun H4 c => ⟨c.same (s.trans s3) n.fr, c.at_, ?_⟩⟩
  ·rw [hr.len, List.length_map, List.length_range]
   omega
  ·have t := c.ts (s3 _ _ hD)
   rw [List.range_succ, List.map_append]
   exact ((hr.ts s3.ts).ts t).snoc (r.ts t)
 ·rintro ys H' ⟨s, hD, hr⟩
  exact hq H' s ⟨ys, hD, hr⟩ n.fr
end L2
namespace L2
open PySem PySem.Spec PyProof.Rows
section
variable {X : Cx}
noncomputable def tTryA (K : PySem.W.Frag) (L : Addr) (sp : Sp) (i g : Nat) (t : TA) (th : Addr → TS) : TS := fun D σ H => t σ H fun vs H1 => sp (vs ++ []) H1 (fun v H2 => D.nx (σ.set g (some v)) H2) fun cls _ H2 =>
 ∃ C, cls = .ref C ∧ PySem.W.exmOne K (.ref C) (.ref L) = some true ∧ ∀ ea, H2 ea = none → th ea { nx := fun σ' H' => D.nx (σ'.set i none) H', rt := D.rt } (σ.set i (some (.ref ea))) (upd H2 ea (.ext (IsExc ea C)))
theorem ps_tryA {j k i g : Nat} {q : Str} {qp : Pos} {x y n : Str} {L : Addr} {ps : List Str} {sp : Sp} {e : Expr} {es : List Expr} {t : TA} {th : Addr → TS} {b₀ : Stmt} {suite : List Stmt} {p pos p1 yp hp tp : Pos}
  (C : CalE X.prog X.w X.K X.mg X.base x j ps sp) (hr : Room k X.A) (hj : j ≤ k) (hg : Gl X x) (hst : X.stack = X.env :: X.outer) (hf : X.env.frame = some X.env.locals)
  (hy : Gl X y) (my : X.mg y = some (.ref L)) (hgi : X.N[g]? = some q) (hgl : Loc X.env.scope q) (hN : X.N.Nodup) (hi : X.N[i]? = some n) (hn : X.env.scope.names.lookup n = some .local)
  (ha : ∀ E', PA (X.wish E') (e :: es) t) (hs : ∀ ea, PSs (X.inH ea) (b₀ :: suite) (th ea))
  (hdb : (x == ("__debug__" : Str)) = false := by decide) (hdy : (y == ("__debug__" : Str)) = false := by decide)
  (he : starEach (e :: es) X.env = (false, eval e X.env) :: starEach es X.env := by rfl) (hpl : (backTo pos (starEach es X.env)).any (·.1) = false := by rfl)
  (hsw : swapsWith (.Call (.Name x p) (e :: es) [] pos) (some (.Name q qp)) p1.line X.env = pure false := by rfl)
  (hgf : X.fn q = true ∨ X.env.scope.names.lookup q = some .local := by first | exact .inl rfl | exact .inr rfl) :
  PS X (.Try [.Assign [.Name q qp] (.Call (.Name x p) (e :: es) [] pos) p1] [.ExceptHandler (some (.Name y yp)) (some n) (b₀ :: suite) hp] [] [] tp) (tTryA X.K L sp i g t th) := by
 intro pins s σ H D I h
 obtain ⟨f, fd, F, m, kp, hb⟩ := C
 refine wpAny_Try_except (wpAny_execs_cons (wpAny_Assign_Name ?_ hsw))
 -- the call
 refine wpAny_Call_Name_kw (ld_glob I hg m ?_ hdb)
 refine PySem.W.callWith_K (h₀ := X.base) I.ok.mod.kin kp (wpAny_mono (ha (fun _ _ => False) pos pins s σ H _ (I.wish _) h) (fun us s1 hA => ?_) fun _ _ z => z.elim) he hpl
 obtain ⟨vs, H1, J, r, q⟩ := hA
 have I1 : Inv X pins σ H1 s1 := J.unwish
 refine ⟨I1.kIn, ?_⟩
 have r2 : Vals (vs ++ []) (us ++ []) := r.append .nil
 have hl : (us ++ []).length = ps.length := by rw [← r2.length]; exact F.len _ _ _ _ q
 refine wpAny_call (codeAny_mono (F.run X.A X.stack s1 H1 ⟨us, []⟩ (us ++ []) (vs ++ []) _ _ (hr.mono hj) I1.env0 (hb s1 us I1.kIn hl) r2 q) fun r s' hq => ?_)
 cases r with
 | ok fl =>
  cases fl with
  | ret u =>
   obtain ⟨v, H2, I2, r2, q2⟩ := I1.after hq
   exact store_ok I2 hN hgi hgl r2 (fun s2 I2' => wpAny_execs_nil (wpAny_execs_nil ⟨_, H2, I2', q2⟩)) hgf
  | next => exact False.elim hq
  | brk => exact False.elim hq
  | cont => exact False.elim hq
 | error x =>
  obtain ⟨ea, cls, H2, rfl, Fl, C, rfl, hm, q2⟩ := hq
  obtain ⟨B, a0, fl, b1, b2⟩ := Fl.fl
  have fr : X.A.frames = some (X.env :: X.outer) := by rw [I1.ok.frames, hst]
  have fl0 : Heap.FlyingW B (X.env :: X.outer) ea (.ref C) a0 s'.heap := by rw [← hst]; exact fl
  have land : ∀ h : Heap, Heap.FlyingW B (X.env :: X.outer) ea (.ref C) a0 h → s'.heap.UpToSlots h → Inv X pins σ (upd H2 ea (.ext (IsExc ea C))) { s' with heap := h } := fun h z sm => by
   obtain ⟨un, hok⟩ := Fl.land fl.2.2.1 b1 b2 z.1 sm
   obtain ⟨oe, ws, f1, f2, f3, _⟩ := z.first
   exact Fl.held rfl I1 un hok ⟨oe, ws, f1, f2, f3⟩
  refine wpAny_looks_onW fr hf fl0 fun h4 held sm4 => ?_
  refine wpAny_landsW held fun h5 fl5 sm5 => ?_
  have I5 := land h5 fl5 (sm4.trans sm5)
  obtain ⟨ob, hob, hobc⟩ := fl5.there
  refine wpAny_handleBy_cons (codeAny_handlers_test (ld_glob (X := X.inH ea) (I5.inH ea) hy my ?_ hdy)) (by intro z; cases z)
  have LT : PySem.W.Looks (model X.prog X.w) h5 (typeOf (.ref ea)) (.ref C) := hobc ▸ (PySem.W.Looks.ld hob).andThen .now
  refine (PySem.W.exm_one (M := model X.prog X.w) I5.kIn LT hm).at (codeAny_handlers_suite_as ?_)
  refine lands_againW (s := { s' with heap := h5 }) fl5 fun h6 fl6 sm6 => ?_
  have I6 := land h6 fl6 ((sm4.trans sm5).trans sm6)
  refine store_ok (X := X.inH ea) (v := .ref ea) (I6.inH ea) hN hi (Or.inl hn) rfl (fun s7 I7 => ?_) (.inr hn)
  refine wpAny_mono (hs ea pins s7 _ _ _ I7 (q2 ea Fl.fr)) (fun fl s8 z => ?_) (fun _ _ z => z.elim)
  have hcls : (X.env.scope.kind == .class || (X.env.scope.kind == .module && X.env.locals != X.env.globals)) = false := by rw [I.ok.kind]; rfl
  cases fl with
  | next =>
   obtain ⟨σ8, H8, I8, z8⟩ := z
   have J8 := I8.outH I.ok
   obtain ⟨m8, hn8, hl8⟩ := id J8.loc
   exact wpAny_nameGoes_keeps hn hn8 hcls fun h9 v hn9 hs9 => ⟨_, H8, J8.dropName hN hi hl8 hn9 hs9, z8⟩
  | ret u =>
   obtain ⟨v8, σ8, H8, I8, r8, z8⟩ := z
   have J8 := I8.outH I.ok
   obtain ⟨m8, hn8, hl8⟩ := id J8.loc
   exact wpAny_nameGoes_keeps hn hn8 hcls fun h9 v hn9 hs9 => ⟨v8, _, H8, J8.dropName hN hi hl8 hn9 hs9, r8, z8⟩
  | brk =>
   obtain ⟨_, _, _, z8⟩ := z
   exact False.elim z8
  | cont =>
   obtain ⟨_, _, _, z8⟩ := z
   exact False.elim z8
end
end L2
namespace L2
open PySem PySem.Spec PyProof.Rows
section
variable {X : Cx}
end
end L2
namespace L2
open PySem PySem.Spec PyProof.Rows
structure RoomH (k : Nat) (A : Around) : Prop where
 dp : A.depth + 3 * k + 5 < recursionLimit
 un : A.units + 16 * k + 200 < cLine
theorem Room.inH {k : Nat} {A : Around} {v : Option Value} (r : Room k A) : RoomH k (A.mark v) := ⟨r.dp, r.un⟩
theorem RoomH.mono {j k : Nat} {A : Around} (r : RoomH k A) (h : j ≤ k) : RoomH j A := ⟨by have := r.dp; omega, by have := r.un; omega⟩
structure FnOkH (P : Program) (w : World) (K : PySem.W.Frag) (mg : Str → Option Value) (base : Heap) (k : Nat) (f : Addr) (fd : FuncData) (ps : List Str) (sp : Sp) : Prop where
 len : ∀ vs H Q E, sp vs H Q E → vs.length = ps.length
 run : ∀ (A : Around) (outer : List Env) (s : Shared) (H : Hp) (args : Args) (us : List Value) (vs : List V) (Q : VK), RoomH k A → Env0 P w K mg base A outer s H → BindsTo s fd args (ps.zip us) → Vals vs us → sp vs H Q E0 →
  codeAny (model P w) A (.call (.ref f) args) (CR CX0 outer P w H s Q E0) s
noncomputable def CalH (P : Program) (w : World) (K : PySem.W.Frag) (mg : Str → Option Value) (base : Heap) (x : Str) (k : Nat) (ps : List Str) (sp : Sp) : Prop :=
 ∃ (f : Addr) (fd : FuncData), FnOkH P w K mg base k f fd ps sp ∧ mg x = some (.ref f) ∧ PySem.W.keepIn K (.ref f) = true ∧ Binds K fd ps []
theorem Has.calH {P : Program} {w : World} {K : PySem.W.Frag} {mg : Str → Option Value} {base : Heap} {x : Str} {st : Stmt} {ps : List Str} {f : Addr} {fd : FuncData} {k : Nat} {sp : Sp} (h : Has K mg x st ps f fd)
  (ok : FnOkH P w K mg base k f fd ps sp) : CalH P w K mg base x k ps sp := ⟨f, fd, ok, h.at_, h.fn.kp, .all h.bd⟩
noncomputable abbrev cxH (P : Program) (w : World) (K : PySem.W.Frag) (mg : Str → Option Value) (base : Heap) (N : List Str) (qual : Str) (scope : Scope) (f : Addr) (cd : Value) (A : Around) (outer : List Env) (s : Shared) (H : Hp) : Cx :=
 { cxOf CX0 P w K mg base N qual scope f cd A outer s H E0 with calm := false, xe := fun _ _ => False }
section
variable {P : Program} {w : World} {K : PySem.W.Frag} {mg : Str → Option Value} {base : Heap}
theorem inv_startH {N ps : List Str} {qual : Str} {scope : Scope} {f : Addr} {cd : Value} {A : Around} {outer : List Env} {s s1 : Shared} {H : Hp} {us : List Value} {vs : List V}
  (S : FnScope N ps scope) (e0 : Env0 P w K mg base A outer s H) (hl : vs.length = ps.length) (r : Vals vs us)
  (x : InCallC s s.heap.objs.size (bindL (envOfC qual scope s.heap.objs.size f cd).kindOf (ps.zip us) fun _ => none) (cellsFrom (s.heap.objs.size + 1) scope.names []) (bindC (envOfC qual scope s.heap.objs.size f cd).kindOf (ps.zip us) fun _ => none) s1) :
  Inv (cxH P w K mg base N qual scope f cd A outer s H) [] (start N vs) H s1 := by
 have e1 : Env0 P w K mg base { A with handled := none } outer s H := ⟨e0.frames, e0.mod, e0.bs, e0.bsz, e0.funs, e0.frf, e0.hok, e0.bare⟩
 have I := inv_start (CX := CX0) (E := E0) (qual := qual) (f := f) (cd := cd) S (A := { A with handled := none }) rfl e1 hl r x
 exact ⟨⟨I.ok.mod, I.ok.kind, I.ok.glob, I.ok.blt, I.ok.above, I.ok.inj, I.ok.has, I.ok.cab, (fun z => Bool.noConfusion z), Around.frames_deeper e0.frames, I.ok.stk, I.ok.exf, I.ok.bs, I.ok.bsz, I.ok.noex, I.ok.exfs, I.ok.funs, I.ok.frf⟩, I.os, I.bare, I.base, I.loc, I.cell, I.free, I.freeC, I.pin, I.hok, I.len⟩
theorem Fun.okH {x qual : Str} {st : Stmt} {f : Addr} {fd : FuncData} {N ps : List Str} {k : Nat} {sp : Sp} (F : Fun K x qual st f fd) (S : FnScope N ps (defScope st)) (len : ∀ vs H Q E, sp vs H Q E → vs.length = ps.length)
  (hbody : ∀ (cdv : Value) (A : Around) (outer : List Env) (s : Shared) (H : Hp) (vs : List V) (Q : VK), sp vs H Q E0 →
   ∃ t, PSs (cxH P w K mg base N qual (defScope st) f cdv A outer s H) (defBody st) t ∧ t { nx := fun _ H' => Q .non H', rt := Q } (start N vs) H) : FnOkH P w K mg base (k + 1) f fd ps sp := by
 obtain ⟨oc, od, kV, doc, pm, an, cdv, ct, osl, rfl, lk, hcd⟩ := F.ex
 refine ⟨len, fun A outer s H args us vs Q hr e0 hb r hsp => ?_⟩
 have hl := len _ _ _ _ hsp
 have KX : K.In s.heap := e0.mod.kin.keeps fun b o e => (e0.bs b o e).1
 have lim : s.heap.NoLimit := e0.mod.nolimit.keeps fun b o e => (e0.bs b o e).1
 refine codeAny_call_function (by have := hr.dp; omega) (KX _ _ lk) rfl S.co S.gen rfl (PySem.W.codeRec_of KX hcd) (hb _ _ _ _ ?_)
 refine wpAny_newFunctionEnv_cells S.kind (fun ⟨n, v⟩ hy => ?_) fun env he s1 x => ?_
 ·rcases S.par n (List.of_mem_zip hy).1 with q | q
  ·exact .inl q
  ·exact .inr ⟨q, PySem.W.cellsFrom_some _ _ _ (.inl q)⟩
 subst he
 refine ⟨lim.keeps x.toInCall.keep, codeAny_func ?_⟩
 obtain ⟨t, ht, hq⟩ := hbody cdv A outer s H vs Q hsp
 refine wpAny_mono (ht [] s1 (start N vs) H _ (inv_startH S e0 hl r x) hq) (fun fl s' hs => ?_) fun e s' hs => hs.elim
 cases fl with
 | ret u =>
  obtain ⟨v, σ', H', J, rv, q⟩ := hs
  exact ⟨v, H', J.os, J.bare, J.base, J.hok, rv, q⟩
 | next =>
  obtain ⟨σ', H', J, q⟩ := hs
  exact ⟨.non, H', J.os, J.bare, J.base, J.hok, rfl, q⟩
 | brk =>
  obtain ⟨_, _, _, q⟩ := hs
  exact False.elim q
 | cont =>
  obtain ⟨_, _, _, q⟩ := hs
  exact False.elim q
end
section
variable {X : Cx}
theorem pe_callH {j k : Nat} {x : Str} {ps : List Str} {sp : Sp} {e : Expr} {es : List Expr} {t : TA} {p pos : Pos} (C : CalH X.prog X.w X.K X.mg X.base x j ps sp) (hr : RoomH k X.A) (hj : j ≤ k) (hg : Gl X x) (ha : PA X (e :: es) t) (hdb : (x == ("__debug__" : Str)) = false := by decide)
  (he : starEach (e :: es) X.env = (false, eval e X.env) :: starEach es X.env := by rfl) (hpl : (backTo pos (starEach es X.env)).any (·.1) = false := by rfl) :
  PE X (.Call (.Name x p) (e :: es) [] pos) (tCall sp [] E0 t) := by
 obtain ⟨f, fd, F, m, kp, hb⟩ := C
 intro pins s σ H Q I h
 refine wpAny_Call_Name_kw (ld_glob I hg m ?_ hdb)
 refine PySem.W.callWith_K (h₀ := X.base) I.ok.mod.kin kp (thn (ha pos pins s σ H _ I h) fun us s1 ⟨vs, H1, I1, r, q⟩ => ⟨I1.kIn, ?_⟩) he hpl
 have r2 : Vals (vs ++ []) (us ++ []) := r.append .nil
 have hl : (us ++ []).length = ps.length := by rw [← r2.length]; exact F.len _ _ _ _ q
 refine wpAny_call (codeAny_mono (F.run X.A X.stack s1 H1 ⟨us, []⟩ (us ++ []) (vs ++ []) Q (hr.mono hj) I1.env0 (hb s1 us I1.kIn hl) r2 q) fun r s' hq => ?_)
 cases r with
 | error e => exact hq.elim
 | ok fl =>
  cases fl with
  | ret u => exact I1.after hq
  | next => exact False.elim hq
  | brk => exact False.elim hq
  | cont => exact False.elim hq
end
end L2
namespace L2
open PySem PySem.Spec PyProof.Rows
section
variable {X : Cx}
theorem eqPairA {A : Around} {pins : List (Addr × Obj)} {σ : St} {H : Hp} {s : Shared} (I : Inv X pins σ H s) {a b : Addr} {p q : Int} (hu : A.units < cLine) (h1 : SqT X.K H a [.int p, .int q]) (h2 : SqT X.K H b [.int p, .int q]) : SeqAt.EqAt A s (.ref a) (.ref b) true := by
 obtain ⟨its, r1, p1, _⟩ := I.tuple h1
 obtain ⟨jts, r2, p2, _⟩ := I.tuple h2
 obtain ⟨t1, t2, rfl⟩ := vals_pair r1
 obtain ⟨t3, t4, rfl⟩ := vals_pair r2
 by_cases e : a = b
 ·subst e
  exact SeqAt.EqAt.same _
 ·have z := SeqAt.RcAt.tuples (A := A) (s := s) (e := fun j => if j = 0 then decide (p = p) else decide (q = q)) p1 p2 hu eqTup
  rw [show (((List.range (min (#[Value.int p t1, Value.int q t2] : Array Value).size (#[Value.int p t3, Value.int q t4] : Array Value).size)).all fun j => if j = 0 then decide (p = p) else decide (q = q)) && (#[Value.int p t1, Value.int q t2] : Array Value).size == (#[Value.int p t3, Value.int q t4] : Array Value).size) = true from by
   have := range2 (p := decide (p = p)) (q := decide (q = q))
   rw [decide_eq_true rfl, decide_eq_true rfl] at this
   rw [decide_eq_true rfl, decide_eq_true rfl]
   exact this] at z
  exact SeqAt.EqAt.of_refs e z
theorem eqListA {A : Around} {s : Shared} {a b : Addr} {its jts : List Value} (hu : A.units < cLine) (h1 : s.heap.IsList a its.toArray) (h2 : s.heap.IsList b jts.toArray) (hl : its.length = jts.length)
  (he : ∀ (j : Nat) u v, its[j]? = some u → jts[j]? = some v → SeqAt.EqAt A.in1 s u v true) : SeqAt.EqAt A s (.ref a) (.ref b) true := by
 by_cases e : a = b
 ·subst e
  exact SeqAt.EqAt.same _
 ·have z := SeqAt.RcAt.lists (A := A) (s := s) (e := fun _ => true) h1 h2 (by simpa using hl) hu fun j b1 b2 => he j _ _ (by rw [← List.getElem?_toArray]; exact Array.getElem?_eq_getElem b1) (by rw [← List.getElem?_toArray]; exact Array.getElem?_eq_getElem b2)
  have e1 : ((List.range its.toArray.size).all fun _ => true) = true := by simp
  rw [e1] at z
  exact SeqAt.EqAt.of_refs e z
theorem eqRatsA {A : Around} {pins : List (Addr × Obj)} {σ : St} {H : Hp} {s : Shared} (I : Inv X pins σ H s) {a b : Addr} {xs : List Rat} (hu : A.units + 1 < cLine) (h1 : RatL X.K H a xs) (h2 : RatL X.K H b xs) : SeqAt.EqAt A s (.ref a) (.ref b) true := by
 obtain ⟨vs, e1, r1⟩ := h1
 obtain ⟨ws, e2, r2⟩ := h2
 obtain ⟨its, v1, p1, _⟩ := I.list (SqL.of e1)
 obtain ⟨jts, v2, p2, _⟩ := I.list (SqL.of e2)
 have n1 := v1.length
 have n2 := v2.length
 refine eqListA (by omega) p1.isList p2.isList (by rw [← n1, ← n2, r1.len, r2.len]) fun j u v hu' hv' => ?_
 have hj : j < vs.length := by rw [n1]; exact (List.getElem?_eq_some_iff.mp hu').1
 have hj2 : j < ws.length := by rw [n2]; exact (List.getElem?_eq_some_iff.mp hv').1
 have hx := List.getElem?_eq_getElem (show j < xs.length by rw [← r1.len]; exact hj)
 obtain ⟨u', h3, ru⟩ := v1.get (List.getElem?_eq_getElem hj)
 obtain ⟨v', h4, rv⟩ := v2.get (List.getElem?_eq_getElem hj2)
 rw [hu'] at h3
 rw [hv'] at h4
 cases h3
 cases h4
 obtain ⟨a1, ea, s1⟩ := (r1.at_ j _ _ (List.getElem?_eq_getElem hj) hx).sq
 obtain ⟨b1, eb, s2⟩ := (r2.at_ j _ _ (List.getElem?_eq_getElem hj2) hx).sq
 rw [ea] at ru
 rw [eb] at rv
 cases ru
 cases rv
 exact eqPairA I hu s1 s2
theorem eqIntsA {A : Around} {pins : List (Addr × Obj)} {σ : St} {H : Hp} {s : Shared} (I : Inv X pins σ H s) {a b : Addr} {ns : List Int} (hu : A.units < cLine) (h1 : SqL X.K H a (ns.map V.int)) (h2 : SqL X.K H b (ns.map V.int)) : SeqAt.EqAt A s (.ref a) (.ref b) true := by
 obtain ⟨its, v1, p1, _⟩ := I.list h1
 obtain ⟨jts, v2, p2, _⟩ := I.list h2
 have n1 := v1.length
 have n2 := v2.length
 refine eqListA hu p1.isList p2.isList (by rw [← n1, ← n2]) fun j u v hu' hv' => ?_
 have hj : j < (ns.map V.int).length := by rw [n1]; exact (List.getElem?_eq_some_iff.mp hu').1
 obtain ⟨u', h3, ru⟩ := v1.get (List.getElem?_eq_getElem hj)
 obtain ⟨v', h4, rv⟩ := v2.get (List.getElem?_eq_getElem hj)
 rw [hu'] at h3
 rw [hv'] at h4
 cases h3
 cases h4
 rw [List.getElem_map] at ru rv
 have := eqAt_V (A := A.in1) (s := s) (y := .int (ns[j]'(by simpa using hj))) (x := .int (ns[j]'(by simpa using hj))) ru rv rfl rfl
 have e : eqV (.int (ns[j]'(by simpa using hj))) (.int (ns[j]'(by simpa using hj))) = true := by
  show (_ == _) = true
  simp
 rw [e] at this
 exact this
noncomputable def dEqIJ (K : PySem.W.Frag) (neg : Bool) : R2 := fun x y H Q => match x, y with
 | .ref l, .ref m => ∃ ps qs : List Int, SqL K H l (ps.map V.int) ∧ SqL K H m (qs.map V.int) ∧ Q (.bl (if neg then !decide (ps = qs) else decide (ps = qs))) H
 | _, _ => False
theorem dEqIJ_of {neg : Bool} {x y : V} {H : Hp} {Q : VK} (h : dEqIJ X.K neg x y H Q) : dEqX InAt X.K neg x y H Q := by
 unfold dEqIJ at h
 split at h
 rotate_left
 ·exact h.elim
 obtain ⟨ps, qs, h1, h2, q⟩ := h
 refine ⟨_, _, ps, qs, h1, h2, List.length_map .., List.length_map .., ?_, ?_, q⟩
 ·intro j v p hv hp
  rw [List.getElem?_map, hp] at hv
  exact (Option.some.inj hv).symm
 ·intro j v p hv hp
  rw [List.getElem?_map, hp] at hv
  exact (Option.some.inj hv).symm
theorem d_neLJ (hu : X.A.units + 1 < cLine) : OpR X (compareOp .NotEq) (dEqIJ X.K true) := (d_eqIn hu).2.imp fun _ _ _ _ h => dEqIJ_of h
end
end L2
namespace L2
open PySem PySem.Spec PyProof.Rows
section
variable {X : Cx}
end
end L2
namespace Lr
noncomputable def gp (x y : Rat) : Rat := if x < y then 0 else x - y
noncomputable def gd (c d m : Rat) : Rat := if gp m d ≤ hv m then mn c (hv m) else mn c (gp m d)
theorem sm_two (x y : Rat) : sm [x, y] = x + y := by
 show x + (y + 0) = x + y
 grind
end Lr
namespace L2
open PySem PySem.Spec PyProof.Rows
section
variable {X : Cx}
noncomputable def dTupOf (K : PySem.W.Frag) : List V → Hp → VK → Prop := fun xs H Q => match xs with | [.ref p] => ∃ ys, SqL K H p ys ∧ ∀ l H', New H l (.tup ys) H' → Q (.ref l) H' | _ => False
theorem d_tuple : CallR X (.type "tuple") (dTupOf X.K) := call_tuple_of.imp fun xs H Q h => by
 unfold dTupOf at h
 split at h
 ·obtain ⟨ys, h1, q⟩ := h
  exact ⟨_, ys, rfl, .inl ⟨h1, new_iff.mpr q⟩⟩
 ·exact h.elim
end
end L2
namespace L2
open PySem PySem.Spec PyProof.Rows
section
variable {X : Cx}
noncomputable def dShr : R2 := fun x y H Q => match x, y with | .int i, .int j => 0 ≤ j ∧ Q (.int (i / 2 ^ j.toNat)) H | _, _ => False
theorem d_shr : OpR X (binaryOp .RShift) dShr := op_shr.imp fun _ _ _ _ h => mI_out (g := fun i j Q H => 0 ≤ j ∧ Q (.int (i / 2 ^ j.toNat)) H) h
noncomputable def dBand : R2 := fun x y H Q => match x, y with | .int i, .int j => Q (.int (Builtin.bitAnd i j)) H | _, _ => False
theorem d_band : OpR X (binaryOp .BitAnd) dBand := op_and.imp fun _ _ _ _ h => mI_out (g := fun i j Q H => Q (.int (Builtin.bitAnd i j)) H) h
end
noncomputable abbrev rowN (r : List Nat) : List V := r.map fun (n : Nat) => V.int (n : Int)
end L2
namespace L2
open PySem PySem.Spec PyProof.Rows
noncomputable def CompGo2If (K : PySem.W.Frag) (J : It) (D : Addr) (caps : St) (tc : CB → TT) (te : CB → TE) (Q : VK) (H2 : Hp) : Prop := ∃ W : Nat → Nat → List V → Hp → Prop, (∃ m, W 0 m [] H2) ∧ ∀ i m ys H, W i m ys H →
 (J.stop i H ∧ Q (.ref D) H) ∨ (J.go i H ∧ ∀ x H', J.yld i H x H' → ∀ z, ∃ a v1 v2, x = .ref a ∧ SqT K H' a [v1, v2] ∧ tc z (some v1 :: some v2 :: caps) H' fun b H5 => if b = true then te z (some v1 :: some v2 :: caps) H5 fun y H3 => H3 D = some (.lst ys) ∧ ys.length < 16000000 ∧ ∀ H4, Chg H3 D (.lst (ys ++ [y])) H4 → ∃ m', m' < m ∧ W (i + 1) m' (ys ++ [y]) H4
  else ∃ m', m' < m ∧ W (i + 1) m' ys H5)
noncomputable def tComp2If (K : PySem.W.Frag) (wi : TI) (ix : List Nat) (tc : CB → TT) (te : CB → TE) : TE := fun σ H Q => wi σ H fun J H1 => ∀ D H2, New H1 D (.lst []) H2 → CompGo2If K J D (capsOf ix σ) tc te Q H2
theorem loop_pairIf {P : Program} {w : World} {A : Around} {s : Shared} {elt iter c : Expr} {elts : List Expr} {kt : Nat} {pt : Pos} {scope : Scope} {pos : Pos} {it acc : Value} {env : Env} {R : Result → Shared → Prop} (J : Nat → Shared → Prop)
  (turn : ∀ n s, J n s → wpAny (model P w) A (pyNext it) (fun r s1 => match r with
   | none => R (.ok .next) s1
   | some v => wpAny (model P w) A (letOwnedTupleGo (.Tuple elts kt pt) it v) (fun _ s2 => wpAny (model P w) A (assign (.Tuple elts kt pt) env v) (fun _ s3 => wpAny (model P w) A (isTrue c env (eval c env)) (fun b s4 => if b = true then
     wpAny (model P w) A (eval elt env) (fun y s5 => wpAny (model P w) A (call (.builtin "list.append") [acc, y]) (fun _ s6 => ∃ m, m < n ∧ J m s6) (notedBy (model P w) A env fun e s' => R (.error e) s') s5) (notedBy (model P w) A env fun e s' => R (.error e) s') s4
     else ∃ m, m < n ∧ J m s4) (notedBy (model P w) A env fun e s' => R (.error e) s') s3) (notedBy (model P w) A env fun e s' => R (.error e) s') s2) (notedBy (model P w) A env fun e s' => R (.error e) s') s1) (notedBy (model P w) A env fun e s' => R (.error e) s') s)
  (n0 : Nat) (h0 : J n0 s) : codeAny (model P w) A (.compLoop (.ListComp elt [⟨.Tuple elts kt pt, iter, [c], 0⟩] scope pos) 0 it acc env) R s := by
 refine codeAny_loop rfl J (fun k t hJ => ?_) n0 h0
 show wpAny _ A ((compTurn (.ListComp elt [⟨.Tuple elts kt pt, iter, [c], 0⟩] scope pos) 0 it acc env).onRaise (fun x => do noteFrame x env; theTreesLotGoes x)) _ _ t
 refine wpAny_noted ?_
 rw [compTurn_list]
 refine wpAny_bind (wpAny_standAt (wpAny_bind (wpAny_mono (turn k t hJ) (fun r t1 g1 => ?_) fun _ _ z => z)))
 cases r with
 | none => exact wpAny_pure g1
 | some v =>
  refine wpAny_bind (wpAny_mono g1 (fun _ t2 g2 => ?_) fun _ _ z => z)
  refine wpAny_bind (wpAny_mono g2 (fun _ t3 g3 => wpAny_bind (wpAny_mono (wpAny_tests_one g3) (fun b t4 g4 => ?_) fun _ _ z => z)) fun _ _ z => z)
  cases b with
  | false => exact wpAny_pure ⟨rfl, g4⟩
  | true => exact wpAny_bind (wpAny_bind (wpAny_mono g4 (fun y t5 g5 => wpAny_bind (wpAny_mono g5 (fun _ t6 g6 => wpAny_pure (wpAny_pure ⟨rfl, g6⟩)) fun _ _ z => z)) fun _ _ z => z))
section
variable {X : Cx}
theorem comp_core2If {elt iter c : Expr} {x x2 : Str} {px px2 : Pos} {kt : Nat} {pt : Pos} {scope : Scope} {pos : Pos} {cs : List Str} {ix : List Nat} {te : CB → TE} {tc : CB → TT} {pins : List (Addr × Obj)} {σ : St} {H : Hp} {s : Shared} {J : It} {it : Addr} {fp : List Addr} {tn : Nat → Heap → Prop}
  {cl : List (Str × Addr)} {E : Value → Shared → Prop} {Q : V → Hp → Prop} {RR : Value → Addr → Result → Shared → Prop}
  (hc : X.calm = true) (hkind : scope.kind = .function) (hcell : ∀ y ∈ scope.names, y.2 ≠ .cell) (hx : scope.names.lookup x = some .local) (hx2 : scope.names.lookup x2 = some .local) (hN : (x :: x2 :: cs).Nodup)
  (hix : ix.map (fun i => X.N[i]?) = cs.map some) (hfr : ∀ y ∈ cs, scope.names.lookup y = some .free) (hout : ∀ y ∈ cs, X.env.scope.names.lookup y = some .cell ∨ X.env.scope.names.lookup y = some .free)
  (h1 : ∀ y c, cl.lookup y = some c → X.env.cells.lookup y = some c) (h2 : ∀ y, (y, NameKind.free) ∈ scope.names → ∃ c, cl.lookup y = some c)
  (hct : ∀ z : CB, PT (X.comp scope z.cl z.C (x :: x2 :: cs) z.s z.H z.fp) c (tc z))
  (helt : ∀ z : CB, PE (X.comp scope z.cl z.C (x :: x2 :: cs) z.s z.H z.fp) elt (te z))
  (I : Inv X pins σ H s) (T : Turn X.prog X.w X.K (.Tuple [.Name x px, .Name x2 px2] kt pt) J fp it tn) (st0 : tn 0 s.heap) (hf : ∀ b ∈ fp, FpOk X pins H b)
  (h : ∀ D H2, New H D (.lst []) H2 → ∃ W : Nat → Nat → List V → Hp → Prop, (∃ m, W 0 m [] H2) ∧ ∀ i m ys H, W i m ys H →
   (J.stop i H ∧ Q (.ref D) H) ∨ (J.go i H ∧ ∀ x H', J.yld i H x H' → ∀ z, ∃ a v1 v2, x = .ref a ∧ SqT X.K H' a [v1, v2] ∧ tc z (some v1 :: some v2 :: capsOf ix σ) H' fun b H5 => if b = true then te z (some v1 :: some v2 :: capsOf ix σ) H5 fun y H3 => H3 D = some (.lst ys) ∧ ys.length < 16000000 ∧ ∀ H4, Chg H3 D (.lst (ys ++ [y])) H4 → ∃ m', m' < m ∧ W (i + 1) m' (ys ++ [y]) H4
    else ∃ m', m' < m ∧ W (i + 1) m' ys H5))
  (hRR : ∀ D C s1 H', (∃ m, s1.heap.Ns C m) → (∀ h', Heap.SameBut C s1.heap h' → Inv X pins σ H' { s1 with heap := h' }) → FpOk X pins H' C → Q (.ref D) H' → RR (.ref D) C (.ok .next) s1) :
  wpAny (model X.prog X.w) X.A (newList []) (fun acc s₃ => wpAny (model X.prog X.w) X.A (newFunctionEnv scope X.env.globals cl [] X.env.qual none .none (some X.env)) (fun cenv s₄ =>
   codeAny (model X.prog X.w) X.A (.compStart (.ListComp elt [⟨.Tuple [.Name x px, .Name x2 px2] kt pt, iter, [c], 0⟩] scope pos) 0 (.ref it) acc { cenv with scope := relabel scope X.env }) (RR acc cenv.locals) s₄) E s₃) E s := by
 refine wpAny_newObj_type ?_
 have fD : H s.heap.objs.size = none := I.hok.fresh (Nat.le_refl _)
 have I3 : Inv X pins σ (upd H s.heap.objs.size (.lst [])) { s with heap := s.heap.push { cls := .type "list", data := .seq ([] : List Value).toArray } } := by
  refine I.laid (t' := s.toks) (fun b u e => Heap.get?_push_of_some _ e) (Nat.le_refl _) ?_
  exact ⟨Nat.zero_le _, [], _, .nil, Heap.get?_push_size _ rfl⟩
 have n3 : New H s.heap.objs.size (.lst []) (upd H s.heap.objs.size (.lst [])) := .mk' fD
 generalize hD : s.heap.objs.size = D at *
 obtain ⟨W, ⟨m0, w0⟩, turn⟩ := h D _ n3
 have st3 : tn 0 (s.heap.push { cls := .type "list", data := .seq ([] : List Value).toArray }) := T.keep 0 _ _ st0 fun b _ o e => Heap.get?_push_of_some _ e
 have fpD : ∀ b ∈ fp, b ≠ D := fun b hb z => by
  obtain ⟨o, e, _⟩ := T.obj 0 _ st0 b hb
  exact absurd (Heap.lt_size e) (by rw [z, hD]; exact Nat.lt_irrefl _)
 have hf3 : ∀ b ∈ fp, FpOk X pins (upd H D (.lst [])) b := fun b hb => by
  obtain ⟨f0, r⟩ := hf b hb
  exact ⟨by rw [upd_ne (fpD b hb)]; exact f0, r⟩
 generalize hs3 : ({ s with heap := s.heap.push { cls := .type "list", data := .seq ([] : List Value).toArray } } : Shared) = s3 at *
 have st3' : tn 0 s3.heap := by rw [← hs3]; exact st3
 generalize upd H D (.lst []) = H3 at *
 refine wpAny_newFunctionEnv hcell (by intro y hy; simp at hy) (fun h₁ hns₁ hsb₁ => ?_) hkind
 have keep : ∀ b o, s3.heap.get? b = some o → h₁.get? b = some o := fun b o e => hsb₁.extBut b o (Nat.ne_of_lt (Heap.lt_size e)) (Heap.get?_push_of_some _ e)
 have hfs : ∀ b ∈ fp, b < s3.heap.objs.size := fun b hb => by
  obtain ⟨o, e, _⟩ := T.obj 0 _ st3' b hb
  exact Heap.lt_size e
 have ok := I3.compOk (ns := x :: x2 :: cs) hkind hcell (Nat.le_refl _) h1 h2 hf3 hfs
 have I4 := I3.comp2 (tk := s3.toks + ([] : List (Str × Value)).length) ok h1 h2 (Nat.le_refl _) hns₁ keep hix hfr hout
 have st4 : tn 0 h₁ := T.keep 0 _ _ st3' fun b _ o e => keep b o e
 generalize hC : s3.heap.objs.size = C at *
 have stat : ∀ {H' : Hp} {pins'}, pins' = [] → (∀ b ∈ fp, H' b = none) → ∀ b ∈ fp, FpOk (X.comp scope cl C (x :: x2 :: cs) s3 H3 fp) pins' H' b := fun hp hn b hb => by
  subst hp
  exact ⟨hn b hb, (ok.exf b hb).1, ok.exfs b hb, .inl hb, (ok.exf b hb).2, fun p hp => by simp at hp⟩
 have hPG : PG (X.comp scope cl C (x :: x2 :: cs) s3 H3 fp) (.Tuple [.Name x px, .Name x2 px2] kt pt) (dgTup X.K 2 (dgCons (gName 0) (dgCons (gName 1) dgNil))) :=
  dg_tup (X := X.comp scope cl C (x :: x2 :: cs) s3 H3 fp) hc (dg_cons (pg_name (X := X.comp scope cl C (x :: x2 :: cs) s3 H3 fp) (i := 0) hN rfl (.inl (lookup_relabel_local hx)) (.inr (lookup_relabel_local hx))) (dg_cons (pg_name (X := X.comp scope cl C (x :: x2 :: cs) s3 H3 fp) (i := 1) hN rfl (.inl (lookup_relabel_local hx2)) (.inr (lookup_relabel_local hx2))) dg_nil))
 have loop : ∀ s5 : Shared, s5 = { s3 with heap := h₁, toks := s3.toks + ([] : List (Str × Value)).length } →
   codeAny (model X.prog X.w) X.A (.compLoop (.ListComp elt [⟨.Tuple [.Name x px, .Name x2 px2] kt pt, iter, [c], 0⟩] scope pos) 0 (.ref it) (.ref D) (compEnvC scope cl C X.env)) (RR (.ref D) C) s5 := by
  rintro s5 rfl
  refine loop_pairIf (fun n s' => ∃ i v0 v1 H' ys, Inv (X.comp scope cl C (x :: x2 :: cs) s3 H3 fp) [] (v0 :: v1 :: capsOf ix σ) H' s' ∧ tn i s'.heap ∧ (∀ b ∈ fp, H' b = none) ∧ W i n ys H') ?_ m0 ⟨0, none, none, H3, [], I4, st4, fun b hb => (hf3 b hb).1, w0⟩
  rintro n s6 ⟨i, v0, v1, H6, ys, I6, st6, fr6, w6⟩
  rcases turn i n ys H6 w6 with ⟨stop, qn⟩ | ⟨go, step⟩
  ·refine wpAny_mono (T.done (X.comp scope cl C (x :: x2 :: cs) s3 H3 fp) rfl rfl rfl hc i [] s6 _ H6 (fun _ _ => False) I6 (stat rfl fr6) st6 stop) (fun r s7 ⟨hr, I7⟩ => ?_) fun _ _ z => z.elim
   subst hr
   exact hRR D C s7 H6 (by obtain ⟨m, hm, _⟩ := I7.loc; exact ⟨m, hm⟩) (fun h' hs => I3.uncomp I7 hf3 hs) (I3.fpOk (Nat.le_of_eq hC) I7.free) qn
  ·refine wpAny_mono (T.item (X.comp scope cl C (x :: x2 :: cs) s3 H3 fp) rfl rfl rfl hc i [] s6 _ H6 (fun _ _ => False) I6 (stat rfl fr6) st6 go) (fun r s7 ⟨u, hr, h7⟩ => ?_) fun _ _ z => z.elim
   subst hr
   refine wpAny_mono h7 (fun _ s8 ⟨xv, H8, I8, r8, y8, st8, fr8⟩ => ?_) fun _ _ z => z.elim
   have I8' := I8.pinned (stat rfl fr8) (T.obj _ _ st8)
   obtain ⟨pa, w1, w2, ex, hsq, stp⟩ := step xv H8 y8 ⟨cl, C, s3, H3, fp⟩
   subst ex
   refine wpAny_mono (hPG _ s8 _ H8 (.ref pa) u (fun σ9 H9 => σ9 = some w1 :: some w2 :: capsOf ix σ ∧ H9 = H8) I8' r8 ⟨_, hsq, rfl, rfl, rfl⟩) (fun _ s9 ⟨σ9, H9, I9, e1, e2⟩ => ?_) fun _ _ z => z.elim
   subst e1 e2
   have again : ∀ {H7 : Hp} {s7 : Shared} {zs : List V} {m' : Nat}, Inv (X.comp scope cl C (x :: x2 :: cs) s3 H3 fp) ([] ++ pinsAt fp s8.heap) (some w1 :: some w2 :: capsOf ix σ) H7 s7 → m' < n → W (i + 1) m' zs H7 →
     ∃ m, m < n ∧ ∃ i v0 v1 H' ys, Inv (X.comp scope cl C (x :: x2 :: cs) s3 H3 fp) [] (v0 :: v1 :: capsOf ix σ) H' s7 ∧ tn i s7.heap ∧ (∀ b ∈ fp, H' b = none) ∧ W i m ys H' := fun {H7 s7 zs m'} I7 hm w7 => by
    refine ⟨m', hm, i + 1, _, _, H7, zs, I7.unpinned, T.keep _ _ _ st8 fun b hb o e => (I7.pin (b, o) (List.mem_append_right _ (List.mem_append_right _ (mem_pinsAt hb e)))).1, fun b hb => ?_, w7⟩
    obtain ⟨o, e, d⟩ := T.obj _ _ st8 b hb
    exact (I7.pin (b, o) (List.mem_append_right _ (List.mem_append_right _ (mem_pinsAt hb e)))).2.1
   have body : ∀ {H5 : Hp} {s5 : Shared}, Inv (X.comp scope cl C (x :: x2 :: cs) s3 H3 fp) ([] ++ pinsAt fp s8.heap) (some w1 :: some w2 :: capsOf ix σ) H5 s5 →
     (te ⟨cl, C, s3, H3, fp⟩ (some w1 :: some w2 :: capsOf ix σ) H5 fun y H3 => H3 D = some (.lst ys) ∧ ys.length < 16000000 ∧ ∀ H4, Chg H3 D (.lst (ys ++ [y])) H4 → ∃ m', m' < n ∧ W (i + 1) m' (ys ++ [y]) H4) →
     ∀ E' : Value → Shared → Prop, wpAny (model X.prog X.w) X.A (eval elt (compEnvC scope cl C X.env)) (fun y s4 => wpAny (model X.prog X.w) X.A (call (.builtin "list.append") [.ref D, y]) (fun _ s5 => ∃ m, m < n ∧ ∃ i v0 v1 H' ys, Inv (X.comp scope cl C (x :: x2 :: cs) s3 H3 fp) [] (v0 :: v1 :: capsOf ix σ) H' s5 ∧ tn i s5.heap ∧ (∀ b ∈ fp, H' b = none) ∧ W i m ys H') E' s4) E' s5 := fun {H5 s5} I5 q5 E' => by
    refine wpAny_mono (helt ⟨cl, C, s3, H3, fp⟩ _ s5 _ H5 _ I5 q5) (fun y s10 ⟨yv, H10, I10, r10, hDy, hl, q10⟩ => ?_) fun _ _ z => z.elim
    refine wpAny_mono (mt_append (X := X.comp scope cl C (x :: x2 :: cs) s3 H3 fp) _ s10 _ H10 (.ref D) [yv] (.ref D) [y] (fun _ H11 => ∃ m', m' < n ∧ W (i + 1) m' (ys ++ [yv]) H11) I10 rfl (.cons r10 .nil) ⟨D, ys, yv, rfl, rfl, hDy, Nat.lt_of_lt_of_le hl (by decide), q10 _ .mk'⟩) (fun _ s11 ⟨_, H11, I11, _, m', hm, w11⟩ => ?_) fun _ _ z => z.elim
    exact again I11 hm w11
   refine wpAny_mono (hct ⟨cl, C, s3, H3, fp⟩ _ s9 _ H9 _ I9 stp) (fun b s10 ⟨H10, I10, q10⟩ => ?_) fun _ _ z => z.elim
   cases b with
   | true =>
    rw [if_pos rfl] at q10 ⊢
    exact body I10 q10 _
   | false =>
    rw [if_neg Bool.false_ne_true] at q10 ⊢
    obtain ⟨m', hm, w10⟩ := q10
    exact again I10 hm w10
 exact codeAny_compStart_list (loop _ rfl) (T.self X.A 0 _ _ _ st4 (loop _ rfl))
theorem pe_comp2If {elt iter c : Expr} {x x2 : Str} {px px2 : Pos} {kt : Nat} {pt : Pos} {scope : Scope} {pos : Pos} {wi : TI} {tc : CB → TT} {te : CB → TE} (sc0 : Scope) (cs : List Str) (ix : List Nat) (hc : X.calm = true) (hi : PI X (.Tuple [.Name x px, .Name x2 px2] kt pt) iter wi)
  (hct : ∀ z : CB, PT (X.comp scope z.cl z.C (x :: x2 :: cs) z.s z.H z.fp) c (tc z)) (helt : ∀ z : CB, PE (X.comp scope z.cl z.C (x :: x2 :: cs) z.s z.H z.fp) elt (te z)) (hN : (x :: x2 :: cs).Nodup := by decide +kernel) (hkind : scope.kind = .function := by rfl) (hcell : ∀ y ∈ scope.names, y.2 ≠ .cell := by decide +kernel)
  (hx : scope.names.lookup x = some .local := by rfl) (hx2 : scope.names.lookup x2 = some .local := by rfl) (hnames : ∀ y ∈ scope.names, y.2 = .local → scope.names.lookup y.1 = some .local := by decide +kernel)
  (hix : ix.map (fun i => X.N[i]?) = cs.map some := by rfl) (hfr : ∀ y ∈ cs, scope.names.lookup y = some .free := by decide +kernel) (hout' : ∀ y ∈ cs, sc0.names.lookup y = some .cell ∨ sc0.names.lookup y = some .free := by decide +kernel)
  (hfree' : ∀ y ∈ scope.names, y.2 = .free → sc0.names.lookup y.1 = some .cell ∨ sc0.names.lookup y.1 = some .free := by decide +kernel) (hsc : X.env.scope = sc0 := by rfl)
  (hs : ∀ x, foldedSetIterable iter X.env x = pure x := by intro _; rfl) :
  PE X (.ListComp elt [⟨.Tuple [.Name x px, .Name x2 px2] kt pt, iter, [c], 0⟩] scope pos) (tComp2If X.K wi ix tc te) := by
 have hout : ∀ y ∈ cs, X.env.scope.names.lookup y = some .cell ∨ X.env.scope.names.lookup y = some .free := by rw [hsc]; exact hout'
 have hfree : ∀ y ∈ scope.names, y.2 = .free → X.env.scope.names.lookup y.1 = some .cell ∨ X.env.scope.names.lookup y.1 = some .free := by rw [hsc]; exact hfree'
 intro pins s σ H Q I h
 obtain ⟨cl, hcl, h1, h2⟩ := closure_ok (scope := scope) (env := X.env) fun y hy hk => I.ok.has y.1 (hfree y hy hk)
 rw [eval_ListComp]
 refine wpAny_comprehension_free (use := none) rfl hs hcl hkind hnames (wpAny_mono (hi pins s σ H _ I h) (fun v s1 h3 => wpAny_mono h3 (fun itv s2 h4 => ?_) fun _ _ z => z) fun _ _ z => z)
 obtain ⟨it, fp, tn, J, H2, rfl, I2, T, st, hf, q⟩ := h4
 refine comp_core2If (Q := Q) hc hkind hcell hx hx2 hN hix hfr hout h1 h2 hct helt I2 T st hf (fun D H3 n3 => ?_) fun D C s3 H3 hm hI hCf hq => ?_
 ·obtain ⟨W, w0, turn⟩ := q D H3 n3
  refine ⟨W, w0, fun i m ys H w => ?_⟩
  rcases turn i m ys H w with z | ⟨go, step⟩
  ·exact .inl z
  ·refine .inr ⟨go, fun x H' y z => ?_⟩
   obtain ⟨a, v1, v2, e, hq, st⟩ := step x H' y z
   exact ⟨a, v1, v2, e, hq, st⟩
 ·obtain ⟨m, hm⟩ := hm
  exact ⟨m, hm, fun h' hs' => ⟨.ref D, H3, hI h' hs', rfl, hq⟩⟩
end
theorem comp_enumIf {K : PySem.W.Frag} {a D : Addr} {xs : List V} {caps : St} {tc : CB → TT} {te : CB → TE} {Q : VK} {H2 : Hp} (Pv : Nat → List V → Hp → Prop) (h0 : Pv 0 [] H2) (hl : ∀ i ys H, i ≤ xs.length → Pv i ys H → SqL K H a xs)
  (hs : ∀ i x ys H p H' z, xs[i]? = some x → Pv i ys H → New H p (.tup [.int (i : Int), x]) H' → tc z (some (.int (i : Int)) :: some x :: caps) H' fun b H5 => if b = true then te z (some (.int (i : Int)) :: some x :: caps) H5 (Onto D ys (Pv (i + 1))) else Pv (i + 1) ys H5) (hd : ∀ ys H, Pv xs.length ys H → Q (.ref D) H) :
  CompGo2If K (Ite K a) D caps tc te Q H2 := by
 refine ⟨fun i m ys H => m = xs.length - i ∧ i ≤ xs.length ∧ Pv i ys H, ⟨xs.length, by simp, Nat.zero_le _, h0⟩, ?_⟩
 rintro i m ys H ⟨rfl, hi, p⟩
 have q := hl i ys H hi p
 by_cases hlt : i < xs.length
 ·refine .inr ⟨⟨xs, xs[i], q, by simp [hlt]⟩, fun x H' y z => ?_⟩
  obtain ⟨pa, v, e, n, y⟩ := y
  have e2 : ∀ H5, (∃ m', m' < xs.length - i ∧ m' = xs.length - (i + 1) ∧ i + 1 ≤ xs.length ∧ Pv (i + 1) ys H5) = Pv (i + 1) ys H5 := fun H5 => propext ⟨fun ⟨_, _, _, _, h⟩ => h, fun h => ⟨_, by omega, rfl, hlt, h⟩⟩
  refine ⟨pa, _, v, e, SqT.of n.at_, ?_⟩
  rw [onto_eq hlt Pv]
  simp only [e2]
  exact hs i v ys H pa H' z (y xs q) p n
 ·obtain rfl : i = xs.length := by omega
  exact .inl ⟨⟨xs, q, Nat.le_refl _⟩, hd ys H p⟩
end L2
namespace Lr
noncomputable def oth (g : Nat) : Nat → List Rat → List Rat
 | _, [] => []
 | i, c :: r => if g.testBit i = true then oth g (i + 1) r else c :: oth g (i + 1) r
theorem oth_mem {g : Nat} {x : Rat} : ∀ {l : List Rat} {i : Nat}, x ∈ oth g i l → x ∈ l
 | [], _, h => by cases h
 | c :: l, i, h => by
  have h' : x ∈ (if g.testBit i = true then oth g (i + 1) l else c :: oth g (i + 1) l) := h
  by_cases hb : g.testBit i = true
  ·rw [if_pos hb] at h'
   exact List.mem_cons_of_mem _ (oth_mem h')
  ·rw [if_neg hb] at h'
   rcases List.mem_cons.mp h' with rfl | h'
   ·exact List.mem_cons_self
   ·exact List.mem_cons_of_mem _ (oth_mem h')
theorem oth_len (g : Nat) : ∀ (l : List Rat) (i : Nat), (oth g i l).length ≤ l.length
 | [], _ => Nat.le_refl _
 | c :: l, i => by
  have ih := oth_len g l (i + 1)
  show (if g.testBit i = true then oth g (i + 1) l else c :: oth g (i + 1) l).length ≤ _
  rw [List.length_cons]
  split
  ·omega
  ·rw [List.length_cons]; omega
theorem oth_congr {g g' : Nat} : ∀ {l : List Rat} {i : Nat}, (∀ j, i ≤ j → g.testBit j = g'.testBit j) → oth g i l = oth g' i l
 | [], _, _ => rfl
 | c :: l, i, h => by
  show (if g.testBit i = true then _ else _) = (if g'.testBit i = true then _ else _)
  rw [h i (Nat.le_refl _), oth_congr (l := l) (i := i + 1) fun j hj => h j (by omega)]
theorem oth_zero : ∀ (l : List Rat) (i : Nat), oth 0 i l = l
 | [], _ => rfl
 | c :: l, i => by
  show (if (0 : Nat).testBit i = true then _ else _) = _
  rw [if_neg (by simp), oth_zero l]
theorem or_bit {g i j : Nat} : (g ||| 2 ^ i).testBit j = (g.testBit j || decide (i = j)) := by rw [Nat.testBit_or, Nat.testBit_two_pow]
theorem oth_step {g : Nat} : ∀ {cs : List Rat} {i k : Nat}, i < cs.length → g.testBit (k + i) = false → sm (oth (g ||| 2 ^ (k + i)) k cs) + cs.getD i 0 = sm (oth g k cs)
 | [], i, k, h, _ => by cases h
 | c :: r, 0, k, _, hb => by
  have hb' : g.testBit k = false := hb
  show sm (if (g ||| 2 ^ k).testBit k = true then oth (g ||| 2 ^ k) (k + 1) r else c :: oth (g ||| 2 ^ k) (k + 1) r) + c = sm (if g.testBit k = true then oth g (k + 1) r else c :: oth g (k + 1) r)
  rw [if_pos (by rw [or_bit]; simp), if_neg (by rw [hb']; decide), oth_congr (g := g ||| 2 ^ k) (g' := g) fun j hj => by rw [or_bit, decide_eq_false (by omega), Bool.or_false]]
  show _ = c + _
  grind
 | c :: r, i + 1, k, h, hb => by
  have e : k + (i + 1) = k + 1 + i := by omega
  rw [e] at hb ⊢
  have ih := oth_step (cs := r) (i := i) (k := k + 1) (by rw [List.length_cons] at h; omega) hb
  have hk : (g ||| 2 ^ (k + 1 + i)).testBit k = g.testBit k := by rw [or_bit, decide_eq_false (by omega), Bool.or_false]
  show sm (if (g ||| 2 ^ (k + 1 + i)).testBit k = true then oth (g ||| 2 ^ (k + 1 + i)) (k + 1) r else c :: oth (g ||| 2 ^ (k + 1 + i)) (k + 1) r) + r.getD i 0 = sm (if g.testBit k = true then oth g (k + 1) r else c :: oth g (k + 1) r)
  rw [hk]
  by_cases hg : g.testBit k = true
  ·rw [if_pos hg, if_pos hg]
   exact ih
  ·rw [if_neg hg, if_neg hg]
   show c + _ + _ = c + _
   grind
noncomputable def smAt (cs : List Rat) (q : List Nat) : Rat := sm (q.map fun i => cs.getD i 0)
theorem smAt_snoc (cs : List Rat) (q : List Nat) (i : Nat) : smAt cs (q ++ [i]) = smAt cs q + cs.getD i 0 := by
 unfold smAt
 rw [List.map_append, sm_app]
 show _ + sm [_] = _
 rw [sm_one]
noncomputable def lv (e t : Rat) : Rat := if e - t < 0 then 0 else e - t
theorem lv_all {e t : Rat} (h : e ≤ t) : lv e t = 0 := by unfold lv; grind
structure Added (cs : List Rat) (e : Rat) (r : List Nat) (ps : List Rat) : Prop where
 len : ps.length = cs.length
 at_ : ∀ (j i : Nat), r[j]? = some i → ps[i]? = some (lv e (sm cs - smAt cs (r.take (j + 1))) - lv e (sm cs - smAt cs (r.take j)))
theorem take_next {α : Type} {r : List α} {j : Nat} {i : α} (h : r[j]? = some i) : r.take (j + 1) = r.take j ++ [i] := by rw [List.take_add_one, h]; rfl
end Lr
namespace Lr
end Lr
namespace L2
open PySem PySem.Spec PyProof.Rows
section
variable {X : Cx}
noncomputable def dBor : R2 := fun x y H Q => match x, y with | .int i, .int j => Q (.int (Builtin.bitOr i j)) H | _, _ => False
theorem d_bor : OpR X (binaryOp .BitOr) dBor := op_or.imp fun _ _ _ _ h => mI_out (g := fun i j Q H => Q (.int (Builtin.bitOr i j)) H) h
noncomputable def dShl : R2 := fun x y H Q => match x, y with | .int i, .int j => CPow i j ∧ Q (.int (i * 2 ^ j.toNat)) H | _, _ => False
theorem d_shl : OpR X (binaryOp .LShift) dShl := op_shl.imp fun _ _ _ _ h => mI_out (g := fun i j Q H => CPow i j ∧ Q (.int (i * 2 ^ j.toNat)) H) h
end
theorem bit_or (g i : Nat) : Builtin.bitOr (g : Int) (1 * 2 ^ ((i : Int)).toNat) = ((g ||| 2 ^ i : Nat) : Int) := by
 have e : (1 * 2 ^ ((i : Int)).toNat : Int) = ((2 ^ i : Nat) : Int) := by
  rw [show ((i : Int)).toNat = i by omega]
  push_cast
  omega
 generalize hk : 2 ^ i = k at e ⊢
 rw [e, bitOr_and, bitAnd_pp (by omega) (by omega), show ((g : Int)).toNat = g by omega, show ((k : Int)).toNat = k by omega]
 have := nat_or_add_and g k
 omega
theorem bit_in (g i : Nat) : decide (Builtin.bitAnd ((g : Int) / 2 ^ ((i : Int)).toNat) 1 = 1) = g.testBit i := by
 rw [bitAnd_m1, show ((i : Int)).toNat = i by omega]
 have e : ((g : Int) / 2 ^ i) % 2 = ((g / 2 ^ i % 2 : Nat) : Int) := by push_cast; rfl
 rw [e, Nat.testBit_eq_decide_div_mod_eq]
 by_cases h : g / 2 ^ i % 2 = 1
 ·rw [h]
  decide
 ·rw [decide_eq_false h]
  exact decide_eq_false (by omega)
end L2
namespace L2
open PySem PySem.Spec PyProof.Rows
section
variable {X : Cx}
noncomputable def dInsert : V → List V → Hp → VK → Prop := fun x vs H Q => match x, vs with
 | .ref l, [.int i, y] => ∃ (xs : List V) (k : Nat), H l = some (.lst xs) ∧ i = (k : Int) ∧ k ≤ xs.length ∧ xs.length < 1000000 ∧ ∀ H', Chg H l (.lst (xs.take k ++ [y] ++ xs.drop k)) H' → Q .non H'
 | _, _ => False
theorem fits_nat {k : Nat} (h : k < 1000000) : Builtin.List.listFitsIndex (k : Int) = true := fitsIndex_both (by omega) (by omega)
theorem fits_not {x : Int} (h : Builtin.List.listFitsIndex x = true) : ¬ (!Builtin.List.listFitsIndex x) = true := by
 rw [h]
 exact Bool.false_ne_true
theorem d_insert : MtM X "list.insert" dInsert := by
 intro pins s σ H x vs v us Q I rx rv h
 unfold dInsert at h
 split at h
 ·rename_i l i y
  obtain ⟨xs, k, hH, hi, hk, hlen, q⟩ := h
  cases rx
  obtain ⟨u1, u2, rfl, r1, r2⟩ := rv.two
  obtain ⟨t, rfl⟩ := r1
  obtain ⟨z, its, n, r, hl, e⟩ := I.lstM hH
  have hf : Builtin.List.listFitsIndex i = true := by rw [hi]; exact fits_nat (by omega)
  have hz : its.toArray.size ≤ sizeLine := by rw [List.size_toArray, ← hl]; exact z
  have hm := AutoSeq1.list_insert_list_int_val_1 l its.toArray n i t u2 (fits_not hf) hz
  refine call_meets F.slot_list_insert ⟨_, e, rfl⟩ F.entry_list_insert (F.args_list_insert_3 _ _ _) hm ?_
  refine ⟨e, ?_⟩
  refine ⟨.non, _, I.lset (its' := its.take k ++ [u2] ++ its.drop k) hH e ?_ (((r.take k).append (.cons r2 .nil)).append (r.drop k)) ?_, rfl, q _ .mk'⟩
  ·show (its.toArray.extract 0 (if i < 0 then (i + (its.toArray.size : Int)).toNat else min i.toNat its.toArray.size)).push u2 ++ its.toArray.extract (if i < 0 then (i + (its.toArray.size : Int)).toNat else min i.toNat its.toArray.size) = _
   rw [if_neg (by omega), show i.toNat = k by omega, List.size_toArray, Nat.min_eq_left (by omega)]
   apply Array.ext'
   simp
   exact List.take_of_length_le (by rw [List.length_drop]; exact Nat.le_refl _)
  ·rw [List.length_append, List.length_append, List.length_take, List.length_drop]
   have : sizeLine = 2 ^ 24 := rfl
   have e1 : [y].length = 1 := rfl
   omega
 ·exact h.elim
end
end L2
namespace L2
open PySem PySem.Spec PyProof.Rows
section
variable {X : Cx}
end
theorem for_zip {K : PySem.W.Frag} {a b : Addr} {xs ys : List V} {g : TG} {tb : TS} {D : Ends} {σ : St} {H : Hp} (Pv : Nat → St → Hp → Prop) (h0 : Pv 0 σ H) (hl : ∀ i σ H, i ≤ xs.length → Pv i σ H → SqL K H a xs ∧ SqL K H b ys) (hxy : ys.length = xs.length)
  (hs : ∀ i x y σ H p H', xs[i]? = some x → ys[i]? = some y → Pv i σ H → New H p (.tup [x, y]) H' → g (.ref p) σ H' fun σ2 H2 => tb { D with nx := Pv (i + 1), ct := Pv (i + 1), bk := D.nx } σ2 H2) (hd : ∀ σ H, Pv xs.length σ H → D.nx σ H) :
  ∃ W : Nat → Nat → St → Hp → Prop, (∃ m, W 0 m σ H) ∧ ∀ i m σ H, W i m σ H →
   ((Itz K a b).stop i H ∧ D.nx σ H) ∨ ((Itz K a b).go i H ∧ ∃ N : St → Hp → Prop, (∀ σ' H', N σ' H' → ∃ m', m' < m ∧ W (i + 1) m' σ' H') ∧ ∀ x H', (Itz K a b).yld i H x H' → g x σ H' fun σ2 H2 => tb { D with nx := N, ct := N, bk := D.nx } σ2 H2) := by
 refine ⟨fun i m σ H => m = xs.length - i ∧ i ≤ xs.length ∧ Pv i σ H, ⟨xs.length, by simp, Nat.zero_le _, h0⟩, ?_⟩
 rintro i m σ H ⟨rfl, hi, p⟩
 obtain ⟨q1, q2⟩ := hl i σ H hi p
 by_cases hlt : i < xs.length
 ·refine .inr ⟨⟨xs, xs[i], ys, ys[i]'(by omega), q1, by simp [hlt], q2, by simp [hxy, hlt]⟩, Pv (i + 1), fun σ' H' p' => ⟨xs.length - (i + 1), by omega, rfl, hlt, p'⟩, fun x H' y => ?_⟩
  obtain ⟨pa, v, w, e, n, y1, y2⟩ := y
  subst e
  exact hs i v w σ H pa H' (y1 xs q1) (y2 ys q2) p n
 ·have e : i = xs.length := by omega
  subst e
  exact .inl ⟨⟨xs, ys, q1, q2, .inl (Nat.le_refl _)⟩, hd σ H p⟩
end L2
namespace L2
open PySem PySem.Spec PyProof.Rows
section
variable {X : Cx}
end
end L2
namespace L2
open PySem PySem.Spec PyProof.Rows
section
variable {X : Cx}
end
end L2
namespace Lr
noncomputable def pick {α : Type} (f : Nat → Bool) : Nat → List α → List α
 | _, [] => []
 | k, x :: r => if f k = true then x :: pick f (k + 1) r else pick f (k + 1) r
theorem pick_map {α β : Type} {f : Nat → Bool} (h : α → β) : ∀ {k : Nat} {xs : List α}, pick f k (xs.map h) = (pick f k xs).map h
 | _, [] => rfl
 | k, x :: r => by
  show (if f k = true then h x :: pick f (k + 1) (r.map h) else pick f (k + 1) (r.map h)) = (if f k = true then x :: pick f (k + 1) r else pick f (k + 1) r).map h
  rw [pick_map h]
  split <;> rfl
theorem pick_snoc {α : Type} {f : Nat → Bool} : ∀ {k : Nat} {xs : List α} {x : α}, pick f k (xs ++ [x]) = pick f k xs ++ (if f (k + xs.length) = true then [x] else [])
 | k, [], x => by
  show (if f k = true then [x] else []) = _
  rfl
 | k, y :: r, x => by
  show (if f k = true then y :: pick f (k + 1) (r ++ [x]) else pick f (k + 1) (r ++ [x])) = (if f k = true then y :: pick f (k + 1) r else pick f (k + 1) r) ++ _
  rw [pick_snoc, List.length_cons, show k + (r.length + 1) = k + 1 + r.length by omega]
  split <;> rfl
theorem pick_mem {α : Type} {f : Nat → Bool} {x : α} : ∀ {k : Nat} {xs : List α}, x ∈ pick f k xs → x ∈ xs
 | _, [], h => h
 | k, y :: r, h => by
  have h' : x ∈ if f k = true then y :: pick f (k + 1) r else pick f (k + 1) r := h
  split at h'
  ·rcases List.mem_cons.mp h' with rfl | h'
   ·exact List.mem_cons_self
   ·exact List.mem_cons_of_mem _ (pick_mem h')
  ·exact List.mem_cons_of_mem _ (pick_mem h')
theorem pick_sum {f : Nat → Bool} : ∀ {k : Nat} {xs : List Int}, (pick f k xs).sum + (pick (fun i => !f i) k xs).sum = xs.sum
 | _, [] => rfl
 | k, x :: r => by
  have := pick_sum (f := f) (k := k + 1) (xs := r)
  show (if f k = true then x :: pick f (k + 1) r else pick f (k + 1) r).sum + (if (!f k) = true then x :: pick (fun i => !f i) (k + 1) r else pick (fun i => !f i) (k + 1) r).sum = _
  rw [List.sum_cons]
  cases f k
  ·simp only [Bool.false_eq_true, if_false, Bool.not_false, if_true, List.sum_cons]; omega
  ·simp only [Bool.not_true, Bool.false_eq_true, if_false, if_true, List.sum_cons]; omega
noncomputable def slackZ (ts gs : List Int) (g : Nat) : Int := (pick g.testBit 0 gs).sum - max (gs.sum - (pick (fun i => !g.testBit i) 0 ts).sum) 0
end Lr
namespace L2
open PySem PySem.Spec PyProof.Rows
section
variable {X : Cx}
end
end L2
namespace L2
open PySem PySem.Spec PyProof.Rows
section
variable {X : Cx}
noncomputable def dNe4 (K : PySem.W.Frag) : R2 := fun x y H Q => match x, y with
 | .ref l, .ref m => ∃ (a b c d i j k n : Addr) (xs ps : List Rat) (s : Str) (os : List Int) (g : Int), H l = some (.lst [.ref a, .ref b]) ∧ H m = some (.lst [.ref c, .ref d]) ∧ H b = some (.lst [.str s, .ref i, .int g, .ref k]) ∧ H d = some (.lst [.str s, .ref j, .int g, .ref n]) ∧ RatL K H a xs ∧ RatL K H c xs ∧ SqL K H i (os.map V.int) ∧ SqL K H j (os.map V.int) ∧ RatL K H k ps ∧ RatL K H n ps ∧ Q (.bl false) H
 | _, _ => False
theorem d_ne4 (hu : X.A.units + 3 < cLine) : OpR X (compareOp .NotEq) (dNe4 X.K) := by
 intro pins s σ H x y v u Q I rx ry h
 unfold dNe4 at h
 split at h
 rotate_left
 ·exact h.elim
 obtain ⟨a, b, c, d, i, j_, k, n, xs, ps, t, os, g, h1, h2, hb, hd, ra, rc, ii, ij, rk, rn, q⟩ := h
 cases rx
 cases ry
 obtain ⟨its, v1, p1, _⟩ := I.list (SqL.of h1)
 obtain ⟨jts, v2, p2, _⟩ := I.list (SqL.of h2)
 obtain ⟨u1, u2, rfl, r1, r2⟩ := vals2 v1
 obtain ⟨w1, w2, rfl, r3, r4⟩ := vals2 v2
 cases (show u1 = Value.ref a from r1)
 cases (show u2 = Value.ref b from r2)
 cases (show w1 = Value.ref c from r3)
 cases (show w2 = Value.ref d from r4)
 have z := SeqAt.RcNeAt.lists (A := X.A) (s := s) (e := fun _ => true) p1.isList p2.isList rfl (by omega) (fun j b1 b2 => ?_) X.prog X.w X.xe
 ·refine z _ ?_
  have e : (!(List.range ([Value.ref a, Value.ref b].toArray).size).all fun _ => true) = false := by simp
  exact ⟨.bl false, H, I, congrArg Value.bool e, q⟩
 ·match j, b1 with
  | 0, _ => exact eqRatsA (A := X.A.in1) I (by show X.A.units + 1 + 1 < cLine; omega) ra rc
  | 1, _ =>
   obtain ⟨bts, vb, pb, _⟩ := I.list (SqL.of hb)
   obtain ⟨dts, vd, pd, _⟩ := I.list (SqL.of hd)
   have n1 := vb.length
   have n2 := vd.length
   refine eqListA (A := X.A.in1) (by show X.A.units + 1 < cLine; omega) pb.isList pd.isList (by rw [← n1, ← n2]; rfl) fun j u v hu' hv' => ?_
   have hj : j < 4 := by
    have := (List.getElem?_eq_some_iff.mp hu').1
    rw [← n1] at this
    exact this
   have g1 : ∀ w, [V.str t, .ref i, .int g, .ref k][j]? = some w → RelV w u := fun w hw => by
    obtain ⟨u', h3, ru⟩ := vb.get hw
    rw [hu'] at h3
    cases h3
    exact ru
   have g2 : ∀ w, [V.str t, .ref j_, .int g, .ref n][j]? = some w → RelV w v := fun w hw => by
    obtain ⟨v', h4, rv⟩ := vd.get hw
    rw [hv'] at h4
    cases h4
    exact rv
   match j, hj with
   | 0, _ =>
    have := eqAt_V (A := X.A.in1.in1) (s := s) (y := .str t) (x := .str t) (g1 _ rfl) (g2 _ rfl) rfl rfl
    have e : eqV (.str t) (.str t) = true := by show (_ == _) = true; simp
    rw [e] at this
    exact this
   | 1, _ =>
    cases (show u = Value.ref i from g1 _ rfl)
    cases (show v = Value.ref j_ from g2 _ rfl)
    exact eqIntsA (A := X.A.in1.in1) I (by show X.A.units + 1 + 1 < cLine; omega) ii ij
   | 2, _ =>
    have := eqAt_V (A := X.A.in1.in1) (s := s) (y := .int g) (x := .int g) (g1 _ rfl) (g2 _ rfl) rfl rfl
    have e : eqV (.int g) (.int g) = true := by show (_ == _) = true; simp
    rw [e] at this
    exact this
   | 3, _ =>
    cases (show u = Value.ref k from g1 _ rfl)
    cases (show v = Value.ref n from g2 _ rfl)
    exact eqRatsA (A := X.A.in1.in1) I (by show X.A.units + 1 + 1 + 1 < cLine; omega) rk rn
theorem hu_of3 {k : Nat} {A : Around} (r : Room k A) : A.units + 3 < cLine := by have := r.un; omega
end
end L2
namespace PySem
open Sem (wp)
section
variable {prog : Program} {w : World} {A : Around} {Rs : Result → Shared → Prop} {ir : Addr} {fo wo : List Addr} {n : Nat} {P : Nat → Value → Prop} {St : Nat → Heap → Prop}
noncomputable def BestOfN (P : Nat → Value → Prop) (bt : Nat → Nat → Bool) (j : Nat) (old : Array Value) : Prop := (j = 0 ∧ old = #[]) ∨ ∃ vb m, j = m + 1 ∧ old = #[vb, vb] ∧ P (argBest bt m) vb
theorem minD_go (wk : Walks prog w A.in1 ir fo wo n P St) (bt : Nat → Nat → Bool) (hcmp : CmpOf prog w A.in1 .Lt P bt) (d : Value) (bx : Addr) (bxf : bx ∉ fo) :
  ∀ (k j : Nat) (sh : Shared) (old : Array Value) (c : Nat), n - j = k → j ≤ n → St j sh.heap → BestOfN P bt j old → sh.heap.get? bx = some { cls := .type "list", dict := none, data := .seq old c, slots := #[] } →
  (∀ v h' tk, (0 < n → P (argBest bt (n - 1)) v) → (n = 0 → v = d) → (∀ b o, b ∉ wo → b ≠ bx → sh.heap.get? b = some o → h'.get? b = some o) → Rs (.ok (.ret v)) { sh with heap := h', toks := tk }) →
  codeAny (model prog w) A (.builtin "min.loop" ⟨[.ref ir, .none, .ref bx], [(Str.ofString "default", d)]⟩) Rs sh
 | 0, j, sh, old, c, hk, hj, st, hB, gb, fin => by
  have bxw : bx ∉ wo := fun h => bxf (wk.sub _ h)
  have hjn : j = n := by omega
  subst hjn
  refine codeAny_builtin F.entry_min_loop ?_
  rw [Around.under_plainId F.plain_min_loop _]
  show wpAny _ A.in1 (seqItems? (.ref bx) >>= _) _ _ sh
  refine wpAny_bind (wpAny_seqItems gb rfl ?_)
  show wpAny _ A.in1 (tryCatch (pyNext (.ref ir)) _ >>= _) _ _ sh
  refine wpAny_bind (wpAny_tryCatch (wk.done sh _ _ st fun h' tk kp => ?_))
  rcases hB with ⟨z, rfl⟩ | ⟨vb, m, hm, rfl, hP⟩
  ·show wpAny _ A.in1 (rule _ >>= _) _ _ _
   refine wpAny_bind (wpAny_rule (wpAny_pure ?_))
   exact fin d h' tk (fun h => by omega) (fun _ => rfl) fun b o hbw _ e => kp b o hbw e
  ·have gb' := kp bx _ bxw gb
   show wpAny _ A.in1 (updateSeq bx (fun _ => #[]) >>= _) _ _ _
   refine wpAny_bind (wpAny_updateSeq gb' rfl (wpAny_bind (wpAny_letGo (wpAny_pure ?_))))
   refine fin vb _ tk (fun _ => by rw [hm, Nat.add_sub_cancel]; exact hP) (fun h => by omega) fun b o hbw hbS e => (Heap.get?_update_other _ _ (Ne.symm hbS)).trans (kp b o hbw e)
 | k + 1, j, sh, old, c, hk, hj, st, hB, gb, fin => by
  have bxw : bx ∉ wo := fun h => bxf (wk.sub _ h)
  have nm : (toString "min" ++ toString ".loop" : String) = "min.loop" := by decide
  have hlt : j < n := by omega
  refine codeAny_builtin F.entry_min_loop ?_
  rw [Around.under_plainId F.plain_min_loop _]
  show wpAny _ A.in1 (seqItems? (.ref bx) >>= _) _ _ sh
  refine wpAny_bind (wpAny_seqItems gb rfl ?_)
  show wpAny _ A.in1 (tryCatch (pyNext (.ref ir)) _ >>= _) _ _ sh
  refine wpAny_bind (wpAny_tryCatch (wk.item j sh _ _ hlt st fun v h' tk hP st' kp => ?_))
  have gb' := kp bx _ bxw gb
  -- on with the next item, v the best or the one that was
  have on : ∀ (new : Array Value) (u : Array Value → Array Value), u old = new → BestOfN P bt (j + 1) new →
    codeAny (model prog w) A (.builtin "min.loop" ⟨[.ref ir, .none, .ref bx], [(Str.ofString "default", d)]⟩) Rs { sh with heap := h'.update bx (Obj.mapSeq u), toks := tk } := fun new u hu hb => by
   have hS2 := Heap.get?_update_self (Obj.mapSeq u) gb' rfl
   refine minD_go wk bt hcmp d bx bxf k (j + 1) _ new _ (by omega) hlt (wk.frame _ _ _ st' fun b hbf o e => ?_) hb (by rw [← hu]; exact hS2) fun v' h'' tk'' h1 h2 hk'' => ?_
   ·exact (Heap.get?_update_other _ _ (fun h : bx = b => bxf (by rw [h]; exact hbf))).trans e
   ·exact fin v' h'' tk'' h1 h2 fun b o hbw hbS e => hk'' b o hbw hbS ((Heap.get?_update_other _ _ (Ne.symm hbS)).trans (kp b o hbw e))
  rcases hB with ⟨rfl, rfl⟩ | ⟨vb, m, rfl, rfl, hPb⟩
  ·show wpAny _ A.in1 (updateSeq bx (fun _ => #[v, v]) >>= _) _ _ _
   refine wpAny_bind (wpAny_updateSeq gb' rfl ?_)
   rw [nm]
   exact wpAny_pure ⟨plainId_quiet F.plain_min_loop _, on #[v, v] _ rfl (.inr ⟨v, 0, rfl, rfl, hP⟩)⟩
  ·show wpAny _ A.in1 (tryCatch (holding [v, v] (richCompare .Lt v vb >>= _)) _ >>= _) _ _ _
   refine wpAny_bind (wpAny_tryCatch (wpAny_holding (wpAny_bind (hcmp (m + 1) (argBest bt m) v vb _ _ _ hP hPb ?_))))
   refine wpAny_bind (wpAny_holding (wpAny_truthy_bool ?_))
   refine wpAny_bind (wpAny_letGo (wpAny_pure ?_))
   cases hb : bt (m + 1) (argBest bt m) with
   | true =>
    simp only [if_true]
    refine wpAny_bind (wpAny_updateSeq gb' rfl (wpAny_bind (wpAny_letGo ?_)))
    rw [nm]
    exact wpAny_pure ⟨plainId_quiet F.plain_min_loop _, on #[v, v] _ rfl (.inr ⟨v, m + 1, rfl, rfl, by simp only [argBest, hb, if_true]; exact hP⟩)⟩
   | false =>
    simp only [Bool.false_eq_true, if_false]
    refine wpAny_bind (wpAny_letGo ?_)
    rw [nm]
    refine wpAny_pure ⟨plainId_quiet F.plain_min_loop _, minD_go wk bt hcmp d bx bxf k (m + 1 + 1) _ #[vb, vb] c (by omega) hlt st' (.inr ⟨vb, m + 1, rfl, rfl, by simp only [argBest, hb, Bool.false_eq_true, if_false]; exact hPb⟩) gb' fun v' h'' tk'' h1 h2 hk'' => ?_⟩
    exact fin v' h'' tk'' h1 h2 fun b o hbw hbS e => hk'' b o hbw hbS (kp b o hbw e)
end
section
variable {prog : Program} {w : World} {A : Around} {E : Value → Shared → Prop} {sh : Shared}
theorem args_minD (a v : Value) : argsOk "min" ⟨[a], [(Str.ofString "default", v)]⟩ := by unfold argsOk; kernel_rfl
theorem call_minD_walk {x d : Value} {Q : Value → Shared → Prop}
  (h : wpAny (model prog w) A.in1 (pyIter x) (fun it s₂ => ∃ ir fo wo n P St bt, it = .ref ir ∧ Walks prog w A.in1 ir fo wo n P St ∧ St 0 s₂.heap ∧ (∀ b ∈ fo, b < s₂.heap.objs.size) ∧ CmpOf prog w A.in1 .Lt P bt ∧
   (0 < n → ∀ v h' tk, P (argBest bt (n - 1)) v → (∀ b o, b ∉ wo → s₂.heap.get? b = some o → h'.get? b = some o) → Q v { s₂ with heap := h', toks := tk }) ∧
   (n = 0 → ∀ h' tk, (∀ b o, b ∉ wo → s₂.heap.get? b = some o → h'.get? b = some o) → Q d { s₂ with heap := h', toks := tk })) E sh) :
  wpAny (model prog w) A (call (.builtin "min") [x] [(Str.ofString "default", d)]) Q E sh := by
 have nm : (toString "min" ++ toString ".loop" : String) = "min.loop" := by decide
 refine PyProof.Rows.kmb_tree F.kind_min F.plain_min F.entry_min (args_minD _ _) ?_
 show wpAny _ A.in1 (Builtin.Builtins.bindParams "min" ["key", "default"] 0 ⟨[], [(Str.ofString "default", d)]⟩ >>= _) _ _ sh
 refine wpAny_bind (wpAny_of_eq (show Builtin.Builtins.bindParams "min" ["key", "default"] 0 ⟨[], [(Str.ofString "default", d)]⟩ = pure [none, some d] from rfl) ?_)
 refine wpAny_bind (wpAny_pure ?_)
 refine wpAny_bind (wpAny_mono h (fun it s₂ h₂ => ?_) fun _ _ e => e)
 obtain ⟨ir, fo, wo, n, P, St, bt, rfl, wk, st, hfp, hcmp, hQ, hQ0⟩ := h₂
 refine wpAny_bind (wpAny_newObj_type ?_)
 have bxf : s₂.heap.objs.size ∉ fo := fun hm => Nat.lt_irrefl _ (hfp _ hm)
 rw [nm]
 refine wpAny_pure ⟨plainId_quiet F.plain_min_loop _, ?_⟩
 refine minD_go wk bt hcmp d s₂.heap.objs.size bxf n 0 _ #[] _ rfl (Nat.zero_le _) (wk.frame _ _ _ st fun b _ o e => Heap.get?_push_of_some _ e) (.inl ⟨rfl, rfl⟩) (Heap.get?_push_size _ rfl) fun v h' tk h1 h2 hk => ?_
 have kp : ∀ b o, b ∉ wo → s₂.heap.get? b = some o → h'.get? b = some o := fun b o hbw e => hk b o hbw (Nat.ne_of_lt (Heap.lt_size e)) (Heap.get?_push_of_some _ e)
 by_cases hn : 0 < n
 ·exact hQ hn v h' tk (h1 hn) kp
 ·have h0 : n = 0 := by omega
  rw [h2 h0]
  exact hQ0 h0 h' tk kp
end
end PySem
namespace L2
open PySem PySem.Spec PyProof.Rows
section
variable {X : Cx}
noncomputable def minDQ (K : PySem.W.Frag) (Q : VK) (vs ws : List V) (H2 : Hp) : Prop := match vs, ws with
 | [.ref q], [.int j] => ∃ ns : List Int, SqL K H2 q (ns.map V.int) ∧ (ns = [] → Q (.int j) H2) ∧ ∀ m ∈ ns, (∀ x ∈ ns, m ≤ x) → Q (.int m) H2
 | _, _ => False
noncomputable def tMinD (K : PySem.W.Frag) (ta : TA) (td : TE) : TE := fun σ H Q => ta σ H fun vs H1 => td σ H1 fun y H2 => minDQ K Q vs [y] H2
theorem best_min (f : Nat → Int) : ∀ k, argBest (fun i j => decide (f i < f j)) k ≤ k ∧ ∀ i, i ≤ k → f (argBest (fun i j => decide (f i < f j)) k) ≤ f i
 | 0 => ⟨Nat.le_refl _, fun i hi => by rw [show i = 0 by omega]; exact Int.le_refl _⟩
 | k + 1 => by
  obtain ⟨h1, h2⟩ := best_min f k
  unfold argBest
  by_cases hb : f (k + 1) < f (argBest (fun i j => decide (f i < f j)) k)
  ·rw [if_pos (decide_eq_true hb)]
   refine ⟨Nat.le_refl _, fun i hi => ?_⟩
   by_cases z : i = k + 1
   ·rw [z]; exact Int.le_refl _
   ·exact Int.le_trans (Int.le_of_lt hb) (h2 i (by omega))
  ·rw [if_neg (by simpa using hb)]
   refine ⟨by omega, fun i hi => ?_⟩
   by_cases z : i = k + 1
   ·rw [z]; omega
   ·exact h2 i (by omega)
theorem pe_minD {e d : Expr} {ta : TA} {td : TE} {p pos kpos : Pos} (hc : X.calm = true) (hg : Gl X "min") (hm : X.mg "min" = none) (ha : PA X [e] ta) (hd : PE X d td)
  (he : backTo pos (starEach [e] X.env) = (false, eval e X.env) :: backTo pos (starEach [] X.env) := by rfl) (hpl : (backTo pos (starEach [e] X.env)).any (·.1) = false := by rfl) :
  PE X (.Call (.Name "min" p) [e] [⟨some (Str.ofString "default"), d, kpos⟩] pos) (tMinD X.K ta td) := by
 intro pins s σ H Q I h
 refine wpAny_Call_Name_kw (ld_blt I hg hm boot_min ?_)
 refine PyProof.Rows.callWith_kw (thn (ha pos pins s σ H _ I h) fun us s1 ⟨vs, H1, I1, r1, q1⟩ => ?_) he hpl
 refine thn ((pk_cons (nm := some (Str.ofString "default")) (kpos := kpos) hd pk_nil) pos pins s1 σ H1 (fun ws H2 => minDQ X.K Q vs ws H2) I1 q1) fun ks s2 ⟨ws, H2, I2, r2, q2⟩ => ?_
 dsimp only [minDQ] at q2
 split at q2
 ·rename_i q j _
  obtain ⟨ns, hs, q0, q1⟩ := q2
  obtain ⟨u, rfl, ru⟩ := vals1 r1
  cases (show u = Value.ref q from ru)
  obtain ⟨v, rfl, rv⟩ := vals1 r2
  obtain ⟨its, rl, pl, _⟩ := I2.list hs
  obtain ⟨ts, e, hn⟩ := vals_intsT rl
  have e2 : its.toArray = intItems ts.toArray := by rw [e]; simp [intItems]
  have hl : s2.heap.IsList q (intItems ts.toArray) := by rw [← e2]; exact pl.isList
  have hlen : ts.length = ns.length := by rw [← hn, List.length_map]
  have hnum : ∀ i, i < ns.length → ∃ x, ns[i]? = some x ∧ numAt ts.toArray i = x := fun i hi => by
   have hi' : i < ts.length := by omega
   refine ⟨ts[i].1, by rw [← hn, List.getElem?_map, List.getElem?_eq_getElem hi']; rfl, ?_⟩
   unfold numAt
   rw [List.getElem?_toArray, List.getElem?_eq_getElem hi']
   rfl
  show wpAny _ _ (call (.builtin "min") [.ref q] [(Str.ofString "default", v)]) _ _ s2
  refine call_minD_walk (iter_intList hl fun s₃ e3 st hfp hlI => ?_)
  subst e3
  refine ⟨_, _, _, _, _, _, _, rfl, Walks.list (A := X.A.in1) (I.ok.hd hc) _ q hlI (intItems ts.toArray), st, hfp, CmpOf.ints_lt (numAt ts.toArray) (fun _ _ => intItems_at), fun hpos v h' tk hP hk => ?_, fun h0 h' tk hk => ?_⟩
  ·obtain ⟨t, rfl⟩ := intItems_at hP
   have hsz : (intItems ts.toArray).size = ns.length := by simp [intItems, hlen]
   rw [hsz] at hpos ⊢
   obtain ⟨b1, b2⟩ := best_min (numAt ts.toArray) (ns.length - 1)
   obtain ⟨x, hx, ex⟩ := hnum (argBest (fun i j => decide (numAt ts.toArray i < numAt ts.toArray j)) (ns.length - 1)) (by omega)
   refine ⟨.int x, H2, I2.kept (t' := tk) (old_kept hk), ⟨t, by rw [ex]⟩, q1 x (List.mem_of_getElem? hx) fun y hy => ?_⟩
   obtain ⟨i, hi⟩ := List.mem_iff_getElem?.mp hy
   have hil := (List.getElem?_eq_some_iff.mp hi).1
   obtain ⟨z, hz, ez⟩ := hnum i hil
   rw [hi] at hz
   cases hz
   have := b2 i (by omega)
   rw [ex, ez] at this
   exact this
  ·have hsz : (intItems ts.toArray).size = ns.length := by simp [intItems, hlen]
   have hns : ns = [] := List.length_eq_zero_iff.mp (by omega)
   exact ⟨.int j, H2, I2.kept (t' := tk) (old_kept hk), rv, q0 hns⟩
 ·exact q2.elim
end
end L2
set_option Elab.async false
set_option linter.all false
set_option maxRecDepth 100000
set_option maxHeartbeats 4000000
namespace La
open PySem PyProof.Rows
section
variable {prog : Program} {w : World} {A : Around} {E : Value → Shared → Prop} {s : Shared}
theorem at_ {a : Array Keyed} {i : Nat} (h : i < a.size) : ∃ x, a[i]? = some x ∧ x ∈ a.toList := ⟨a[i], by simp [h], by simp⟩
theorem K_at {a : Array Keyed} {i : Nat} {x : Keyed} (h : a[i]? = some x) : K a i = numOf x.1 := by unfold K; rw [h]
theorem wp_ltK {st : SortSt} {i j : Nat} {Q : Option Bool → SortSt → Prop} (hk : kindOf st = oneType') (hI : IntKeys (arrOf st)) (hi : i < (arrOf st).size) (hj : j < (arrOf st).size)
  (h : Q (some (decide (K (arrOf st) i < K (arrOf st) j))) st) : wpS (model prog w) A E s (ltAt' i j) Q st := by
 obtain ⟨x, hx, hmx⟩ := at_ hi
 obtain ⟨y, hy, hmy⟩ := at_ hj
 obtain ⟨a, t, e1⟩ := hI x hmx
 obtain ⟨b, u, e2⟩ := hI y hmy
 refine wpS_ltAt hk (a := a) (t := t) (p := x.2) (b := b) (u := u) (q := y.2) (by rw [hx, ← e1]) (by rw [hy, ← e2]) ?_
 rw [K_at hx, K_at hy] at h
 rw [e1, e2] at h
 exact h
theorem wp_asc {st : SortSt} {lo a nrem : Nat} {Q : Option (Option Nat) × Nat → SortSt → Prop} {f : Nat → Option (Option Nat) × Nat → StateT SortSt Sem (ForInStep (Option (Option Nat) × Nat))}
  (hk : kindOf st = oneType') (hI : IntKeys (arrOf st)) (hb : lo + nrem ≤ (arrOf st).size) (ha : 1 ≤ a) (han : a ≤ nrem) (hS : SortedTo (arrOf st) (arrOf st).size)
  (hF : ∀ x n, f x (none, n) = (do
   let r ← ltAt' (lo + n) (lo + n - 1)
   match r with
   | some smaller => if smaller = true then pure (ForInStep.done (none, n)) else pure (ForInStep.yield (none, n + 1))
   | _ => pure (ForInStep.done (some none, n))))
  (h : Q (none, nrem) st) :
  wpS (model prog w) A E s (forIn [a:nrem] (none, a) f) Q st := by
 refine wpS_forRange (I := fun x c st' => st' = st ∧ c = (none, x)) ?step ?fin ⟨rfl, rfl⟩
 case fin =>
  rintro c st' ⟨e, rfl⟩
  subst st'
  rw [Nat.max_eq_right han]
  exact h
 case step =>
  rintro x c st' hax hx ⟨e, rfl⟩
  subst st'
  rw [hF]
  refine wpS_bind (wp_ltK hk hI (by omega) (by omega) ?_)
  dsimp only
  have hl : ¬ K (arrOf st) (lo + x) < K (arrOf st) (lo + x - 1) := by
   have := hS (lo + x - 1) (lo + x) (by omega) (by omega)
   omega
  rw [decide_eq_false hl, if_neg (by decide)]
  exact wpS_pure ⟨rfl, rfl⟩
theorem wp_countRun {st : SortSt} {lo nrem : Nat} {Q : Option Nat → SortSt → Prop} (hk : kindOf st = oneType') (hI : IntKeys (arrOf st)) (h1 : 1 ≤ nrem) (hb : lo + nrem ≤ (arrOf st).size) (hS : SortedTo (arrOf st) (arrOf st).size)
  (h : Q (some nrem) st) : wpS (model prog w) A E s (countRun' lo nrem) Q st := by
 refine wpS_bind (wp_asc hk hI hb (Nat.le_refl 1) h1 hS (fun x n => rfl) ?_)
 dsimp only
 rw [if_pos (beq_iff_eq.mpr rfl)]
 exact wpS_pure h
theorem wp_binary {st : SortSt} {lo n : Nat} {Q : Bool → SortSt → Prop} (hn : 1 ≤ n) (h : Q true st) : wpS (model prog w) A E s (binarySort' lo n n) Q st := by
 refine wpS_bind (wpS_mono (wpS_forRange (I := fun k c st' => c = (none, ()) ∧ st' = st) (Q := fun c st' => c = (none, ()) ∧ st' = st) ?step ?fin ⟨rfl, rfl⟩) ?post)
 case post =>
  rintro c st' ⟨rfl, e⟩
  subst st'
  exact wpS_pure h
 case fin =>
  rintro c st' ⟨rfl, e⟩
  exact ⟨rfl, e⟩
 case step =>
  rintro k c st1 hak hkn _
  omega
set_option genInjectivity false in
structure Inv (a₀ : Array Keyed) (st : SortSt) (c : Nat) : Prop where
 k : kindOf st = oneType'
 f : failedOf st = none
 a : arrOf st = a₀
 p : (c = 0 ∧ pendingOf st = #[]) ∨ (c = a₀.size ∧ (pendingOf st).size ≤ 1)
theorem wp_sortRuns {a₀ : Array Keyed} {st : SortSt} {Q : Unit → SortSt → Prop} (h0 : IntKeys a₀) (hS : SortedTo a₀ a₀.size) (hI : Inv a₀ st 0)
  (h : ∀ st', arrOf st' = a₀ → failedOf st' = none → Q () st') : wpS (model prog w) A E s sortRuns' Q st := by
 rw [sortRuns'_eq]
 refine wpS_bind (wpS_get ?_)
 dsimp only
 rw [hI.a]
 generalize minRun' a₀.size a₀.size 0 = mr
 refine wpS_bind (wpS_mono (wpS_forRange (I := fun x c st' => ∃ lo, c = (none, lo) ∧ x ≤ lo ∧ lo ≤ a₀.size ∧ Inv a₀ st' lo) (Q := fun c st' => c.1 = none ∧ Inv a₀ st' a₀.size) ?step ?fin ⟨0, rfl, Nat.le_refl _, Nat.zero_le _, hI⟩) ?post)
 case fin =>
  rintro c st' ⟨lo, rfl, h1, h2, hJ⟩
  obtain rfl : lo = a₀.size := by omega
  exact ⟨rfl, hJ⟩
 case post =>
  rintro ⟨c1, c2⟩ st' ⟨e, hJ⟩
  dsimp only at e
  subst c1
  dsimp only
  have hp : (pendingOf st').size ≤ 1 := by
   rcases hJ.p with ⟨_, z⟩ | ⟨_, z⟩
   ·rw [z]; decide
   ·exact z
  refine wpS_bind (wpS_mono (wpS_forRange (I := fun x c st2 => c = (none, ()) ∧ st2 = st') (Q := fun c st2 => c = (none, ()) ∧ st2 = st') ?step2 (fun _ _ z => z) ⟨rfl, rfl⟩) ?post2)
  case post2 =>
   rintro c st2 ⟨rfl, e⟩
   subst st2
   exact wpS_pure (h st' hJ.a hJ.f)
  case step2 =>
   rintro x c st2 _ hx ⟨rfl, e⟩
   subst st2
   refine wpS_bind (wpS_get ?_)
   try dsimp only
   rw [if_pos hp]
   exact wpS_pure ⟨rfl, rfl⟩
 case step =>
  rintro x c st1 _ hx ⟨lo, rfl, h1, h2, hJ⟩
  dsimp only
  by_cases hg : lo ≥ a₀.size
  ·rw [if_pos hg]
   obtain rfl : lo = a₀.size := by omega
   exact wpS_pure ⟨rfl, hJ⟩
  rw [if_neg hg]
  rcases hJ.p with ⟨rfl, hp0⟩ | ⟨z, _⟩
  case inr => omega
  have ha := hJ.a
  refine wpS_bind (wp_countRun hJ.k (by rw [ha]; exact h0) (by omega) (by rw [ha]; omega) (by rw [ha]; exact hS) ?_)
  dsimp only
  have fin : Inv a₀ (setPending st1 ((pendingOf st1).push (0, a₀.size - 0, 0))) (0 + (a₀.size - 0)) := ⟨hJ.k, hJ.f, ha, .inr ⟨by omega, by
   show ((pendingOf st1).push _).size ≤ 1
   rw [Array.size_push, hp0]
   decide⟩⟩
  by_cases hlt : a₀.size - 0 < mr
  ·rw [if_pos hlt]
   refine wpS_bind (wpS_lift (wpAny_rule ⟨rfl, ?_⟩))
   rw [show min (a₀.size - 0) mr = a₀.size - 0 by omega]
   refine wpS_bind (wp_binary (by omega) ?_)
   simp only [Bool.not_true, Bool.false_eq_true, if_false]
   refine wpS_bind (wpS_get ?_)
   split
   ·rename_i z
    exact absurd z (by rw [hp0]; simp)
   ·exact wpS_bind (wpS_modify (wpS_pure ⟨_, rfl, by omega, by omega, fin⟩))
  ·rw [if_neg hlt]
   refine wpS_bind (wpS_get ?_)
   split
   ·rename_i z
    exact absurd z (by rw [hp0]; simp)
   ·exact wpS_bind (wpS_modify (wpS_pure ⟨_, rfl, by omega, by omega, fin⟩))
theorem sort_tree {a : Addr} {vs : List Value} {ns : List Int} {n : Nat} {P : Fin → Shared → Prop} (ho : s.heap.get? a = some (seqObj "list" vs.toArray n)) (hI : IntsAre vs ns) (hS : SortedTo (pairsOf vs) (pairsOf vs).size) (hm : vs.length ≤ 100000)
  (h : ∀ (out : Array Value) (ms : List Int), IntsAre out.toList ms → ms.Perm ns → ms.Pairwise (· ≤ ·) → P (.done (.ret .none)) { s with heap := sortedHeap s.heap a vs out }) :
  wpAny (model prog w) A (Builtin.«list.sort» ⟨[.ref a], []⟩) P E s := by
 rw [list_sort_plain]
 have ha := Heap.lt_size ho
 have hL : (100000 : Nat) ≤ sizeLine := by decide
 refine wpAny_bind (listItems_at ho rfl (wpAny_bind (listUpdate_at ho rfl ?_)))
 have ⟨e1, ho1⟩ : ∃ e1, (s.heap.update a (Obj.mapSeq fun _ => #[])).get? a = some (seqObj "list" #[] e1) := ⟨_, get?_update_seq ho (fun _ => #[])⟩
 refine wpAny_bind (seqEpoch_at ho1 rfl (wpAny_bind (wpAny_newTuple (wpAny_bind (wpAny_newList (wpAny_holding ?_))))))
 have ho6 : (((s.heap.update a (Obj.mapSeq fun _ => #[])).push (seqObj "tuple" vs.toArray 0)).push (seqObj "list" #[] 0)).get? a = some (seqObj "list" #[] e1) := by
  have z1 : a ≠ (s.heap.update a (Obj.mapSeq fun _ => #[])).objs.size := by rw [Heap.size_update]; exact Nat.ne_of_lt ha
  have z2 : a ≠ ((s.heap.update a (Obj.mapSeq fun _ => #[])).push (seqObj "tuple" vs.toArray 0)).objs.size := by rw [size_push', Heap.size_update]; exact Nat.ne_of_lt (Nat.lt_succ_of_lt ha)
  rw [Heap.get?_push_ne _ _ _ z2, Heap.get?_push_ne _ _ _ z1]
  exact ho1
 show wpAny (model prog w) A _ P E (Shared.mk (((s.heap.update a (Obj.mapSeq fun _ => #[])).push (seqObj "tuple" vs.toArray 0)).push (seqObj "list" #[] 0)) _ _ _ _)
 dsimp only
 have end_ : ∀ st' : SortSt, (arrOf st').Perm (pairsOf vs) → SortedTo (arrOf st') (pairsOf vs).size → P (.done (.ret .none)) { s with heap := sortedHeap s.heap a vs ((arrOf st').map (·.2)) } := fun st' hp hs =>
  let ⟨ms, h1, h2, h3⟩ := sorted_out hI hp hs
  h _ ms h1 h2 h3
 by_cases h2 : vs.toArray.size < 2
 ·rw [if_pos h2, if_pos h2]
  refine wpAny_bind (wpAny_pure ?_)
  rw [StateT.run_pure]
  refine wpAny_bind (wpAny_pure (wpAny_bind (seqEpoch_at ho6 rfl (wpAny_bind (listUpdate_at ho6 rfl ?_ (hsz2 := ?_))))))
  ·simp only [bne_self_eq_false, Bool.false_eq_true, if_false]
   refine wpAny_pure (end_ (SortSt.mk' general' (vs.toArray.zip vs.toArray) #[] 7 none) (Array.Perm.refl _) fun i j hij hj => ?_)
   obtain rfl : i = j := by rw [pairsOf_size] at hj; simp at h2; omega
   exact Int.le_refl _
  ·rw [Array.size_map]
   show (pairsOf vs).size ≤ _
   rw [pairsOf_size]
   omega
 ·rw [if_neg h2, if_neg h2]
  have hv2 : 2 ≤ vs.length := by simp at h2; exact h2
  match vs, hv2, ho, hI, hS, hm, h, ho6, end_ with
  | v₁ :: v₂ :: rest, _, ho, hI, hS, hm, h, ho6, end_ =>
  rw [keyKind_ints hI]
  refine wpAny_bind (wpAny_pure ?_)
  have hrun := wp_sortRuns (prog := prog) (w := w) (A := A) (E := E) (s := Shared.mk (((s.heap.update a (Obj.mapSeq fun _ => #[])).push (seqObj "tuple" (v₁ :: v₂ :: rest).toArray 0)).push (seqObj "list" #[] 0)) s.gens s.drawn s.toks s.os) (a₀ := pairsOf (v₁ :: v₂ :: rest)) (st := SortSt.mk' oneType' ((v₁ :: v₂ :: rest).toArray.zip (v₁ :: v₂ :: rest).toArray) #[] 7 none)
   (Q := fun _ st' => (arrOf st').Perm (pairsOf (v₁ :: v₂ :: rest)) ∧ failedOf st' = none ∧ SortedTo (arrOf st') (pairsOf (v₁ :: v₂ :: rest)).size) hI.intKeys hS ⟨rfl, rfl, rfl, .inl ⟨rfl, rfl⟩⟩ fun st' p1 p2 => ⟨by rw [p1], p2, by rw [p1]; exact hS⟩
  refine wpAny_bind (wpAny_mono hrun ?_ fun _ _ e => e)
  rintro ⟨⟨⟩, st'⟩ s' ⟨rfl, hp, hf, hs⟩
  dsimp only
  refine wpAny_bind (seqEpoch_at ho6 rfl (wpAny_bind (listUpdate_at ho6 rfl ?_ (hsz2 := ?_))))
  ·rw [hf]
   simp only [bne_self_eq_false, Bool.false_eq_true, if_false]
   exact wpAny_pure (end_ st' hp hs)
  ·have z := hp.size_eq.trans (pairsOf_size _)
   rw [Array.size_map, z]
   omega
theorem sorted_asc {l : Addr} {vs : List Value} {ns : List Int} {Q : Value → Shared → Prop} (hl : s.heap.IsList l vs.toArray) (hI : IntsAre vs ns) (hS : SortedTo (pairsOf vs) (pairsOf vs).size) (hm : vs.length ≤ 100000)
  (h : ∀ (out : Array Value) (ms : List Int), IntsAre out.toList ms → ms.Perm ns → ms.Pairwise (· ≤ ·) → Q (.ref (s.heap.objs.size + 1)) { s with heap := sortedAll s.heap vs out }) :
  wpAny (model prog w) A (call (.builtin "sorted") [.ref l]) Q E s := by
 refine (Calls.call_function_entry kind_sorted plain_sorted entry_sorted (args_sorted1 _) (?_))
 have hL : (100000 : Nat) ≤ sizeLine := by decide
 unfold Builtin.«sorted»
 refine wpAny_bind (m := checkCount "sorted" 1 1 _) (wpAny_pure (wpAny_bind (collect_list hl (wpAny_bind (wpAny_newList ?_)) (hsz := Nat.le_trans hm hL))))
 have e1 : ((s.heap.push (seqObj "list" #[] 0)).update s.heap.objs.size (Obj.mapSeq (· ++ vs.toArray))).objs.size = s.heap.objs.size + 1 := (Heap.size_update ..).trans (size_push' ..)
 have e2 : (((s.heap.push (seqObj "list" #[] 0)).update s.heap.objs.size (Obj.mapSeq (· ++ vs.toArray))).push (seqObj "list" vs.toArray 0)).get? (s.heap.objs.size + 1) = some (seqObj "list" vs.toArray 0) := by
  rw [← e1]
  exact Heap.get?_push_size _ rfl
 show wpAny _ _ _ _ _ (Shared.mk (((s.heap.push (seqObj "list" #[] 0)).update s.heap.objs.size (Obj.mapSeq (· ++ vs.toArray))).push (seqObj "list" vs.toArray 0)) _ _ _ _)
 rw [e1]
 refine wpAny_bind (wpAny_holding (wpAny_call_entry slot_list_sort ⟨_, e2, rfl⟩ entry_list_sort (sort_tree e2 hI hS hm fun out ms a1 a2 a3 => ⟨_, rfl, ?_⟩) (args_list_sort _)))
 exact wpAny_pure ⟨_, rfl, h out ms a1 a2 a3⟩
theorem asc_of {vs : List Value} {ns : List Int} (hI : IntsAre vs ns) (hp : ns.Pairwise (· ≤ ·)) : SortedTo (pairsOf vs) (pairsOf vs).size := by
 intro i j hij hj
 rw [pairsOf_size] at hj
 have hl : vs.length = ns.length := by rw [← hI.nums, List.length_map]
 have e : ∀ k (h : k < vs.length), K (pairsOf vs) k = ns[k]'(by omega) := fun k h => by
  have z : (pairsOf vs)[k]? = some (vs[k], vs[k]) := by
   rw [← Array.getElem?_toList, pairsOf_toList]
   simp [List.getElem?_zip_eq_some, h]
  unfold K
  rw [z]
  have q := hI.nums
  subst q
  simp
 rw [e i (by omega), e j hj]
 rcases Nat.lt_or_ge i j with z | z
 ·exact List.pairwise_iff_getElem.mp hp i j _ _ z
 ·obtain rfl : i = j := by omega
  exact Int.le_refl _
end
end La
namespace L2
open PySem PySem.Spec PyProof.Rows
noncomputable def dSortedA (K : PySem.W.Frag) : List V → Hp → VK → Prop := fun xs H Q => match xs with
 | [.ref p] => ∃ ns : List Int, SqL K H p (ns.map V.int) ∧ ns.Pairwise (· ≤ ·) ∧ ns.length ≤ 100000 ∧ ∀ l (ms : List Int) H', ms.Perm ns → ms.Pairwise (· ≤ ·) → New H l (.lst (ms.map V.int)) H' → Q (.ref l) H'
 | _ => False
section
variable {X : Cx}
theorem d_sortedA : CallR X (.builtin "sorted") (dSortedA X.K) := by
 intro pins s σ H xs us Q I r h
 unfold dSortedA at h
 split at h
 ·rename_i p
  obtain ⟨ns, hs, hO, h64, q⟩ := h
  obtain ⟨u, rfl, ru⟩ := vals1 r
  cases (show u = Value.ref p from ru)
  obtain ⟨its, rv, pl, _⟩ := I.list hs
  have hl := rv.length
  rw [List.length_map] at hl
  refine La.sorted_asc pl.isList (intsOf rv) (La.asc_of (intsOf rv) hO) (by omega) fun out ns' hI hp hsrt => ?_
  have fD : H (s.heap.objs.size + 1) = none := I.hok.fresh (Nat.le_succ _)
  obtain ⟨e, he⟩ := sortedAll_at s.heap its out
  have I2 : Inv X pins σ (upd H (s.heap.objs.size + 1) (.lst (ns'.map V.int))) { s with heap := sortedAll s.heap its out } := by
   refine I.laid (t' := s.toks) (fun b o e => sortedAll_old e) (Nat.le_succ _) ?_
   refine ⟨?_, out.toList, e, vals_of hI, by simpa [seqObj] using he⟩
   rw [List.length_map, hp.length_eq]
   have : (100000 : Nat) ≤ sizeLine := by decide
   omega
  exact ⟨.ref (s.heap.objs.size + 1), _, I2, rfl, q _ ns' _ hp hsrt (.mk' fD)⟩
 ·exact h.elim
end
end L2
namespace My
open PySem L2
noncomputable def top (i : Nat) : Stmt := PySem.Challenge.pw_leanestate_k48_all_refuse_in_order.main.body.getD i (.Pass ⟨0, 0, 0, 0⟩)
noncomputable abbrev s_l_cell_at : Stmt := top 75
theorem sc_l_cell_at : FnScope ["_law_script", "_law_k"] ["_law_script", "_law_k"] (defScope s_l_cell_at) := ⟨rfl, rfl, rfl, by decide +kernel, rfl, by decide +kernel, by decide +kernel⟩
noncomputable abbrev s_l_wholes : Stmt := top 78
theorem sc_l_wholes : FnScope ["_law_script", "_law_count", "_law_wholes_here", "_law_k", "_law_cell"] ["_law_script", "_law_count"] (defScope s_l_wholes) := ⟨rfl, rfl, rfl, by decide +kernel, rfl, by decide +kernel, by decide +kernel⟩
noncomputable abbrev s_l_case : Stmt := top 79
theorem sc_l_case : FnScope ["_law_script", "_law_count", "_law_base", "_law_wholes_here", "_law_cell", "_law_way", "_law_bend", "_law_amount", "_law_parts", "_law_some"] ["_law_script"] (defScope s_l_case) := ⟨rfl, rfl, rfl, by decide +kernel, rfl, by decide +kernel, by decide +kernel⟩
noncomputable abbrev s_l_ratio : Stmt := top 76
theorem sc_l_ratio : FnScope ["_law_top", "_law_bottom", "_law_one", "_law_two"] ["_law_top", "_law_bottom"] (defScope s_l_ratio) := ⟨rfl, rfl, rfl, by decide +kernel, rfl, by decide +kernel, by decide +kernel⟩
noncomputable abbrev s_l_wrong_claims : Stmt := top 87
theorem sc_l_wrong_claims : FnScope ["_law_good_here", "_law_bottom", "_law_cell", "_law_far", "_law_some", "_law_at"] ["_law_good_here", "_law_bottom", "_law_cell", "_law_far"] (defScope s_l_wrong_claims) := ⟨rfl, rfl, rfl, by decide +kernel, rfl, by decide +kernel, by decide +kernel⟩
noncomputable abbrev s_l_no_order : Stmt := top 85
theorem sc_l_no_order : FnScope ["_law_order_here", "_law_cell"] ["_law_order_here", "_law_cell"] (defScope s_l_no_order) := ⟨rfl, rfl, rfl, by decide +kernel, rfl, by decide +kernel, by decide +kernel⟩
noncomputable abbrev s_l_wrong_others : Stmt := top 88
theorem sc_l_wrong_others : FnScope ["_law_fine", "_law_good_here", "_law_count", "_law_cell", "_law_far", "_law_others"] ["_law_fine", "_law_good_here", "_law_count", "_law_cell", "_law_far"] (defScope s_l_wrong_others) := ⟨rfl, rfl, rfl, by decide +kernel, rfl, by decide +kernel, by decide +kernel⟩
noncomputable abbrev s_l_order : Stmt := top 84
theorem sc_l_order : FnScope ["_law_count", "_law_cell", "_law_order_here", "_law_k"] ["_law_count", "_law_cell"] (defScope s_l_order) := ⟨rfl, rfl, rfl, by decide +kernel, rfl, by decide +kernel, by decide +kernel⟩
noncomputable abbrev s_l_due : Stmt := top 83
theorem sc_l_due : FnScope ["_law_what", "_law_wrongs", "_law_asked", "_law_k"] ["_law_what", "_law_wrongs"] (defScope s_l_due) := ⟨rfl, rfl, rfl, by decide +kernel, rfl, by decide +kernel, by decide +kernel⟩
noncomputable abbrev s_less : Stmt := top 25
theorem sc_less : FnScope ["one", "other"] ["one", "other"] (defScope s_less) := ⟨rfl, rfl, rfl, by decide +kernel, rfl, by decide +kernel, by decide +kernel⟩
noncomputable abbrev s_look_at_claims : Stmt := top 32
theorem sc_look_at_claims : FnScope ["claims", "claim"] ["claims"] (defScope s_look_at_claims) := ⟨rfl, rfl, rfl, by decide +kernel, rfl, by decide +kernel, by decide +kernel⟩
noncomputable abbrev s_look_at_sharing : Stmt := top 34
theorem sc_look_at_sharing : FnScope ["claims", "parts", "claim", "part"] ["claims", "parts"] (defScope s_look_at_sharing) := ⟨rfl, rfl, rfl, by decide +kernel, rfl, by decide +kernel, by decide +kernel⟩
noncomputable abbrev s_common_divisor : Stmt := top 19
theorem sc_common_divisor : FnScope ["one", "other", "greater", "lesser", "rest"] ["one", "other"] (defScope s_common_divisor) := ⟨rfl, rfl, rfl, by decide +kernel, rfl, by decide +kernel, by decide +kernel⟩
noncomputable abbrev s_common_bottom : Stmt := top 27
theorem sc_common_bottom : FnScope ["ratios", "bottom", "one"] ["ratios"] (defScope s_common_bottom) := ⟨rfl, rfl, rfl, by decide +kernel, rfl, by decide +kernel, by decide +kernel⟩
noncomputable abbrev s_tops_over : Stmt := top 28
theorem sc_tops_over : FnScope ["bottom", "ratios"] ["bottom", "ratios"] (defScope s_tops_over) := ⟨rfl, rfl, rfl, by decide +kernel, rfl, by decide +kernel, by decide +kernel⟩
noncomputable abbrev s_is_whole : Stmt := top 18
theorem sc_is_whole : FnScope ["value"] ["value"] (defScope s_is_whole) := ⟨rfl, rfl, rfl, by decide +kernel, rfl, by decide +kernel, by decide +kernel⟩
noncomputable abbrev s_ratio : Stmt := top 20
theorem sc_ratio : FnScope ["top", "bottom", "divisor"] ["top", "bottom"] (defScope s_ratio) := ⟨rfl, rfl, rfl, by decide +kernel, rfl, by decide +kernel, by decide +kernel⟩
noncomputable abbrev s_is_in : Stmt := top 48
theorem sc_is_in : FnScope ["group", "claimer"] ["group", "claimer"] (defScope s_is_in) := ⟨rfl, rfl, rfl, by decide +kernel, rfl, by decide +kernel, by decide +kernel⟩
noncomputable abbrev s_of_members : Stmt := top 49
theorem sc_of_members : FnScope ["listed", "group"] ["listed", "group"] (defScope s_of_members) := ⟨rfl, rfl, rfl, by decide +kernel, rfl, by decide +kernel, by decide +kernel⟩
noncomputable abbrev s_of_others : Stmt := top 50
theorem sc_of_others : FnScope ["listed", "group"] ["listed", "group"] (defScope s_of_others) := ⟨rfl, rfl, rfl, by decide +kernel, rfl, by decide +kernel, by decide +kernel⟩
noncomputable abbrev s_slack : Stmt := top 53
theorem sc_slack : FnScope ["claims", "parts", "group"] ["claims", "parts", "group"] (defScope s_slack) := ⟨rfl, rfl, rfl, by decide +kernel, rfl, by decide +kernel, by decide +kernel⟩
noncomputable abbrev s_slacks : Stmt := top 54
theorem sc_slacks : FnScope ["claims", "parts", "bottom", "claimed", "got", "everybody"] ["claims", "parts"] (defScope s_slacks) := ⟨rfl, rfl, rfl, by decide +kernel, rfl, by decide +kernel, by decide +kernel⟩
noncomputable abbrev s_plus : Stmt := top 21
theorem sc_plus : FnScope ["one", "other"] ["one", "other"] (defScope s_plus) := ⟨rfl, rfl, rfl, by decide +kernel, rfl, by decide +kernel, by decide +kernel⟩
noncomputable abbrev s_total : Stmt := top 31
theorem sc_total : FnScope ["claims", "found", "claim"] ["claims"] (defScope s_total) := ⟨rfl, rfl, rfl, by decide +kernel, rfl, by decide +kernel, by decide +kernel⟩
noncomputable abbrev s_look_at : Stmt := top 33
theorem sc_look_at : FnScope ["claims", "estate"] ["claims", "estate"] (defScope s_look_at) := ⟨rfl, rfl, rfl, by decide +kernel, rfl, by decide +kernel, by decide +kernel⟩
noncomputable abbrev s_look_at_order : Stmt := top 40
theorem sc_look_at_order : FnScope ["claims", "order"] ["claims", "order"] (defScope s_look_at_order) := ⟨rfl, rfl, rfl, by decide +kernel, rfl, by decide +kernel, by decide +kernel⟩
noncomputable abbrev s_lesser_of : Stmt := top 26
theorem sc_lesser_of : FnScope ["one", "other"] ["one", "other"] (defScope s_lesser_of) := ⟨rfl, rfl, rfl, by decide +kernel, rfl, by decide +kernel, by decide +kernel⟩
noncomputable abbrev s_minus : Stmt := top 22
theorem sc_minus : FnScope ["one", "other"] ["one", "other"] (defScope s_minus) := ⟨rfl, rfl, rfl, by decide +kernel, rfl, by decide +kernel, by decide +kernel⟩
noncomputable abbrev s_taken : Stmt := top 41
theorem sc_taken : FnScope ["claims", "estate", "order", "parts", "left", "claimer"] ["claims", "estate", "order"] (defScope s_taken) := ⟨rfl, rfl, rfl, by decide +kernel, rfl, by decide +kernel, by decide +kernel⟩
noncomputable abbrev s_number_of_orders : Stmt := top 42
theorem sc_number_of_orders : FnScope ["count", "number", "factor"] ["count"] (defScope s_number_of_orders) := ⟨rfl, rfl, rfl, by decide +kernel, rfl, by decide +kernel, by decide +kernel⟩
noncomputable abbrev s_groups_of : Stmt := top 43
theorem sc_groups_of : FnScope ["claims", "groups", "claim"] ["claims"] (defScope s_groups_of) := ⟨rfl, rfl, rfl, by decide +kernel, rfl, by decide +kernel, by decide +kernel⟩
noncomputable abbrev s_taken_in_all_orders : Stmt := top 44
theorem sc_taken_in_all_orders : FnScope ["claim", "others", "estate", "times_counted"] ["claim", "others", "estate"] (defScope s_taken_in_all_orders) := ⟨rfl, rfl, rfl, by decide +kernel, rfl, by decide +kernel, by decide +kernel⟩
noncomputable abbrev s_all_but : Stmt := top 37
theorem sc_all_but : FnScope ["claimer", "listed"] ["claimer", "listed"] (defScope s_all_but) := ⟨rfl, rfl, rfl, by decide +kernel, rfl, by decide +kernel, by decide +kernel⟩
noncomputable abbrev s_by_turns : Stmt := top 45
theorem sc_by_turns : FnScope ["claims", "estate", "bottom", "tops", "top", "parted_by"] ["claims", "estate"] (defScope s_by_turns) := ⟨rfl, rfl, rfl, by decide +kernel, rfl, by decide +kernel, by decide +kernel⟩
noncomputable abbrev s_look_at_rule : Stmt := top 66
theorem sc_look_at_rule : FnScope ["rule"] ["rule"] (defScope s_look_at_rule) := ⟨rfl, rfl, rfl, by decide +kernel, rfl, by decide +kernel, by decide +kernel⟩
noncomputable abbrev s_over : Stmt := top 24
theorem sc_over : FnScope ["one", "other"] ["one", "other"] (defScope s_over) := ⟨rfl, rfl, rfl, by decide +kernel, rfl, by decide +kernel, by decide +kernel⟩
noncomputable abbrev s_times : Stmt := top 23
theorem sc_times : FnScope ["one", "other"] ["one", "other"] (defScope s_times) := ⟨rfl, rfl, rfl, by decide +kernel, rfl, by decide +kernel, by decide +kernel⟩
noncomputable abbrev s_in_shares : Stmt := top 60
theorem sc_in_shares : FnScope ["claims", "estate", "claimed", "share"] ["claims", "estate"] (defScope s_in_shares) := ⟨rfl, rfl, rfl, by decide +kernel, rfl, by decide +kernel, by decide +kernel⟩
noncomputable abbrev s_gain_level : Stmt := top 56
theorem sc_gain_level : FnScope ["claims", "estate", "bottom", "rest", "sharers", "top"] ["claims", "estate"] (defScope s_gain_level) := ⟨rfl, rfl, rfl, by decide +kernel, rfl, by decide +kernel, by decide +kernel⟩
noncomputable abbrev s_by_gains : Stmt := top 61
theorem sc_by_gains : FnScope ["claims", "estate", "level"] ["claims", "estate"] (defScope s_by_gains) := ⟨rfl, rfl, rfl, by decide +kernel, rfl, by decide +kernel, by decide +kernel⟩
noncomputable abbrev s_lack : Stmt := top 35
theorem sc_lack : FnScope ["claims", "estate"] ["claims", "estate"] (defScope s_lack) := ⟨rfl, rfl, rfl, by decide +kernel, rfl, by decide +kernel, by decide +kernel⟩
noncomputable abbrev s_loss_level : Stmt := top 57
theorem sc_loss_level : FnScope ["claims", "estate"] ["claims", "estate"] (defScope s_loss_level) := ⟨rfl, rfl, rfl, by decide +kernel, rfl, by decide +kernel, by decide +kernel⟩
noncomputable abbrev s_claims_less : Stmt := top 36
theorem sc_claims_less : FnScope ["claims", "parts"] ["claims", "parts"] (defScope s_claims_less) := ⟨rfl, rfl, rfl, by decide +kernel, rfl, by decide +kernel, by decide +kernel⟩
noncomputable abbrev s_by_losses : Stmt := top 62
theorem sc_by_losses : FnScope ["claims", "estate", "level"] ["claims", "estate"] (defScope s_by_losses) := ⟨rfl, rfl, rfl, by decide +kernel, rfl, by decide +kernel, by decide +kernel⟩
noncomputable abbrev s_by_halves : Stmt := top 63
theorem sc_by_halves : FnScope ["claims", "estate", "missing", "halves"] ["claims", "estate"] (defScope s_by_halves) := ⟨rfl, rfl, rfl, by decide +kernel, rfl, by decide +kernel, by decide +kernel⟩
noncomputable abbrev s_shared : Stmt := top 67
theorem sc_shared : FnScope ["rule", "claims", "estate"] ["rule", "claims", "estate"] (defScope s_shared) := ⟨rfl, rfl, rfl, by decide +kernel, rfl, by decide +kernel, by decide +kernel⟩
noncomputable abbrev s_of_two : Stmt := top 69
theorem sc_of_two : FnScope ["rule", "claim", "other", "amount"] ["rule", "claim", "other", "amount"] (defScope s_of_two) := ⟨rfl, rfl, rfl, by decide +kernel, rfl, by decide +kernel, by decide +kernel⟩
noncomputable abbrev s_turned : Stmt := top 71
theorem sc_turned : FnScope ["rule", "claims", "estate"] ["rule", "claims", "estate"] (defScope s_turned) := ⟨rfl, rfl, rfl, by decide +kernel, rfl, by decide +kernel, by decide +kernel⟩
noncomputable abbrev s_cut_claims : Stmt := top 72
theorem sc_cut_claims : FnScope ["claims", "estate"] ["claims", "estate"] (defScope s_cut_claims) := ⟨rfl, rfl, rfl, by decide +kernel, rfl, by decide +kernel, by decide +kernel⟩
noncomputable abbrev s_left_over : Stmt := top 38
theorem sc_left_over : FnScope ["claims", "estate", "rest"] ["claims", "estate"] (defScope s_left_over) := ⟨rfl, rfl, rfl, by decide +kernel, rfl, by decide +kernel, by decide +kernel⟩
noncomputable abbrev s_least_rights : Stmt := top 73
theorem sc_least_rights : FnScope ["claims", "estate"] ["claims", "estate"] (defScope s_least_rights) := ⟨rfl, rfl, rfl, by decide +kernel, rfl, by decide +kernel, by decide +kernel⟩
noncomputable abbrev s_look_at_group : Stmt := top 47
theorem sc_look_at_group : FnScope ["claims", "group"] ["claims", "group"] (defScope s_look_at_group) := ⟨rfl, rfl, rfl, by decide +kernel, rfl, by decide +kernel, by decide +kernel⟩
noncomputable abbrev s_worth : Stmt := top 51
theorem sc_worth : FnScope ["claims", "estate", "group"] ["claims", "estate", "group"] (defScope s_worth) := ⟨rfl, rfl, rfl, by decide +kernel, rfl, by decide +kernel, by decide +kernel⟩
noncomputable abbrev s_added : Stmt := top 52
theorem sc_added : FnScope ["claims", "estate", "order", "parts", "come", "before", "claimer", "after"] ["claims", "estate", "order"] (defScope s_added) := ⟨rfl, rfl, rfl, by decide +kernel, rfl, by decide +kernel, by decide +kernel⟩
noncomputable abbrev s_l_ask : Stmt := top 80
theorem sc_l_ask : FnScope ["_law_what", "_law_claims", "_law_estate", "_law_others"] ["_law_what", "_law_claims", "_law_estate", "_law_others"] (defScope s_l_ask) := ⟨rfl, rfl, rfl, by decide +kernel, rfl, by decide +kernel, by decide +kernel⟩
noncomputable abbrev s_l_kinds : Stmt := top 81
theorem sc_l_kinds : FnScope ["_law_e", "_law_kinds_here"] ["_law_e"] (defScope s_l_kinds) := ⟨rfl, rfl, rfl, by decide +kernel, rfl, by decide +kernel, by decide +kernel⟩
noncomputable abbrev s_l_told : Stmt := top 82
theorem sc_l_told : FnScope ["_law_what", "_law_claims", "_law_estate", "_law_others", "_law_due_here", "_law_handed", "_law_found", "_law_kinds_here", "_law_e"] ["_law_what", "_law_claims", "_law_estate", "_law_others", "_law_due_here"] (defScope s_l_told) := ⟨rfl, rfl, rfl, by decide +kernel, rfl, by decide +kernel, by decide +kernel⟩
noncomputable abbrev s_l_good : Stmt := top 86
theorem sc_l_good : FnScope ["_law_what", "_law_some", "_law_estate", "_law_others"] ["_law_what", "_law_some", "_law_estate", "_law_others"] (defScope s_l_good) := ⟨rfl, rfl, rfl, by decide +kernel, rfl, by decide +kernel, by decide +kernel⟩
noncomputable abbrev s_law : Stmt := top 89
theorem sc_law : FnScope ["_law_script", "_law_claims", "_law_amount", "_law_bottom", "_law_good_here", "_law_estate", "_law_first", "_law_word", "_law_fine", "_law_cell", "_law_far", "_law_some", "_law_others", "_law_asked", "_law_whole", "_law_what", "_law_wrongs", "_law_due_here"] ["_law_script"] (defScope s_law) := ⟨rfl, rfl, rfl, by decide +kernel, rfl, by decide +kernel, by decide +kernel⟩
set_option genInjectivity false in
structure Ad where
 aLeanError : Addr
 aNoRatio : Addr
 aNoText : Addr
 aTooMany : Addr
 aNoClaim : Addr
 aNoEstate : Addr
 aNoRule : Addr
 aNoOrder : Addr
 aNoSharing : Addr
 aNoClaimer : Addr
 aNoAmount : Addr
 aNoGroup : Addr
 aNoLine : Addr
 aNoName : Addr
 aKnown : Addr
 oNOUGHT : Addr
 oHALF : Addr
 oWORDS : Addr
structure Env (K : PySem.W.Frag) (mg : Str → Option Value) (Ad : Ad) : Prop where
 T : Kt K
 e_Za : ECls K mg "LeanError" Ad.aLeanError
 e_Zb : ECls K mg "NoRatio" Ad.aNoRatio
 e_Zc : ECls K mg "NoText" Ad.aNoText
 e_Zd : ECls K mg "TooMany" Ad.aTooMany
 e_Ze : ECls K mg "NoClaim" Ad.aNoClaim
 e_Zf : ECls K mg "NoEstate" Ad.aNoEstate
 e_Zg : ECls K mg "NoRule" Ad.aNoRule
 e_Zh : ECls K mg "NoOrder" Ad.aNoOrder
 e_Zi : ECls K mg "NoSharing" Ad.aNoSharing
 e_Zj : ECls K mg "NoClaimer" Ad.aNoClaimer
 e_Zk : ECls K mg "NoAmount" Ad.aNoAmount
 e_Zl : ECls K mg "NoGroup" Ad.aNoGroup
 e_Zm : ECls K mg "NoLine" Ad.aNoLine
 e_Zn : ECls K mg "NoName" Ad.aNoName
 e_Zo : ECls K mg "Known" Ad.aKnown
 b_len : mg "len" = none
 b_abs : mg "abs" = none
 b_range : mg "range" = none
 b_isinstance : mg "isinstance" = none
 b_int : mg "int" = none
 b_bool : mg "bool" = none
 b_tuple : mg "tuple" = none
 b_list : mg "list" = none
 b_sum : mg "sum" = none
 b_min : mg "min" = none
 b_max : mg "max" = none
 b_enumerate : mg "enumerate" = none
 b_sorted : mg "sorted" = none
 b_zip : mg "zip" = none
 b_ValueError : mg "ValueError" = none
 c_Zp : Cn mg "NOUGHT" (.ref Ad.oNOUGHT)
 k_Zp : KT K Ad.oNOUGHT [.int 0, .int 1]
 c_Zq : Cn mg "MOST_CLAIMS" (.int 8)
 c_Zr : Cn mg "HALF" (.ref Ad.oHALF)
 k_Zr : KT K Ad.oHALF [.int 1, .int 2]
 c_Zs : Cn mg "WORDS" (.ref Ad.oWORDS)
 k_Zs : KT K Ad.oWORDS [.str (tx [115, 104, 97, 114, 101, 115]), .str (tx [103, 97, 105, 110, 115]), .str (tx [108, 111, 115, 115, 101, 115]), .str (tx [104, 97, 108, 118, 101, 115]), .str (tx [116, 117, 114, 110, 115])]
 mx_Zg : PySem.W.exmOne K (.ref Ad.aNoRule) (.ref Ad.aLeanError) = some true
 ek_Zg : EKit K Ad.aNoRule
 kv_Zg : PySem.W.kitOne K (.ref Ad.aNoRule) (.type "ValueError") = some true
 k_Zg_Zo : PySem.W.kitOne K (.ref Ad.aNoRule) (.ref Ad.aKnown) = some false
 k_Zg_Zk : PySem.W.kitOne K (.ref Ad.aNoRule) (.ref Ad.aNoAmount) = some false
 k_Zg_Zj : PySem.W.kitOne K (.ref Ad.aNoRule) (.ref Ad.aNoClaimer) = some false
 k_Zg_Zm : PySem.W.kitOne K (.ref Ad.aNoRule) (.ref Ad.aNoLine) = some false
 k_Zg_Zn : PySem.W.kitOne K (.ref Ad.aNoRule) (.ref Ad.aNoName) = some false
 k_Zg_Zb : PySem.W.kitOne K (.ref Ad.aNoRule) (.ref Ad.aNoRatio) = some false
 k_Zg_Zc : PySem.W.kitOne K (.ref Ad.aNoRule) (.ref Ad.aNoText) = some false
 k_Zg_Zg : PySem.W.kitOne K (.ref Ad.aNoRule) (.ref Ad.aNoRule) = some true
 k_Zg_Zd : PySem.W.kitOne K (.ref Ad.aNoRule) (.ref Ad.aTooMany) = some false
 k_Zg_Ze : PySem.W.kitOne K (.ref Ad.aNoRule) (.ref Ad.aNoClaim) = some false
 k_Zg_Zf : PySem.W.kitOne K (.ref Ad.aNoRule) (.ref Ad.aNoEstate) = some false
 k_Zg_Zh : PySem.W.kitOne K (.ref Ad.aNoRule) (.ref Ad.aNoOrder) = some false
 k_Zg_Zl : PySem.W.kitOne K (.ref Ad.aNoRule) (.ref Ad.aNoGroup) = some false
 k_Zg_Zi : PySem.W.kitOne K (.ref Ad.aNoRule) (.ref Ad.aNoSharing) = some false
 mx_Zd : PySem.W.exmOne K (.ref Ad.aTooMany) (.ref Ad.aLeanError) = some true
 ek_Zd : EKit K Ad.aTooMany
 kv_Zd : PySem.W.kitOne K (.ref Ad.aTooMany) (.type "ValueError") = some true
 k_Zd_Zo : PySem.W.kitOne K (.ref Ad.aTooMany) (.ref Ad.aKnown) = some false
 k_Zd_Zk : PySem.W.kitOne K (.ref Ad.aTooMany) (.ref Ad.aNoAmount) = some false
 k_Zd_Zj : PySem.W.kitOne K (.ref Ad.aTooMany) (.ref Ad.aNoClaimer) = some false
 k_Zd_Zm : PySem.W.kitOne K (.ref Ad.aTooMany) (.ref Ad.aNoLine) = some false
 k_Zd_Zn : PySem.W.kitOne K (.ref Ad.aTooMany) (.ref Ad.aNoName) = some false
 k_Zd_Zb : PySem.W.kitOne K (.ref Ad.aTooMany) (.ref Ad.aNoRatio) = some false
 k_Zd_Zc : PySem.W.kitOne K (.ref Ad.aTooMany) (.ref Ad.aNoText) = some false
 k_Zd_Zg : PySem.W.kitOne K (.ref Ad.aTooMany) (.ref Ad.aNoRule) = some false
 k_Zd_Zd : PySem.W.kitOne K (.ref Ad.aTooMany) (.ref Ad.aTooMany) = some true
 k_Zd_Ze : PySem.W.kitOne K (.ref Ad.aTooMany) (.ref Ad.aNoClaim) = some false
 k_Zd_Zf : PySem.W.kitOne K (.ref Ad.aTooMany) (.ref Ad.aNoEstate) = some false
 k_Zd_Zh : PySem.W.kitOne K (.ref Ad.aTooMany) (.ref Ad.aNoOrder) = some false
 k_Zd_Zl : PySem.W.kitOne K (.ref Ad.aTooMany) (.ref Ad.aNoGroup) = some false
 k_Zd_Zi : PySem.W.kitOne K (.ref Ad.aTooMany) (.ref Ad.aNoSharing) = some false
 mx_Ze : PySem.W.exmOne K (.ref Ad.aNoClaim) (.ref Ad.aLeanError) = some true
 ek_Ze : EKit K Ad.aNoClaim
 kv_Ze : PySem.W.kitOne K (.ref Ad.aNoClaim) (.type "ValueError") = some true
 k_Ze_Zo : PySem.W.kitOne K (.ref Ad.aNoClaim) (.ref Ad.aKnown) = some false
 k_Ze_Zk : PySem.W.kitOne K (.ref Ad.aNoClaim) (.ref Ad.aNoAmount) = some false
 k_Ze_Zj : PySem.W.kitOne K (.ref Ad.aNoClaim) (.ref Ad.aNoClaimer) = some false
 k_Ze_Zm : PySem.W.kitOne K (.ref Ad.aNoClaim) (.ref Ad.aNoLine) = some false
 k_Ze_Zn : PySem.W.kitOne K (.ref Ad.aNoClaim) (.ref Ad.aNoName) = some false
 k_Ze_Zb : PySem.W.kitOne K (.ref Ad.aNoClaim) (.ref Ad.aNoRatio) = some false
 k_Ze_Zc : PySem.W.kitOne K (.ref Ad.aNoClaim) (.ref Ad.aNoText) = some false
 k_Ze_Zg : PySem.W.kitOne K (.ref Ad.aNoClaim) (.ref Ad.aNoRule) = some false
 k_Ze_Zd : PySem.W.kitOne K (.ref Ad.aNoClaim) (.ref Ad.aTooMany) = some false
 k_Ze_Ze : PySem.W.kitOne K (.ref Ad.aNoClaim) (.ref Ad.aNoClaim) = some true
 k_Ze_Zf : PySem.W.kitOne K (.ref Ad.aNoClaim) (.ref Ad.aNoEstate) = some false
 k_Ze_Zh : PySem.W.kitOne K (.ref Ad.aNoClaim) (.ref Ad.aNoOrder) = some false
 k_Ze_Zl : PySem.W.kitOne K (.ref Ad.aNoClaim) (.ref Ad.aNoGroup) = some false
 k_Ze_Zi : PySem.W.kitOne K (.ref Ad.aNoClaim) (.ref Ad.aNoSharing) = some false
 mx_Zf : PySem.W.exmOne K (.ref Ad.aNoEstate) (.ref Ad.aLeanError) = some true
 ek_Zf : EKit K Ad.aNoEstate
 kv_Zf : PySem.W.kitOne K (.ref Ad.aNoEstate) (.type "ValueError") = some true
 k_Zf_Zo : PySem.W.kitOne K (.ref Ad.aNoEstate) (.ref Ad.aKnown) = some false
 k_Zf_Zk : PySem.W.kitOne K (.ref Ad.aNoEstate) (.ref Ad.aNoAmount) = some false
 k_Zf_Zj : PySem.W.kitOne K (.ref Ad.aNoEstate) (.ref Ad.aNoClaimer) = some false
 k_Zf_Zm : PySem.W.kitOne K (.ref Ad.aNoEstate) (.ref Ad.aNoLine) = some false
 k_Zf_Zn : PySem.W.kitOne K (.ref Ad.aNoEstate) (.ref Ad.aNoName) = some false
 k_Zf_Zb : PySem.W.kitOne K (.ref Ad.aNoEstate) (.ref Ad.aNoRatio) = some false
 k_Zf_Zc : PySem.W.kitOne K (.ref Ad.aNoEstate) (.ref Ad.aNoText) = some false
 k_Zf_Zg : PySem.W.kitOne K (.ref Ad.aNoEstate) (.ref Ad.aNoRule) = some false
 k_Zf_Zd : PySem.W.kitOne K (.ref Ad.aNoEstate) (.ref Ad.aTooMany) = some false
 k_Zf_Ze : PySem.W.kitOne K (.ref Ad.aNoEstate) (.ref Ad.aNoClaim) = some false
 k_Zf_Zf : PySem.W.kitOne K (.ref Ad.aNoEstate) (.ref Ad.aNoEstate) = some true
 k_Zf_Zh : PySem.W.kitOne K (.ref Ad.aNoEstate) (.ref Ad.aNoOrder) = some false
 k_Zf_Zl : PySem.W.kitOne K (.ref Ad.aNoEstate) (.ref Ad.aNoGroup) = some false
 k_Zf_Zi : PySem.W.kitOne K (.ref Ad.aNoEstate) (.ref Ad.aNoSharing) = some false
 mx_Zh : PySem.W.exmOne K (.ref Ad.aNoOrder) (.ref Ad.aLeanError) = some true
 ek_Zh : EKit K Ad.aNoOrder
 kv_Zh : PySem.W.kitOne K (.ref Ad.aNoOrder) (.type "ValueError") = some true
 k_Zh_Zo : PySem.W.kitOne K (.ref Ad.aNoOrder) (.ref Ad.aKnown) = some false
 k_Zh_Zk : PySem.W.kitOne K (.ref Ad.aNoOrder) (.ref Ad.aNoAmount) = some false
 k_Zh_Zj : PySem.W.kitOne K (.ref Ad.aNoOrder) (.ref Ad.aNoClaimer) = some false
 k_Zh_Zm : PySem.W.kitOne K (.ref Ad.aNoOrder) (.ref Ad.aNoLine) = some false
 k_Zh_Zn : PySem.W.kitOne K (.ref Ad.aNoOrder) (.ref Ad.aNoName) = some false
 k_Zh_Zb : PySem.W.kitOne K (.ref Ad.aNoOrder) (.ref Ad.aNoRatio) = some false
 k_Zh_Zc : PySem.W.kitOne K (.ref Ad.aNoOrder) (.ref Ad.aNoText) = some false
 k_Zh_Zg : PySem.W.kitOne K (.ref Ad.aNoOrder) (.ref Ad.aNoRule) = some false
 k_Zh_Zd : PySem.W.kitOne K (.ref Ad.aNoOrder) (.ref Ad.aTooMany) = some false
 k_Zh_Ze : PySem.W.kitOne K (.ref Ad.aNoOrder) (.ref Ad.aNoClaim) = some false
 k_Zh_Zf : PySem.W.kitOne K (.ref Ad.aNoOrder) (.ref Ad.aNoEstate) = some false
 k_Zh_Zh : PySem.W.kitOne K (.ref Ad.aNoOrder) (.ref Ad.aNoOrder) = some true
 k_Zh_Zl : PySem.W.kitOne K (.ref Ad.aNoOrder) (.ref Ad.aNoGroup) = some false
 k_Zh_Zi : PySem.W.kitOne K (.ref Ad.aNoOrder) (.ref Ad.aNoSharing) = some false
 mx_Zl : PySem.W.exmOne K (.ref Ad.aNoGroup) (.ref Ad.aLeanError) = some true
 ek_Zl : EKit K Ad.aNoGroup
 kv_Zl : PySem.W.kitOne K (.ref Ad.aNoGroup) (.type "ValueError") = some true
 k_Zl_Zo : PySem.W.kitOne K (.ref Ad.aNoGroup) (.ref Ad.aKnown) = some false
 k_Zl_Zk : PySem.W.kitOne K (.ref Ad.aNoGroup) (.ref Ad.aNoAmount) = some false
 k_Zl_Zj : PySem.W.kitOne K (.ref Ad.aNoGroup) (.ref Ad.aNoClaimer) = some false
 k_Zl_Zm : PySem.W.kitOne K (.ref Ad.aNoGroup) (.ref Ad.aNoLine) = some false
 k_Zl_Zn : PySem.W.kitOne K (.ref Ad.aNoGroup) (.ref Ad.aNoName) = some false
 k_Zl_Zb : PySem.W.kitOne K (.ref Ad.aNoGroup) (.ref Ad.aNoRatio) = some false
 k_Zl_Zc : PySem.W.kitOne K (.ref Ad.aNoGroup) (.ref Ad.aNoText) = some false
 k_Zl_Zg : PySem.W.kitOne K (.ref Ad.aNoGroup) (.ref Ad.aNoRule) = some false
 k_Zl_Zd : PySem.W.kitOne K (.ref Ad.aNoGroup) (.ref Ad.aTooMany) = some false
 k_Zl_Ze : PySem.W.kitOne K (.ref Ad.aNoGroup) (.ref Ad.aNoClaim) = some false
 k_Zl_Zf : PySem.W.kitOne K (.ref Ad.aNoGroup) (.ref Ad.aNoEstate) = some false
 k_Zl_Zh : PySem.W.kitOne K (.ref Ad.aNoGroup) (.ref Ad.aNoOrder) = some false
 k_Zl_Zl : PySem.W.kitOne K (.ref Ad.aNoGroup) (.ref Ad.aNoGroup) = some true
 k_Zl_Zi : PySem.W.kitOne K (.ref Ad.aNoGroup) (.ref Ad.aNoSharing) = some false
 mx_Zi : PySem.W.exmOne K (.ref Ad.aNoSharing) (.ref Ad.aLeanError) = some true
 ek_Zi : EKit K Ad.aNoSharing
 kv_Zi : PySem.W.kitOne K (.ref Ad.aNoSharing) (.type "ValueError") = some true
 k_Zi_Zo : PySem.W.kitOne K (.ref Ad.aNoSharing) (.ref Ad.aKnown) = some false
 k_Zi_Zk : PySem.W.kitOne K (.ref Ad.aNoSharing) (.ref Ad.aNoAmount) = some false
 k_Zi_Zj : PySem.W.kitOne K (.ref Ad.aNoSharing) (.ref Ad.aNoClaimer) = some false
 k_Zi_Zm : PySem.W.kitOne K (.ref Ad.aNoSharing) (.ref Ad.aNoLine) = some false
 k_Zi_Zn : PySem.W.kitOne K (.ref Ad.aNoSharing) (.ref Ad.aNoName) = some false
 k_Zi_Zb : PySem.W.kitOne K (.ref Ad.aNoSharing) (.ref Ad.aNoRatio) = some false
 k_Zi_Zc : PySem.W.kitOne K (.ref Ad.aNoSharing) (.ref Ad.aNoText) = some false
 k_Zi_Zg : PySem.W.kitOne K (.ref Ad.aNoSharing) (.ref Ad.aNoRule) = some false
 k_Zi_Zd : PySem.W.kitOne K (.ref Ad.aNoSharing) (.ref Ad.aTooMany) = some false
 k_Zi_Ze : PySem.W.kitOne K (.ref Ad.aNoSharing) (.ref Ad.aNoClaim) = some false
 k_Zi_Zf : PySem.W.kitOne K (.ref Ad.aNoSharing) (.ref Ad.aNoEstate) = some false
 k_Zi_Zh : PySem.W.kitOne K (.ref Ad.aNoSharing) (.ref Ad.aNoOrder) = some false
 k_Zi_Zl : PySem.W.kitOne K (.ref Ad.aNoSharing) (.ref Ad.aNoGroup) = some false
 k_Zi_Zi : PySem.W.kitOne K (.ref Ad.aNoSharing) (.ref Ad.aNoSharing) = some true
theorem env_mk {K : PySem.W.Frag} {mg : Str → Option Value} {h : Heap} {a_Za a_Zb a_Zc a_Zd a_Ze a_Zf a_Zg a_Zh a_Zi a_Zj a_Zk a_Zl a_Zm a_Zn a_Zo : Addr} {q_Zp : Addr} {o_Zp : Obj} {i_Zp j_Zp : Int} {t_Zp u_Zp : Tok} {n0_Zp : Nat} {y_Zq : Int} {t_Zq : Tok} {q_Zr : Addr} {o_Zr : Obj} {i_Zr j_Zr : Int} {t_Zr u_Zr : Tok} {n0_Zr : Nat} {q_Zs : Addr} {o_Zs : Obj} {n0_Zs : Nat} {s0_Zs : Str} {t0_Zs : Tok} {s1_Zs : Str} {t1_Zs : Tok} {s2_Zs : Str} {t2_Zs : Tok} {s3_Zs : Str} {t3_Zs : Tok} {s4_Zs : Str} {t4_Zs : Tok} (T : Kt K) (KX : K.In h) (G : h.Ns mainGlobals mg) (n_Za : PySem.W.nsIn K mainGlobals "LeanError" = some (some (.ref a_Za))) (n_Zb : PySem.W.nsIn K mainGlobals "NoRatio" = some (some (.ref a_Zb))) (n_Zc : PySem.W.nsIn K mainGlobals "NoText" = some (some (.ref a_Zc))) (n_Zd : PySem.W.nsIn K mainGlobals "TooMany" = some (some (.ref a_Zd))) (n_Ze : PySem.W.nsIn K mainGlobals "NoClaim" = some (some (.ref a_Ze))) (n_Zf : PySem.W.nsIn K mainGlobals "NoEstate" = some (some (.ref a_Zf))) (n_Zg : PySem.W.nsIn K mainGlobals "NoRule" = some (some (.ref a_Zg))) (n_Zh : PySem.W.nsIn K mainGlobals "NoOrder" = some (some (.ref a_Zh))) (n_Zi : PySem.W.nsIn K mainGlobals "NoSharing" = some (some (.ref a_Zi))) (n_Zj : PySem.W.nsIn K mainGlobals "NoClaimer" = some (some (.ref a_Zj))) (n_Zk : PySem.W.nsIn K mainGlobals "NoAmount" = some (some (.ref a_Zk))) (n_Zl : PySem.W.nsIn K mainGlobals "NoGroup" = some (some (.ref a_Zl))) (n_Zm : PySem.W.nsIn K mainGlobals "NoLine" = some (some (.ref a_Zm))) (n_Zn : PySem.W.nsIn K mainGlobals "NoName" = some (some (.ref a_Zn))) (n_Zo : PySem.W.nsIn K mainGlobals "Known" = some (some (.ref a_Zo))) (x_Za : PySem.W.excIn K a_Za veMro "ValueError.__new__" = true) (x_Zb : PySem.W.excIn K a_Zb veMro "ValueError.__new__" = true) (x_Zc : PySem.W.excIn K a_Zc veMro "ValueError.__new__" = true) (x_Zd : PySem.W.excIn K a_Zd veMro "ValueError.__new__" = true) (x_Ze : PySem.W.excIn K a_Ze veMro "ValueError.__new__" = true) (x_Zf : PySem.W.excIn K a_Zf veMro "ValueError.__new__" = true) (x_Zg : PySem.W.excIn K a_Zg veMro "ValueError.__new__" = true) (x_Zh : PySem.W.excIn K a_Zh veMro "ValueError.__new__" = true) (x_Zi : PySem.W.excIn K a_Zi veMro "ValueError.__new__" = true) (x_Zj : PySem.W.excIn K a_Zj veMro "ValueError.__new__" = true) (x_Zk : PySem.W.excIn K a_Zk veMro "ValueError.__new__" = true) (x_Zl : PySem.W.excIn K a_Zl veMro "ValueError.__new__" = true) (x_Zm : PySem.W.excIn K a_Zm veMro "ValueError.__new__" = true) (x_Zn : PySem.W.excIn K a_Zn veMro "ValueError.__new__" = true) (x_Zo : PySem.W.excIn K a_Zo veMro "ValueError.__new__" = true) (z_len : PySem.W.nsIn K mainGlobals "len" = some none) (z_abs : PySem.W.nsIn K mainGlobals "abs" = some none) (z_range : PySem.W.nsIn K mainGlobals "range" = some none) (z_isinstance : PySem.W.nsIn K mainGlobals "isinstance" = some none) (z_int : PySem.W.nsIn K mainGlobals "int" = some none) (z_bool : PySem.W.nsIn K mainGlobals "bool" = some none) (z_tuple : PySem.W.nsIn K mainGlobals "tuple" = some none) (z_list : PySem.W.nsIn K mainGlobals "list" = some none) (z_sum : PySem.W.nsIn K mainGlobals "sum" = some none) (z_min : PySem.W.nsIn K mainGlobals "min" = some none) (z_max : PySem.W.nsIn K mainGlobals "max" = some none) (z_enumerate : PySem.W.nsIn K mainGlobals "enumerate" = some none) (z_sorted : PySem.W.nsIn K mainGlobals "sorted" = some none) (z_zip : PySem.W.nsIn K mainGlobals "zip" = some none) (z_ValueError : PySem.W.nsIn K mainGlobals "ValueError" = some none) (c0_Zp : PySem.W.nsIn K mainGlobals "NOUGHT" = some (some (.ref q_Zp))) (c1_Zp : List.lookup q_Zp K = some o_Zp) (c2_Zp : o_Zp.cls = .type "tuple") (c3_Zp : o_Zp.data = .seq #[.int i_Zp t_Zp, .int j_Zp u_Zp] n0_Zp) (c4_Zp : i_Zp = 0) (c5_Zp : j_Zp = 1) (c0_Zq : PySem.W.nsIn K mainGlobals "MOST_CLAIMS" = some (some (.int y_Zq t_Zq))) (c1_Zq : y_Zq = 8) (c0_Zr : PySem.W.nsIn K mainGlobals "HALF" = some (some (.ref q_Zr))) (c1_Zr : List.lookup q_Zr K = some o_Zr) (c2_Zr : o_Zr.cls = .type "tuple") (c3_Zr : o_Zr.data = .seq #[.int i_Zr t_Zr, .int j_Zr u_Zr] n0_Zr) (c4_Zr : i_Zr = 1) (c5_Zr : j_Zr = 2) (c0_Zs : PySem.W.nsIn K mainGlobals "WORDS" = some (some (.ref q_Zs))) (c1_Zs : List.lookup q_Zs K = some o_Zs) (c2_Zs : o_Zs.cls = .type "tuple") (c3_Zs : o_Zs.data = .seq #[.str s0_Zs t0_Zs, .str s1_Zs t1_Zs, .str s2_Zs t2_Zs, .str s3_Zs t3_Zs, .str s4_Zs t4_Zs] n0_Zs) (c40_Zs : s0_Zs = tx [115, 104, 97, 114, 101, 115]) (c41_Zs : s1_Zs = tx [103, 97, 105, 110, 115]) (c42_Zs : s2_Zs = tx [108, 111, 115, 115, 101, 115]) (c43_Zs : s3_Zs = tx [104, 97, 108, 118, 101, 115]) (c44_Zs : s4_Zs = tx [116, 117, 114, 110, 115]) (m1_Zg : PySem.W.subIn K (.ref a_Za) (.type "BaseException") = some true) (m2_Zg : PySem.W.kitOne K (.ref a_Zg) (.ref a_Za) = some true) (m3_Zg : (Value.ref a_Zg == Value.ref a_Za) = false) (kga_Zg : PySem.W.findIn K (.ref a_Zg) "__getattribute__" = some (some (.builtin "BaseException.__getattribute__"))) (kgt_Zg : PySem.W.findIn K (.ref a_Zg) "__getattr__" = some none) (kcl_Zg : PySem.W.findIn K (.ref a_Zg) "__class__" = some (some (.builtin "object.__class__"))) (ksg_Zg : PySem.W.specialIn K (.builtin "object.__class__") "__get__" = some (some (.builtin "getset_descriptor.__get__"))) (ktk_Zg : PySem.W.takesIn K (.builtin "object.__class__") = some true) (kmo_Zg : PySem.W.mroIn K a_Zg (.type "object") = some true) (kmb_Zg : PySem.W.mroIn K a_Zg (.type "BaseException") = some true) (v_Zg : PySem.W.kitOne K (.ref a_Zg) (.type "ValueError") = some true) (p_Zg_Zo : PySem.W.kitOne K (.ref a_Zg) (.ref a_Zo) = some false) (p_Zg_Zk : PySem.W.kitOne K (.ref a_Zg) (.ref a_Zk) = some false) (p_Zg_Zj : PySem.W.kitOne K (.ref a_Zg) (.ref a_Zj) = some false) (p_Zg_Zm : PySem.W.kitOne K (.ref a_Zg) (.ref a_Zm) = some false) (p_Zg_Zn : PySem.W.kitOne K (.ref a_Zg) (.ref a_Zn) = some false) (p_Zg_Zb : PySem.W.kitOne K (.ref a_Zg) (.ref a_Zb) = some false) (p_Zg_Zc : PySem.W.kitOne K (.ref a_Zg) (.ref a_Zc) = some false) (p_Zg_Zg : PySem.W.kitOne K (.ref a_Zg) (.ref a_Zg) = some true) (p_Zg_Zd : PySem.W.kitOne K (.ref a_Zg) (.ref a_Zd) = some false) (p_Zg_Ze : PySem.W.kitOne K (.ref a_Zg) (.ref a_Ze) = some false) (p_Zg_Zf : PySem.W.kitOne K (.ref a_Zg) (.ref a_Zf) = some false) (p_Zg_Zh : PySem.W.kitOne K (.ref a_Zg) (.ref a_Zh) = some false) (p_Zg_Zl : PySem.W.kitOne K (.ref a_Zg) (.ref a_Zl) = some false) (p_Zg_Zi : PySem.W.kitOne K (.ref a_Zg) (.ref a_Zi) = some false) (m1_Zd : PySem.W.subIn K (.ref a_Za) (.type "BaseException") = some true) (m2_Zd : PySem.W.kitOne K (.ref a_Zd) (.ref a_Za) = some true) (m3_Zd : (Value.ref a_Zd == Value.ref a_Za) = false) (kga_Zd : PySem.W.findIn K (.ref a_Zd) "__getattribute__" = some (some (.builtin "BaseException.__getattribute__"))) (kgt_Zd : PySem.W.findIn K (.ref a_Zd) "__getattr__" = some none) (kcl_Zd : PySem.W.findIn K (.ref a_Zd) "__class__" = some (some (.builtin "object.__class__"))) (ksg_Zd : PySem.W.specialIn K (.builtin "object.__class__") "__get__" = some (some (.builtin "getset_descriptor.__get__"))) (ktk_Zd : PySem.W.takesIn K (.builtin "object.__class__") = some true) (kmo_Zd : PySem.W.mroIn K a_Zd (.type "object") = some true) (kmb_Zd : PySem.W.mroIn K a_Zd (.type "BaseException") = some true) (v_Zd : PySem.W.kitOne K (.ref a_Zd) (.type "ValueError") = some true) (p_Zd_Zo : PySem.W.kitOne K (.ref a_Zd) (.ref a_Zo) = some false) (p_Zd_Zk : PySem.W.kitOne K (.ref a_Zd) (.ref a_Zk) = some false) (p_Zd_Zj : PySem.W.kitOne K (.ref a_Zd) (.ref a_Zj) = some false) (p_Zd_Zm : PySem.W.kitOne K (.ref a_Zd) (.ref a_Zm) = some false) (p_Zd_Zn : PySem.W.kitOne K (.ref a_Zd) (.ref a_Zn) = some false) (p_Zd_Zb : PySem.W.kitOne K (.ref a_Zd) (.ref a_Zb) = some false) (p_Zd_Zc : PySem.W.kitOne K (.ref a_Zd) (.ref a_Zc) = some false) (p_Zd_Zg : PySem.W.kitOne K (.ref a_Zd) (.ref a_Zg) = some false) (p_Zd_Zd : PySem.W.kitOne K (.ref a_Zd) (.ref a_Zd) = some true) (p_Zd_Ze : PySem.W.kitOne K (.ref a_Zd) (.ref a_Ze) = some false) (p_Zd_Zf : PySem.W.kitOne K (.ref a_Zd) (.ref a_Zf) = some false) (p_Zd_Zh : PySem.W.kitOne K (.ref a_Zd) (.ref a_Zh) = some false) (p_Zd_Zl : PySem.W.kitOne K (.ref a_Zd) (.ref a_Zl) = some false) (p_Zd_Zi : PySem.W.kitOne K (.ref a_Zd) (.ref a_Zi) = some false) (m1_Ze : PySem.W.subIn K (.ref a_Za) (.type "BaseException") = some true) (m2_Ze : PySem.W.kitOne K (.ref a_Ze) (.ref a_Za) = some true) (m3_Ze : (Value.ref a_Ze == Value.ref a_Za) = false) (kga_Ze : PySem.W.findIn K (.ref a_Ze) "__getattribute__" = some (some (.builtin "BaseException.__getattribute__"))) (kgt_Ze : PySem.W.findIn K (.ref a_Ze) "__getattr__" = some none) (kcl_Ze : PySem.W.findIn K (.ref a_Ze) "__class__" = some (some (.builtin "object.__class__"))) (ksg_Ze : PySem.W.specialIn K (.builtin "object.__class__") "__get__" = some (some (.builtin "getset_descriptor.__get__"))) (ktk_Ze : PySem.W.takesIn K (.builtin "object.__class__") = some true) (kmo_Ze : PySem.W.mroIn K a_Ze (.type "object") = some true) (kmb_Ze : PySem.W.mroIn K a_Ze (.type "BaseException") = some true) (v_Ze : PySem.W.kitOne K (.ref a_Ze) (.type "ValueError") = some true) (p_Ze_Zo : PySem.W.kitOne K (.ref a_Ze) (.ref a_Zo) = some false) (p_Ze_Zk : PySem.W.kitOne K (.ref a_Ze) (.ref a_Zk) = some false) (p_Ze_Zj : PySem.W.kitOne K (.ref a_Ze) (.ref a_Zj) = some false) (p_Ze_Zm : PySem.W.kitOne K (.ref a_Ze) (.ref a_Zm) = some false) (p_Ze_Zn : PySem.W.kitOne K (.ref a_Ze) (.ref a_Zn) = some false) (p_Ze_Zb : PySem.W.kitOne K (.ref a_Ze) (.ref a_Zb) = some false) (p_Ze_Zc : PySem.W.kitOne K (.ref a_Ze) (.ref a_Zc) = some false) (p_Ze_Zg : PySem.W.kitOne K (.ref a_Ze) (.ref a_Zg) = some false) (p_Ze_Zd : PySem.W.kitOne K (.ref a_Ze) (.ref a_Zd) = some false) (p_Ze_Ze : PySem.W.kitOne K (.ref a_Ze) (.ref a_Ze) = some true) (p_Ze_Zf : PySem.W.kitOne K (.ref a_Ze) (.ref a_Zf) = some false) (p_Ze_Zh : PySem.W.kitOne K (.ref a_Ze) (.ref a_Zh) = some false) (p_Ze_Zl : PySem.W.kitOne K (.ref a_Ze) (.ref a_Zl) = some false) (p_Ze_Zi : PySem.W.kitOne K (.ref a_Ze) (.ref a_Zi) = some false) (m1_Zf : PySem.W.subIn K (.ref a_Za) (.type "BaseException") = some true) (m2_Zf : PySem.W.kitOne K (.ref a_Zf) (.ref a_Za) = some true) (m3_Zf : (Value.ref a_Zf == Value.ref a_Za) = false) (kga_Zf : PySem.W.findIn K (.ref a_Zf) "__getattribute__" = some (some (.builtin "BaseException.__getattribute__"))) (kgt_Zf : PySem.W.findIn K (.ref a_Zf) "__getattr__" = some none) (kcl_Zf : PySem.W.findIn K (.ref a_Zf) "__class__" = some (some (.builtin "object.__class__"))) (ksg_Zf : PySem.W.specialIn K (.builtin "object.__class__") "__get__" = some (some (.builtin "getset_descriptor.__get__"))) (ktk_Zf : PySem.W.takesIn K (.builtin "object.__class__") = some true) (kmo_Zf : PySem.W.mroIn K a_Zf (.type "object") = some true) (kmb_Zf : PySem.W.mroIn K a_Zf (.type "BaseException") = some true) (v_Zf : PySem.W.kitOne K (.ref a_Zf) (.type "ValueError") = some true) (p_Zf_Zo : PySem.W.kitOne K (.ref a_Zf) (.ref a_Zo) = some false) (p_Zf_Zk : PySem.W.kitOne K (.ref a_Zf) (.ref a_Zk) = some false) (p_Zf_Zj : PySem.W.kitOne K (.ref a_Zf) (.ref a_Zj) = some false) (p_Zf_Zm : PySem.W.kitOne K (.ref a_Zf) (.ref a_Zm) = some false) (p_Zf_Zn : PySem.W.kitOne K (.ref a_Zf) (.ref a_Zn) = some false) (p_Zf_Zb : PySem.W.kitOne K (.ref a_Zf) (.ref a_Zb) = some false) (p_Zf_Zc : PySem.W.kitOne K (.ref a_Zf) (.ref a_Zc) = some false) (p_Zf_Zg : PySem.W.kitOne K (.ref a_Zf) (.ref a_Zg) = some false) (p_Zf_Zd : PySem.W.kitOne K (.ref a_Zf) (.ref a_Zd) = some false) (p_Zf_Ze : PySem.W.kitOne K (.ref a_Zf) (.ref a_Ze) = some false) (p_Zf_Zf : PySem.W.kitOne K (.ref a_Zf) (.ref a_Zf) = some true) (p_Zf_Zh : PySem.W.kitOne K (.ref a_Zf) (.ref a_Zh) = some false) (p_Zf_Zl : PySem.W.kitOne K (.ref a_Zf) (.ref a_Zl) = some false) (p_Zf_Zi : PySem.W.kitOne K (.ref a_Zf) (.ref a_Zi) = some false) (m1_Zh : PySem.W.subIn K (.ref a_Za) (.type "BaseException") = some true) (m2_Zh : PySem.W.kitOne K (.ref a_Zh) (.ref a_Za) = some true) (m3_Zh : (Value.ref a_Zh == Value.ref a_Za) = false) (kga_Zh : PySem.W.findIn K (.ref a_Zh) "__getattribute__" = some (some (.builtin "BaseException.__getattribute__"))) (kgt_Zh : PySem.W.findIn K (.ref a_Zh) "__getattr__" = some none) (kcl_Zh : PySem.W.findIn K (.ref a_Zh) "__class__" = some (some (.builtin "object.__class__"))) (ksg_Zh : PySem.W.specialIn K (.builtin "object.__class__") "__get__" = some (some (.builtin "getset_descriptor.__get__"))) (ktk_Zh : PySem.W.takesIn K (.builtin "object.__class__") = some true) (kmo_Zh : PySem.W.mroIn K a_Zh (.type "object") = some true) (kmb_Zh : PySem.W.mroIn K a_Zh (.type "BaseException") = some true) (v_Zh : PySem.W.kitOne K (.ref a_Zh) (.type "ValueError") = some true) (p_Zh_Zo : PySem.W.kitOne K (.ref a_Zh) (.ref a_Zo) = some false) (p_Zh_Zk : PySem.W.kitOne K (.ref a_Zh) (.ref a_Zk) = some false) (p_Zh_Zj : PySem.W.kitOne K (.ref a_Zh) (.ref a_Zj) = some false) (p_Zh_Zm : PySem.W.kitOne K (.ref a_Zh) (.ref a_Zm) = some false) (p_Zh_Zn : PySem.W.kitOne K (.ref a_Zh) (.ref a_Zn) = some false) (p_Zh_Zb : PySem.W.kitOne K (.ref a_Zh) (.ref a_Zb) = some false) (p_Zh_Zc : PySem.W.kitOne K (.ref a_Zh) (.ref a_Zc) = some false) (p_Zh_Zg : PySem.W.kitOne K (.ref a_Zh) (.ref a_Zg) = some false) (p_Zh_Zd : PySem.W.kitOne K (.ref a_Zh) (.ref a_Zd) = some false) (p_Zh_Ze : PySem.W.kitOne K (.ref a_Zh) (.ref a_Ze) = some false) (p_Zh_Zf : PySem.W.kitOne K (.ref a_Zh) (.ref a_Zf) = some false) (p_Zh_Zh : PySem.W.kitOne K (.ref a_Zh) (.ref a_Zh) = some true) (p_Zh_Zl : PySem.W.kitOne K (.ref a_Zh) (.ref a_Zl) = some false) (p_Zh_Zi : PySem.W.kitOne K (.ref a_Zh) (.ref a_Zi) = some false) (m1_Zl : PySem.W.subIn K (.ref a_Za) (.type "BaseException") = some true) (m2_Zl : PySem.W.kitOne K (.ref a_Zl) (.ref a_Za) = some true) (m3_Zl : (Value.ref a_Zl == Value.ref a_Za) = false) (kga_Zl : PySem.W.findIn K (.ref a_Zl) "__getattribute__" = some (some (.builtin "BaseException.__getattribute__"))) (kgt_Zl : PySem.W.findIn K (.ref a_Zl) "__getattr__" = some none) (kcl_Zl : PySem.W.findIn K (.ref a_Zl) "__class__" = some (some (.builtin "object.__class__"))) (ksg_Zl : PySem.W.specialIn K (.builtin "object.__class__") "__get__" = some (some (.builtin "getset_descriptor.__get__"))) (ktk_Zl : PySem.W.takesIn K (.builtin "object.__class__") = some true) (kmo_Zl : PySem.W.mroIn K a_Zl (.type "object") = some true) (kmb_Zl : PySem.W.mroIn K a_Zl (.type "BaseException") = some true) (v_Zl : PySem.W.kitOne K (.ref a_Zl) (.type "ValueError") = some true) (p_Zl_Zo : PySem.W.kitOne K (.ref a_Zl) (.ref a_Zo) = some false) (p_Zl_Zk : PySem.W.kitOne K (.ref a_Zl) (.ref a_Zk) = some false) (p_Zl_Zj : PySem.W.kitOne K (.ref a_Zl) (.ref a_Zj) = some false) (p_Zl_Zm : PySem.W.kitOne K (.ref a_Zl) (.ref a_Zm) = some false) (p_Zl_Zn : PySem.W.kitOne K (.ref a_Zl) (.ref a_Zn) = some false) (p_Zl_Zb : PySem.W.kitOne K (.ref a_Zl) (.ref a_Zb) = some false) (p_Zl_Zc : PySem.W.kitOne K (.ref a_Zl) (.ref a_Zc) = some false) (p_Zl_Zg : PySem.W.kitOne K (.ref a_Zl) (.ref a_Zg) = some false) (p_Zl_Zd : PySem.W.kitOne K (.ref a_Zl) (.ref a_Zd) = some false) (p_Zl_Ze : PySem.W.kitOne K (.ref a_Zl) (.ref a_Ze) = some false) (p_Zl_Zf : PySem.W.kitOne K (.ref a_Zl) (.ref a_Zf) = some false) (p_Zl_Zh : PySem.W.kitOne K (.ref a_Zl) (.ref a_Zh) = some false) (p_Zl_Zl : PySem.W.kitOne K (.ref a_Zl) (.ref a_Zl) = some true) (p_Zl_Zi : PySem.W.kitOne K (.ref a_Zl) (.ref a_Zi) = some false) (m1_Zi : PySem.W.subIn K (.ref a_Za) (.type "BaseException") = some true) (m2_Zi : PySem.W.kitOne K (.ref a_Zi) (.ref a_Za) = some true) (m3_Zi : (Value.ref a_Zi == Value.ref a_Za) = false) (kga_Zi : PySem.W.findIn K (.ref a_Zi) "__getattribute__" = some (some (.builtin "BaseException.__getattribute__"))) (kgt_Zi : PySem.W.findIn K (.ref a_Zi) "__getattr__" = some none) (kcl_Zi : PySem.W.findIn K (.ref a_Zi) "__class__" = some (some (.builtin "object.__class__"))) (ksg_Zi : PySem.W.specialIn K (.builtin "object.__class__") "__get__" = some (some (.builtin "getset_descriptor.__get__"))) (ktk_Zi : PySem.W.takesIn K (.builtin "object.__class__") = some true) (kmo_Zi : PySem.W.mroIn K a_Zi (.type "object") = some true) (kmb_Zi : PySem.W.mroIn K a_Zi (.type "BaseException") = some true) (v_Zi : PySem.W.kitOne K (.ref a_Zi) (.type "ValueError") = some true) (p_Zi_Zo : PySem.W.kitOne K (.ref a_Zi) (.ref a_Zo) = some false) (p_Zi_Zk : PySem.W.kitOne K (.ref a_Zi) (.ref a_Zk) = some false) (p_Zi_Zj : PySem.W.kitOne K (.ref a_Zi) (.ref a_Zj) = some false) (p_Zi_Zm : PySem.W.kitOne K (.ref a_Zi) (.ref a_Zm) = some false) (p_Zi_Zn : PySem.W.kitOne K (.ref a_Zi) (.ref a_Zn) = some false) (p_Zi_Zb : PySem.W.kitOne K (.ref a_Zi) (.ref a_Zb) = some false) (p_Zi_Zc : PySem.W.kitOne K (.ref a_Zi) (.ref a_Zc) = some false) (p_Zi_Zg : PySem.W.kitOne K (.ref a_Zi) (.ref a_Zg) = some false) (p_Zi_Zd : PySem.W.kitOne K (.ref a_Zi) (.ref a_Zd) = some false) (p_Zi_Ze : PySem.W.kitOne K (.ref a_Zi) (.ref a_Ze) = some false) (p_Zi_Zf : PySem.W.kitOne K (.ref a_Zi) (.ref a_Zf) = some false) (p_Zi_Zh : PySem.W.kitOne K (.ref a_Zi) (.ref a_Zh) = some false) (p_Zi_Zl : PySem.W.kitOne K (.ref a_Zi) (.ref a_Zl) = some false) (p_Zi_Zi : PySem.W.kitOne K (.ref a_Zi) (.ref a_Zi) = some true) : ∃ Ad, Env K mg Ad :=
 ⟨⟨a_Za, a_Zb, a_Zc, a_Zd, a_Ze, a_Zf, a_Zg, a_Zh, a_Zi, a_Zj, a_Zk, a_Zl, a_Zm, a_Zn, a_Zo, q_Zp, q_Zr, q_Zs⟩, { T := T, e_Za := ⟨PySem.W.mg_of KX G n_Za, x_Za⟩, e_Zb := ⟨PySem.W.mg_of KX G n_Zb, x_Zb⟩, e_Zc := ⟨PySem.W.mg_of KX G n_Zc, x_Zc⟩, e_Zd := ⟨PySem.W.mg_of KX G n_Zd, x_Zd⟩, e_Ze := ⟨PySem.W.mg_of KX G n_Ze, x_Ze⟩, e_Zf := ⟨PySem.W.mg_of KX G n_Zf, x_Zf⟩, e_Zg := ⟨PySem.W.mg_of KX G n_Zg, x_Zg⟩, e_Zh := ⟨PySem.W.mg_of KX G n_Zh, x_Zh⟩, e_Zi := ⟨PySem.W.mg_of KX G n_Zi, x_Zi⟩, e_Zj := ⟨PySem.W.mg_of KX G n_Zj, x_Zj⟩, e_Zk := ⟨PySem.W.mg_of KX G n_Zk, x_Zk⟩, e_Zl := ⟨PySem.W.mg_of KX G n_Zl, x_Zl⟩, e_Zm := ⟨PySem.W.mg_of KX G n_Zm, x_Zm⟩, e_Zn := ⟨PySem.W.mg_of KX G n_Zn, x_Zn⟩, e_Zo := ⟨PySem.W.mg_of KX G n_Zo, x_Zo⟩, b_len := PySem.W.mg_none_of KX G z_len, b_abs := PySem.W.mg_none_of KX G z_abs, b_range := PySem.W.mg_none_of KX G z_range, b_isinstance := PySem.W.mg_none_of KX G z_isinstance, b_int := PySem.W.mg_none_of KX G z_int, b_bool := PySem.W.mg_none_of KX G z_bool, b_tuple := PySem.W.mg_none_of KX G z_tuple, b_list := PySem.W.mg_none_of KX G z_list, b_sum := PySem.W.mg_none_of KX G z_sum, b_min := PySem.W.mg_none_of KX G z_min, b_max := PySem.W.mg_none_of KX G z_max, b_enumerate := PySem.W.mg_none_of KX G z_enumerate, b_sorted := PySem.W.mg_none_of KX G z_sorted, b_zip := PySem.W.mg_none_of KX G z_zip, b_ValueError := PySem.W.mg_none_of KX G z_ValueError, c_Zp := ⟨_, PySem.W.mg_of KX G c0_Zp, rfl⟩, k_Zp := kt_mk c1_Zp c2_Zp c3_Zp c4_Zp c5_Zp, c_Zq := cn_int KX G c0_Zq c1_Zq, c_Zr := ⟨_, PySem.W.mg_of KX G c0_Zr, rfl⟩, k_Zr := kt_mk c1_Zr c2_Zr c3_Zr c4_Zr c5_Zr, c_Zs := ⟨_, PySem.W.mg_of KX G c0_Zs, rfl⟩, k_Zs := by subst c40_Zs c41_Zs c42_Zs c43_Zs c44_Zs; exact ⟨_, _, _, c1_Zs, c2_Zs, c3_Zs, by show 5 ≤ sizeLine; decide, (.cons ⟨_, rfl⟩ (.cons ⟨_, rfl⟩ (.cons ⟨_, rfl⟩ (.cons ⟨_, rfl⟩ (.cons ⟨_, rfl⟩ .nil)))))⟩, mx_Zg := exm_mk m1_Zg m2_Zg m3_Zg, ek_Zg := ekit_mk kga_Zg kgt_Zg kcl_Zg ksg_Zg ktk_Zg kmo_Zg kmb_Zg, kv_Zg := v_Zg, k_Zg_Zo := p_Zg_Zo, k_Zg_Zk := p_Zg_Zk, k_Zg_Zj := p_Zg_Zj, k_Zg_Zm := p_Zg_Zm, k_Zg_Zn := p_Zg_Zn, k_Zg_Zb := p_Zg_Zb, k_Zg_Zc := p_Zg_Zc, k_Zg_Zg := p_Zg_Zg, k_Zg_Zd := p_Zg_Zd, k_Zg_Ze := p_Zg_Ze, k_Zg_Zf := p_Zg_Zf, k_Zg_Zh := p_Zg_Zh, k_Zg_Zl := p_Zg_Zl, k_Zg_Zi := p_Zg_Zi, mx_Zd := exm_mk m1_Zd m2_Zd m3_Zd, ek_Zd := ekit_mk kga_Zd kgt_Zd kcl_Zd ksg_Zd ktk_Zd kmo_Zd kmb_Zd, kv_Zd := v_Zd, k_Zd_Zo := p_Zd_Zo, k_Zd_Zk := p_Zd_Zk, k_Zd_Zj := p_Zd_Zj, k_Zd_Zm := p_Zd_Zm, k_Zd_Zn := p_Zd_Zn, k_Zd_Zb := p_Zd_Zb, k_Zd_Zc := p_Zd_Zc, k_Zd_Zg := p_Zd_Zg, k_Zd_Zd := p_Zd_Zd, k_Zd_Ze := p_Zd_Ze, k_Zd_Zf := p_Zd_Zf, k_Zd_Zh := p_Zd_Zh, k_Zd_Zl := p_Zd_Zl, k_Zd_Zi := p_Zd_Zi, mx_Ze := exm_mk m1_Ze m2_Ze m3_Ze, ek_Ze := ekit_mk kga_Ze kgt_Ze kcl_Ze ksg_Ze ktk_Ze kmo_Ze kmb_Ze, kv_Ze := v_Ze, k_Ze_Zo := p_Ze_Zo, k_Ze_Zk := p_Ze_Zk, k_Ze_Zj := p_Ze_Zj, k_Ze_Zm := p_Ze_Zm, k_Ze_Zn := p_Ze_Zn, k_Ze_Zb := p_Ze_Zb, k_Ze_Zc := p_Ze_Zc, k_Ze_Zg := p_Ze_Zg, k_Ze_Zd := p_Ze_Zd, k_Ze_Ze := p_Ze_Ze, k_Ze_Zf := p_Ze_Zf, k_Ze_Zh := p_Ze_Zh, k_Ze_Zl := p_Ze_Zl, k_Ze_Zi := p_Ze_Zi, mx_Zf := exm_mk m1_Zf m2_Zf m3_Zf, ek_Zf := ekit_mk kga_Zf kgt_Zf kcl_Zf ksg_Zf ktk_Zf kmo_Zf kmb_Zf, kv_Zf := v_Zf, k_Zf_Zo := p_Zf_Zo, k_Zf_Zk := p_Zf_Zk, k_Zf_Zj := p_Zf_Zj, k_Zf_Zm := p_Zf_Zm, k_Zf_Zn := p_Zf_Zn, k_Zf_Zb := p_Zf_Zb, k_Zf_Zc := p_Zf_Zc, k_Zf_Zg := p_Zf_Zg, k_Zf_Zd := p_Zf_Zd, k_Zf_Ze := p_Zf_Ze, k_Zf_Zf := p_Zf_Zf, k_Zf_Zh := p_Zf_Zh, k_Zf_Zl := p_Zf_Zl, k_Zf_Zi := p_Zf_Zi, mx_Zh := exm_mk m1_Zh m2_Zh m3_Zh, ek_Zh := ekit_mk kga_Zh kgt_Zh kcl_Zh ksg_Zh ktk_Zh kmo_Zh kmb_Zh, kv_Zh := v_Zh, k_Zh_Zo := p_Zh_Zo, k_Zh_Zk := p_Zh_Zk, k_Zh_Zj := p_Zh_Zj, k_Zh_Zm := p_Zh_Zm, k_Zh_Zn := p_Zh_Zn, k_Zh_Zb := p_Zh_Zb, k_Zh_Zc := p_Zh_Zc, k_Zh_Zg := p_Zh_Zg, k_Zh_Zd := p_Zh_Zd, k_Zh_Ze := p_Zh_Ze, k_Zh_Zf := p_Zh_Zf, k_Zh_Zh := p_Zh_Zh, k_Zh_Zl := p_Zh_Zl, k_Zh_Zi := p_Zh_Zi, mx_Zl := exm_mk m1_Zl m2_Zl m3_Zl, ek_Zl := ekit_mk kga_Zl kgt_Zl kcl_Zl ksg_Zl ktk_Zl kmo_Zl kmb_Zl, kv_Zl := v_Zl, k_Zl_Zo := p_Zl_Zo, k_Zl_Zk := p_Zl_Zk, k_Zl_Zj := p_Zl_Zj, k_Zl_Zm := p_Zl_Zm, k_Zl_Zn := p_Zl_Zn, k_Zl_Zb := p_Zl_Zb, k_Zl_Zc := p_Zl_Zc, k_Zl_Zg := p_Zl_Zg, k_Zl_Zd := p_Zl_Zd, k_Zl_Ze := p_Zl_Ze, k_Zl_Zf := p_Zl_Zf, k_Zl_Zh := p_Zl_Zh, k_Zl_Zl := p_Zl_Zl, k_Zl_Zi := p_Zl_Zi, mx_Zi := exm_mk m1_Zi m2_Zi m3_Zi, ek_Zi := ekit_mk kga_Zi kgt_Zi kcl_Zi ksg_Zi ktk_Zi kmo_Zi kmb_Zi, kv_Zi := v_Zi, k_Zi_Zo := p_Zi_Zo, k_Zi_Zk := p_Zi_Zk, k_Zi_Zj := p_Zi_Zj, k_Zi_Zm := p_Zi_Zm, k_Zi_Zn := p_Zi_Zn, k_Zi_Zb := p_Zi_Zb, k_Zi_Zc := p_Zi_Zc, k_Zi_Zg := p_Zi_Zg, k_Zi_Zd := p_Zi_Zd, k_Zi_Ze := p_Zi_Ze, k_Zi_Zf := p_Zi_Zf, k_Zi_Zh := p_Zi_Zh, k_Zi_Zl := p_Zi_Zl, k_Zi_Zi := p_Zi_Zi }⟩
inductive sp_is_whole (vs : List V) (H : Hp) (Q : VK) (E_ : XK) : Prop
 | mk (a : Int) (h0_ : vs = [.int a]) (h1_ : Q (.bl true) H) : sp_is_whole vs H Q E_
inductive sp_gcd (vs : List V) (H : Hp) (Q : VK) (E_ : XK) : Prop
 | mk (a b : Int) (h0_ : vs = [.int a, .int b]) (h1_ : Q (.int (Int.gcd a b)) H) : sp_gcd vs H Q E_
inductive sp_ratio (vs : List V) (H : Hp) (Q : VK) (E_ : XK) : Prop
 | mk (a b : Int) (h0_ : vs = [.int a, .int b]) (h1_ : b ≠ 0) (h2_ : Bd 9000 b) (h3_ : ∀ z H', New H z (pr (Lr.rt a b)) H' → Q (.ref z) H') : sp_ratio vs H Q E_
inductive sp_op (K : PySem.W.Frag) (o : Rat → Rat → Rat) (c : Rat → Prop) (vs : List V) (H : Hp) (Q : VK) (E_ : XK) : Prop
 | mk (v w : V) (x y : Rat) (m n : Nat) (h0_ : vs = [v, w]) (h1_ : RatV K H v x) (h2_ : RatV K H w y) (h3_ : Sz m x) (h4_ : Sz n y) (h5_ : m + n ≤ 9000) (h6_ : c y) (h7_ : ∀ z H', New H z (pr (o x y)) H' → Q (.ref z) H') : sp_op K o c vs H Q E_
noncomputable abbrev sp_plus (K : PySem.W.Frag) : Sp := sp_op K (· + ·) fun _ => True
noncomputable abbrev sp_minus (K : PySem.W.Frag) : Sp := sp_op K (· - ·) fun _ => True
noncomputable abbrev sp_times (K : PySem.W.Frag) : Sp := sp_op K (· * ·) fun _ => True
noncomputable abbrev sp_over (K : PySem.W.Frag) : Sp := sp_op K (· / ·) fun y => y ≠ 0
inductive sp_less (K : PySem.W.Frag) (vs : List V) (H : Hp) (Q : VK) (E_ : XK) : Prop
 | mk (v w : V) (x y : Rat) (h0_ : vs = [v, w]) (h1_ : RatV K H v x) (h2_ : RatV K H w y) (h3_ : Sz 9000 x) (h4_ : Sz 9000 y) (h5_ : Q (.bl (decide (x < y))) H) : sp_less K vs H Q E_
inductive sp_lesser (K : PySem.W.Frag) (vs : List V) (H : Hp) (Q : VK) (E_ : XK) : Prop
 | mk (v w : V) (x y : Rat) (h0_ : vs = [v, w]) (h1_ : RatV K H v x) (h2_ : RatV K H w y) (h3_ : Sz 9000 x) (h4_ : Sz 9000 y) (h5_ : ∀ u, RatV K H u (Lr.mn x y) → Q u H) : sp_lesser K vs H Q E_
structure Ob (k : Nat) (D : Int) (xs : List Rat) : Prop where
 pos : 0 < D
 bd : Bd k D
 ov : ∀ x ∈ xs, Lr.Ov D (2 ^ k) x
theorem Ob.sub {k : Nat} {D : Int} {xs ys : List Rat} (h : Ob k D xs) (l : ∀ y ∈ ys, y ∈ xs) : Ob k D ys := ⟨h.pos, h.bd, fun y hy => h.ov y (l y hy)⟩
theorem Ob.mono {k m : Nat} {D : Int} {xs : List Rat} (h : Ob k D xs) (l : k ≤ m) : Ob m D xs := ⟨h.pos, h.bd.mono l, fun x hx => (h.ov x hx).mono (Nat.pow_le_pow_right (by decide) l)⟩
theorem ovSz {k m : Nat} {D : Int} {x : Rat} {M : Nat} (hp : 0 < D) (hb : Bd k D) (h : Lr.Ov D M x) (hM : M < 2 ^ m) (l : k ≤ m) : Sz m x := by
 obtain ⟨n, rfl, hn⟩ := h
 exact Sz.rt (n := m) (by omega) (Bd.of_lt (Nat.lt_of_le_of_lt hn hM)) (hb.mono l) (Nat.le_refl _)
theorem Ob.sz {k m : Nat} {D : Int} {xs : List Rat} (h : Ob k D xs) (l : k + 1 ≤ m) {x : Rat} (hx : x ∈ xs) : Sz m x := by
 refine ovSz h.pos h.bd (h.ov x hx) ?_ (by omega)
 exact Nat.lt_of_lt_of_le (Nat.pow_lt_pow_right (by decide) (Nat.lt_succ_self k)) (Nat.pow_le_pow_right (by decide) l)
inductive sp_cbot (K : PySem.W.Frag) (vs : List V) (H : Hp) (Q : VK) (E_ : XK) : Prop
 | mk (a : Addr) (xs : List Rat) (k : Nat) (D : Int) (h0_ : vs = [.ref a]) (h1_ : RatL K H a xs) (h2_ : Ob k D xs) (h3_ : k ≤ 8000) (h4_ : ∀ B : Int, 0 < B → B ∣ D → (∀ x ∈ xs, (x.den : Int) ∣ B) → Q (.int B) H) : sp_cbot K vs H Q E_
inductive sp_tops (K : PySem.W.Frag) (vs : List V) (H : Hp) (Q : VK) (E_ : XK) : Prop
 | mk (a : Addr) (xs : List Rat) (B : Int) (h0_ : vs = [.int B, .ref a]) (h1_ : RatL K H a xs) (h2_ : 0 < B) (h3_ : Bd 9000 B) (h4_ : (∀ x ∈ xs, (x.den : Int) ∣ B)) (h5_ : (∀ x ∈ xs, Sz 9000 x)) (h6_ : xs.length ≤ 1000000) (h7_ : ∀ l (ts : List Int) H', New H l (.lst (ts.map V.int)) H' → ts.map (fun (t : Int) => (t : Rat)) = xs.map (· * (B : Rat)) → Q (.ref l) H') : sp_tops K vs H Q E_
inductive sp_total (K : PySem.W.Frag) (vs : List V) (H : Hp) (Q : VK) (E_ : XK) : Prop
 | mk (a : Addr) (cs : List Rat) (k : Nat) (D : Int) (h0_ : vs = [.ref a]) (h1_ : RatL K H a cs) (h2_ : Ob k D cs) (h3_ : k ≤ 3000) (h4_ : cs.length ≤ 1100) (h5_ : ∀ w H', Same H H' → RatV K H' w (Lr.sm cs) → Q w H') : sp_total K vs H Q E_
noncomputable def dueC (A : Ad) (cs : List Rat) : Option Addr := if 8 < cs.length then some A.aTooMany else if (cs.any fun c => decide (c < 0)) = true then some A.aNoClaim else none
noncomputable def dueOf (A : Ad) (cs : List Rat) (e : Rat) : Option Addr := match dueC A cs with | some c => some c | none => if e < 0 ∨ Lr.sm cs < e then some A.aNoEstate else none
theorem dueC_none {A : Ad} {cs : List Rat} (h : dueC A cs = none) : cs.length ≤ 8 ∧ ∀ c ∈ cs, 0 ≤ c := by
 unfold dueC at h
 split at h
 ·cases h
 ·split at h
  ·cases h
  ·rename_i h1 h2
   refine ⟨by omega, fun c hc => ?_⟩
   have : ¬ c < 0 := fun z => h2 (List.any_eq_true.mpr ⟨c, hc, decide_eq_true z⟩)
   grind
theorem dueC_good {A : Ad} {cs : List Rat} (h8 : cs.length ≤ 8) (h0 : ∀ c ∈ cs, 0 ≤ c) : dueC A cs = none := by
 unfold dueC
 rw [if_neg (by omega), if_neg]
 intro z
 obtain ⟨c, hc, h⟩ := List.any_eq_true.mp z
 have h1 := of_decide_eq_true h
 have h2 := h0 c hc
 grind
theorem due_none {A : Ad} {cs : List Rat} {e : Rat} (h : dueOf A cs e = none) : cs.length ≤ 8 ∧ (∀ c ∈ cs, 0 ≤ c) ∧ 0 ≤ e ∧ e ≤ Lr.sm cs := by
 unfold dueOf at h
 split at h
 ·cases h
 ·rename_i h1
  split at h
  ·cases h
  ·rename_i h2
   obtain ⟨a, b⟩ := dueC_none h1
   exact ⟨a, b, by grind, by grind⟩
theorem due_good {A : Ad} {cs : List Rat} {e : Rat} (h8 : cs.length ≤ 8) (h0 : ∀ c ∈ cs, 0 ≤ c) (he : 0 ≤ e) (ht : e ≤ Lr.sm cs) : dueOf A cs e = none := by
 unfold dueOf
 rw [dueC_good h8 h0]
 show (if e < 0 ∨ Lr.sm cs < e then some A.aNoEstate else none) = none
 rw [if_neg]
 grind
inductive sp_lookC (K : PySem.W.Frag) (A : Ad) (vs : List V) (H : Hp) (Q : VK) (E : XK) : Prop
 | mk (a : Addr) (cs : List Rat) (h0_ : vs = [.ref a]) (h1_ : RatL K H a cs) (h2_ : (∀ c ∈ cs, Sz 9000 c)) (h3_ : (dueC A cs = none → Q .non H)) (h4_ : ∀ c, dueC A cs = some c → E (.ref c) none H) : sp_lookC K A vs H Q E
inductive sp_look (K : PySem.W.Frag) (A : Ad) (vs : List V) (H : Hp) (Q : VK) (E : XK) : Prop
 | mk (a : Addr) (v : V) (cs : List Rat) (e : Rat) (k : Nat) (D : Int) (h0_ : vs = [.ref a, v]) (h1_ : RatL K H a cs) (h2_ : RatV K H v e) (h3_ : Ob k D (e :: cs)) (h4_ : k ≤ 3000) (h5_ : (dueOf A cs e = none → ∀ H', Same H H' → Q .non H')) (h6_ : ∀ c, dueOf A cs e = some c → ∀ H', Same H H' → E (.ref c) none H') : sp_look K A vs H Q E
inductive sp_lack (K : PySem.W.Frag) (A : Ad) (vs : List V) (H : Hp) (Q : VK) (E : XK) : Prop
 | mk (a : Addr) (v : V) (cs : List Rat) (e : Rat) (k : Nat) (D : Int) (h0_ : vs = [.ref a, v]) (h1_ : RatL K H a cs) (h2_ : RatV K H v e) (h3_ : Ob k D (e :: cs)) (h4_ : k ≤ 3000) (h5_ : (dueOf A cs e = none → ∀ w H', Same H H' → RatV K H' w (Lr.sm cs - e) → Q w H')) (h6_ : ∀ c, dueOf A cs e = some c → ∀ H', Same H H' → E (.ref c) none H') : sp_lack K A vs H Q E
inductive sp_cless (K : PySem.W.Frag) (vs : List V) (H : Hp) (Q : VK) (E_ : XK) : Prop
 | mk (a b : Addr) (cs ps : List Rat) (m n : Nat) (h0_ : vs = [.ref a, .ref b]) (h1_ : RatL K H a cs) (h2_ : RatL K H b ps) (h3_ : (∀ c ∈ cs, Sz m c)) (h4_ : (∀ p ∈ ps, Sz n p)) (h5_ : m + n ≤ 9000) (h6_ : cs.length ≤ 1000) (h7_ : ps.length = cs.length) (h8_ : ∀ l H', Same H H' → H l = none → RatL K H' l (List.zipWith (· - ·) cs ps) → Q (.ref l) H') : sp_cless K vs H Q E_
inductive sp_gain (K : PySem.W.Frag) (A : Ad) (vs : List V) (H : Hp) (Q : VK) (E : XK) : Prop
 | mk (a : Addr) (v : V) (cs : List Rat) (e : Rat) (k : Nat) (D : Int) (h0_ : vs = [.ref a, v]) (h1_ : RatL K H a cs) (h2_ : RatV K H v e) (h3_ : Ob k D (e :: cs)) (h4_ : k ≤ 2500) (h5_ : (dueOf A cs e = none → ∀ w g H', Same H H' → RatV K H' w g → Lr.Gain cs e g → Lr.Ov (840 * D) (840 * 2 ^ k) g → Q w H')) (h6_ : ∀ c, dueOf A cs e = some c → ∀ H', Same H H' → E (.ref c) none H') : sp_gain K A vs H Q E
inductive sp_loss (K : PySem.W.Frag) (A : Ad) (vs : List V) (H : Hp) (Q : VK) (E : XK) : Prop
 | mk (a : Addr) (v : V) (cs : List Rat) (e : Rat) (k : Nat) (D : Int) (h0_ : vs = [.ref a, v]) (h1_ : RatL K H a cs) (h2_ : RatV K H v e) (h3_ : Ob k D (e :: cs)) (h4_ : k ≤ 2490) (h5_ : (dueOf A cs e = none → ∀ w g H', Same H H' → RatV K H' w g → Lr.Gain cs (Lr.sm cs - e) g → Lr.Ov (840 * D) (840 * 2 ^ (k + 4)) g → Q w H')) (h6_ : ∀ c, dueOf A cs e = some c → ∀ H', Same H H' → E (.ref c) none H') : sp_loss K A vs H Q E
inductive sp_rule (K : PySem.W.Frag) (due : List Rat → Rat → Option Addr) (R : List Rat → Rat → List Rat → Prop) (vs : List V) (H : Hp) (Q : VK) (E : XK) : Prop
 | mk (a : Addr) (v : V) (cs : List Rat) (e : Rat) (k : Nat) (D : Int) (h0_ : vs = [.ref a, v]) (h1_ : RatL K H a cs) (h2_ : RatV K H v e) (h3_ : Ob k D (e :: cs)) (h4_ : k ≤ 2400) (h5_ : (due cs e = none → ∀ l ps H', Same H H' → H l = none → RatL K H' l ps → R cs e ps → (∃ D', Ob (2 * k + 20) D' ps) → Q (.ref l) H')) (h6_ : ∀ c, due cs e = some c → ∀ H', Same H H' → E (.ref c) none H') : sp_rule K due R vs H Q E
noncomputable def Shares (cs : List Rat) (e : Rat) (ps : List Rat) : Prop := ps = cs.map fun c => if Lr.sm cs = 0 then 0 else c * (e / Lr.sm cs)
noncomputable def Gains (cs : List Rat) (e : Rat) (ps : List Rat) : Prop := ∃ g, Lr.Gain cs e g ∧ ps = cs.map (Lr.mn · g)
noncomputable def Losses (cs : List Rat) (e : Rat) (ps : List Rat) : Prop := ∃ g, Lr.Gain cs (Lr.sm cs - e) g ∧ ps = cs.map fun c => c - Lr.mn c g
noncomputable def Halves (cs : List Rat) (e : Rat) (ps : List Rat) : Prop := (e ≤ Lr.sm cs - e ∧ ∃ g, Lr.Gain (cs.map (· * Lr.rt 1 2)) e g ∧ ps = cs.map fun c => Lr.mn (c * Lr.rt 1 2) g) ∨
 (Lr.sm cs - e < e ∧ ∃ g, Lr.Gain (cs.map (· * Lr.rt 1 2)) (Lr.sm cs - e) g ∧ ps = cs.map fun c => c - Lr.mn (c * Lr.rt 1 2) g)
noncomputable abbrev sp_shares (K : PySem.W.Frag) (A : Ad) : Sp := sp_rule K (dueOf A) Shares
inductive sp_gains (K : PySem.W.Frag) (A : Ad) (vs : List V) (H : Hp) (Q : VK) (E : XK) : Prop
 | mk (a : Addr) (v : V) (cs : List Rat) (e : Rat) (k : Nat) (D : Int) (h0_ : vs = [.ref a, v]) (h1_ : RatL K H a cs) (h2_ : RatV K H v e) (h3_ : Ob k D (e :: cs)) (h4_ : k ≤ 2410) (h5_ : (dueOf A cs e = none → ∀ l ps H', Same H H' → H l = none → RatL K H' l ps → Gains cs e ps → Ob (k + 10) (840 * D) ps → Q (.ref l) H')) (h6_ : ∀ c, dueOf A cs e = some c → ∀ H', Same H H' → E (.ref c) none H') : sp_gains K A vs H Q E
noncomputable abbrev sp_losses (K : PySem.W.Frag) (A : Ad) : Sp := sp_rule K (dueOf A) Losses
noncomputable abbrev sp_halves (K : PySem.W.Frag) (A : Ad) : Sp := sp_rule K (dueOf A) Halves
inductive sp_fact (vs : List V) (H : Hp) (Q : VK) (E_ : XK) : Prop
 | mk (n : Nat) (h0_ : vs = [.int (n : Int)]) (h1_ : n ≤ 100) (h2_ : Q (.int (Lr.fact n : Int)) H) : sp_fact vs H Q E_
inductive sp_groups (K : PySem.W.Frag) (vs : List V) (H : Hp) (Q : VK) (E_ : XK) : Prop
 | mk (a : Addr) (ts : List Int) (h0_ : vs = [.ref a]) (h1_ : SqL K H a (ts.map V.int)) (h2_ : ts.length ≤ 8) (h3_ : ∀ l H', Same H H' → PairL K H' l (Lr.grp ts) → Q (.ref l) H') : sp_groups K vs H Q E_
inductive sp_tia (K : PySem.W.Frag) (vs : List V) (H : Hp) (Q : VK) (E_ : XK) : Prop
 | mk (c : Int) (a : Addr) (ts : List Int) (e : Int) (h0_ : vs = [.int c, .ref a, .int e]) (h1_ : SqL K H a (ts.map V.int)) (h2_ : ts.length ≤ 7) (h3_ : (∀ t ∈ ts, Bd 9000 t)) (h4_ : Bd 9000 c) (h5_ : ∀ H', Same H H' → Q (.int (Lr.tv c ts e)) H') : sp_tia K vs H Q E_
theorem fact_mono {m n : Nat} (h : m ≤ n) : Lr.fact m ≤ Lr.fact n := by
 induction h with
 | refl => exact Nat.le_refl _
 | step h ih => exact Nat.le_trans ih (by show _ ≤ (_ + 1) * _; exact Nat.le_mul_of_pos_left _ (Nat.succ_pos _))
theorem fact8 {m : Nat} (h : m ≤ 8) : Lr.fact m ≤ 40320 := Nat.le_trans (fact_mono h) (by decide)
inductive sp_turns (K : PySem.W.Frag) (A : Ad) (vs : List V) (H : Hp) (Q : VK) (E : XK) : Prop
 | mk (a : Addr) (v : V) (cs : List Rat) (e : Rat) (k : Nat) (D : Int) (h0_ : vs = [.ref a, v]) (h1_ : RatL K H a cs) (h2_ : RatV K H v e) (h3_ : Ob k D (e :: cs)) (h4_ : k ≤ 2400) (h5_ : (dueOf A cs e = none → ∀ l ps H', Same H H' → H l = none → RatL K H' l ps → ps.length = cs.length → (∀ (i : Nat) p, ps[i]? = some p → Lr.TurnAt cs e i p) → (∃ D', Ob (k + 40) D' ps) → Q (.ref l) H')) (h6_ : ∀ c, dueOf A cs e = some c → ∀ H', Same H H' → E (.ref c) none H') : sp_turns K A vs H Q E
theorem tk_abs {c e t : Int} (hc : 0 ≤ c) : 0 ≤ Lr.tk c e t ∧ Lr.tk c e t ≤ c := by unfold Lr.tk; omega
theorem tv_bd {c : Int} {ts : List Int} {e : Int} (hc : 0 ≤ c) (hl : ts.length ≤ 7) : 0 ≤ Lr.tv c ts e ∧ Lr.tv c ts e ≤ 2 ^ 32 * c := by
 unfold Lr.tv
 have h1 : ∀ p ∈ Lr.grp ts, 0 ≤ Lr.wt ts.length p.2 * Lr.tk c e p.1 ∧ Lr.wt ts.length p.2 * Lr.tk c e p.1 ≤ 25401600 * c := fun p hp => by
  have hs := Lr.grp_size p hp
  have f1 : Lr.fact p.2 ≤ 5040 := Nat.le_trans (fact_mono (show p.2 ≤ 7 by omega)) (by decide)
  have f2 : Lr.fact (ts.length - p.2) ≤ 5040 := Nat.le_trans (fact_mono (show ts.length - p.2 ≤ 7 by omega)) (by decide)
  have ht := tk_abs (c := c) (e := e) (t := p.1) hc
  have hw : 0 ≤ Lr.wt ts.length p.2 ∧ Lr.wt ts.length p.2 ≤ 25401600 := by
   unfold Lr.wt
   have : Lr.fact p.2 * Lr.fact (ts.length - p.2) ≤ 5040 * 5040 := Nat.mul_le_mul f1 f2
   have e1 : ((Lr.fact p.2 : Int) * (Lr.fact (ts.length - p.2) : Int)) = ((Lr.fact p.2 * Lr.fact (ts.length - p.2) : Nat) : Int) := by push_cast; rfl
   rw [e1]
   omega
  exact ⟨Int.mul_nonneg hw.1 ht.1, Int.mul_le_mul hw.2 ht.2 ht.1 (by decide)⟩
 have h2 : (Lr.grp ts).length ≤ 128 := by rw [Lr.grp_len]; exact Nat.pow_le_pow_right (n := 2) (by decide) hl
 have key : ∀ l : List (Int × Nat), (∀ p ∈ l, 0 ≤ Lr.wt ts.length p.2 * Lr.tk c e p.1 ∧ Lr.wt ts.length p.2 * Lr.tk c e p.1 ≤ 25401600 * c) → 0 ≤ (l.map fun p => Lr.wt ts.length p.2 * Lr.tk c e p.1).sum ∧ (l.map fun p => Lr.wt ts.length p.2 * Lr.tk c e p.1).sum ≤ l.length * (25401600 * c) := fun l => by
  induction l with
  | nil => intro _; simp
  | cons p l ih =>
   intro h
   have a1 := ih fun q hq => h q (List.mem_cons_of_mem _ hq)
   have a2 := h p List.mem_cons_self
   rw [List.map_cons, List.sum_cons, List.length_cons]
   push_cast
   rw [Int.add_mul]
   omega
 have h3 := key _ h1
 have h4 : ((Lr.grp ts).length : Int) * (25401600 * c) ≤ 128 * (25401600 * c) := Int.mul_le_mul_of_nonneg_right (by omega) (by omega)
 omega
noncomputable abbrev rng (n : Nat) : List Int := (List.range n).map fun (i : Nat) => (i : Int)
noncomputable def IsOrd (os : List Int) (n : Nat) : Prop := os.Perm (rng n)
theorem rng_sorted (n : Nat) : (rng n).Pairwise (· ≤ ·) := by
 refine List.pairwise_iff_getElem.mpr fun i j hi hj hij => ?_
 rw [List.getElem_map, List.getElem_map, List.getElem_range, List.getElem_range]
 omega
theorem ord_iff {os ms : List Int} {n : Nat} (hp : ms.Perm os) (hs : ms.Pairwise (· ≤ ·)) : ms = rng n ↔ IsOrd os n := by
 constructor
 ·intro e
  unfold IsOrd
  rw [← e]
  exact hp.symm
 ·intro h
  exact List.Perm.eq_of_pairwise (fun a b _ _ h1 h2 => Int.le_antisymm h1 h2) hs (rng_sorted n) (hp.trans h)
theorem ord_nat {os : List Int} {n : Nat} (h : IsOrd os n) : ∃ r : List Nat, os = r.map (fun (i : Nat) => (i : Int)) ∧ r.Perm (List.range n) := by
 refine ⟨os.map Int.toNat, ?_, ?_⟩
 ·rw [List.map_map]
  conv => lhs; rw [← List.map_id os]
  apply List.map_congr_left
  intro x hx
  have := h.mem_iff.mp hx
  obtain ⟨i, _, rfl⟩ := List.mem_map.mp this
  show (i : Int) = (((i : Int).toNat : Nat) : Int)
  omega
 ·have h1 := h.map Int.toNat
  rw [List.map_map] at h1
  have h2 : (List.range n).map (Int.toNat ∘ fun (i : Nat) => (i : Int)) = List.range n := by
   conv => rhs; rw [← List.map_id (List.range n)]
   apply List.map_congr_left
   intro i _
   show ((i : Int)).toNat = i
   omega
  rw [h2] at h1
  exact h1
noncomputable def restA (cs : List Rat) : Rat → List Nat → Rat
 | e, [] => e
 | e, i :: r => restA cs (e - Lr.mn (cs.getD i 0) e) r
theorem restA_snoc (cs : List Rat) : ∀ (r : List Nat) (e : Rat) (i : Nat), restA cs e (r ++ [i]) = restA cs e r - Lr.mn (cs.getD i 0) (restA cs e r)
 | [], _, _ => rfl
 | j :: r, e, i => restA_snoc cs r (e - Lr.mn (cs.getD j 0) e) i
structure Taken (cs : List Rat) (e : Rat) (r : List Nat) (ps : List Rat) : Prop where
 len : ps.length = cs.length
 at_ : ∀ (j i : Nat), r[j]? = some i → ps[i]? = some (Lr.mn (cs.getD i 0) (restA cs e (r.take j)))
theorem ov_rest {D : Int} {M : Nat} (hD : 0 < D) {c l : Rat} (hc : Lr.Ov D M c) (hl : Lr.Ov D M l) (c0 : 0 ≤ c) (l0 : 0 ≤ l) : Lr.Ov D M (l - Lr.mn c l) ∧ 0 ≤ l - Lr.mn c l := by
 have h1 := Lr.mn_le_r (x := c) (y := l)
 refine ⟨?_, by grind⟩
 rcases Lr.mn_or c l with e | e
 ·rw [e] at h1 ⊢
  obtain ⟨n, rfl, hn⟩ := hc
  obtain ⟨m, rfl, hm⟩ := hl
  rw [Lr.rt_sub_same hD]
  have a1 := (Lr.rt_nonneg hD).mp c0
  have a2 := (Lr.rt_le_iff hD).mp h1
  exact ⟨_, rfl, by omega⟩
 ·rw [e]
  have : l - l = 0 := by grind
  rw [this]
  exact Lr.Ov.zero hD
theorem rats_set {K : PySem.W.Frag} {H : Hp} {vs : List V} {xs : List Rat} {v : V} {x : Rat} (h : RatsV K H vs xs) (g : RatV K H v x) (j : Nat) : RatsV K H (vs.set j v) (xs.set j x) := by
 refine ⟨by rw [List.length_set, List.length_set, h.len], fun i w y hw hy => ?_⟩
 by_cases hij : j = i
 ·subst hij
  have hj := (List.getElem?_eq_some_iff.mp hw).1
  have hj2 := (List.getElem?_eq_some_iff.mp hy).1
  rw [List.length_set] at hj hj2
  rw [List.getElem?_set_self hj] at hw
  rw [List.getElem?_set_self hj2] at hy
  cases hw
  cases hy
  exact g
 ·rw [List.getElem?_set_ne hij] at hw hy
  exact h.at_ i w y hw hy
inductive sp_lookO (K : PySem.W.Frag) (A : Ad) (vs : List V) (H : Hp) (Q : VK) (E : XK) : Prop
 | mk (a b : Addr) (cs : List Rat) (os : List Int) (h0_ : vs = [.ref a, .ref b]) (h1_ : RatL K H a cs) (h2_ : SqL K H b (os.map V.int)) (h3_ : os.length < 64) (h4_ : cs.length ≤ 1000) (h5_ : (IsOrd os cs.length → ∀ H', Same H H' → Q .non H')) (h6_ : (¬ IsOrd os cs.length → ∀ H', Same H H' → E (.ref A.aNoOrder) none H')) : sp_lookO K A vs H Q E
inductive sp_taken (K : PySem.W.Frag) (A : Ad) (vs : List V) (H : Hp) (Q : VK) (E : XK) : Prop
 | mk (a : Addr) (v : V) (b : Addr) (cs : List Rat) (e : Rat) (os : List Int) (k : Nat) (D : Int) (h0_ : vs = [.ref a, v, .ref b]) (h1_ : RatL K H a cs) (h2_ : RatV K H v e) (h3_ : SqL K H b (os.map V.int)) (h4_ : os.length < 64) (h5_ : Ob k D (e :: cs)) (h6_ : k ≤ 2400) (h7_ : (dueOf A cs e = none → ∀ r : List Nat, os = r.map (fun (i : Nat) => (i : Int)) → r.Perm (List.range cs.length) → ∀ l ps H', Same H H' → H l = none → RatL K H' l ps → Taken cs e r ps → Ob k D ps → Q (.ref l) H')) (h8_ : (∀ c, dueOf A cs e = some c → ∀ H', Same H H' → E (.ref c) none H')) (h9_ : (dueOf A cs e = none → ¬ IsOrd os cs.length → ∀ H', Same H H' → E (.ref A.aNoOrder) none H')) : sp_taken K A vs H Q E
theorem ixN_nat {n j : Nat} (h : j < n) : ixN n (j : Int) = some j := by
 unfold ixN
 rw [if_pos (by omega), if_pos (by omega)]
 congr 1
noncomputable def word : Lr.Rl → Str
 | .sh => tx [115, 104, 97, 114, 101, 115]
 | .ga => tx [103, 97, 105, 110, 115]
 | .lo => tx [108, 111, 115, 115, 101, 115]
 | .ha => tx [104, 97, 108, 118, 101, 115]
 | .tu => tx [116, 117, 114, 110, 115]
theorem word_is {ρ ρ' : Lr.Rl} (h : word ρ = word ρ') : ρ = ρ' := by
 cases ρ <;> cases ρ' <;> first | rfl | exact absurd h (by decide +kernel)
noncomputable def wordsV : List V := [.str (tx [115, 104, 97, 114, 101, 115]), .str (tx [103, 97, 105, 110, 115]), .str (tx [108, 111, 115, 115, 101, 115]), .str (tx [104, 97, 108, 118, 101, 115]), .str (tx [116, 117, 114, 110, 115])]
theorem word_in (ρ : Lr.Rl) : inV (.str (word ρ)) wordsV = true := by cases ρ <;> decide +kernel
theorem in_word {s : Str} (h : inV (.str s) wordsV = true) : ∃ ρ, s = word ρ := by
 obtain ⟨y, hy, e⟩ := List.any_eq_true.mp h
 unfold wordsV at hy
 simp only [List.mem_cons, List.not_mem_nil, or_false] at hy
 rcases hy with rfl | rfl | rfl | rfl | rfl
 ·exact ⟨.sh, (eq_of_beq e).symm⟩
 ·exact ⟨.ga, (eq_of_beq e).symm⟩
 ·exact ⟨.lo, (eq_of_beq e).symm⟩
 ·exact ⟨.ha, (eq_of_beq e).symm⟩
 ·exact ⟨.tu, (eq_of_beq e).symm⟩
theorem brB {b : Bool} {A B : Prop} (h1 : b = true → A) (h2 : b = false → B) : if b = true then A else B := by
 cases b with
 | true => rw [if_pos rfl]; exact h1 rfl
 | false => rw [if_neg (by decide)]; exact h2 rfl
inductive sp_lookR (A : Ad) (vs : List V) (H : Hp) (Q : VK) (E : XK) : Prop
 | mk (s : Str) (h0_ : vs = [.str s]) (h1_ : ((∃ ρ, s = word ρ) → Q .non H)) (h2_ : ((∀ ρ, s ≠ word ρ) → E (.ref A.aNoRule) none H)) : sp_lookR A vs H Q E
theorem cutE {xs : List V} {i : Nat} (hi : i < xs.length) : cutV xs none (some (i : Int)) ++ cutV xs (some ((i : Int) + 1)) none = xs.eraseIdx i := by
 unfold cutV
 have e1 : HT.sIx xs.length xs.length (some (i : Int)) = min i xs.length := HT.sIx_nat _ _ i
 have e2 : HT.sIx xs.length 0 (some ((i : Int) + 1)) = min (i + 1) xs.length := HT.sIx_nat _ _ (i + 1)
 rw [HT.sIx_none, HT.sIx_none, e1, e2, List.drop_zero, Nat.sub_zero, Nat.min_eq_left (by omega), Nat.min_eq_left (by omega), List.eraseIdx_eq_take_drop_succ]
 congr 1
 exact List.take_of_length_le (by rw [List.length_drop]; omega)
inductive sp_allbut (K : PySem.W.Frag) (vs : List V) (H : Hp) (Q : VK) (E_ : XK) : Prop
 | mk (i : Nat) (a : Addr) (xs : List V) (h0_ : vs = [.int (i : Int), .ref a]) (h1_ : SqL K H a xs) (h2_ : i < xs.length) (h3_ : xs.length ≤ 1000) (h4_ : ∀ l H', Same H H' → H l = none → H' l = some (.lst (xs.eraseIdx i)) → Q (.ref l) H') : sp_allbut K vs H Q E_
noncomputable def lov (e t : Rat) : Rat := if e - t < 0 then 0 else e - t
inductive sp_lefto (K : PySem.W.Frag) (vs : List V) (H : Hp) (Q : VK) (E_ : XK) : Prop
 | mk (a : Addr) (v : V) (cs : List Rat) (e : Rat) (k : Nat) (D : Int) (h0_ : vs = [.ref a, v]) (h1_ : RatL K H a cs) (h2_ : RatV K H v e) (h3_ : Ob k D (e :: cs)) (h4_ : k ≤ 3000) (h5_ : cs.length ≤ 8) (h6_ : ∀ w H', Same H H' → RatV K H' w (lov e (Lr.sm cs)) → Q w H') : sp_lefto K vs H Q E_
inductive sp_cutc (K : PySem.W.Frag) (A : Ad) (vs : List V) (H : Hp) (Q : VK) (E : XK) : Prop
 | mk (a : Addr) (v : V) (cs : List Rat) (e : Rat) (k : Nat) (D : Int) (h0_ : vs = [.ref a, v]) (h1_ : RatL K H a cs) (h2_ : RatV K H v e) (h3_ : Ob k D (e :: cs)) (h4_ : k ≤ 2400) (h5_ : (dueOf A cs e = none → ∀ l H', Same H H' → H l = none → RatL K H' l (Lr.cut cs e) → Q (.ref l) H')) (h6_ : ∀ c, dueOf A cs e = some c → ∀ H', Same H H' → E (.ref c) none H') : sp_cutc K A vs H Q E
theorem rats_erase {K : PySem.W.Frag} {H : Hp} {vs : List V} {xs : List Rat} (h : RatsV K H vs xs) (i : Nat) : RatsV K H (vs.eraseIdx i) (xs.eraseIdx i) := by
 refine ⟨by rw [List.length_eraseIdx, List.length_eraseIdx, h.len], fun j v x hv hx => ?_⟩
 rw [List.getElem?_eraseIdx] at hv hx
 split at hv
 ·rename_i hj
  rw [if_pos hj] at hx
  exact h.at_ _ v x hv hx
 ·rename_i hj
  rw [if_neg hj] at hx
  exact h.at_ _ v x hv hx
inductive sp_rights (K : PySem.W.Frag) (A : Ad) (vs : List V) (H : Hp) (Q : VK) (E : XK) : Prop
 | mk (a : Addr) (v : V) (cs : List Rat) (e : Rat) (k : Nat) (D : Int) (h0_ : vs = [.ref a, v]) (h1_ : RatL K H a cs) (h2_ : RatV K H v e) (h3_ : Ob k D (e :: cs)) (h4_ : k ≤ 2400) (h5_ : (dueOf A cs e = none → ∀ l H', Same H H' → H l = none → RatL K H' l ((List.range cs.length).map fun i => lov e (Lr.sm (cs.eraseIdx i))) → Q (.ref l) H')) (h6_ : ∀ c, dueOf A cs e = some c → ∀ H', Same H H' → E (.ref c) none H') : sp_rights K A vs H Q E
inductive sp_others (K : PySem.W.Frag) (vs : List V) (H : Hp) (Q : VK) (E_ : XK) : Prop
 | mk (a : Addr) (cs : List Rat) (g : Nat) (h0_ : vs = [.ref a, .int (g : Int)]) (h1_ : RatL K H a cs) (h2_ : cs.length ≤ 1000) (h3_ : ∀ l H', Same H H' → H l = none → RatL K H' l (Lr.oth g 0 cs) → Q (.ref l) H') : sp_others K vs H Q E_
theorem lov_eq (e t : Rat) : lov e t = Lr.lv e t := rfl
theorem lov_sz {k : Nat} {D : Int} {cs ys : List Rat} {e : Rat} (hO : Ob k D (e :: cs)) (hk : k ≤ 600) (h8 : ys.length ≤ 8) (hs : ∀ y ∈ ys, y ∈ cs) : Sz 1212 (lov e (Lr.sm ys)) := by
 have ze : Sz 601 e := hO.sz (by omega) List.mem_cons_self
 have zt : Sz 610 (Lr.sm ys) := by
  have ho := Lr.Ov.sm hO.pos (fun x hx => hO.ov x (List.mem_cons_of_mem _ (hs x hx))) (a := ys)
  refine ovSz hO.pos (hO.bd.mono hk) ho ?_ (by decide)
  have h1 : ys.length * 2 ^ k ≤ 8 * 2 ^ 600 := Nat.mul_le_mul h8 (Nat.pow_le_pow_right (by decide) hk)
  have h2 : 8 * 2 ^ 600 < 2 ^ 610 := by decide +kernel
  omega
 unfold lov
 split
 ·exact Sz.zero.mono (by decide)
 ·exact Sz.sub ze zt
inductive sp_added (K : PySem.W.Frag) (A : Ad) (vs : List V) (H : Hp) (Q : VK) (E : XK) : Prop
 | mk (a : Addr) (v : V) (b : Addr) (cs : List Rat) (e : Rat) (os : List Int) (k : Nat) (D : Int) (h0_ : vs = [.ref a, v, .ref b]) (h1_ : RatL K H a cs) (h2_ : RatV K H v e) (h3_ : SqL K H b (os.map V.int)) (h4_ : os.length < 64) (h5_ : Ob k D (e :: cs)) (h6_ : k ≤ 600) (h7_ : (dueOf A cs e = none → ∀ r : List Nat, os = r.map (fun (i : Nat) => (i : Int)) → r.Perm (List.range cs.length) → ∀ l ps H', Same H H' → H l = none → RatL K H' l ps → Lr.Added cs e r ps → (∀ p ∈ ps, Sz 2500 p) → Q (.ref l) H')) (h8_ : (∀ c, dueOf A cs e = some c → ∀ H', Same H H' → E (.ref c) none H')) (h9_ : (dueOf A cs e = none → ¬ IsOrd os cs.length → ∀ H', Same H H' → E (.ref A.aNoOrder) none H')) : sp_added K A vs H Q E
inductive sp_lookG (K : PySem.W.Frag) (A : Ad) (vs : List V) (H : Hp) (Q : VK) (E : XK) : Prop
 | mk (a : Addr) (cs : List Rat) (g : Int) (h0_ : vs = [.ref a, .int g]) (h1_ : RatL K H a cs) (h2_ : cs.length ≤ 1000) (h3_ : (0 ≤ g → g < 2 ^ cs.length → Q .non H)) (h4_ : ((g < 0 ∨ 2 ^ cs.length ≤ g) → E (.ref A.aNoGroup) none H)) : sp_lookG K A vs H Q E
inductive sp_worth (K : PySem.W.Frag) (A : Ad) (vs : List V) (H : Hp) (Q : VK) (E : XK) : Prop
 | mk (a : Addr) (v : V) (cs : List Rat) (e : Rat) (g : Int) (k : Nat) (D : Int) (h0_ : vs = [.ref a, v, .int g]) (h1_ : RatL K H a cs) (h2_ : RatV K H v e) (h3_ : Ob k D (e :: cs)) (h4_ : k ≤ 600) (h5_ : (dueOf A cs e = none → 0 ≤ g → g < 2 ^ cs.length → ∀ w H', Same H H' → RatV K H' w (lov e (Lr.sm (Lr.oth g.toNat 0 cs))) → Q w H')) (h6_ : (∀ c, dueOf A cs e = some c → ∀ H', Same H H' → E (.ref c) none H')) (h7_ : (dueOf A cs e = none → (g < 0 ∨ 2 ^ cs.length ≤ g) → ∀ H', Same H H' → E (.ref A.aNoGroup) none H')) : sp_worth K A vs H Q E
noncomputable def badS (cs ps : List Rat) : Bool := (List.zip cs ps).any fun x => decide (x.2 < 0) || decide (x.1 < x.2)
noncomputable def dueS (A : Ad) (cs ps : List Rat) : Option Addr := match dueC A cs with | some c => some c | none => if ps.length ≠ cs.length ∨ badS cs ps = true then some A.aNoSharing else none
inductive sp_lookSh (K : PySem.W.Frag) (A : Ad) (vs : List V) (H : Hp) (Q : VK) (E : XK) : Prop
 | mk (a b : Addr) (cs ps : List Rat) (h0_ : vs = [.ref a, .ref b]) (h1_ : RatL K H a cs) (h2_ : RatL K H b ps) (h3_ : (∀ c ∈ cs, Sz 9000 c)) (h4_ : (∀ p ∈ ps, Sz 9000 p)) (h5_ : (dueS A cs ps = none → ∀ H', Same H H' → Q .non H')) (h6_ : ∀ c, dueS A cs ps = some c → ∀ H', Same H H' → E (.ref c) none H') : sp_lookSh K A vs H Q E
theorem badS_none {cs ps : List Rat} (h : badS cs ps = false) {k : Nat} {c p : Rat} (hc : cs[k]? = some c) (hp : ps[k]? = some p) : 0 ≤ p ∧ p ≤ c := by
 have hm : (c, p) ∈ List.zip cs ps := List.mem_iff_getElem?.mpr ⟨k, by rw [List.getElem?_zip_eq_some]; exact ⟨hc, hp⟩⟩
 have h1 := List.any_eq_false.mp h (c, p) hm
 have h2 : ¬ (p < 0) ∧ ¬ (c < p) := by simpa using h1
 exact ⟨by grind, by grind⟩
theorem badS_good {cs ps : List Rat} (h : ∀ (k : Nat) c p, cs[k]? = some c → ps[k]? = some p → 0 ≤ p ∧ p ≤ c) : badS cs ps = false := by
 refine List.any_eq_false.mpr fun x hx => ?_
 obtain ⟨k, hk⟩ := List.mem_iff_getElem?.mp hx
 rw [List.getElem?_zip_eq_some] at hk
 have h1 := h k x.1 x.2 hk.1 hk.2
 have h2 : ¬ (x.2 < 0) ∧ ¬ (x.1 < x.2) := ⟨by grind, by grind⟩
 simpa using h2
theorem dueS_good {A : Ad} {cs ps : List Rat} (h8 : cs.length ≤ 8) (h0 : ∀ c ∈ cs, 0 ≤ c) (hl : ps.length = cs.length) (h : ∀ (k : Nat) c p, cs[k]? = some c → ps[k]? = some p → 0 ≤ p ∧ p ≤ c) : dueS A cs ps = none := by
 unfold dueS
 rw [dueC_good h8 h0, badS_good h]
 show (if _ then _ else _) = none
 rw [if_neg]
 intro z
 rcases z with z | z
 ·exact z hl
 ·cases z
theorem rt_wide {n D m : Int} (hD : 0 < D) (hm : 0 < m) : Lr.rt n D = Lr.rt (n * m) (D * m) := by
 rw [Int.mul_comm n m]
 exact Lr.rt_wide' hD hm
theorem Ov_mul {D D' : Int} {M M' : Nat} (hD : 0 < D) (hD' : 0 < D') (h' : D'.natAbs ≤ M') {x : Rat} (h : Lr.Ov D M x) : Lr.Ov (D * D') (M * M') x := by
 obtain ⟨n, rfl, hn⟩ := h
 exact ⟨n * D', rt_wide hD hD', by rw [Int.natAbs_mul]; exact Nat.mul_le_mul hn h'⟩
theorem Ob.join {k k' : Nat} {D D' : Int} {xs ys : List Rat} (h : Ob k D xs) (h' : Ob k' D' ys) : Ob (k + k') (D * D') (xs ++ ys) := by
 have b1 : D.natAbs ≤ 2 ^ k := Nat.le_of_lt (intBits_le_iff.mp h.bd)
 have b2 : D'.natAbs ≤ 2 ^ k' := Nat.le_of_lt (intBits_le_iff.mp h'.bd)
 refine ⟨Int.mul_pos h.pos h'.pos, Bd.mul h.bd h'.bd (Nat.le_refl _), fun x hx => ?_⟩
 rcases List.mem_append.mp hx with hx | hx
 ·rw [Nat.pow_add]
  exact Ov_mul h.pos h'.pos b2 (h.ov x hx)
 ·rw [Nat.pow_add, Nat.mul_comm, Int.mul_comm]
  exact Ov_mul h'.pos h.pos b1 (h'.ov x hx)
noncomputable def dueR (A : Ad) (s : Str) (cs : List Rat) (e : Rat) : Option Addr := if inV (.str s) wordsV = true then dueOf A cs e else some A.aNoRule
inductive sp_sharedF (K : PySem.W.Frag) (A : Ad) (vs : List V) (H : Hp) (Q : VK) (E : XK) : Prop
 | mk (s : Str) (a : Addr) (v : V) (cs : List Rat) (e : Rat) (k : Nat) (D : Int) (h0_ : vs = [.str s, .ref a, v]) (h1_ : RatL K H a cs) (h2_ : RatV K H v e) (h3_ : Ob k D (e :: cs)) (h4_ : k ≤ 2400) (h5_ : (dueR A s cs e = none → ∀ ρ l ps H', s = word ρ → Same H H' → H l = none → RatL K H' l ps → Lr.RlR ρ cs e ps → (∃ D', Ob (2 * k + 40) D' ps) → Q (.ref l) H')) (h6_ : ∀ c, dueR A s cs e = some c → ∀ H', Same H H' → E (.ref c) none H') : sp_sharedF K A vs H Q E
inductive sp_cell (K : PySem.W.Frag) (vs : List V) (H : Hp) (Q : VK) (E_ : XK) : Prop
 | mk (a : Addr) (ns : List Int) (k : Int) (h0_ : vs = [.ref a, .int k]) (h1_ : SqL K H a (ns.map V.int)) (h2_ : 0 ≤ k) (h3_ : ∀ v : Int, Q (.int v) H) : sp_cell K vs H Q E_
inductive sp_l_ratio (vs : List V) (H : Hp) (Q : VK) (E_ : XK) : Prop
 | mk (a b : Int) (h0_ : vs = [.int a, .int b]) (h1_ : 0 < b) (h2_ : Bd 9000 b) (h3_ : ∀ z H', New H z (pr (Lr.rt a b)) H' → Q (.ref z) H') : sp_l_ratio vs H Q E_
inductive sp_l_wholes (K : PySem.W.Frag) (vs : List V) (H : Hp) (Q : VK) (E_ : XK) : Prop
 | mk (a : Addr) (ns : List Int) (n : Int) (h0_ : vs = [.ref a, .int n]) (h1_ : SqL K H a (ns.map V.int)) (h2_ : 0 ≤ n) (h3_ : n ≤ 8) (h4_ : ∀ l (ws : List Int) H', Same H H' → H l = none → H' l = some (.lst (ws.map V.int)) → (ws.length : Int) = n → (∀ w ∈ ws, 0 ≤ w ∧ w < 10 ^ 30) → Q (.ref l) H') : sp_l_wholes K vs H Q E_
structure Case (cs : List Int) (am bo : Int) : Prop where
 len : cs.length ≤ 8
 nn : ∀ c ∈ cs, 0 ≤ c ∧ c < 10 ^ 34
 am0 : 0 ≤ am
 am1 : am ≤ cs.sum
 bo0 : 0 < bo
 bo1 : bo < 10 ^ 13
inductive sp_l_case (K : PySem.W.Frag) (vs : List V) (H : Hp) (Q : VK) (E_ : XK) : Prop
 | mk (a : Addr) (ns : List Int) (h0_ : vs = [.ref a]) (h1_ : SqL K H a (ns.map V.int)) (h2_ : ∀ t l (cs : List Int) (am bo : Int) H', Same H H' → H' t = some (.tup [.ref l, .int am, .int bo]) → H l = none → H' l = some (.lst (cs.map V.int)) → Case cs am bo → Q (.ref t) H') : sp_l_case K vs H Q E_
noncomputable abbrev rts (cs : List Int) (bo : Int) : List Rat := cs.map fun c => Lr.rt c bo
theorem sm_rts {bo : Int} (hb : 0 < bo) (cs : List Int) : Lr.sm (rts cs bo) = Lr.rt cs.sum bo := by
 induction cs with
 | nil => exact (Lr.rt_zero hb).symm
 | cons c r ih =>
  show Lr.rt c bo + Lr.sm (rts r bo) = _
  rw [ih, Lr.rt_add_same hb, List.sum_cons]
theorem Case.sum {cs : List Int} {am bo : Int} (C : Case cs am bo) : 0 ≤ cs.sum ∧ cs.sum ≤ 8 * 10 ^ 34 := by
 have key : ∀ l : List Int, (∀ w ∈ l, 0 ≤ w ∧ w < 10 ^ 34) → 0 ≤ l.sum ∧ l.sum ≤ l.length * 10 ^ 34 := fun l => by
  induction l with
  | nil => intro _; exact ⟨by decide, by decide⟩
  | cons x r ih =>
   intro h
   have h1 := ih fun w hw => h w (List.mem_cons_of_mem _ hw)
   have h2 := h x List.mem_cons_self
   rw [List.sum_cons, List.length_cons]
   constructor
   ·omega
   ·have : ((r.length + 1 : Nat) : Int) * 10 ^ 34 = r.length * 10 ^ 34 + 10 ^ 34 := by push_cast; rw [Int.add_mul]; omega
    omega
 have h := key cs C.nn
 exact ⟨h.1, Int.le_trans h.2 (Int.mul_le_mul_of_nonneg_right (by have := C.len; omega) (by decide))⟩
theorem Case.ob {cs : List Int} {am bo : Int} (C : Case cs am bo) : Ob 120 bo (Lr.rt am bo :: rts cs bo) := by
 refine ⟨C.bo0, Bd.of_lt (by have := C.bo0; have := C.bo1; omega), fun x hx => ?_⟩
 have := C.sum
 rcases List.mem_cons.mp hx with rfl | hx
 ·exact ⟨am, rfl, by have := C.am0; have := C.am1; omega⟩
 ·obtain ⟨c, hc, rfl⟩ := List.mem_map.mp hx
  exact ⟨c, rfl, by have := C.nn c hc; omega⟩
theorem Case.nn' {cs : List Int} {am bo : Int} (C : Case cs am bo) : ∀ c ∈ rts cs bo, 0 ≤ c := fun c hc => by
 obtain ⟨x, hx, rfl⟩ := List.mem_map.mp hc
 exact (Lr.rt_nonneg C.bo0).mpr (C.nn x hx).1
inductive sp_isin (vs : List V) (H : Hp) (Q : VK) (E_ : XK) : Prop
 | mk (g i : Nat) (h0_ : vs = [.int (g : Int), .int (i : Int)]) (h1_ : Q (.bl (g.testBit i)) H) : sp_isin vs H Q E_
inductive sp_pickV (K : PySem.W.Frag) (f : Nat → Nat → Bool) (vs : List V) (H : Hp) (Q : VK) (E_ : XK) : Prop
 | mk (a : Addr) (xs : List V) (g : Nat) (h0_ : vs = [.ref a, .int (g : Int)]) (h1_ : SqL K H a xs) (h2_ : xs.length ≤ 1000) (h3_ : ∀ l H', Same H H' → H l = none → H' l = some (.lst (Lr.pick (f g) 0 xs)) → Q (.ref l) H') : sp_pickV K f vs H Q E_
inductive sp_slack (K : PySem.W.Frag) (vs : List V) (H : Hp) (Q : VK) (E_ : XK) : Prop
 | mk (a b : Addr) (ts gs : List Int) (g : Nat) (h0_ : vs = [.ref a, .ref b, .int (g : Int)]) (h1_ : SqL K H a (ts.map V.int)) (h2_ : SqL K H b (gs.map V.int)) (h3_ : ts.length ≤ 1000) (h4_ : gs.length ≤ 1000) (h5_ : ∀ H', Same H H' → Q (.int (Lr.slackZ ts gs g)) H') : sp_slack K vs H Q E_
theorem tops_rt {B : Int} (hB : 0 < B) : ∀ {ts : List Int} {xs : List Rat}, ts.map (fun (t : Int) => (t : Rat)) = xs.map (· * (B : Rat)) → xs = ts.map fun t => Lr.rt t B
 | [], [], _ => rfl
 | [], x :: xs, h => by cases h
 | t :: ts, [], h => by cases h
 | t :: ts, x :: xs, h => by
  rw [List.map_cons, List.map_cons] at h
  obtain ⟨h1, h2⟩ := List.cons.inj h
  rw [List.map_cons, ← tops_rt hB h2, Lr.rt_of_mul hB h1.symm]
theorem oth_is {g : Nat} : ∀ {k : Nat} {cs : List Rat}, Lr.oth g k cs = Lr.pick (fun i => !g.testBit i) k cs
 | _, [] => rfl
 | k, c :: r => by
  show (if g.testBit k = true then Lr.oth g (k + 1) r else c :: Lr.oth g (k + 1) r) = if (!g.testBit k) = true then c :: Lr.pick (fun i => !g.testBit i) (k + 1) r else Lr.pick (fun i => !g.testBit i) (k + 1) r
  rw [oth_is]
  cases g.testBit k <;> rfl
theorem rats_pick {K : PySem.W.Frag} {H : Hp} {f : Nat → Bool} : ∀ {k : Nat} {vs : List V} {xs : List Rat}, RatsV K H vs xs → RatsV K H (Lr.pick f k vs) (Lr.pick f k xs)
 | _, [], [], h => h
 | _, [], x :: xs, h => by have := h.len; cases this
 | _, v :: vs, [], h => by have := h.len; cases this
 | k, v :: vs, x :: xs, h => by
  have h1 : RatV K H v x := h.at_ 0 v x rfl rfl
  have h2 : RatsV K H vs xs := ⟨by have := h.len; simpa using this, fun j w y hw hy => h.at_ (j + 1) w y hw hy⟩
  have ih := rats_pick (f := f) (k := k + 1) h2
  show RatsV K H (if f k = true then v :: Lr.pick f (k + 1) vs else Lr.pick f (k + 1) vs) (if f k = true then x :: Lr.pick f (k + 1) xs else Lr.pick f (k + 1) xs)
  split
  ·exact (RatsV.nil.snoc h1).app ih
  ·exact ih
theorem oth_pick {K : PySem.W.Frag} {vs : List V} {H : Hp} {Q : VK} {E : XK} (h : sp_others K vs H Q E) : sp_pickV K (fun g i => !g.testBit i) vs H Q E := by
 obtain ⟨a, cs, g, rfl, hL, hl, q⟩ := h
 obtain ⟨ws, hs, hr, he⟩ := hL.sq
 refine ⟨a, ws, g, rfl, hs, by rw [hr.len]; exact hl, fun l H' s f hl' => q l H' s f ⟨_, hl', ?_⟩⟩
 rw [oth_is]
 exact rats_pick (hr.ts s.ts)
inductive sp_turnedF (K : PySem.W.Frag) (A : Ad) (vs : List V) (H : Hp) (Q : VK) (E : XK) : Prop
 | mk (s : Str) (a : Addr) (v : V) (cs : List Rat) (e : Rat) (k : Nat) (D : Int) (h0_ : vs = [.str s, .ref a, v]) (h1_ : RatL K H a cs) (h2_ : RatV K H v e) (h3_ : Ob k D (e :: cs)) (h4_ : k ≤ 2000) (h5_ : (dueR A s cs e = none → ∀ l ps H', Same H H' → H l = none → RatL K H' l ps → Q (.ref l) H')) (h6_ : ∀ c, dueR A s cs e = some c → ∀ H', Same H H' → E (.ref c) none H') : sp_turnedF K A vs H Q E
inductive sp_oftwoF (K : PySem.W.Frag) (A : Ad) (vs : List V) (H : Hp) (Q : VK) (E : XK) : Prop
 | mk (s : Str) (v1 v2 v3 : V) (c d m : Rat) (k : Nat) (D : Int) (h0_ : vs = [.str s, v1, v2, v3]) (h1_ : RatV K H v1 c) (h2_ : RatV K H v2 d) (h3_ : RatV K H v3 m) (h4_ : Ob k D [m, c, d]) (h5_ : k ≤ 2400) (h6_ : (dueR A s [c, d] m = none → ∀ z xs H', Same H H' → H' z = some (.tup xs) → Q (.ref z) H')) (h7_ : ∀ x, dueR A s [c, d] m = some x → ∀ H', Same H H' → E (.ref x) none H') : sp_oftwoF K A vs H Q E
noncomputable def dueB (A : Ad) (n : Int) : Option Addr := if n = 0 then some A.aNoRule else if n = 1 then some A.aTooMany else if n = 2 then some A.aNoClaim else if n = 3 then some A.aNoEstate else if n = 4 then some A.aNoOrder else if n = 5 then some A.aNoGroup else if n = 6 then some A.aNoSharing else none
inductive sp_slacksE (K : PySem.W.Frag) (A : Ad) (vs : List V) (H : Hp) (Q : VK) (E : XK) : Prop
 | mk (a b : Addr) (cs ps : List Rat) (n : Nat) (D : Int) (h0_ : vs = [.ref a, .ref b]) (h1_ : RatL K H a cs) (h2_ : RatL K H b ps) (h3_ : Ob n D (cs ++ ps)) (h4_ : n ≤ 1000) (h5_ : (dueS A cs ps = none → ps = cs ∧ ∀ l rs H', Same H H' → H l = none → RatL K H' l rs → Q (.ref l) H')) (h6_ : ∀ c, dueS A cs ps = some c → ∀ H', Same H H' → E (.ref c) none H') : sp_slacksE K A vs H Q E
noncomputable def asks (A : Ad) (w : Nat) (s : Str) (cs : List Rat) (e : Rat) (os : List Int) (g : Int) (ps : List Rat) (d : Option Addr) : Prop :=
 ((w = 0 ∨ w = 7) → (∃ c, dueOf A cs e = some c ∧ d = some c) ∨ (dueOf A cs e = none ∧ ((IsOrd os cs.length ∧ d = none) ∨ (¬ IsOrd os cs.length ∧ d = some A.aNoOrder)))) ∧
 ((w = 1 ∨ w = 4 ∨ w = 5) → dueOf A cs e = d) ∧ (w = 2 → ∃ c0 c1 r, cs = c0 :: c1 :: r ∧ dueR A s [c0, c1] e = d) ∧ (w = 3 → dueR A s cs e = d) ∧
 (w = 6 → (∃ c, dueOf A cs e = some c ∧ d = some c) ∨ (dueOf A cs e = none ∧ ((0 ≤ g ∧ g < 2 ^ cs.length ∧ d = none) ∨ ((g < 0 ∨ 2 ^ cs.length ≤ g) ∧ d = some A.aNoGroup)))) ∧ (w = 8 → dueS A cs ps = d ∧ (d = none → ps = cs))
noncomputable def kindV (K : PySem.W.Frag) (w : Nat) (H : Hp) (u : V) : Prop := ((w = 2 ∨ w = 6) → (∃ z xs, u = .ref z ∧ H z = some (.tup xs)) ∨ ∃ x, RatV K H u x) ∧ (¬ (w = 2 ∨ w = 6) → ∃ z xs, u = .ref z ∧ H z = some (.lst xs))
inductive sp_v_ask (K : PySem.W.Frag) (A : Ad) (vs : List V) (H : Hp) (Q : VK) (E : XK) : Prop
 | mk (w : Nat) (a : Addr) (v : V) (o b l : Addr) (s : Str) (cs : List Rat) (e : Rat) (os : List Int) (g : Int) (ps : List Rat) (k : Nat) (D : Int) (d : Option Addr) (h0_ : vs = [.int (w : Int), .ref a, v, .ref o]) (h1_ : w ≤ 8) (h2_ : H o = some (.lst [.str s, .ref b, .int g, .ref l])) (h3_ : RatL K H a cs) (h4_ : RatV K H v e) (h5_ : SqL K H b (os.map V.int)) (h6_ : RatL K H l ps) (h7_ : os.length < 64) (h8_ : Ob k D (e :: (cs ++ ps))) (h9_ : k ≤ 600) (h10_ : asks A w s cs e os g ps d) (h11_ : (d = none → ∀ u H', Same H H' → kindV K w H' u → Q u H')) (h12_ : ∀ c, d = some c → ∀ H', Same H H' → E (.ref c) none H') : sp_v_ask K A vs H Q E
noncomputable def kindsC (n : Int) : List Bool := [decide (n = 0), decide (n = 1), decide (n = 2), decide (n = 3), decide (n = 4), decide (n = 5), decide (n = 6), true]
inductive sp_v_kinds (A : Ad) (vs : List V) (H : Hp) (Q : VK) (E_ : XK) : Prop
 | mk (ea C : Addr) (n : Int) (h0_ : vs = [.ref ea]) (h1_ : H ea = some (.ext (IsExc ea C))) (h2_ : dueB A n = some C) (h3_ : ∀ l H', Same H H' → H' l = some (.lst ((kindsC n).map V.bl)) → Q (.ref l) H') : sp_v_kinds A vs H Q E_
inductive sp_v_told (K : PySem.W.Frag) (A : Ad) (vs : List V) (H : Hp) (Q : VK) (E_ : XK) : Prop
 | mk (w : Nat) (a : Addr) (v : V) (o b l : Addr) (s : Str) (cs : List Rat) (e : Rat) (os : List Int) (g : Int) (ps : List Rat) (k : Nat) (D : Int) (n : Int) (h0_ : vs = [.int (w : Int), .ref a, v, .ref o, .int n]) (h1_ : w ≤ 8) (h2_ : H o = some (.lst [.str s, .ref b, .int g, .ref l])) (h3_ : RatL K H a cs) (h4_ : RatV K H v e) (h5_ : SqL K H b (os.map V.int)) (h6_ : RatL K H l ps) (h7_ : os.length < 64) (h8_ : Ob k D (e :: (cs ++ ps))) (h9_ : k ≤ 600) (h10_ : ((n = 7 ∧ asks A w s cs e os g ps none) ∨ (0 ≤ n ∧ n < 7 ∧ asks A w s cs e os g ps (dueB A n)))) (h11_ : ∀ H', Same H H' → Q (.bl true) H') : sp_v_told K A vs H Q E_
noncomputable def first7 (f : Nat → Bool) : Int := if f 0 = true then 0 else if f 1 = true then 1 else if f 2 = true then 2 else if f 3 = true then 3 else if f 4 = true then 4 else if f 5 = true then 5 else if f 6 = true then 6 else 7
theorem first7_at {f : Nat → Bool} : ∀ {i : Nat}, i < 7 → f i = true → (∀ j, j < i → f j = false) → first7 f = i
 | 0, _, h, _ => by unfold first7; rw [if_pos h]; rfl
 | 1, _, h, n => by unfold first7; rw [if_neg (by rw [n 0 (by omega)]; decide), if_pos h]; rfl
 | 2, _, h, n => by unfold first7; rw [if_neg (by rw [n 0 (by omega)]; decide), if_neg (by rw [n 1 (by omega)]; decide), if_pos h]; rfl
 | 3, _, h, n => by unfold first7; rw [if_neg (by rw [n 0 (by omega)]; decide), if_neg (by rw [n 1 (by omega)]; decide), if_neg (by rw [n 2 (by omega)]; decide), if_pos h]; rfl
 | 4, _, h, n => by unfold first7; rw [if_neg (by rw [n 0 (by omega)]; decide), if_neg (by rw [n 1 (by omega)]; decide), if_neg (by rw [n 2 (by omega)]; decide), if_neg (by rw [n 3 (by omega)]; decide), if_pos h]; rfl
 | 5, _, h, n => by unfold first7; rw [if_neg (by rw [n 0 (by omega)]; decide), if_neg (by rw [n 1 (by omega)]; decide), if_neg (by rw [n 2 (by omega)]; decide), if_neg (by rw [n 3 (by omega)]; decide), if_neg (by rw [n 4 (by omega)]; decide), if_pos h]; rfl
 | 6, _, h, n => by unfold first7; rw [if_neg (by rw [n 0 (by omega)]; decide), if_neg (by rw [n 1 (by omega)]; decide), if_neg (by rw [n 2 (by omega)]; decide), if_neg (by rw [n 3 (by omega)]; decide), if_neg (by rw [n 4 (by omega)]; decide), if_neg (by rw [n 5 (by omega)]; decide), if_pos h]; rfl
 | n + 7, h, _, _ => by omega
theorem first7_none {f : Nat → Bool} (n : ∀ j, j < 7 → f j = false) : first7 f = 7 := by
 unfold first7
 rw [if_neg (by rw [n 0 (by omega)]; decide), if_neg (by rw [n 1 (by omega)]; decide), if_neg (by rw [n 2 (by omega)]; decide), if_neg (by rw [n 3 (by omega)]; decide), if_neg (by rw [n 4 (by omega)]; decide), if_neg (by rw [n 5 (by omega)]; decide), if_neg (by rw [n 6 (by omega)]; decide)]
noncomputable def asked (w : Nat) : List Bool := [decide (w = 2 ∨ w = 3), decide (w ≠ 2), true, decide (w ≠ 8), decide (w = 0 ∨ w = 7), decide (w = 6), decide (w = 8)]
noncomputable def dueF (w : Nat) (W : List Bool) : Int := first7 fun k => W.getD k false && (asked w).getD k false
inductive sp_v_due (K : PySem.W.Frag) (vs : List V) (H : Hp) (Q : VK) (E_ : XK) : Prop
 | mk (w : Nat) (l : Addr) (W : List Bool) (h0_ : vs = [.int (w : Int), .ref l]) (h1_ : w ≤ 8) (h2_ : W.length = 7) (h3_ : H l = some (.lst (W.map V.bl))) (h4_ : ∀ H', Same H H' → Q (.int (dueF w W)) H') : sp_v_due K vs H Q E_
theorem in23 : ∀ w : Nat, w < 9 → inV (.int (w : Int)) [.int 2, .int 3] = decide (w = 2 ∨ w = 3) := by decide +kernel
theorem in07 : ∀ w : Nat, w < 9 → inV (.int (w : Int)) [.int 0, .int 7] = decide (w = 0 ∨ w = 7) := by decide +kernel
theorem in26 : ∀ w : Nat, w < 9 → inV (.int (w : Int)) [.int 2, .int 6] = decide (w = 2 ∨ w = 6) := by decide +kernel
theorem at_bl {W : List Bool} {i : Nat} (h : i < W.length) : atI (W.map V.bl) (0 + (i : Int)) = some (.bl (W.getD i false)) := by
 rw [show (0 + (i : Int)) = ((i : Nat) : Int) by omega]
 refine atI_nat ?_
 rw [List.getElem?_map, List.getElem?_eq_getElem h, List.getD_eq_getElem?_getD, List.getElem?_eq_getElem h]
 rfl
inductive sp_v_order (vs : List V) (H : Hp) (Q : VK) (E_ : XK) : Prop
 | mk (n : Nat) (c : Int) (h0_ : vs = [.int (n : Int), .int c]) (h1_ : n ≤ 8) (h2_ : ∀ l (r : List Nat) H', Same H H' → H l = none → H' l = some (.lst (rowN r)) → r.Perm (List.range n) → Q (.ref l) H') : sp_v_order vs H Q E_
inductive sp_v_noorder (vs : List V) (H : Hp) (Q : VK) (E_ : XK) : Prop
 | mk (l : Addr) (r : List Nat) (n : Nat) (c : Int) (h0_ : vs = [.ref l, .int c]) (h1_ : H l = some (.lst (rowN r))) (h2_ : r.Perm (List.range n)) (h3_ : n ≤ 8) (h4_ : ∀ l' (os : List Int) H', Same H H' → H l' = none → H' l' = some (.lst (os.map V.int)) → ¬ IsOrd os n → os.length < 64 → Q (.ref l') H') : sp_v_noorder vs H Q E_
inductive sp_v_good (K : PySem.W.Frag) (A : Ad) (vs : List V) (H : Hp) (Q : VK) (E_ : XK) : Prop
 | mk (w : Nat) (a : Addr) (v : V) (o b l : Addr) (s : Str) (cs : List Rat) (e : Rat) (os : List Int) (g : Int) (ps : List Rat) (k : Nat) (D : Int) (h0_ : vs = [.int (w : Int), .ref a, v, .ref o]) (h1_ : w ≤ 8) (h2_ : H o = some (.lst [.str s, .ref b, .int g, .ref l])) (h3_ : RatL K H a cs) (h4_ : RatV K H v e) (h5_ : SqL K H b (os.map V.int)) (h6_ : RatL K H l ps) (h7_ : os.length < 64) (h8_ : Ob k D (e :: (cs ++ ps))) (h9_ : k ≤ 600) (h10_ : (∀ w', w' ≤ 8 → w' ≠ 2 → asks A w' s cs e os g ps none)) (h11_ : (∀ c0 c1 r, cs = c0 :: c1 :: r → dueR A s [c0, c1] c0 = none)) (h12_ : ∀ H', Same H H' → Q (.bl true) H') : sp_v_good K A vs H Q E_
inductive sp_v_claims (K : PySem.W.Frag) (vs : List V) (H : Hp) (Q : VK) (E_ : XK) : Prop
 | mk (a : Addr) (cs : List Rat) (bo cell far : Int) (k : Nat) (h0_ : vs = [.ref a, .int bo, .int cell, .int far]) (h1_ : RatL K H a cs) (h2_ : cs.length ≤ 8) (h3_ : 0 < bo) (h4_ : bo < 2 ^ 140) (h5_ : 0 ≤ far) (h6_ : far < 10 ^ 30) (h7_ : Ob k bo cs) (h8_ : 110 ≤ k) (h9_ : ∀ l ys H', Same H H' → H l = none → RatL K H' l ys → ys.length ≤ 17 → (¬ 8 < ys.length → (ys.any fun c => decide (c < 0)) = false → ys = cs) → Ob k bo ys → Q (.ref l) H') : sp_v_claims K vs H Q E_
inductive sp_v_others (K : PySem.W.Frag) (vs : List V) (H : Hp) (Q : VK) (E_ : XK) : Prop
 | mk (fo a b l : Addr) (s : Str) (cs ps : List Rat) (r : List Nat) (g : Int) (m : Nat) (cell far : Int) (k : Nat) (D : Int) (h0_ : vs = [.ref fo, .ref a, .int (m : Int), .int cell, .int far]) (h1_ : H fo = some (.lst [.str s, .ref b, .int g, .ref l])) (h2_ : RatL K H a cs) (h3_ : H b = some (.lst (rowN r))) (h4_ : r.Perm (List.range cs.length)) (h5_ : RatL K H l ps) (h6_ : m ≤ 17) (h7_ : cs.length ≤ 8) (h8_ : 0 ≤ far) (h9_ : far < 10 ^ 30) (h10_ : Ob k D (cs ++ ps)) (h11_ : ∀ o' b' l' s' (os' : List Int) g' ps' H', Same H H' → H o' = none → H' o' = some (.lst [.str s', .ref b', .int g', .ref l']) → SqL K H' b' (os'.map V.int) → RatL K H' l' ps' → os'.length < 64 → (cell % 5 = 1 → inV (.str s') wordsV = false) → (¬ cell % 5 = 1 → s' = s) → (cell.fdiv 625 % 5 < 2 → ¬ IsOrd os' cs.length ∧ (g' < 0 ∨ 2 ^ m ≤ g') ∧ (ps'.length ≠ cs.length ∨ badS cs ps' = true)) → (¬ cell.fdiv 625 % 5 < 2 → os' = r.map (fun (n : Nat) => (n : Int)) ∧ g' = g ∧ ps' = ps) → (∃ D', Ob (k + 150) D' (cs ++ ps')) → Q (.ref o') H') : sp_v_others K vs H Q E_
theorem asks2 {A : Ad} {s : Str} {cs : List Rat} {e : Rat} {os : List Int} {g : Int} {ps : List Rat} {d : Option Addr} {c0 c1 : Rat} {r : List Rat} (h : cs = c0 :: c1 :: r) (hd : dueR A s [c0, c1] e = d) : asks A 2 s cs e os g ps d := ⟨fun h => by omega, fun h => by omega, fun _ => ⟨c0, c1, r, h, hd⟩, fun h => by omega, fun h => by omega, fun h => by omega⟩
theorem ifS {p : Prop} [Decidable p] {A : Prop} {N : St → Hp → Prop} {σ : St} {H : Hp} (C : St → Hp → Prop) (h : ∀ σ H, C σ H → N σ H) (h2 : ¬ p → C σ H) (h1 : p → (∀ σ H, C σ H → N σ H) → A) : if decide p = true then A else N σ H := br (fun c => h1 c h) fun c => h _ _ (h2 c)
theorem brF {A B : Prop} (h : B) : if false = true then A else B := by
 rw [if_neg (by decide)]
 exact h
theorem ifSA {p : Prop} [Decidable p] {A B : Prop} {N : St → Hp → Prop} {σ : St} {H : Hp} (C : St → Hp → Prop) (h : ∀ σ H, C σ H → N σ H) (h2 : C σ H) (h1 : p → (∀ σ H, C σ H → N σ H) → A) : if decide p = true then A else if false = true then B else N σ H := br (fun c => h1 c h) fun _ => brF (h _ _ h2)
theorem sm_num : ∀ ys : List Rat, Lr.sm ys ≤ (((ys.map fun x => max 0 x.num).sum : Int) : Rat)
 | [] => Rat.le_refl
 | x :: r => by
  have ih := sm_num r
  rw [List.map_cons, List.sum_cons, Rat.intCast_add]
  have h1 : x ≤ ((max 0 x.num : Int) : Rat) := by
   have hd := Lr.den_pos x
   have e1 : x * ((x.den : Int) : Rat) = (x.num : Rat) := by
    have := Lr.rt_mul_self (n := x.num) hd
    rw [Lr.rt_self] at this
    exact this
   by_cases h0 : 0 ≤ x
   ·have hn : 0 ≤ x.num := (Lr.num_nonneg x).mpr h0
    have hm : max 0 x.num = x.num := by omega
    rw [hm, ← e1]
    have h2 : (1 : Rat) ≤ ((x.den : Int) : Rat) := by exact_mod_cast hd
    have h3 := Rat.mul_le_mul_of_nonneg_right h2 h0
    grind
   ·have h2 : ((0 : Int) : Rat) ≤ ((max 0 x.num : Int) : Rat) := by exact_mod_cast (show (0 : Int) ≤ max 0 x.num by omega)
    have h3 : ((0 : Int) : Rat) = 0 := rfl
    grind
  show x + Lr.sm r ≤ _
  grind
theorem sum_num {bo : Int} {ys : List Rat} (h : Ob 200 bo ys) (hl : ys.length ≤ 18) : 0 ≤ (ys.map fun x => max 0 x.num).sum ∧ Bd 400 (ys.map fun x => max 0 x.num).sum ∧ (ys.map fun x => max 0 x.num).sum ≤ 2 ^ 206 := by
 have key : ∀ l : List Rat, (∀ x ∈ l, Sz 201 x) → 0 ≤ (l.map fun x => max 0 x.num).sum ∧ (l.map fun x => max 0 x.num).sum ≤ l.length * 2 ^ 201 := fun l => by
  induction l with
  | nil => intro _; exact ⟨Int.le_refl _, by decide⟩
  | cons x r ih =>
   intro hz
   have a1 := ih fun y hy => hz y (List.mem_cons_of_mem _ hy)
   have a2 : x.num.natAbs < 2 ^ 201 := intBits_le_iff.mp (hz x List.mem_cons_self).n
   rw [List.map_cons, List.sum_cons, List.length_cons]
   have e : ((r.length + 1 : Nat) : Int) * 2 ^ 201 = r.length * 2 ^ 201 + 2 ^ 201 := by push_cast; rw [Int.add_mul]; omega
   omega
 have h1 := key ys fun x hx => h.sz (by decide) hx
 have h2 : (ys.length : Int) * 2 ^ 201 ≤ 18 * 2 ^ 201 := Int.mul_le_mul_of_nonneg_right (by omega) (by decide)
 exact ⟨h1.1, (Bd.of_lt (n := 300) (by omega)).mono (by decide), by omega⟩
theorem five_at {c : Int} : ∃ ρ, atI [V.str (tx [115, 104, 97, 114, 101, 115]), .str (tx [103, 97, 105, 110, 115]), .str (tx [108, 111, 115, 115, 101, 115]), .str (tx [104, 97, 108, 118, 101, 115]), .str (tx [116, 117, 114, 110, 115])] (c % 5) = some (.str (word ρ)) := by
 have h : c % 5 = 0 ∨ c % 5 = 1 ∨ c % 5 = 2 ∨ c % 5 = 3 ∨ c % 5 = 4 := by omega
 rcases h with h | h | h | h | h <;> rw [h]
 ·exact ⟨.sh, rfl⟩
 ·exact ⟨.ga, rfl⟩
 ·exact ⟨.lo, rfl⟩
 ·exact ⟨.ha, rfl⟩
 ·exact ⟨.tu, rfl⟩
theorem minD_any {K : PySem.W.Frag} {Q : VK} {q : Addr} {H : Hp} {ns : List Int} (hs : SqL K H q (ns.map V.int)) (h : ∀ m : Int, decide (m < 0) = (ns.any fun x => decide (x < 0)) → Q (.int m) H) : minDQ K Q [.ref q] [.int 0] H := by
 refine ⟨ns, hs, fun e => h 0 (by rw [e]; rfl), fun m hm hmin => h m ?_⟩
 by_cases hm0 : m < 0
 ·rw [decide_eq_true hm0, eq_comm]
  exact List.any_eq_true.mpr ⟨m, hm, decide_eq_true hm0⟩
 ·rw [decide_eq_false hm0, eq_comm]
  refine List.any_eq_false.mpr fun x hx => ?_
  have := hmin x hx
  rw [decide_eq_true_iff]
  omega
theorem any_num (ys : List Rat) : ((ys.map fun x => x.num).any fun x => decide (x < 0)) = ys.any fun c => decide (c < 0) := by
 rw [List.any_map]
 congr 1
 funext x
 show decide (x.num < 0) = decide (x < 0)
 refine decide_eq_decide.mpr ?_
 have := Lr.num_nonneg x
 constructor
 ·intro h
  by_cases z : 0 ≤ x
  ·have := this.mpr z; omega
  ·grind
 ·intro h
  by_cases z : 0 ≤ x.num
  ·have := this.mp z; grind
  ·omega
theorem dueB_is {A : Ad} {n : Int} {c : Addr} (h : dueB A n = some c) : (n = 0 ∧ A.aNoRule = c) ∨ (n = 1 ∧ A.aTooMany = c) ∨ (n = 2 ∧ A.aNoClaim = c) ∨ (n = 3 ∧ A.aNoEstate = c) ∨ (n = 4 ∧ A.aNoOrder = c) ∨ (n = 5 ∧ A.aNoGroup = c) ∨ (n = 6 ∧ A.aNoSharing = c) := by
 unfold dueB at h
 by_cases h0 : n = 0
 ·rw [if_pos h0] at h; exact .inl ⟨h0, Option.some.inj h⟩
 rw [if_neg h0] at h
 by_cases h1 : n = 1
 ·rw [if_pos h1] at h; exact .inr (.inl ⟨h1, Option.some.inj h⟩)
 rw [if_neg h1] at h
 by_cases h2 : n = 2
 ·rw [if_pos h2] at h; exact .inr (.inr (.inl ⟨h2, Option.some.inj h⟩))
 rw [if_neg h2] at h
 by_cases h3 : n = 3
 ·rw [if_pos h3] at h; exact .inr (.inr (.inr (.inl ⟨h3, Option.some.inj h⟩)))
 rw [if_neg h3] at h
 by_cases h4 : n = 4
 ·rw [if_pos h4] at h; exact .inr (.inr (.inr (.inr (.inl ⟨h4, Option.some.inj h⟩))))
 rw [if_neg h4] at h
 by_cases h5 : n = 5
 ·rw [if_pos h5] at h; exact .inr (.inr (.inr (.inr (.inr (.inl ⟨h5, Option.some.inj h⟩)))))
 rw [if_neg h5] at h
 by_cases h6 : n = 6
 ·rw [if_pos h6] at h; exact .inr (.inr (.inr (.inr (.inr (.inr (⟨h6, Option.some.inj h⟩))))))
 rw [if_neg h6] at h
 cases h
theorem ord_mk {os : List Int} {r : List Nat} {n : Nat} (e : os = r.map (fun (i : Nat) => (i : Int))) (h : r.Perm (List.range n)) : IsOrd os n := by
 rw [e]
 exact h.map _
theorem neg_rt {t b : Int} (hb : 0 < b) (ht : t < 0) : Lr.rt t b < 0 := by
 by_cases z : (0 : Rat) ≤ Lr.rt t b
 ·exact absurd ((Lr.rt_nonneg hb).mp z) (by omega)
 ·grind
theorem dueOf_1 {A : Ad} {cs : List Rat} (e : Rat) (h : 8 < cs.length) : dueOf A cs e = some A.aTooMany := by unfold dueOf dueC; rw [if_pos h]
theorem dueOf_2 {A : Ad} {cs : List Rat} (e : Rat) (h : ¬ 8 < cs.length) (h2 : (cs.any fun c => decide (c < 0)) = true) : dueOf A cs e = some A.aNoClaim := by unfold dueOf dueC; rw [if_neg h, if_pos h2]
theorem dueOf_3 {A : Ad} {cs : List Rat} {e : Rat} (h : ¬ 8 < cs.length) (h2 : (cs.any fun c => decide (c < 0)) = false) (h3 : e < 0 ∨ Lr.sm cs < e) : dueOf A cs e = some A.aNoEstate := by
 unfold dueOf dueC
 rw [if_neg h, if_neg (by rw [h2]; decide)]
 show (if e < 0 ∨ Lr.sm cs < e then _ else _) = _
 rw [if_pos h3]
structure Wr (G ys : List Rat) (e e' : Rat) (ρ : Lr.Rl) (s' : Str) (r : List Nat) (os' : List Int) (gn g' : Int) (ps' : List Rat) (b0 b3 b4 : Bool) : Prop where
 G8 : G.length ≤ 8
 Gn : ∀ c ∈ G, 0 ≤ c
 e0 : 0 ≤ e
 e1 : e ≤ Lr.sm G
 ord : r.Perm (List.range G.length)
 gn0 : 0 ≤ gn
 gn1 : gn < 2 ^ G.length
 yc : ¬ 8 < ys.length → (ys.any fun c => decide (c < 0)) = false → ys = G
 s1 : b0 = true → inV (.str s') wordsV = false
 s2 : b0 = false → s' = word ρ
 e3 : b3 = true → e' < 0 ∨ (Lr.sm ys < e' ∧ ∀ c0 c1 q, ys = c0 :: c1 :: q → c0 + c1 < e')
 e4 : b3 = false → e' = e
 w3 : b4 = true → ¬ IsOrd os' G.length ∧ (g' < 0 ∨ 2 ^ ys.length ≤ g') ∧ (ps'.length ≠ G.length ∨ badS G ps' = true)
 w4 : b4 = false → os' = r.map (fun (n : Nat) => (n : Int)) ∧ g' = gn ∧ ps' = G
noncomputable def wrs (ys : List Rat) (b0 b3 b4 : Bool) (w : Nat) : List Bool := [b0, decide (8 < ys.length), if w = 2 then (ys.take 2).any fun c => decide (c < 0) else ys.any fun c => decide (c < 0), b3, b4, b4, b4]
theorem dq0 (a0 a1 a2 a3 a4 a5 a6 : Bool) : dueF 0 [a0, a1, a2, a3, a4, a5, a6] = if a1 = true then 1 else if a2 = true then 2 else if a3 = true then 3 else if a4 = true then 4 else 7 := by cases a0 <;> cases a1 <;> cases a2 <;> cases a3 <;> cases a4 <;> cases a5 <;> cases a6 <;> rfl
theorem dq7 (a0 a1 a2 a3 a4 a5 a6 : Bool) : dueF 7 [a0, a1, a2, a3, a4, a5, a6] = if a1 = true then 1 else if a2 = true then 2 else if a3 = true then 3 else if a4 = true then 4 else 7 := by cases a0 <;> cases a1 <;> cases a2 <;> cases a3 <;> cases a4 <;> cases a5 <;> cases a6 <;> rfl
theorem dq1 (a0 a1 a2 a3 a4 a5 a6 : Bool) : dueF 1 [a0, a1, a2, a3, a4, a5, a6] = if a1 = true then 1 else if a2 = true then 2 else if a3 = true then 3 else 7 := by cases a0 <;> cases a1 <;> cases a2 <;> cases a3 <;> cases a4 <;> cases a5 <;> cases a6 <;> rfl
theorem dq4 (a0 a1 a2 a3 a4 a5 a6 : Bool) : dueF 4 [a0, a1, a2, a3, a4, a5, a6] = if a1 = true then 1 else if a2 = true then 2 else if a3 = true then 3 else 7 := by cases a0 <;> cases a1 <;> cases a2 <;> cases a3 <;> cases a4 <;> cases a5 <;> cases a6 <;> rfl
theorem dq5 (a0 a1 a2 a3 a4 a5 a6 : Bool) : dueF 5 [a0, a1, a2, a3, a4, a5, a6] = if a1 = true then 1 else if a2 = true then 2 else if a3 = true then 3 else 7 := by cases a0 <;> cases a1 <;> cases a2 <;> cases a3 <;> cases a4 <;> cases a5 <;> cases a6 <;> rfl
theorem dq2 (a0 a1 a2 a3 a4 a5 a6 : Bool) : dueF 2 [a0, a1, a2, a3, a4, a5, a6] = if a0 = true then 0 else if a2 = true then 2 else if a3 = true then 3 else 7 := by cases a0 <;> cases a1 <;> cases a2 <;> cases a3 <;> cases a4 <;> cases a5 <;> cases a6 <;> rfl
theorem dq3 (a0 a1 a2 a3 a4 a5 a6 : Bool) : dueF 3 [a0, a1, a2, a3, a4, a5, a6] = if a0 = true then 0 else if a1 = true then 1 else if a2 = true then 2 else if a3 = true then 3 else 7 := by cases a0 <;> cases a1 <;> cases a2 <;> cases a3 <;> cases a4 <;> cases a5 <;> cases a6 <;> rfl
theorem dq6 (a0 a1 a2 a3 a4 a5 a6 : Bool) : dueF 6 [a0, a1, a2, a3, a4, a5, a6] = if a1 = true then 1 else if a2 = true then 2 else if a3 = true then 3 else if a5 = true then 5 else 7 := by cases a0 <;> cases a1 <;> cases a2 <;> cases a3 <;> cases a4 <;> cases a5 <;> cases a6 <;> rfl
theorem dq8 (a0 a1 a2 a3 a4 a5 a6 : Bool) : dueF 8 [a0, a1, a2, a3, a4, a5, a6] = if a1 = true then 1 else if a2 = true then 2 else if a6 = true then 6 else 7 := by cases a0 <;> cases a1 <;> cases a2 <;> cases a3 <;> cases a4 <;> cases a5 <;> cases a6 <;> rfl
section
variable {A : Ad} {s : Str} {cs : List Rat} {e : Rat} {os : List Int} {g : Int} {ps : List Rat} {d : Option Addr}
theorem asksO {w : Nat} (hw : w = 0 ∨ w = 7) (h : (∃ c, dueOf A cs e = some c ∧ d = some c) ∨ (dueOf A cs e = none ∧ ((IsOrd os cs.length ∧ d = none) ∨ (¬ IsOrd os cs.length ∧ d = some A.aNoOrder)))) : asks A w s cs e os g ps d := ⟨fun _ => h, fun z => by omega, fun z => by omega, fun z => by omega, fun z => by omega, fun z => by omega⟩
theorem asksP {w : Nat} (hw : w = 1 ∨ w = 4 ∨ w = 5) (h : dueOf A cs e = d) : asks A w s cs e os g ps d := ⟨fun z => by omega, fun _ => h, fun z => by omega, fun z => by omega, fun z => by omega, fun z => by omega⟩
theorem asksR (h : dueR A s cs e = d) : asks A 3 s cs e os g ps d := ⟨fun z => by omega, fun z => by omega, fun z => by omega, fun _ => h, fun z => by omega, fun z => by omega⟩
theorem asksG (h : (∃ c, dueOf A cs e = some c ∧ d = some c) ∨ (dueOf A cs e = none ∧ ((0 ≤ g ∧ g < 2 ^ cs.length ∧ d = none) ∨ ((g < 0 ∨ 2 ^ cs.length ≤ g) ∧ d = some A.aNoGroup)))) : asks A 6 s cs e os g ps d := ⟨fun z => by omega, fun z => by omega, fun z => by omega, fun z => by omega, fun _ => h, fun z => by omega⟩
theorem asksS (h : dueS A cs ps = d) (h' : d = none → ps = cs) : asks A 8 s cs e os g ps d := ⟨fun z => by omega, fun z => by omega, fun z => by omega, fun z => by omega, fun z => by omega, fun _ => ⟨h, h'⟩⟩
end
theorem dueR_in {A : Ad} {s : Str} {cs : List Rat} {e : Rat} (h : inV (.str s) wordsV = true) : dueR A s cs e = dueOf A cs e := by unfold dueR; rw [if_pos h]
theorem dueR_out {A : Ad} {s : Str} {cs : List Rat} {e : Rat} (h : inV (.str s) wordsV = false) : dueR A s cs e = some A.aNoRule := by unfold dueR; rw [if_neg (by rw [h]; decide)]
theorem Wr.three {A : Ad} {G ys : List Rat} {e e' : Rat} {ρ : Lr.Rl} {s' : Str} {r : List Nat} {os' : List Int} {gn g' : Int} {ps' : List Rat} {b0 b3 b4 : Bool} (h : Wr G ys e e' ρ s' r os' gn g' ps' b0 b3 b4) :
  (8 < ys.length ∧ dueOf A ys e' = dueB A 1) ∨ (¬ 8 < ys.length ∧ (ys.any fun c => decide (c < 0)) = true ∧ dueOf A ys e' = dueB A 2) ∨ (¬ 8 < ys.length ∧ (ys.any fun c => decide (c < 0)) = false ∧ b3 = true ∧ dueOf A ys e' = dueB A 3) ∨ (¬ 8 < ys.length ∧ (ys.any fun c => decide (c < 0)) = false ∧ b3 = false ∧ ys = G ∧ dueOf A ys e' = none) := by
 by_cases h1 : 8 < ys.length
 ·exact .inl ⟨h1, dueOf_1 _ h1⟩
 right
 cases h2 : (ys.any fun c => decide (c < 0)) with
 | true => exact .inl ⟨h1, rfl, dueOf_2 _ h1 h2⟩
 | false =>
  right
  cases b3 with
  | true => exact .inl ⟨h1, rfl, rfl, dueOf_3 h1 h2 ((h.e3 rfl).imp id fun z => z.1)⟩
  | false =>
   have hy := h.yc h1 h2
   refine .inr ⟨h1, rfl, rfl, hy, ?_⟩
   rw [hy, h.e4 rfl]
   exact due_good h.G8 h.Gn h.e0 h.e1
theorem Wr.told {A : Ad} {G ys : List Rat} {e e' : Rat} {ρ : Lr.Rl} {s' : Str} {r : List Nat} {os' : List Int} {gn g' : Int} {ps' : List Rat} {b0 b3 b4 : Bool} (h : Wr G ys e e' ρ s' r os' gn g' ps' b0 b3 b4) {w : Nat} (hw : w ≤ 8) (h2 : w = 2 → 2 ≤ ys.length) :
  dueF w (wrs ys b0 b3 b4 w) < 7 → 0 ≤ dueF w (wrs ys b0 b3 b4 w) ∧ asks A w s' ys e' os' g' ps' (dueB A (dueF w (wrs ys b0 b3 b4 w))) := by
 have T := h.three (A := A)
 have ordc : ∀ w, (w = 0 ∨ w = 7) → dueF w (wrs ys b0 b3 b4 w) = (if decide (8 < ys.length) = true then 1 else if (ys.any fun c => decide (c < 0)) = true then 2 else if b3 = true then 3 else if b4 = true then 4 else 7) → dueF w (wrs ys b0 b3 b4 w) < 7 → 0 ≤ dueF w (wrs ys b0 b3 b4 w) ∧ asks A w s' ys e' os' g' ps' (dueB A (dueF w (wrs ys b0 b3 b4 w))) := fun w hw' ed => by
  rw [ed]
  rcases T with ⟨t1, t⟩ | ⟨t1, t2, t⟩ | ⟨t1, t2, t3, t⟩ | ⟨t1, t2, t3, t4, t⟩
  ·rw [if_pos (decide_eq_true t1)]
   exact fun _ => ⟨by decide, asksO hw' (.inl ⟨_, t, rfl⟩)⟩
  ·rw [if_neg (by simpa using t1), if_pos t2]
   exact fun _ => ⟨by decide, asksO hw' (.inl ⟨_, t, rfl⟩)⟩
  ·rw [if_neg (by simpa using t1), if_neg (by rw [t2]; decide), if_pos t3]
   exact fun _ => ⟨by decide, asksO hw' (.inl ⟨_, t, rfl⟩)⟩
  ·rw [if_neg (by simpa using t1), if_neg (by rw [t2]; decide), if_neg (by rw [t3]; decide)]
   cases hb : b4 with
   | true =>
    rw [if_pos rfl]
    exact fun _ => ⟨by decide, asksO hw' (.inr ⟨t, .inr ⟨by rw [t4]; exact (h.w3 hb).1, rfl⟩⟩)⟩
   | false => exact fun z => absurd z (by decide)
 have pl : ∀ w, (w = 1 ∨ w = 4 ∨ w = 5) → dueF w (wrs ys b0 b3 b4 w) = (if decide (8 < ys.length) = true then 1 else if (ys.any fun c => decide (c < 0)) = true then 2 else if b3 = true then 3 else 7) → dueF w (wrs ys b0 b3 b4 w) < 7 → 0 ≤ dueF w (wrs ys b0 b3 b4 w) ∧ asks A w s' ys e' os' g' ps' (dueB A (dueF w (wrs ys b0 b3 b4 w))) := fun w hw' ed => by
  rw [ed]
  rcases T with ⟨t1, t⟩ | ⟨t1, t2, t⟩ | ⟨t1, t2, t3, t⟩ | ⟨t1, t2, t3, t4, t⟩
  ·rw [if_pos (decide_eq_true t1)]
   exact fun _ => ⟨by decide, asksP hw' t⟩
  ·rw [if_neg (by simpa using t1), if_pos t2]
   exact fun _ => ⟨by decide, asksP hw' t⟩
  ·rw [if_neg (by simpa using t1), if_neg (by rw [t2]; decide), if_pos t3]
   exact fun _ => ⟨by decide, asksP hw' t⟩
  ·rw [if_neg (by simpa using t1), if_neg (by rw [t2]; decide), if_neg (by rw [t3]; decide)]
   exact fun z => absurd z (by decide)
 have h9 : w = 0 ∨ w = 1 ∨ w = 2 ∨ w = 3 ∨ w = 4 ∨ w = 5 ∨ w = 6 ∨ w = 7 ∨ w = 8 := by omega
 rcases h9 with rfl | rfl | rfl | rfl | rfl | rfl | rfl | rfl | rfl
 ·exact ordc 0 (.inl rfl) (dq0 ..)
 ·exact pl 1 (.inl rfl) (dq1 ..)
 ·rw [show dueF 2 (wrs ys b0 b3 b4 2) = _ from dq2 ..]
  match ys, h2 rfl, h with
  | c0 :: c1 :: q, _, h =>
  rw [if_pos rfl, show (c0 :: c1 :: q).take 2 = [c0, c1] from rfl]
  have h8 : ¬ 8 < [c0, c1].length := by show ¬ 8 < 2; omega
  cases hb : b0 with
  | true =>
   rw [if_pos rfl]
   exact fun _ => ⟨by decide, asks2 rfl (dueR_out (h.s1 hb))⟩
  | false =>
   rw [if_neg (by decide)]
   have hi : inV (.str s') wordsV = true := by rw [h.s2 hb]; exact word_in ρ
   cases ha : ([c0, c1].any fun c => decide (c < 0)) with
   | true =>
    rw [if_pos rfl]
    exact fun _ => ⟨by decide, asks2 rfl ((dueR_in hi).trans (dueOf_2 _ h8 ha))⟩
   | false =>
    rw [if_neg (by decide)]
    cases h3 : b3 with
    | true =>
     rw [if_pos rfl]
     refine fun _ => ⟨by decide, asks2 rfl ((dueR_in hi).trans (dueOf_3 h8 ha ((h.e3 h3).imp id fun z => ?_)))⟩
     have := z.2 c0 c1 q rfl
     rw [Lr.sm_two]
     exact this
    | false => exact fun z => absurd z (by decide)
 ·rw [show dueF 3 (wrs ys b0 b3 b4 3) = _ from dq3 ..]
  cases hb : b0 with
  | true =>
   rw [if_pos rfl]
   exact fun _ => ⟨by decide, asksR (dueR_out (h.s1 hb))⟩
  | false =>
   rw [if_neg (by decide), if_neg (show ¬ (3 : Nat) = 2 by decide)]
   have hi : inV (.str s') wordsV = true := by rw [h.s2 hb]; exact word_in ρ
   rcases T with ⟨t1, t⟩ | ⟨t1, t2, t⟩ | ⟨t1, t2, t3, t⟩ | ⟨t1, t2, t3, t4, t⟩
   ·rw [if_pos (decide_eq_true t1)]
    exact fun _ => ⟨by decide, asksR ((dueR_in hi).trans t)⟩
   ·rw [if_neg (by simpa using t1), if_pos t2]
    exact fun _ => ⟨by decide, asksR ((dueR_in hi).trans t)⟩
   ·rw [if_neg (by simpa using t1), if_neg (by rw [t2]; decide), if_pos t3]
    exact fun _ => ⟨by decide, asksR ((dueR_in hi).trans t)⟩
   ·rw [if_neg (by simpa using t1), if_neg (by rw [t2]; decide), if_neg (by rw [t3]; decide)]
    exact fun z => absurd z (by decide)
 ·exact pl 4 (.inr (.inl rfl)) (dq4 ..)
 ·exact pl 5 (.inr (.inr rfl)) (dq5 ..)
 ·rw [show dueF 6 (wrs ys b0 b3 b4 6) = _ from dq6 .., if_neg (show ¬ (6 : Nat) = 2 by decide)]
  rcases T with ⟨t1, t⟩ | ⟨t1, t2, t⟩ | ⟨t1, t2, t3, t⟩ | ⟨t1, t2, t3, t4, t⟩
  ·rw [if_pos (decide_eq_true t1)]
   exact fun _ => ⟨by decide, asksG (.inl ⟨_, t, rfl⟩)⟩
  ·rw [if_neg (by simpa using t1), if_pos t2]
   exact fun _ => ⟨by decide, asksG (.inl ⟨_, t, rfl⟩)⟩
  ·rw [if_neg (by simpa using t1), if_neg (by rw [t2]; decide), if_pos t3]
   exact fun _ => ⟨by decide, asksG (.inl ⟨_, t, rfl⟩)⟩
  ·rw [if_neg (by simpa using t1), if_neg (by rw [t2]; decide), if_neg (by rw [t3]; decide)]
   cases hb : b4 with
   | true =>
    rw [if_pos rfl]
    exact fun _ => ⟨by decide, asksG (.inr ⟨t, .inr ⟨(h.w3 hb).2.1, rfl⟩⟩)⟩
   | false => exact fun z => absurd z (by decide)
 ·exact ordc 7 (.inr rfl) (dq7 ..)
 ·rw [show dueF 8 (wrs ys b0 b3 b4 8) = _ from dq8 .., if_neg (show ¬ (8 : Nat) = 2 by decide)]
  by_cases h1 : 8 < ys.length
  ·rw [if_pos (decide_eq_true h1)]
   refine fun _ => ⟨by decide, asksS ?_ fun z => by cases z⟩
   unfold dueS dueC
   rw [if_pos h1]
   rfl
  rw [if_neg (by simpa using h1)]
  cases ha : (ys.any fun c => decide (c < 0)) with
  | true =>
   rw [if_pos rfl]
   refine fun _ => ⟨by decide, asksS ?_ fun z => by cases z⟩
   unfold dueS dueC
   rw [if_neg h1, if_pos ha]
   rfl
  | false =>
   rw [if_neg (by decide)]
   cases hb : b4 with
   | true =>
    rw [if_pos rfl]
    refine fun _ => ⟨by decide, asksS ?_ fun z => by cases z⟩
    unfold dueS dueC
    rw [if_neg h1, if_neg (by rw [ha]; decide)]
    show (if ps'.length ≠ ys.length ∨ badS ys ps' = true then _ else _) = _
    rw [h.yc h1 ha, if_pos (h.w3 hb).2.2]
    rfl
   | false => exact fun z => absurd z (by decide)
theorem Wr.good {A : Ad} {G ys : List Rat} {e e' : Rat} {ρ : Lr.Rl} {s' : Str} {r : List Nat} {os' : List Int} {gn g' : Int} {ps' : List Rat} {b0 b3 b4 : Bool} (h : Wr G ys e e' ρ s' r os' gn g' ps' b0 b3 b4) :
  (∀ w', w' ≤ 8 → w' ≠ 2 → asks A w' (word ρ) G e (r.map fun (n : Nat) => (n : Int)) gn G none) ∧ ∀ c0 c1 q, G = c0 :: c1 :: q → dueR A (word ρ) [c0, c1] c0 = none := by
 have d0 : dueOf A G e = none := due_good h.G8 h.Gn h.e0 h.e1
 have o0 : IsOrd (r.map fun (n : Nat) => (n : Int)) G.length := ord_mk rfl h.ord
 refine ⟨fun w hw hn => ?_, fun c0 c1 q hg => ?_⟩
 ·have h9 : w = 0 ∨ w = 1 ∨ w = 3 ∨ w = 4 ∨ w = 5 ∨ w = 6 ∨ w = 7 ∨ w = 8 := by omega
  rcases h9 with rfl | rfl | rfl | rfl | rfl | rfl | rfl | rfl
  ·exact asksO (.inl rfl) (.inr ⟨d0, .inl ⟨o0, rfl⟩⟩)
  ·exact asksP (.inl rfl) d0
  ·exact asksR ((dueR_in (word_in ρ)).trans d0)
  ·exact asksP (.inr (.inl rfl)) d0
  ·exact asksP (.inr (.inr rfl)) d0
  ·exact asksG (.inr ⟨d0, .inl ⟨h.gn0, h.gn1, rfl⟩⟩)
  ·exact asksO (.inr rfl) (.inr ⟨d0, .inl ⟨o0, rfl⟩⟩)
  ·refine asksS (dueS_good h.G8 h.Gn rfl fun k c p hc hp => ?_) fun _ => rfl
   rw [hc] at hp
   cases hp
   exact ⟨h.Gn c (List.mem_of_getElem? hc), Rat.le_refl⟩
 ·have n0 := h.Gn c0 (by rw [hg]; exact List.mem_cons_self)
  have n1 := h.Gn c1 (by rw [hg]; exact List.mem_cons_of_mem _ List.mem_cons_self)
  refine (dueR_in (word_in ρ)).trans (due_good (by show 2 ≤ 8; omega) (fun c hc => ?_) n0 ?_)
  ·rcases List.mem_cons.mp hc with rfl | hc
   ·exact n0
   ·rw [List.mem_singleton.mp hc]; exact n1
  ·rw [Lr.sm_two]
   grind
theorem ask_lo {bo far : Int} {ys : List Rat} (hbo : 0 < bo) (f0 : 0 ≤ far) (f1 : far < 10 ^ 30) (hO : Ob 120 bo ys) : Ob 260 bo (Lr.rt (0 - 1 - far) bo :: ys) ∧ Lr.rt (0 - 1 - far) bo < 0 := by
 refine ⟨⟨hbo, hO.bd.mono (by decide), fun y hy => ?_⟩, neg_rt hbo (by omega)⟩
 rcases List.mem_cons.mp hy with rfl | hy
 ·exact ⟨_, rfl, by clear hO; omega⟩
 ·exact (hO.mono (show 120 ≤ 260 by decide)).ov y hy
theorem ask_hi {bo far W : Int} {ys : List Rat} (hbo : 0 < bo) (hb1 : bo < 10 ^ 13) (f0 : 0 ≤ far) (f1 : far < 10 ^ 30) (w0 : 0 ≤ W) (w1 : W ≤ 2 ^ 206) (hO : Ob 120 bo ys) : Ob 260 bo (Lr.rt (W * bo + 1 + far) bo :: ys) ∧ ((W : Int) : Rat) < Lr.rt (W * bo + 1 + far) bo := by
 refine ⟨⟨hbo, hO.bd.mono (by decide), fun y hy => ?_⟩, ?_⟩
 ·rcases List.mem_cons.mp hy with rfl | hy
  ·refine ⟨_, rfl, ?_⟩
   have h5 : W * bo ≤ 2 ^ 206 * 10 ^ 13 := Int.mul_le_mul w1 (by omega) (by omega) (by decide)
   have h6 : 0 ≤ W * bo := Int.mul_nonneg w0 (by omega)
   clear hO w1 hb1 hbo
   generalize W * bo = X at *
   omega
  ·exact (hO.mono (show 120 ≤ 260 by decide)).ov y hy
 ·have h1 : Lr.rt (W * bo) bo < Lr.rt (W * bo + 1 + far) bo := by
   by_cases z : Lr.rt (W * bo + 1 + far) bo ≤ Lr.rt (W * bo) bo
   ·have := (Lr.rt_le_iff hbo).mp z
    omega
   ·grind
  have h3 : ((W : Int) : Rat) = Lr.rt (W * bo) bo := Lr.rt_of_mul hbo (by rw [Rat.intCast_mul])
  rw [← h3] at h1
  exact h1
theorem take2_num {ys : List Rat} {c0 c1 : Rat} {q : List Rat} (h : ys = c0 :: c1 :: q) : c0 + c1 ≤ (((ys.map fun x => max 0 x.num).sum : Int) : Rat) := by
 subst h
 have h1 := sm_num [c0, c1]
 rw [Lr.sm_two] at h1
 have h2 : ([c0, c1].map fun x : Rat => max 0 x.num).sum ≤ ((c0 :: c1 :: q).map fun x : Rat => max 0 x.num).sum := by
  have key : ∀ l : List Rat, 0 ≤ (l.map fun x : Rat => max 0 x.num).sum := fun l => by
   induction l with
   | nil => exact Int.le_refl _
   | cons x l ih => rw [List.map_cons, List.sum_cons]; omega
  have := key q
  simp only [List.map_cons, List.sum_cons, List.map_nil, List.sum_nil]
  omega
 have h3 : ((([c0, c1].map fun x : Rat => max 0 x.num).sum : Int) : Rat) ≤ ((((c0 :: c1 :: q).map fun x : Rat => max 0 x.num).sum : Int) : Rat) := by exact_mod_cast h2
 exact Rat.le_trans h1 h3
section
variable {P : Program} {w : World} {K : PySem.W.Frag} {mg : Str → Option Value} {base : Heap} {f : Addr} {fd : FuncData} {Ad : Ad}
theorem m9 {m n : Nat} {i j : Int} (h1 : Bd m i) (h2 : Bd n j) (l : m + n ≤ 9000) : CMulB i j := CMulB.of (m := 9000) (h1.mono (by omega)) (h2.mono (by omega)) (by decide)
theorem mm9 {i j : Int} (h1 : Bd 9000 i) (h2 : Bd 9000 j) : CMulB i j := CMulB.of h1 h2 (by decide)
set_option maxHeartbeats 20000000 in
theorem cal_is_whole (F : Has K mg "is_whole" s_is_whole ["value"] f fd) (En : Env K mg Ad) : CalE P w K mg base "is_whole" 1 ["value"] (sp_is_whole) := by
 refine F.calE (F.fn.okE sc_is_whole (fun vs H Q E h => ?_) (fun cdv A outer s H vs Q E hr h => ?_))
 ·obtain ⟨a, rfl, k⟩ := h
  rfl
 obtain ⟨a, rfl, k⟩ := h
 refine ⟨_, (pss_one (ps_ret (d_and (pe_callB d_isi rfl En.b_isinstance PyProof.Rows.boot_isinstance (pa_cons (dv 0) (pa_cons (pe_bltn (v := .ty "int") rfl En.b_int PyProof.Rows.boot_int rfl) pa_nil))) (pe_one (d_not (pe_callB d_isi rfl En.b_isinstance PyProof.Rows.boot_isinstance (pa_cons (dv 0) (pa_cons (pe_bltn (v := .ty "bool") rfl En.b_bool PyProof.Rows.boot_bool rfl) pa_nil)))))))), ?_⟩
 exact ⟨_, _, .int _, En.T.ii, _, _, .int _, En.T.ib, k⟩
theorem gcd_abs {a b : Int} : Int.gcd (if a < 0 then -a else a) (if b < 0 then -b else b) = Int.gcd a b := by
 unfold Int.gcd
 congr 1 <;> (split <;> omega)
set_option maxHeartbeats 20000000 in
theorem cal_common_divisor (F : Has K mg "common_divisor" s_common_divisor ["one", "other"] f fd) (En : Env K mg Ad) : CalE P w K mg base "common_divisor" 1 ["one", "other"] (sp_gcd) := by
 refine F.calE (F.fn.okE sc_common_divisor (fun vs H Q E h => ?_) (fun cdv A outer s H vs Q E hr h => ?_))
 ·obtain ⟨a, b, rfl, k⟩ := h
  rfl
 obtain ⟨a, b, rfl, k⟩ := h
 refine ⟨_, (pss_cons (ps_set (i := 2) sc_common_divisor.nd rfl (Or.inl rfl) (pe_callB d_abs rfl En.b_abs PyProof.Rows.boot_abs (pa_cons (dv 0) pa_nil)))
  (pss_cons (ps_set (i := 3) sc_common_divisor.nd rfl (Or.inl rfl) (pe_callB d_abs rfl En.b_abs PyProof.Rows.boot_abs (pa_cons (dv 1) pa_nil)))
  (pss_cons (ps_while PassesOwn.leaving (dt_cmp d_ne (dv 3) pe_int (nomark _))
   (pss_cons (ps_set (i := 4) sc_common_divisor.nd rfl (Or.inl rfl) (pe_op d_mod (dv 2) (dv 3)))
  (pss_cons (ps_set (i := 2) sc_common_divisor.nd rfl (Or.inl rfl) (dv 3))
  (pss_one (ps_set (i := 3) sc_common_divisor.nd rfl (Or.inl rfl) (dv 4))))))
  (pss_one (ps_ret (dv 2)))))), ?_⟩
 refine whl (fun m σ H' => H' = H ∧ ∃ (x y : Int) (z : Option V), σ = [some (.int a), some (.int b), some (.int x), some (.int y), z] ∧ 0 ≤ x ∧ 0 ≤ y ∧ Int.gcd x y = Int.gcd a b ∧ m = y.toNat) _ ⟨rfl, _, _, none, rfl, by split <;> omega, by split <;> omega, gcd_abs, rfl⟩ ?_
 rintro m σ H' ⟨rfl, x, y, z, rfl, hx, hy, hg, rfl⟩
 refine brN (fun c => whl_in ?_) (fun c => ?_)
 ·have c' : 0 < y := by omega
  have q1 := Int.emod_nonneg x c
  have q2 := Int.emod_lt_of_pos x c'
  exact ⟨c', _, by omega, rfl, y, x % y, _, rfl, by omega, q1, by rw [Lm.gcd_turn]; exact hg, rfl⟩
 ·subst c
  have e : x = ((Int.gcd a b : Nat) : Int) := by
   rw [← hg, Int.gcd_zero_right]
   omega
  show Q (.int x) _
  rw [e]
  exact k
theorem dv_bd {a b : Int} {n : Nat} (hb : b ≠ 0) (h : Bd n b) : Bd n (Lm.dv a b) := h.of_le (by
 rw [Lm.natAbs_dv]
 exact Nat.le_of_dvd (by omega) (Int.gcd_dvd_natAbs_right a b))
set_option maxHeartbeats 20000000 in
theorem cal_ratio (F : Has K mg "ratio" s_ratio ["top", "bottom"] f fd) (En : Env K mg Ad) (G_common_divisor : CalE P w K mg base "common_divisor" 1 ["one", "other"] (sp_gcd)) (G_is_whole : CalE P w K mg base "is_whole" 1 ["value"] (sp_is_whole)) : CalE P w K mg base "ratio" 2 ["top", "bottom"] (sp_ratio) := by
 refine F.calE (F.fn.okE sc_ratio (fun vs H Q E h => ?_) (fun cdv A outer s H vs Q E hr h => ?_))
 ·obtain ⟨a, b, rfl, hb, h9, k0⟩ := h
  rfl
 obtain ⟨a, b, rfl, hb, h9, k0⟩ := h
 refine ⟨_, (pss_cons (ps_if (PW.pt (pw_or (pt_not (dt_val (pe_callP G_is_whole hr (by decide) rfl (pa_cons (dv 0) pa_nil)))) (pw_or1 (pt_not (dt_val (pe_callP G_is_whole hr (by decide) rfl (pa_cons (dv 1) pa_nil)))))))
   (pss_one (ps_raise En.e_Zb rfl (pa_cons (d_str (l := [97, 32, 114, 97, 116, 105, 111, 32, 105, 115, 32, 109, 97, 100, 101, 32, 111, 102, 32, 116, 119, 111, 32, 119, 104, 111, 108, 101, 32, 110, 117, 109, 98, 101, 114, 115]) (by decide +kernel)) pa_nil)))
   pss_nil)
  (pss_cons (ps_if (dt_cmp d_eq (dv 1) pe_int (nomark _))
   (pss_one (ps_raise En.e_Zb rfl (pa_cons (d_str (l := [116, 104, 101, 32, 98, 111, 116, 116, 111, 109, 32, 111, 102, 32, 97, 32, 114, 97, 116, 105, 111, 32, 105, 115, 32, 110, 111, 116, 32, 48]) (by decide +kernel)) pa_nil)))
   pss_nil)
  (pss_cons (ps_set (i := 2) sc_ratio.nd rfl (Or.inl rfl) (pe_callP G_common_divisor hr (by decide) rfl (pa_cons (dv 0) (pa_cons (dv 1) pa_nil))))
  (pss_cons (ps_if (dt_cmp d_lt (dv 1) pe_int (nomark _))
   (pss_one (ps_set (i := 2) sc_ratio.nd rfl (Or.inl rfl) (pe_un d_neg (dv 2))))
   pss_nil)
  (pss_one (ps_ret (d_tup (pa_cons (pe_op d_fdiv (dv 0) (dv 2)) (pa_cons (pe_op d_fdiv (dv 1) (dv 2)) pa_nil))))))))), ?_⟩
 have k : ∀ z H', New H z (.tup [.int (Lm.mk1 a b), .int (Lm.mk2 a b)]) H' → Q (.ref z) H' := fun z H' n => k0 z H' (by
  have e := Lr.rt_mk (a := a) hb
  rw [e.1, e.2] at n
  exact n)
 refine ⟨a, rfl, b, rfl, ?_⟩
 refine br (fun c => absurd c hb) (fun _ => ?_)
 refine ⟨a, b, rfl, ?_⟩
 have hd := Lm.dv_ne (a := a) hb
 have h8 := dv_bd (a := a) hb h9
 refine br (fun c => ?_) (fun c => ?_)
 ·have e : Lm.dv a b = -(Int.gcd a b : Int) := if_pos c
  rw [e] at hd h8
  refine ⟨⟨hd, h8⟩, ⟨hd, h8⟩, fun p H' n => ?_⟩
  have := k p H'
  unfold Lm.mk1 Lm.mk2 at this
  rw [e] at this
  exact this n
 ·have e : Lm.dv a b = (Int.gcd a b : Int) := if_neg c
  rw [e] at hd h8
  refine ⟨⟨hd, h8⟩, ⟨hd, h8⟩, fun p H' n => ?_⟩
  have := k p H'
  unfold Lm.mk1 Lm.mk2 at this
  rw [e] at this
  exact this n
set_option maxHeartbeats 20000000 in
theorem cal_plus (F : Has K mg "plus" s_plus ["one", "other"] f fd) (En : Env K mg Ad) (G_ratio : CalE P w K mg base "ratio" 2 ["top", "bottom"] (sp_ratio)) : CalE P w K mg base "plus" 3 ["one", "other"] (sp_plus K) := by
 refine F.calE (F.fn.okE sc_plus (fun vs H Q E h => ?_) (fun cdv A outer s H vs Q E hr h => ?_))
 ·obtain ⟨v, w', x, y, m, n, rfl, hv, hw, zx, zy, hmn, -, k⟩ := h
  rfl
 obtain ⟨v, w', x, y, m, n, rfl, hv, hw, zx, zy, hmn, -, k⟩ := h
 refine ⟨_, (pss_one (ps_ret (pe_callP G_ratio hr (by decide) rfl (pa_cons (pe_op d_add (pe_op d_mul (pe_ix d_ixR (dv 0) pe_int (fun _ _ => rfl)) (pe_ix d_ixR (dv 1) pe_int (fun _ _ => rfl))) (pe_op d_mul (pe_ix d_ixR (dv 1) pe_int (fun _ _ => rfl)) (pe_ix d_ixR (dv 0) pe_int (fun _ _ => rfl)))) (pa_cons (pe_op d_mul (pe_ix d_ixR (dv 0) pe_int (fun _ _ => rfl)) (pe_ix d_ixR (dv 1) pe_int (fun _ _ => rfl))) pa_nil))))), ?_⟩
 refine ⟨x, hv, .inl ⟨rfl, y, hw, .inr ⟨rfl, m9 zx.n zy.d hmn, y, hw, .inl ⟨rfl, x, hv, .inr ⟨rfl, m9 zy.n zx.d (by omega), x, hv, .inr ⟨rfl, y, hw, .inr ⟨rfl, m9 zx.d zy.d hmn, _, _, rfl, Int.mul_ne_zero (den_ne x) (den_ne y), zx.d.mul zy.d hmn, fun z H' n => k z H' ?_⟩⟩⟩⟩⟩⟩⟩
 show New H z (pr (x + y)) H'
 rw [Lr.add_eq]
 exact n
set_option maxHeartbeats 20000000 in
theorem cal_minus (F : Has K mg "minus" s_minus ["one", "other"] f fd) (En : Env K mg Ad) (G_ratio : CalE P w K mg base "ratio" 2 ["top", "bottom"] (sp_ratio)) : CalE P w K mg base "minus" 3 ["one", "other"] (sp_minus K) := by
 refine F.calE (F.fn.okE sc_minus (fun vs H Q E h => ?_) (fun cdv A outer s H vs Q E hr h => ?_))
 ·obtain ⟨v, w', x, y, m, n, rfl, hv, hw, zx, zy, hmn, -, k⟩ := h
  rfl
 obtain ⟨v, w', x, y, m, n, rfl, hv, hw, zx, zy, hmn, -, k⟩ := h
 refine ⟨_, (pss_one (ps_ret (pe_callP G_ratio hr (by decide) rfl (pa_cons (pe_op d_sub (pe_op d_mul (pe_ix d_ixR (dv 0) pe_int (fun _ _ => rfl)) (pe_ix d_ixR (dv 1) pe_int (fun _ _ => rfl))) (pe_op d_mul (pe_ix d_ixR (dv 1) pe_int (fun _ _ => rfl)) (pe_ix d_ixR (dv 0) pe_int (fun _ _ => rfl)))) (pa_cons (pe_op d_mul (pe_ix d_ixR (dv 0) pe_int (fun _ _ => rfl)) (pe_ix d_ixR (dv 1) pe_int (fun _ _ => rfl))) pa_nil))))), ?_⟩
 refine ⟨x, hv, .inl ⟨rfl, y, hw, .inr ⟨rfl, m9 zx.n zy.d hmn, y, hw, .inl ⟨rfl, x, hv, .inr ⟨rfl, m9 zy.n zx.d (by omega), x, hv, .inr ⟨rfl, y, hw, .inr ⟨rfl, m9 zx.d zy.d hmn, _, _, rfl, Int.mul_ne_zero (den_ne x) (den_ne y), zx.d.mul zy.d hmn, fun z H' n => k z H' ?_⟩⟩⟩⟩⟩⟩⟩
 show New H z (pr (x - y)) H'
 rw [Lr.sub_eq]
 exact n
set_option maxHeartbeats 20000000 in
theorem cal_times (F : Has K mg "times" s_times ["one", "other"] f fd) (En : Env K mg Ad) (G_ratio : CalE P w K mg base "ratio" 2 ["top", "bottom"] (sp_ratio)) : CalE P w K mg base "times" 3 ["one", "other"] (sp_times K) := by
 refine F.calE (F.fn.okE sc_times (fun vs H Q E h => ?_) (fun cdv A outer s H vs Q E hr h => ?_))
 ·obtain ⟨v, w', x, y, m, n, rfl, hv, hw, zx, zy, hmn, -, k⟩ := h
  rfl
 obtain ⟨v, w', x, y, m, n, rfl, hv, hw, zx, zy, hmn, -, k⟩ := h
 refine ⟨_, (pss_one (ps_ret (pe_callP G_ratio hr (by decide) rfl (pa_cons (pe_op d_mul (pe_ix d_ixR (dv 0) pe_int (fun _ _ => rfl)) (pe_ix d_ixR (dv 1) pe_int (fun _ _ => rfl))) (pa_cons (pe_op d_mul (pe_ix d_ixR (dv 0) pe_int (fun _ _ => rfl)) (pe_ix d_ixR (dv 1) pe_int (fun _ _ => rfl))) pa_nil))))), ?_⟩
 refine ⟨x, hv, .inl ⟨rfl, y, hw, .inl ⟨rfl, m9 zx.n zy.n hmn, x, hv, .inr ⟨rfl, y, hw, .inr ⟨rfl, m9 zx.d zy.d hmn, _, _, rfl, Int.mul_ne_zero (den_ne x) (den_ne y), zx.d.mul zy.d hmn, fun z H' n => k z H' ?_⟩⟩⟩⟩⟩
 show New H z (pr (x * y)) H'
 rw [Lr.mul_eq]
 exact n
set_option maxHeartbeats 20000000 in
theorem cal_over (F : Has K mg "over" s_over ["one", "other"] f fd) (En : Env K mg Ad) (G_ratio : CalE P w K mg base "ratio" 2 ["top", "bottom"] (sp_ratio)) : CalE P w K mg base "over" 3 ["one", "other"] (sp_over K) := by
 refine F.calE (F.fn.okE sc_over (fun vs H Q E h => ?_) (fun cdv A outer s H vs Q E hr h => ?_))
 ·obtain ⟨v, w', x, y, m, n, rfl, hv, hw, zx, zy, hmn, hy, k⟩ := h
  rfl
 obtain ⟨v, w', x, y, m, n, rfl, hv, hw, zx, zy, hmn, hy, k⟩ := h
 refine ⟨_, (pss_cons (ps_if (dt_cmp d_eq (pe_ix d_ixR (dv 1) pe_int (fun _ _ => rfl)) pe_int (nomark _))
   (pss_one (ps_raise En.e_Zb rfl (pa_cons (d_str (l := [110, 111, 116, 104, 105, 110, 103, 32, 105, 115, 32, 112, 97, 114, 116, 101, 100, 32, 98, 121, 32, 48]) (by decide +kernel)) pa_nil)))
   pss_nil)
  (pss_one (ps_ret (pe_callP G_ratio hr (by decide) rfl (pa_cons (pe_op d_mul (pe_ix d_ixR (dv 0) pe_int (fun _ _ => rfl)) (pe_ix d_ixR (dv 1) pe_int (fun _ _ => rfl))) (pa_cons (pe_op d_mul (pe_ix d_ixR (dv 0) pe_int (fun _ _ => rfl)) (pe_ix d_ixR (dv 1) pe_int (fun _ _ => rfl))) pa_nil)))))), ?_⟩
 have hn : y.num ≠ 0 := fun h => hy (Rat.num_eq_zero.mp h)
 refine ⟨y, hw, .inl ⟨rfl, ?_⟩⟩
 refine br (fun c => absurd c hn) (fun _ => ?_)
 refine ⟨x, hv, .inl ⟨rfl, y, hw, .inr ⟨rfl, m9 zx.n zy.d hmn, x, hv, .inr ⟨rfl, y, hw, .inl ⟨rfl, m9 zx.d zy.n hmn, _, _, rfl, Int.mul_ne_zero (den_ne x) hn, zx.d.mul zy.n hmn, fun z H' n => k z H' ?_⟩⟩⟩⟩⟩
 show New H z (pr (x / y)) H'
 rw [Lr.div_eq x y hy]
 exact n
set_option maxHeartbeats 20000000 in
theorem cal_less (F : Has K mg "less" s_less ["one", "other"] f fd) (En : Env K mg Ad) : CalE P w K mg base "less" 1 ["one", "other"] (sp_less K) := by
 refine F.calE (F.fn.okE sc_less (fun vs H Q E h => ?_) (fun cdv A outer s H vs Q E hr h => ?_))
 ·obtain ⟨v, w', x, y, rfl, hv, hw, zx, zy, k⟩ := h
  rfl
 obtain ⟨v, w', x, y, rfl, hv, hw, zx, zy, k⟩ := h
 refine ⟨_, (pss_one (ps_ret (pe_cmpR d_lt (pe_op d_mul (pe_ix d_ixR (dv 0) pe_int (fun _ _ => rfl)) (pe_ix d_ixR (dv 1) pe_int (fun _ _ => rfl))) (pe_op d_mul (pe_ix d_ixR (dv 1) pe_int (fun _ _ => rfl)) (pe_ix d_ixR (dv 0) pe_int (fun _ _ => rfl))) (nomark _)))), ?_⟩
 refine ⟨x, hv, .inl ⟨rfl, y, hw, .inr ⟨rfl, mm9 zx.n zy.d, y, hw, .inl ⟨rfl, x, hv, .inr ⟨rfl, mm9 zy.n zx.d, ?_⟩⟩⟩⟩⟩
 have e : decide (x < y) = decide (x.num * (y.den : Int) < y.num * (x.den : Int)) := by rw [decide_eq_decide]; exact Lr.lt_iff x y
 rw [e] at k
 exact k
set_option maxHeartbeats 20000000 in
theorem cal_lesser_of (F : Has K mg "lesser_of" s_lesser_of ["one", "other"] f fd) (En : Env K mg Ad) (G_less : CalE P w K mg base "less" 1 ["one", "other"] (sp_less K)) : CalE P w K mg base "lesser_of" 2 ["one", "other"] (sp_lesser K) := by
 refine F.calE (F.fn.okE sc_lesser_of (fun vs H Q E h => ?_) (fun cdv A outer s H vs Q E hr h => ?_))
 ·obtain ⟨v, w', x, y, rfl, hv, hw, zx, zy, k⟩ := h
  rfl
 obtain ⟨v, w', x, y, rfl, hv, hw, zx, zy, k⟩ := h
 refine ⟨_, (pss_one (ps_ret (pe_ifExp (dt_val (pe_callP G_less hr (by decide) rfl (pa_cons (dv 1) (pa_cons (dv 0) pa_nil)))) (dv 1) (dv 0)))), ?_⟩
 refine ⟨w', v, y, x, rfl, hw, hv, zy, zx, ?_⟩
 refine br (fun c => ?_) (fun c => ?_)
 ·exact k w' (by unfold Lr.mn; rw [if_pos c]; exact hw)
 ·exact k v (by unfold Lr.mn; rw [if_neg c]; exact hv)
theorem dvd_bd {B D : Int} {k : Nat} (hD : 0 < D) (h : B ∣ D) (hb : Bd k D) : Bd k B := hb.of_le (by
 have := Int.natAbs_dvd_natAbs.mpr h
 exact Nat.le_of_dvd (by omega) this)
set_option maxHeartbeats 20000000 in
theorem cal_common_bottom (F : Has K mg "common_bottom" s_common_bottom ["ratios"] f fd) (En : Env K mg Ad) (G_common_divisor : CalE P w K mg base "common_divisor" 1 ["one", "other"] (sp_gcd)) : CalE P w K mg base "common_bottom" 2 ["ratios"] (sp_cbot K) := by
 refine F.calE (F.fn.okE sc_common_bottom (fun vs H Q E h => ?_) (fun cdv A outer s H vs Q E hr h => ?_))
 ·obtain ⟨a, xs, k, D, rfl, hL, hO, hk, q⟩ := h
  rfl
 obtain ⟨a, xs, k, D, rfl, hL, hO, hk, q⟩ := h
 refine ⟨_, (pss_cons (ps_set (i := 1) sc_common_bottom.nd rfl (Or.inl rfl) pe_int)
  (pss_cons (ps_for PassesOwn.leaving rfl (pi_list (dv 0)) (pg_name (i := 2) sc_common_bottom.nd rfl (Or.inl rfl))
   (pss_one (ps_set (i := 1) sc_common_bottom.nd rfl (Or.inl rfl) (pe_op d_mul (dv 1) (pe_op d_fdiv (pe_ix d_ixR (dv 2) pe_int (fun _ _ => rfl)) (pe_callP G_common_divisor hr (by decide) rfl (pa_cons (dv 1) (pa_cons (pe_ix d_ixR (dv 2) pe_int (fun _ _ => rfl)) pa_nil))))))))
  (pss_one (ps_ret (dv 1))))), ?_⟩
 obtain ⟨vs, hs, hr, he⟩ := hL.sq
 refine ⟨_, rfl, ⟨_, hs⟩, for_list (xs := vs) (fun i σ H1 => H1 = H ∧ ∃ (B : Int) (z : Option V), σ = [some (.ref a), some (.int B), z] ∧ 0 < B ∧ B ∣ D ∧ ∀ x ∈ xs.take i, (x.den : Int) ∣ B) ⟨rfl, 1, _, rfl, by decide, Int.one_dvd _, by simp⟩ (fun _ _ _ _ h => by rw [h.1]; exact hs) ?_ ?_⟩
 ·rintro i u σ H1 hu ⟨rfl, B, z, rfl, hB, hBD, hdv⟩
  obtain ⟨x, hx, hv⟩ := hr.get hu
  have hxm := List.mem_of_getElem? hx
  have hd := Lr.den_pos x
  have hxD := (hO.ov x hxm).den hO.pos
  have hg : ((Int.gcd B x.den : Nat) : Int) ≠ 0 := by have := Int.gcd_pos_of_ne_zero_left (x.den : Int) (show B ≠ 0 by omega); omega
  obtain ⟨l1, l2, l3, l4⟩ := Lr.lcm_step hB hd
  have b1 : Bd 9000 B := (dvd_bd hO.pos hBD hO.bd).mono (by omega)
  have b2 : Bd 9000 (x.den : Int) := (dvd_bd hO.pos hxD hO.bd).mono (by omega)
  refine ⟨x, hv, .inr ⟨rfl, x, hv, .inr ⟨rfl, B, _, rfl, ⟨hg, b1.of_le ?_⟩, mm9 b1 b2.fdiv, rfl, _, _, rfl, l1, l4 D hBD hxD, fun y hy => ?_⟩⟩⟩
  ·exact Nat.le_of_dvd (by omega) (Int.gcd_dvd_natAbs_left B x.den)
  ·rw [List.take_add_one, hx] at hy
   rcases List.mem_append.mp hy with hy | hy
   ·exact Int.dvd_trans (hdv y hy) l2
   ·obtain rfl : y = x := by simpa using hy
    exact l3
 ·rintro σ H1 ⟨rfl, B, z, rfl, hB, hBD, hdv⟩
  rw [hr.len, List.take_length] at hdv
  exact q B hB hBD hdv
set_option maxHeartbeats 20000000 in
theorem cal_tops_over (F : Has K mg "tops_over" s_tops_over ["bottom", "ratios"] f fd) (En : Env K mg Ad) : CalE P w K mg base "tops_over" 1 ["bottom", "ratios"] (sp_tops K) := by
 refine F.calE (F.fn.okE sc_tops_over (fun vs H Q E h => ?_) (fun cdv A outer s H vs Q E hr h => ?_))
 ·obtain ⟨a, xs, B, rfl, hL, hB, b9, hdv, hz, hlen, q⟩ := h
  rfl
 obtain ⟨a, xs, B, rfl, hL, hB, b9, hdv, hz, hlen, q⟩ := h
 refine ⟨_, (pss_one (ps_ret (pe_comp (defScope s_tops_over) ["bottom"] [0] rfl (pi_list (dv 1)) (fun z => (pe_op d_mul (pe_ix d_ixR (dv 0) pe_int (fun _ _ => rfl)) (pe_op d_fdiv (dv 1) (pe_ix d_ixR (dv 0) pe_int (fun _ _ => rfl)))))))), ?_⟩
 obtain ⟨vs, hs, hr, he⟩ := hL.sq
 refine ⟨_, rfl, ⟨_, hs⟩, fun D H2 n2 => ?_⟩
 refine comp_RI (fun x => x.num * (B.fdiv x.den)) n2 he hr hlen ?_ fun H3 n3 => ?_
 ·exact fun x hx u z H' hu R h => ⟨x, hu, .inl ⟨rfl, x, hu, .inr ⟨rfl, ⟨den_ne x, (hz x hx).d⟩, mm9 (hz x hx).n b9.fdiv, h⟩⟩⟩
 ·refine q D _ H3 n3 ?_
  rw [List.map_map]
  apply List.map_congr_left
  intro x hx
  exact Lr.top_eq hB (hdv x hx)
theorem rat0 {H : Hp} (En : Env K mg Ad) : RatV K H (.ref Ad.oNOUGHT) 0 := RatV.k En.k_Zp rfl rfl
theorem sz_part {k : Nat} {D : Int} {cs : List Rat} (hO : Ob k D cs) (hk : k ≤ 3000) (hl : cs.length ≤ 1100) (i : Nat) : Sz 3012 (Lr.sm (cs.take i)) := by
 have h1 := Lr.Ov.sm hO.pos (M := 2 ^ k) (a := cs.take i) fun x hx => hO.ov x (List.mem_of_mem_take hx)
 refine ovSz hO.pos (hO.bd.mono hk) h1 ?_ (by decide)
 have h2 : (cs.take i).length ≤ 1100 := by rw [List.length_take]; omega
 have h3 : (2 : Nat) ^ k ≤ 2 ^ 3000 := Nat.pow_le_pow_right (by decide) hk
 calc (cs.take i).length * 2 ^ k ≤ 1100 * 2 ^ 3000 := Nat.mul_le_mul h2 h3
  _ < 2 ^ 12 * 2 ^ 3000 := Nat.mul_lt_mul_of_pos_right (by decide) (Nat.pow_pos (by decide))
  _ = 2 ^ 3012 := by rw [← Nat.pow_add]
set_option maxHeartbeats 20000000 in
theorem cal_total (F : Has K mg "total" s_total ["claims"] f fd) (En : Env K mg Ad) (G_plus : CalE P w K mg base "plus" 3 ["one", "other"] (sp_plus K)) : CalE P w K mg base "total" 4 ["claims"] (sp_total K) := by
 refine F.calE (F.fn.okE sc_total (fun vs H Q E h => ?_) (fun cdv A outer s H vs Q E hr h => ?_))
 ·obtain ⟨a, cs, k, D, rfl, hL, hO, hk, hl, q⟩ := h
  rfl
 obtain ⟨a, cs, k, D, rfl, hL, hO, hk, hl, q⟩ := h
 refine ⟨_, (pss_cons (ps_set (i := 1) sc_total.nd rfl (Or.inl rfl) (En.c_Zp.pe rfl))
  (pss_cons (ps_for PassesOwn.leaving rfl (pi_list (dv 0)) (pg_name (i := 2) sc_total.nd rfl (Or.inl rfl))
   (pss_one (ps_set (i := 1) sc_total.nd rfl (Or.inl rfl) (pe_callP G_plus hr (by decide) rfl (pa_cons (dv 1) (pa_cons (dv 2) pa_nil))))))
  (pss_one (ps_ret (dv 1))))), ?_⟩
 obtain ⟨vs, hs, hr, he⟩ := hL.sq
 refine ⟨_, rfl, ⟨_, hs⟩, for_list (xs := vs) (fun i σ H1 => Same H H1 ∧ ∃ (w : V) (z : Option V), σ = [some (.ref a), some w, z] ∧ RatV K H1 w (Lr.sm (cs.take i))) ⟨Same.refl _, _, _, rfl, rat0 En⟩ (fun _ _ _ _ h => h.1.seq hs) ?_ ?_⟩
 ·rintro i u σ H1 hu ⟨s1, w, z, rfl, hw⟩
  obtain ⟨x, hx, hv⟩ := hr.get hu
  refine ⟨w, u, _, x, 3012, 3001, rfl, hw, hv.same s1, sz_part hO hk hl i, hO.sz (by omega) (List.mem_of_getElem? hx), by decide, trivial, fun p H2 n => ?_⟩
  refine ⟨s1.trans n.same, _, _, rfl, ?_⟩
  rw [Lr.sm_take hx]
  exact .new n
 ·rintro σ H1 ⟨s1, w, z, rfl, hw⟩
  rw [hr.len, List.take_length] at hw
  exact q w H1 s1 hw
set_option maxHeartbeats 20000000 in
theorem cal_look_at_claims (F : Has K mg "look_at_claims" s_look_at_claims ["claims"] f fd) (En : Env K mg Ad) (G_less : CalE P w K mg base "less" 1 ["one", "other"] (sp_less K)) : CalE P w K mg base "look_at_claims" 2 ["claims"] (sp_lookC K Ad) := by
 refine F.calE (F.fn.okE sc_look_at_claims (fun vs H Q E h => ?_) (fun cdv A outer s H vs Q E hr h => ?_))
 ·obtain ⟨a, cs, rfl, hL, hz, k, kE⟩ := h
  rfl
 obtain ⟨a, cs, rfl, hL, hz, k, kE⟩ := h
 refine ⟨_, (pss_cons (ps_if (dt_cmp d_gt (pe_callB d_len rfl En.b_len PySem.boot_len (pa_cons (dv 0) pa_nil)) (En.c_Zq.pe rfl) (nomark _))
   (pss_one (ps_raise En.e_Zd rfl (pa_cons (d_str (l := [116, 104, 101, 114, 101, 32, 97, 114, 101, 32, 109, 111, 114, 101, 32, 116, 104, 97, 110, 32, 101, 105, 103, 104, 116, 32, 99, 108, 97, 105, 109, 115]) (by decide +kernel)) pa_nil)))
   pss_nil)
  (pss_one (ps_for PassesOwn.leaving rfl (pi_list (dv 0)) (pg_name (i := 1) sc_look_at_claims.nd rfl (Or.inl rfl))
   (pss_one (ps_if (dt_val (pe_callP G_less hr (by decide) rfl (pa_cons (dv 1) (pa_cons (En.c_Zp.pe rfl) pa_nil))))
   (pss_one (ps_raise En.e_Ze rfl (pa_cons (d_str (l := [97, 32, 99, 108, 97, 105, 109, 32, 105, 115, 32, 98, 101, 108, 111, 119, 32, 48]) (by decide +kernel)) pa_nil)))
   pss_nil))))), ?_⟩
 obtain ⟨vs, hs, hr, he⟩ := hL.sq
 refine ⟨_, .inl hs, ?_⟩
 refine br (fun c => ?_) (fun c => ?_)
 ·exact ⟨by decide, kE _ (by unfold dueC; rw [if_pos (by rw [hr.len] at c; omega)])⟩
 have h8 : ¬ 8 < cs.length := by rw [hr.len] at c; omega
 refine ⟨_, rfl, ⟨_, hs⟩, for_list (xs := vs) (fun i σ H1 => H1 = H ∧ (∃ z, σ = [some (.ref a), z]) ∧ ∀ x ∈ cs.take i, ¬ x < 0) ⟨rfl, ⟨_, rfl⟩, by simp⟩ (fun _ _ _ _ h => by rw [h.1]; exact hs) ?_ ?_⟩
 ·rintro i u σ H1 hu ⟨rfl, ⟨z, rfl⟩, hp⟩
  obtain ⟨x, hx, hv⟩ := hr.get hu
  have hxm := List.mem_of_getElem? hx
  refine ⟨u, _, x, 0, rfl, hv, rat0 En, hz x hxm, Sz.zero.mono (by decide), ?_⟩
  refine br (fun c => ?_) (fun c => ?_)
  ·refine ⟨by decide, kE _ ?_⟩
   unfold dueC
   rw [if_neg h8, if_pos (List.any_eq_true.mpr ⟨x, hxm, decide_eq_true c⟩)]
  ·refine ⟨rfl, ⟨_, rfl⟩, fun y hy => ?_⟩
   rw [List.take_add_one, hx] at hy
   rcases List.mem_append.mp hy with hy | hy
   ·exact hp y hy
   ·obtain rfl : y = x := by simpa using hy
    exact c
 ·rintro σ H1 ⟨rfl, ⟨z, rfl⟩, hp⟩
  rw [hr.len, List.take_length] at hp
  refine k ?_
  unfold dueC
  rw [if_neg h8, if_neg]
  intro z
  obtain ⟨y, hy, hyd⟩ := List.any_eq_true.mp z
  exact hp y hy (of_decide_eq_true hyd)
set_option maxHeartbeats 20000000 in
theorem cal_look_at (F : Has K mg "look_at" s_look_at ["claims", "estate"] f fd) (En : Env K mg Ad) (G_look_at_claims : CalE P w K mg base "look_at_claims" 2 ["claims"] (sp_lookC K Ad)) (G_less : CalE P w K mg base "less" 1 ["one", "other"] (sp_less K)) (G_total : CalE P w K mg base "total" 4 ["claims"] (sp_total K)) : CalE P w K mg base "look_at" 5 ["claims", "estate"] (sp_look K Ad) := by
 refine F.calE (F.fn.okE sc_look_at (fun vs H Q E h => ?_) (fun cdv A outer s H vs Q E hr h => ?_))
 ·obtain ⟨a, v, cs, e, k, D, rfl, hL, hv, hO, hk, q, qE⟩ := h
  rfl
 obtain ⟨a, v, cs, e, k, D, rfl, hL, hv, hO, hk, q, qE⟩ := h
 refine ⟨_, (pss_cons (ps_expr (pe_callP G_look_at_claims hr (by decide) rfl (pa_cons (dv 0) pa_nil)))
  (pss_cons (ps_if (dt_val (pe_callP G_less hr (by decide) rfl (pa_cons (dv 1) (pa_cons (En.c_Zp.pe rfl) pa_nil))))
   (pss_one (ps_raise En.e_Zf rfl (pa_cons (d_str (l := [116, 104, 101, 32, 101, 115, 116, 97, 116, 101, 32, 105, 115, 32, 98, 101, 108, 111, 119, 32, 48]) (by decide +kernel)) pa_nil)))
   pss_nil)
  (pss_one (ps_if (dt_val (pe_callP G_less hr (by decide) rfl (pa_cons (pe_callP G_total hr (by decide) rfl (pa_cons (dv 0) pa_nil)) (pa_cons (dv 1) pa_nil))))
   (pss_one (ps_raise En.e_Zf rfl (pa_cons (d_str (l := [116, 104, 101, 32, 101, 115, 116, 97, 116, 101, 32, 105, 115, 32, 109, 111, 114, 101, 32, 116, 104, 97, 110, 32, 116, 104, 101, 32, 116, 111, 116, 97, 108, 32, 111, 102, 32, 116, 104, 101, 32, 99, 108, 97, 105, 109, 115]) (by decide +kernel)) pa_nil)))
   pss_nil)))), ?_⟩
 have zc : ∀ c ∈ cs, Sz 9000 c := fun c hc => (hO.sz (m := 3001) (by omega) (List.mem_cons_of_mem _ hc)).mono (by decide)
 have ze : Sz 9000 e := (hO.sz (m := 3001) (by omega) List.mem_cons_self).mono (by decide)
 refine ⟨a, cs, rfl, hL, zc, fun hd => ?_, fun c hc => qE c (by unfold dueOf; rw [hc]) H (Same.refl _)⟩
 have h8 := (dueC_none hd).1
 refine ⟨v, _, e, 0, rfl, hv, rat0 En, ze, Sz.zero.mono (by decide), ?_⟩
 refine br (fun c => ?_) (fun c => ?_)
 ·refine ⟨by decide, qE _ ?_ H (Same.refl _)⟩
  unfold dueOf
  rw [hd]
  exact if_pos (.inl c)
 refine ⟨a, cs, k, D, rfl, hL, hO.sub (fun y hy => List.mem_cons_of_mem _ hy), hk, by omega, fun w H1 s1 hw => ?_⟩
 have zt := sz_part (hO.sub (fun y hy => List.mem_cons_of_mem _ hy)) hk (show cs.length ≤ 1100 by omega) cs.length
 rw [List.take_length] at zt
 refine ⟨w, v, _, e, rfl, hw, hv.same s1, zt.mono (by decide), ze, ?_⟩
 refine br (fun c2 => ?_) (fun c2 => ?_)
 ·refine ⟨by decide, qE _ ?_ H1 s1⟩
  unfold dueOf
  rw [hd]
  exact if_pos (.inr c2)
 ·refine q ?_ H1 s1
  unfold dueOf
  rw [hd]
  exact if_neg (by rintro (z | z); exact c z; exact c2 z)
set_option maxHeartbeats 20000000 in
theorem cal_lack (F : Has K mg "lack" s_lack ["claims", "estate"] f fd) (En : Env K mg Ad) (G_look_at : CalE P w K mg base "look_at" 5 ["claims", "estate"] (sp_look K Ad)) (G_minus : CalE P w K mg base "minus" 3 ["one", "other"] (sp_minus K)) (G_total : CalE P w K mg base "total" 4 ["claims"] (sp_total K)) : CalE P w K mg base "lack" 6 ["claims", "estate"] (sp_lack K Ad) := by
 refine F.calE (F.fn.okE sc_lack (fun vs H Q E h => ?_) (fun cdv A outer s H vs Q E hr h => ?_))
 ·obtain ⟨a, v, cs, e, k, D, rfl, hL, hv, hO, hk, q, qE⟩ := h
  rfl
 obtain ⟨a, v, cs, e, k, D, rfl, hL, hv, hO, hk, q, qE⟩ := h
 refine ⟨_, (pss_cons (ps_expr (pe_callP G_look_at hr (by decide) rfl (pa_cons (dv 0) (pa_cons (dv 1) pa_nil))))
  (pss_one (ps_ret (pe_callP G_minus hr (by decide) rfl (pa_cons (pe_callP G_total hr (by decide) rfl (pa_cons (dv 0) pa_nil)) (pa_cons (dv 1) pa_nil)))))), ?_⟩
 refine ⟨a, v, cs, e, k, D, rfl, hL, hv, hO, hk, fun hd H1 s1 => ?_, qE⟩
 have h8 := (due_none hd).1
 have hOc := hO.sub (ys := cs) (fun y hy => List.mem_cons_of_mem _ hy)
 refine ⟨a, cs, k, D, rfl, hL.same s1, hOc, hk, by omega, fun w H2 s2 hw => ?_⟩
 have zt := sz_part hOc hk (show cs.length ≤ 1100 by omega) cs.length
 rw [List.take_length] at zt
 refine ⟨w, v, _, e, 3012, 3001, rfl, hw, hv.same (s1.trans s2), zt, hO.sz (by omega) List.mem_cons_self, by decide, trivial, fun z H3 n => ?_⟩
 exact q hd _ H3 (s1.trans (s2.trans n.same)) (.new n)
set_option maxHeartbeats 20000000 in
theorem cal_claims_less (F : Has K mg "claims_less" s_claims_less ["claims", "parts"] f fd) (En : Env K mg Ad) (G_minus : CalE P w K mg base "minus" 3 ["one", "other"] (sp_minus K)) : CalE P w K mg base "claims_less" 4 ["claims", "parts"] (sp_cless K) := by
 refine F.calE (F.fn.okE sc_claims_less (fun vs H Q E h => ?_) (fun cdv A outer s H vs Q E hr h => ?_))
 ·obtain ⟨a, b, cs, ps, m, n, rfl, hA, hB, zc, zp, hmn, hlen, hl, q⟩ := h
  rfl
 obtain ⟨a, b, cs, ps, m, n, rfl, hA, hB, zc, zp, hmn, hlen, hl, q⟩ := h
 refine ⟨_, (pss_one (ps_ret (pe_comp2 (defScope s_claims_less) [] [] rfl (pi_zip rfl En.b_zip (pa_cons (dv 0) (pa_cons (dv 1) pa_nil))) (fun z => (pe_callN G_minus hr (by decide) rfl (pa_cons (dv 0) (pa_cons (dv 1) pa_nil))))))), ?_⟩
 obtain ⟨vs, hs, hr, he⟩ := hA.sq
 obtain ⟨ws, hs', hr', he'⟩ := hB.sq
 refine ⟨⟨_, hs⟩, ⟨_, hs'⟩, fun D H2 n2 => ?_⟩
 refine comp_zipR (· - ·) n2 hA hB (by omega) hl ?_ fun H3 s3 hL3 hf => q D H3 s3 hf hL3
 exact fun x hx y hy u v z H' s' hu hv R h => ⟨u, v, x, y, m, n, rfl, hu, hv, zc x hx, zp y hy, hmn, trivial, fun p H3 np => h _ H3 np.same (.new np)⟩
set_option maxHeartbeats 20000000 in
theorem cal_gain_level (F : Has K mg "gain_level" s_gain_level ["claims", "estate"] f fd) (En : Env K mg Ad) (G_look_at : CalE P w K mg base "look_at" 5 ["claims", "estate"] (sp_look K Ad)) (G_common_bottom : CalE P w K mg base "common_bottom" 2 ["ratios"] (sp_cbot K)) (G_tops_over : CalE P w K mg base "tops_over" 1 ["bottom", "ratios"] (sp_tops K)) (G_ratio : CalE P w K mg base "ratio" 2 ["top", "bottom"] (sp_ratio)) : CalE P w K mg base "gain_level" 6 ["claims", "estate"] (sp_gain K Ad) := by
 refine F.calE (F.fn.okE sc_gain_level (fun vs H Q E h => ?_) (fun cdv A outer s H vs Q E hr h => ?_))
 ·obtain ⟨a, v, cs, e, k, D, rfl, hL, hv, hO, hk, q, qE⟩ := h
  rfl
 obtain ⟨a, v, cs, e, k, D, rfl, hL, hv, hO, hk, q, qE⟩ := h
 refine ⟨_, (pss_cons (ps_expr (pe_callP G_look_at hr (by decide) rfl (pa_cons (dv 0) (pa_cons (dv 1) pa_nil))))
  (pss_cons (ps_set (i := 2) sc_gain_level.nd rfl (Or.inl rfl) (pe_callP G_common_bottom hr (by decide) rfl (pa_cons (pe_op d_cat (dv 0) (d_lst (pa_cons (dv 1) pa_nil))) pa_nil)))
  (pss_cons (ps_set (i := 3) sc_gain_level.nd rfl (Or.inl rfl) (pe_ix d_ixL (pe_callP G_tops_over hr (by decide) rfl (pa_cons (dv 2) (pa_cons (d_lst (pa_cons (dv 1) pa_nil)) pa_nil))) pe_int (fun _ _ => rfl)))
  (pss_cons (ps_set (i := 4) sc_gain_level.nd rfl (Or.inl rfl) (pe_callB d_len rfl En.b_len PySem.boot_len (pa_cons (dv 0) pa_nil)))
  (pss_cons (ps_for PassesOwn.leaving rfl (pi_list (pe_callB d_sorted rfl En.b_sorted PyProof.Rows.boot_sorted (pa_cons (pe_callP G_tops_over hr (by decide) rfl (pa_cons (dv 2) (pa_cons (dv 0) pa_nil))) pa_nil))) (pg_name (i := 5) sc_gain_level.nd rfl (Or.inl rfl))
   (pss_cons (ps_if (dt_cmp d_le (dv 3) (pe_op d_mul (dv 5) (dv 4)) (nomark _))
   (pss_one (ps_ret (pe_callP G_ratio hr (by decide) rfl (pa_cons (dv 3) (pa_cons (pe_op d_mul (dv 2) (dv 4)) pa_nil)))))
   pss_nil)
  (pss_cons (ps_set (i := 3) sc_gain_level.nd rfl (Or.inl rfl) (pe_op d_sub (dv 3) (dv 5)))
  (pss_one (ps_set (i := 4) sc_gain_level.nd rfl (Or.inl rfl) (pe_op d_sub (dv 4) pe_int))))))
  (pss_one (ps_ret (En.c_Zp.pe rfl)))))))), ?_⟩
 refine ⟨a, v, cs, e, k, D, rfl, hL, hv, hO, by omega, fun hd H1 s1 => ?_, qE⟩
 obtain ⟨h8, c0, e0, eT⟩ := due_none hd
 have hL1 := hL.same s1
 have hv1 := hv.same s1
 obtain ⟨vs, hs, hr, he⟩ := hL1.sq
 refine fun p1 H2 n2 => ?_
 refine ⟨vs, [v], n2.same _ _ he, n2.at_, (by rw [hr.len]; show cs.length + 1 ≤ 10000000; omega), fun p2 H3 n3 => ?_⟩
 have r2 : RatsV K H2 (vs ++ [v]) (cs ++ [e]) := (hr.ts n2.ts).snoc (hv1.same n2.same)
 refine ⟨p2, cs ++ [e], k, D, rfl, RatL.new n3 r2, hO.sub (fun y hy => ?_), by omega, fun B hB hBD hdv => ?_⟩
 ·rcases List.mem_append.mp hy with hy | hy
  ·exact List.mem_cons_of_mem _ hy
  ·obtain rfl : y = e := by simpa using hy
   exact List.mem_cons_self
 have b9 : Bd 9000 B := (dvd_bd hO.pos hBD hO.bd).mono (by omega)
 have s3 := s1.trans (n2.same.trans n3.same)
 refine fun p3 H4 n4 => ?_
 have s4 := s3.trans n4.same
 refine ⟨p3, [e], B, rfl, RatL.new n4 (RatsV.nil.snoc (hv.same s3)), hB, b9, fun x hx => hdv x (List.mem_append_right _ hx), fun x hx => ?_, (by show 1 ≤ 1000000; decide), fun l1 ts1 H5 n5 ht1 => ?_⟩
 ·obtain rfl : x = e := by simpa using hx
  exact (hO.sz (m := 2501) (by omega) List.mem_cons_self).mono (by decide)
 obtain ⟨t0, rfl, et0⟩ : ∃ t0 : Int, ts1 = [t0] ∧ (t0 : Rat) = e * (B : Rat) := by
  clear n5
  match ts1, ht1 with
  | [], ht1 => cases ht1
  | [t0], ht1 => exact ⟨t0, rfl, (List.cons.inj ht1).1⟩
  | _ :: _ :: _, ht1 => cases (List.cons.inj ht1).2
 have s5 := s4.trans n5.same
 refine ⟨_, _, SqL.of n5.at_, rfl, ?_⟩
 have hL5 := hL.same s5
 obtain ⟨vs5, hs5, hr5, he5⟩ := hL5.sq
 refine ⟨_, .inl hs5, ?_⟩
 refine ⟨a, cs, B, rfl, hL5, hB, b9, fun x hx => hdv x (List.mem_append_left _ hx), fun x hx => (hO.sz (m := 2501) (by omega) (List.mem_cons_of_mem _ hx)).mono (by decide), by omega, fun l2 tps H6 n6 ht2 => ?_⟩
 have htl : tps.length = cs.length := by have := congrArg List.length ht2; simpa using this
 refine ⟨tps, SqL.of n6.at_, by omega, fun l3 ts H7 hp hsrt n7 => ?_⟩
 have hlen : ts.length = cs.length := by rw [hp.length_eq, htl]
 have s7 := s5.trans (n6.same.trans n7.same)
 have tb : ∀ t ∈ ts, Bd 2501 t := by
  intro t ht
  have h1 : (t : Rat) ∈ cs.map (· * (B : Rat)) := by rw [← ht2]; exact List.mem_map_of_mem (hp.mem_iff.mp ht)
  obtain ⟨c, hc, ec⟩ := List.mem_map.mp h1
  have := Lr.top_bd hB hO.pos hBD (hO.ov c (List.mem_cons_of_mem _ hc)) ec.symm
  refine Bd.of_lt (Nat.lt_of_le_of_lt this ?_)
  exact Nat.pow_lt_pow_right (by decide) (by omega)
 have esum : ((ts.sum : Int) : Rat) = Lr.sm cs * (B : Rat) := by
  rw [← Lr.sm_int, Lr.sm_perm (hp.map _), ht2, Lr.sm_mul]
 have t0le : t0 ≤ ts.sum := by
  have h1 : (t0 : Rat) ≤ ((ts.sum : Int) : Rat) := by
   rw [et0, esum]
   exact Rat.mul_le_mul_of_nonneg_right eT (Rat.le_of_lt (Lr.rt_pos hB))
  exact_mod_cast h1
 refine ⟨_, rfl, ⟨_, SqL.of n7.at_⟩, for_list (xs := ts.map V.int) (fun i σ H8 => H8 = H7 ∧ ∃ (rest : Int) (z : Option V), σ = [some (.ref a), some v, some (.int B), some (.int rest), some (.int ((ts.length : Int) - i)), z] ∧ Lr.Lp ts t0 i rest)
  ⟨rfl, t0, none, (by show [some (V.ref a), some v, some (.int B), some (.int t0), some (.int (vs5.length : Int)), none] = _; rw [hr5.len, hlen, show ((cs.length : Int) - ((0 : Nat) : Int)) = cs.length by omega]), Lr.Lp.init⟩ (fun _ _ _ _ h => by rw [h.1]; exact SqL.of n7.at_) ?_ ?_⟩
 ·rintro i u σ H8 hu ⟨rfl, rest, z, rfl, lp⟩
  rw [List.getElem?_map] at hu
  obtain ⟨x, hx, rfl⟩ := Option.map_eq_some_iff.mp hu
  have hi := (List.getElem?_eq_some_iff.mp hx).1
  have hn8 : (ts.length : Int) - i ≤ 8 ∧ 0 < (ts.length : Int) - i := by omega
  have bn : Bd 9000 ((ts.length : Int) - i) := (Bd.of_lt (n := 4) (by omega)).mono (by decide)
  have bx := (tb x (List.mem_of_getElem? hx)).mono (show 2501 ≤ 9000 by decide)
  refine ⟨mm9 bx bn, ?_⟩
  refine br (fun c => ?_) (fun c => ?_)
  ·obtain ⟨r0, N0, G⟩ := Lr.Gain.of_tops hB hp ht2 et0 hsrt c0 e0 lp hx c
   refine ⟨mm9 b9 bn, _, _, rfl, Int.mul_ne_zero (by omega) (by omega), ?_, fun z H9 n9 => ?_⟩
   ·exact Bd.mul (m := 2500) (n := 4) ((dvd_bd hO.pos hBD hO.bd).mono (by omega)) (Bd.of_lt (n := 4) (by omega)) (by decide)
   ·exact q hd _ _ H9 (s7.trans n9.same) (.new n9) G (G.ov hO.pos (fun c hc => hO.ov c (List.mem_cons_of_mem _ hc)) (Lr.lvl_int hB hO.pos hBD (by omega) (by omega) rfl))
  ·refine ⟨rfl, rest - x, some (.int x), ?_, lp.next hsrt hx c⟩
   show [some (V.ref a), some v, some (.int B), some (.int (rest - x)), some (.int ((ts.length : Int) - i - 1)), _] = _
   rw [show (ts.length : Int) - i - 1 = (ts.length : Int) - (i + 1 : Nat) by omega]
 ·rintro σ H8 ⟨rfl, rest, z, rfl, lp⟩
  rw [List.length_map] at lp
  have ts0 := lp.end_ t0le
  have cs0 : cs = [] := by
   rw [ts0] at hlen
   exact List.length_eq_zero_iff.mp hlen.symm
  subst cs0
  have ez : e = 0 := by
   have h1 : Lr.sm [] = 0 := rfl
   rw [h1] at eT
   grind
  exact q hd _ _ H8 s7 (rat0 En) (Lr.Gain.none ez) (Lr.Ov.zero (by have := hO.pos; omega))
theorem ob_lack {k : Nat} {D : Int} {cs : List Rat} {e : Rat} (hO : Ob k D (e :: cs)) (h8 : cs.length ≤ 8) : Ob (k + 4) D ((Lr.sm cs - e) :: cs) := by
 have p4 : (2 : Nat) ^ (k + 4) = 16 * 2 ^ k := by rw [Nat.pow_add, Nat.mul_comm]
 refine ⟨hO.pos, hO.bd.mono (by omega), fun x hx => ?_⟩
 rcases List.mem_cons.mp hx with rfl | hx
 ·have h1 := Lr.Ov.sm hO.pos (M := 2 ^ k) (a := cs) fun x hx => hO.ov x (List.mem_cons_of_mem _ hx)
  have h2 := hO.ov e List.mem_cons_self
  refine (h1.sub hO.pos h2).mono ?_
  rw [p4]
  have : cs.length * 2 ^ k ≤ 8 * 2 ^ k := Nat.mul_le_mul_right _ h8
  omega
 ·exact (hO.ov x (List.mem_cons_of_mem _ hx)).mono (by rw [p4]; omega)
set_option maxHeartbeats 20000000 in
theorem cal_loss_level (F : Has K mg "loss_level" s_loss_level ["claims", "estate"] f fd) (En : Env K mg Ad) (G_gain_level : CalE P w K mg base "gain_level" 6 ["claims", "estate"] (sp_gain K Ad)) (G_lack : CalE P w K mg base "lack" 6 ["claims", "estate"] (sp_lack K Ad)) : CalE P w K mg base "loss_level" 7 ["claims", "estate"] (sp_loss K Ad) := by
 refine F.calE (F.fn.okE sc_loss_level (fun vs H Q E h => ?_) (fun cdv A outer s H vs Q E hr h => ?_))
 ·obtain ⟨a, v, cs, e, k, D, rfl, hL, hv, hO, hk, q, qE⟩ := h
  rfl
 obtain ⟨a, v, cs, e, k, D, rfl, hL, hv, hO, hk, q, qE⟩ := h
 refine ⟨_, (pss_one (ps_ret (pe_callP G_gain_level hr (by decide) rfl (pa_cons (dv 0) (pa_cons (pe_callP G_lack hr (by decide) rfl (pa_cons (dv 0) (pa_cons (dv 1) pa_nil))) pa_nil))))), ?_⟩
 refine ⟨a, v, cs, e, k, D, rfl, hL, hv, hO, by omega, fun hd w' H1 s1 hw => ?_, qE⟩
 obtain ⟨h8, c0, e0, eT⟩ := due_none hd
 have hd2 : dueOf Ad cs (Lr.sm cs - e) = none := due_good h8 c0 (by grind) (by grind)
 refine ⟨a, w', cs, _, k + 4, D, rfl, hL.same s1, hw, ob_lack hO h8, by omega, fun _ u g H2 s2 hu G hg => q hd u g H2 (s1.trans s2) hu G hg, fun c hc => ?_⟩
 rw [hd2] at hc
 cases hc
theorem ov840 {D : Int} (hD : 0 < D) {M : Nat} {x : Rat} (h : Lr.Ov D M x) : Lr.Ov (840 * D) (840 * M) x := by
 obtain ⟨n, rfl, hn⟩ := h
 refine ⟨840 * n, Lr.rt_of_mul (by omega) ?_, by omega⟩
 rw [Rat.intCast_mul, Rat.intCast_mul]
 have := Lr.rt_mul_self (n := n) hD
 grind
theorem ob840 {k m : Nat} {D : Int} {ps : List Rat} (hD : 0 < D) (hb : Bd k D) (hm : k ≤ m) (h : ∀ p ∈ ps, Lr.Ov (840 * D) (840 * 2 ^ m) p) : Ob (m + 10) (840 * D) ps := by
 refine ⟨by omega, Bd.mul (m := 10) (n := k) (Bd.of_lt (by decide)) hb (by omega), fun p hp => (h p hp).mono ?_⟩
 rw [Nat.pow_add, Nat.mul_comm]
 exact Nat.mul_le_mul_left _ (by decide)
theorem sz840 {k m : Nat} {D : Int} {x : Rat} (hD : 0 < D) (hb : Bd k D) (hm : k ≤ m) (h : Lr.Ov (840 * D) (840 * 2 ^ m) x) : Sz (m + 11) x := by
 have := ob840 (ps := [x]) hD hb hm (fun p hp => by rw [List.mem_singleton.mp hp]; exact h)
 exact this.sz (by omega) List.mem_cons_self
set_option maxHeartbeats 20000000 in
theorem cal_by_gains (F : Has K mg "by_gains" s_by_gains ["claims", "estate"] f fd) (En : Env K mg Ad) (G_gain_level : CalE P w K mg base "gain_level" 6 ["claims", "estate"] (sp_gain K Ad)) (G_lesser_of : CalE P w K mg base "lesser_of" 2 ["one", "other"] (sp_lesser K)) : CalE P w K mg base "by_gains" 7 ["claims", "estate"] (sp_gains K Ad) := by
 refine F.calE (F.fn.okE sc_by_gains (fun vs H Q E h => ?_) (fun cdv A outer s H vs Q E hr h => ?_))
 ·obtain ⟨a, v, cs, e, k, D, rfl, hL, hv, hO, hk, q, qE⟩ := h
  rfl
 obtain ⟨a, v, cs, e, k, D, rfl, hL, hv, hO, hk, q, qE⟩ := h
 refine ⟨_, (pss_cons (ps_set (i := 2) sc_by_gains.nd rfl (Or.inr rfl) (pe_callP G_gain_level hr (by decide) rfl (pa_cons (dv 0) (pa_cons (dv 1) pa_nil))))
  (pss_one (ps_ret (pe_comp (defScope s_by_gains) ["level"] [2] rfl (pi_list (dv 0)) (fun z => (pe_callN G_lesser_of hr (by decide) rfl (pa_cons (dv 0) (pa_cons (dv 1) pa_nil)))))))), ?_⟩
 refine ⟨a, v, cs, e, k, D, rfl, hL, hv, hO, by omega, fun hd w' g H1 s1 hw G hg => ?_, qE⟩
 have zg : Sz 9000 g := (sz840 hO.pos hO.bd (Nat.le_refl _) hg).mono (by omega)
 have h8 := (due_none hd).1
 have hL1 := hL.same s1
 obtain ⟨vs, hs, hr, he⟩ := hL1.sq
 refine ⟨_, rfl, ⟨_, hs⟩, fun D2 H2 n2 => ?_⟩
 refine comp_RR (fun c => Lr.mn c g) n2 hL1 (by omega) ?_ fun H3 s3 hL3 hf => ?_
 ·exact fun c hc u z H' s' hu R h => ⟨u, w', c, g, rfl, hu, hw.same s', (hO.sz (m := 2501) (by omega) (List.mem_cons_of_mem _ hc)).mono (by decide), zg, fun p hp => h p H' (Same.refl _) hp⟩
 ·refine q hd D2 _ H3 (s1.trans s3) (s1.free hf) hL3 ⟨g, G, rfl⟩ ?_
  refine ob840 hO.pos hO.bd (Nat.le_refl k) fun p hp => ?_
  obtain ⟨c, hc, rfl⟩ := List.mem_map.mp hp
  exact (ov840 hO.pos (hO.ov c (List.mem_cons_of_mem _ hc))).mn hg
theorem zip_map {f : Rat → Rat} {cs : List Rat} : List.zipWith (· - ·) cs (cs.map f) = cs.map fun c => c - f c := by
 induction cs with
 | nil => rfl
 | cons c r ih => rw [List.map_cons, List.zipWith_cons_cons, ih, List.map_cons]
set_option maxHeartbeats 20000000 in
theorem cal_by_losses (F : Has K mg "by_losses" s_by_losses ["claims", "estate"] f fd) (En : Env K mg Ad) (G_loss_level : CalE P w K mg base "loss_level" 7 ["claims", "estate"] (sp_loss K Ad)) (G_claims_less : CalE P w K mg base "claims_less" 4 ["claims", "parts"] (sp_cless K)) (G_lesser_of : CalE P w K mg base "lesser_of" 2 ["one", "other"] (sp_lesser K)) : CalE P w K mg base "by_losses" 8 ["claims", "estate"] (sp_losses K Ad) := by
 refine F.calE (F.fn.okE sc_by_losses (fun vs H Q E h => ?_) (fun cdv A outer s H vs Q E hr h => ?_))
 ·obtain ⟨a, v, cs, e, k, D, rfl, hL, hv, hO, hk, q, qE⟩ := h
  rfl
 obtain ⟨a, v, cs, e, k, D, rfl, hL, hv, hO, hk, q, qE⟩ := h
 refine ⟨_, (pss_cons (ps_set (i := 2) sc_by_losses.nd rfl (Or.inr rfl) (pe_callP G_loss_level hr (by decide) rfl (pa_cons (dv 0) (pa_cons (dv 1) pa_nil))))
  (pss_one (ps_ret (pe_callP G_claims_less hr (by decide) rfl (pa_cons (dv 0) (pa_cons (pe_comp (defScope s_by_losses) ["level"] [2] rfl (pi_list (dv 0)) (fun z => (pe_callN G_lesser_of hr (by decide) rfl (pa_cons (dv 0) (pa_cons (dv 1) pa_nil))))) pa_nil)))))), ?_⟩
 refine ⟨a, v, cs, e, k, D, rfl, hL, hv, hO, by omega, fun hd w' g H1 s1 hw G hg => ?_, qE⟩
 have zg : Sz 9000 g := (sz840 hO.pos hO.bd (by omega) hg).mono (by omega)
 have h8 := (due_none hd).1
 have hL1 := hL.same s1
 obtain ⟨vs, hs, hr, he⟩ := hL1.sq
 have pov : ∀ p ∈ cs.map (fun c => Lr.mn c g), Lr.Ov (840 * D) (840 * 2 ^ (k + 4)) p := by
  intro p hp
  obtain ⟨c, hc, rfl⟩ := List.mem_map.mp hp
  exact ((ov840 hO.pos (hO.ov c (List.mem_cons_of_mem _ hc))).mono (Nat.mul_le_mul_left _ (Nat.pow_le_pow_right (by decide) (by omega)))).mn hg
 refine ⟨_, rfl, ⟨_, hs⟩, fun D2 H2 n2 => ?_⟩
 refine comp_RR (fun c => Lr.mn c g) n2 hL1 (by omega) ?_ fun H3 s3 hL3 hf => ?_
 ·exact fun c hc u z H' s' hu R h => ⟨u, w', c, g, rfl, hu, hw.same s', (hO.sz (m := 2501) (by omega) (List.mem_cons_of_mem _ hc)).mono (by decide), zg, fun p hp => h p H' (Same.refl _) hp⟩
 refine ⟨a, D2, cs, _, 2501, 2501, rfl, hL1.same s3, hL3, fun c hc => hO.sz (by omega) (List.mem_cons_of_mem _ hc), fun p hp => (sz840 hO.pos hO.bd (by omega) (pov p hp)).mono (by omega), by decide, by omega, by simp, fun l H4 s4 hf4 hL4 => ?_⟩
 rw [zip_map] at hL4
 refine q hd l _ H4 (s1.trans (s3.trans s4)) ((s1.trans s3).free hf4) hL4 ⟨g, G, rfl⟩ ⟨840 * D, ?_⟩
 refine (ob840 (m := k + 5) hO.pos hO.bd (by omega) fun p hp => ?_).mono (by omega)
 obtain ⟨c, hc, rfl⟩ := List.mem_map.mp hp
 have h1 := ov840 hO.pos (hO.ov c (List.mem_cons_of_mem _ hc))
 have h2 := pov _ (List.mem_map_of_mem hc)
 refine (h1.sub (by have := hO.pos; omega) h2).mono ?_
 have e5 : (2 : Nat) ^ (k + 5) = 2 * 2 ^ (k + 4) := by rw [Nat.pow_succ, Nat.mul_comm]
 have e4 : (2 : Nat) ^ k ≤ 2 ^ (k + 4) := Nat.pow_le_pow_right (by decide) (by omega)
 rw [e5]
 omega
set_option maxHeartbeats 20000000 in
theorem cal_in_shares (F : Has K mg "in_shares" s_in_shares ["claims", "estate"] f fd) (En : Env K mg Ad) (G_look_at : CalE P w K mg base "look_at" 5 ["claims", "estate"] (sp_look K Ad)) (G_total : CalE P w K mg base "total" 4 ["claims"] (sp_total K)) (G_over : CalE P w K mg base "over" 3 ["one", "other"] (sp_over K)) (G_times : CalE P w K mg base "times" 3 ["one", "other"] (sp_times K)) : CalE P w K mg base "in_shares" 6 ["claims", "estate"] (sp_shares K Ad) := by
 refine F.calE (F.fn.okE sc_in_shares (fun vs H Q E h => ?_) (fun cdv A outer s H vs Q E hr h => ?_))
 ·obtain ⟨a, v, cs, e, k, D, rfl, hL, hv, hO, hk, q, qE⟩ := h
  rfl
 obtain ⟨a, v, cs, e, k, D, rfl, hL, hv, hO, hk, q, qE⟩ := h
 refine ⟨_, (pss_cons (ps_expr (pe_callP G_look_at hr (by decide) rfl (pa_cons (dv 0) (pa_cons (dv 1) pa_nil))))
  (pss_cons (ps_set (i := 2) sc_in_shares.nd rfl (Or.inl rfl) (pe_callP G_total hr (by decide) rfl (pa_cons (dv 0) pa_nil)))
  (pss_cons (ps_if (dt_cmp (d_eqR hr.units0) (dv 2) (En.c_Zp.pe rfl) (nomark _))
   (pss_one (ps_ret (pe_comp (defScope s_in_shares) [] [] rfl (pi_list (dv 0)) (fun z => (En.c_Zp.pe rfl)))))
   pss_nil)
  (pss_cons (ps_set (i := 3) sc_in_shares.nd rfl (Or.inr rfl) (pe_callP G_over hr (by decide) rfl (pa_cons (dv 1) (pa_cons (dv 2) pa_nil))))
  (pss_one (ps_ret (pe_comp (defScope s_in_shares) ["share"] [3] rfl (pi_list (dv 0)) (fun z => (pe_callN G_times hr (by decide) rfl (pa_cons (dv 0) (pa_cons (dv 1) pa_nil))))))))))), ?_⟩
 refine ⟨a, v, cs, e, k, D, rfl, hL, hv, hO, by omega, fun hd H1 s1 => ?_, qE⟩
 obtain ⟨h8, c0, e0, eT⟩ := due_none hd
 have hOc := hO.sub (ys := cs) (fun y hy => List.mem_cons_of_mem _ hy)
 have zt := sz_part hOc (show k ≤ 3000 by omega) (show cs.length ≤ 1100 by omega) cs.length
 rw [List.take_length] at zt
 refine ⟨a, cs, k, D, rfl, hL.same s1, hOc, by omega, by omega, fun t H2 s2 ht => ?_⟩
 have s2' := s1.trans s2
 have hL2 := hL.same s2'
 obtain ⟨vs, hs, hr, he⟩ := hL2.sq
 refine ⟨_, 0, ht, rat0 En, ?_⟩
 refine br (fun c => ?_) (fun c => ?_)
 ·refine ⟨_, rfl, ⟨_, hs⟩, fun D2 H3 n3 => ?_⟩
  refine comp_RR (fun _ => 0) n3 hL2 (by omega) ?_ fun H4 s4 hL4 hf => ?_
  ·exact fun c hc u z H' s' hu R h => h _ H' (Same.refl _) (rat0 En)
  ·refine q hd D2 _ H4 (s2'.trans s4) (s2'.free hf) hL4 ?_ ⟨D, hO.pos, hO.bd.mono (by omega), fun p hp => ?_⟩
   ·unfold Shares
    simp only [if_pos c]
   ·obtain ⟨c, _, rfl⟩ := List.mem_map.mp hp
    exact Lr.Ov.zero hO.pos
 ·have ze : Sz 2401 e := hO.sz (by omega) List.mem_cons_self
  refine ⟨v, t, e, _, 2401, 3012, rfl, hv.same s2', ht, ze, zt, by decide, c, fun w' H3 n3 => ?_⟩
  have zs : Sz 5413 (e / Lr.sm cs) := ze.div zt c
  have hL3 := hL2.same n3.same
  obtain ⟨vs3, hs3, hr3, he3⟩ := hL3.sq
  refine ⟨_, rfl, ⟨_, hs3⟩, fun D2 H4 n4 => ?_⟩
  refine comp_RR (fun c => c * (e / Lr.sm cs)) n4 hL3 (by omega) ?_ fun H5 s5 hL5 hf => ?_
  ·exact fun c hc u z H' s' hu R h => ⟨u, .ref w', c, _, 2401, 5413, rfl, hu, (RatV.new n3).same s', hO.sz (by omega) (List.mem_cons_of_mem _ hc), zs, by decide, trivial, fun p H6 n6 => h _ H6 n6.same (.new n6)⟩
  ·have s5' := s2'.trans (n3.same.trans s5)
   obtain ⟨nT, eT', bT⟩ := Lr.Ov.sm hO.pos (M := 2 ^ k) (a := cs) fun x hx => hO.ov x (List.mem_cons_of_mem _ hx)
   have hT0 : 0 ≤ Lr.sm cs := Lr.sm_nonneg c0
   have nT0 : 0 < nT := by
    have h1 : 0 ≤ nT := by rw [eT'] at hT0; exact (Lr.rt_nonneg hO.pos).mp hT0
    rcases Int.lt_or_eq_of_le h1 with h | h
    ·exact h
    ·exfalso
     rw [eT', ← h, Lr.rt_zero hO.pos] at c
     exact c rfl
   refine q hd D2 _ H5 s5' (s2'.free (n3.same.free hf)) hL5 ?_ ⟨D * nT, Int.mul_pos hO.pos nT0, Bd.mul (m := k) (n := k + 4) hO.bd (Bd.of_lt (Nat.lt_of_le_of_lt bT ?_)) (by omega), fun p hp => ?_⟩
   ·unfold Shares
    simp only [if_neg c]
   ·have h1 : cs.length * 2 ^ k ≤ 8 * 2 ^ k := Nat.mul_le_mul_right _ h8
    have p4 : (2 : Nat) ^ (k + 4) = 16 * 2 ^ k := by rw [Nat.pow_add, Nat.mul_comm]
    have p0 : 0 < (2 : Nat) ^ k := Nat.pow_pos (by decide)
    omega
   ·obtain ⟨x, hx, rfl⟩ := List.mem_map.mp hp
    obtain ⟨nx, ex, bx⟩ := hO.ov x (List.mem_cons_of_mem _ hx)
    obtain ⟨ne, ee, be⟩ := hO.ov e List.mem_cons_self
    refine ⟨nx * ne, Lr.rt_of_mul (Int.mul_pos hO.pos nT0) ?_, ?_⟩
    ·have hDr := Lr.rt_pos hO.pos
     have hNr := Lr.rt_pos nT0
     have x1 : x * (D : Rat) = (nx : Rat) := by rw [ex]; exact Lr.rt_mul_self hO.pos
     have e1 : e * (D : Rat) = (ne : Rat) := by rw [ee]; exact Lr.rt_mul_self hO.pos
     have t1 : Lr.sm cs * (D : Rat) = (nT : Rat) := by rw [eT']; exact Lr.rt_mul_self hO.pos
     rw [Rat.intCast_mul, Rat.intCast_mul, ← x1, ← e1, ← t1]
     generalize Lr.sm cs = T at c
     grind
    ·rw [Int.natAbs_mul]
     refine Nat.le_trans (Nat.mul_le_mul bx be) ?_
     rw [← Nat.pow_add]
     exact Nat.pow_le_pow_right (by decide) (by omega)
theorem half_num : (Lr.rt 1 2).num = 1 := by decide +kernel
theorem half_den : (((Lr.rt 1 2).den : Nat) : Int) = 2 := by decide +kernel
theorem half_eq : Lr.rt 1 2 = 1 / 2 := by rw [Lr.rt_eq]; rfl
theorem ov_half {D : Int} (hD : 0 < D) {M : Nat} {x : Rat} (h : Lr.Ov D M x) : Lr.Ov (2 * D) M (x * Lr.rt 1 2) := by
 obtain ⟨n, rfl, hn⟩ := h
 refine ⟨n, Lr.rt_of_mul (by omega) ?_, hn⟩
 have := Lr.rt_mul_self (n := n) hD
 rw [half_eq, Rat.intCast_mul, ← this]
 show Lr.rt n D * (1 / 2) * (2 * (D : Rat)) = _
 grind
theorem ov_two {D : Int} (hD : 0 < D) {M : Nat} {x : Rat} (h : Lr.Ov D M x) : Lr.Ov (2 * D) (2 * M) x := by
 obtain ⟨n, rfl, hn⟩ := h
 refine ⟨2 * n, Lr.rt_of_mul (by omega) ?_, by omega⟩
 have := Lr.rt_mul_self (n := n) hD
 rw [Rat.intCast_mul, Rat.intCast_mul]
 show Lr.rt n D * (2 * (D : Rat)) = 2 * (n : Rat)
 grind
theorem ob_half {k : Nat} {D : Int} {cs : List Rat} {e : Rat} (hO : Ob k D (e :: cs)) : Ob (k + 1) (2 * D) (e :: cs.map (· * Lr.rt 1 2)) := by
 have p1 : (2 : Nat) ^ (k + 1) = 2 * 2 ^ k := by rw [Nat.pow_succ, Nat.mul_comm]
 refine ⟨by have := hO.pos; omega, ?_, fun x hx => ?_⟩
 ·have h1 := hO.bd
  have h2 : (D.natAbs) < 2 ^ k := intBits_le_iff.mp h1
  exact Bd.of_lt (by omega)
 ·rcases List.mem_cons.mp hx with rfl | hx
  ·exact (ov_two hO.pos (hO.ov _ List.mem_cons_self)).mono (by omega)
  ·obtain ⟨c, hc, rfl⟩ := List.mem_map.mp hx
   exact (ov_half hO.pos (hO.ov c (List.mem_cons_of_mem _ hc))).mono (by omega)
theorem sm_half {cs : List Rat} : Lr.sm (cs.map (· * Lr.rt 1 2)) = Lr.sm cs * Lr.rt 1 2 := Lr.sm_mul _ _
set_option maxHeartbeats 20000000 in
theorem cal_by_halves (F : Has K mg "by_halves" s_by_halves ["claims", "estate"] f fd) (En : Env K mg Ad) (G_lack : CalE P w K mg base "lack" 6 ["claims", "estate"] (sp_lack K Ad)) (G_claims_less : CalE P w K mg base "claims_less" 4 ["claims", "parts"] (sp_cless K)) (G_times : CalE P w K mg base "times" 3 ["one", "other"] (sp_times K)) (G_less : CalE P w K mg base "less" 1 ["one", "other"] (sp_less K)) (G_by_gains : CalE P w K mg base "by_gains" 7 ["claims", "estate"] (sp_gains K Ad)) : CalE P w K mg base "by_halves" 8 ["claims", "estate"] (sp_halves K Ad) := by
 refine F.calE (F.fn.okE sc_by_halves (fun vs H Q E h => ?_) (fun cdv A outer s H vs Q E hr h => ?_))
 ·obtain ⟨a, v, cs, e, k, D, rfl, hL, hv, hO, hk, q, qE⟩ := h
  rfl
 obtain ⟨a, v, cs, e, k, D, rfl, hL, hv, hO, hk, q, qE⟩ := h
 refine ⟨_, (pss_cons (ps_set (i := 2) sc_by_halves.nd rfl (Or.inl rfl) (pe_callP G_lack hr (by decide) rfl (pa_cons (dv 0) (pa_cons (dv 1) pa_nil))))
  (pss_cons (ps_setComp (k := 3) (defScope s_by_halves) [] [] sc_by_halves.nd rfl (Or.inl rfl) rfl (pi_list (dv 0)) (fun z => (pe_callN G_times hr (by decide) rfl (pa_cons (dv 0) (pa_cons (En.c_Zr.pe rfl) pa_nil)))))
  (pss_cons (ps_if (pt_not (dt_val (pe_callP G_less hr (by decide) rfl (pa_cons (dv 2) (pa_cons (dv 1) pa_nil)))))
   (pss_one (ps_ret (pe_callP G_by_gains hr (by decide) rfl (pa_cons (dv 3) (pa_cons (dv 1) pa_nil)))))
   pss_nil)
  (pss_one (ps_ret (pe_callP G_claims_less hr (by decide) rfl (pa_cons (dv 0) (pa_cons (pe_callP G_by_gains hr (by decide) rfl (pa_cons (dv 3) (pa_cons (dv 2) pa_nil))) pa_nil)))))))), ?_⟩
 refine ⟨a, v, cs, e, k, D, rfl, hL, hv, hO, by omega, fun hd w' H1 s1 hw => ?_, qE⟩
 obtain ⟨h8, c0, e0, eT⟩ := due_none hd
 have hL1 := hL.same s1
 obtain ⟨vs, hs, hr, he⟩ := hL1.sq
 have zh : Sz 2 (Lr.rt 1 2) := ⟨by rw [half_num]; exact Bd.of_lt (by decide), by rw [half_den]; exact Bd.of_lt (by decide)⟩
 refine ⟨_, rfl, ⟨_, hs⟩, fun D2 H2 n2 => ?_⟩
 refine comp_RR (fun c => c * Lr.rt 1 2) n2 hL1 (by omega) ?_ fun H3 s3 hL3 hf => ?_
 ·exact fun c hc u z H' s' hu R h => ⟨u, _, c, Lr.rt 1 2, 2501, 2, rfl, hu, RatV.k En.k_Zr half_num half_den, hO.sz (by omega) (List.mem_cons_of_mem _ hc), zh, by decide, trivial, fun p H6 n6 => h _ H6 n6.same (.new n6)⟩
 have s3' := s1.trans s3
 have hOl := ob_lack hO h8
 have zl : Sz 9000 (Lr.sm cs - e) := (hOl.sz (m := 2510) (by omega) List.mem_cons_self).mono (by decide)
 have ze : Sz 9000 e := (hO.sz (m := 2510) (by omega) List.mem_cons_self).mono (by decide)
 have h0 : ∀ c ∈ cs.map (· * Lr.rt 1 2), 0 ≤ c := by
  intro c hc
  obtain ⟨x, hx, rfl⟩ := List.mem_map.mp hc
  have := c0 x hx
  show 0 ≤ x * Lr.rt 1 2
  rw [half_eq]
  grind
 refine ⟨w', v, _, e, rfl, hw.same s3, hv.same s3', zl, ze, ?_⟩
 refine brN (fun c => ?_) (fun c => ?_)
 ·have hd2 : dueOf Ad (cs.map (· * Lr.rt 1 2)) e = none := due_good (by simpa using h8) h0 e0 (by rw [sm_half, half_eq]; grind)
  refine ⟨D2, v, _, e, k + 1, 2 * D, rfl, hL3, hv.same s3', ob_half hO, by omega, fun _ l ps H4 s4 hf4 hL4 ⟨g, G, eps⟩ hO' => ?_, fun c hc => by rw [hd2] at hc; cases hc⟩
  rw [List.map_map] at eps
  exact q hd l ps H4 (s3'.trans s4) (s3'.free hf4) hL4 (.inl ⟨by grind, g, G, eps⟩) ⟨_, hO'.mono (by omega)⟩
 ·have hd2 : dueOf Ad (cs.map (· * Lr.rt 1 2)) (Lr.sm cs - e) = none := due_good (by simpa using h8) h0 (by grind) (by rw [sm_half, half_eq]; grind)
  refine ⟨D2, w', _, _, k + 5, 2 * D, rfl, hL3, hw.same s3, ob_half hOl, by omega, fun _ l ps H4 s4 hf4 hL4 ⟨g, G, eps⟩ hO' => ?_, fun c hc => by rw [hd2] at hc; cases hc⟩
  rw [List.map_map] at eps
  refine ⟨a, l, cs, ps, 2501, 6000, rfl, hL.same (s3'.trans s4), hL4, fun c hc => hO.sz (by omega) (List.mem_cons_of_mem _ hc), fun p hp => hO'.sz (by omega) hp, by decide, by omega, by rw [eps]; simp, fun l2 H5 s5 hf5 hL5 => ?_⟩
  have hO2 : Ob (k + 17) (840 * (2 * D)) (cs.map fun c => c - Lr.mn (c * Lr.rt 1 2) g) := by
   refine ⟨hO'.pos, hO'.bd.mono (by omega), fun p hp => ?_⟩
   obtain ⟨c, hc, rfl⟩ := List.mem_map.mp hp
   have h1 := ov840 (by have := hO.pos; omega) (ov_two hO.pos (hO.ov c (List.mem_cons_of_mem _ hc)))
   have h2 := hO'.ov (Lr.mn (c * Lr.rt 1 2) g) (by rw [eps]; exact List.mem_map_of_mem (f := (fun x => Lr.mn x g) ∘ fun x => x * Lr.rt 1 2) hc)
   refine (h1.sub hO'.pos h2).mono ?_
   have e1 : (2 : Nat) ^ (k + 17) = 131072 * 2 ^ k := by rw [Nat.pow_add, Nat.mul_comm]
   have e2 : (2 : Nat) ^ (k + 5 + 10) = 32768 * 2 ^ k := by rw [Nat.add_assoc, Nat.pow_add, Nat.mul_comm]
   rw [e1, e2]
   omega
  rw [eps, zip_map] at hL5
  exact q hd l2 _ H5 (s3'.trans (s4.trans s5)) ((s3'.trans s4).free hf5) hL5 (.inr ⟨by grind, g, G, rfl⟩) ⟨_, hO2.mono (by omega)⟩
theorem fact_bd {n : Nat} (h : n ≤ 100) : Bd 9000 (Lr.fact n : Int) := by
 have : ∀ m, m ≤ 100 → Lr.fact m ≤ 2 ^ (8 * m) := fun m => by
  induction m with
  | zero => intro _; exact Nat.le_refl _
  | succ m ih =>
   intro hm
   show (m + 1) * Lr.fact m ≤ 2 ^ (8 * (m + 1))
   rw [Nat.mul_add, Nat.mul_one, Nat.pow_add, Nat.mul_comm]
   exact Nat.mul_le_mul (ih (by omega)) (by omega)
 refine Bd.of_lt ?_
 have h1 := this n h
 have h2 : (2 : Nat) ^ (8 * n) < 2 ^ 9000 := Nat.pow_lt_pow_right (by decide) (by omega)
 omega
set_option maxHeartbeats 20000000 in
theorem cal_number_of_orders (F : Has K mg "number_of_orders" s_number_of_orders ["count"] f fd) (En : Env K mg Ad) : CalE P w K mg base "number_of_orders" 1 ["count"] (sp_fact) := by
 refine F.calE (F.fn.okE sc_number_of_orders (fun vs H Q E h => ?_) (fun cdv A outer s H vs Q E hr h => ?_))
 ·obtain ⟨n, rfl, hn, k⟩ := h
  rfl
 obtain ⟨n, rfl, hn, k⟩ := h
 refine ⟨_, (pss_cons (ps_set (i := 1) sc_number_of_orders.nd rfl (Or.inl rfl) pe_int)
  (pss_cons (ps_for PassesOwn.leaving rfl (pi_range2 rfl En.b_range (pa_cons pe_int (pa_cons (pe_op d_add (dv 0) pe_int) pa_nil))) (pg_name (i := 2) sc_number_of_orders.nd rfl (Or.inl rfl))
   (pss_one (ps_set (i := 1) sc_number_of_orders.nd rfl (Or.inl rfl) (pe_op d_mul (dv 1) (dv 2)))))
  (pss_one (ps_ret (dv 1))))), ?_⟩
 refine ⟨_, _, rfl, ⟨by decide, by decide, by omega, by omega⟩, ?_⟩
 refine for_range (fun i σ H1 => H1 = H ∧ i ≤ 100 ∧ ∃ z, σ = [some (.int (n : Int)), some (.int (Lr.fact (i + 1) : Int)), z]) ⟨rfl, by decide, _, rfl⟩ ?_ ?_
 ·rintro i σ H1 hi ⟨rfl, hi1, z, rfl⟩
  have hi2 : i + 2 ≤ 100 := by omega
  refine ⟨mm9 (fact_bd (by omega)) ((Bd.of_lt (n := 20) (by omega)).mono (by decide)), rfl, by omega, some (.int (2 + (i : Int))), ?_⟩
  have e : (Lr.fact (i + 1 + 1) : Int) = (Lr.fact (i + 1) : Int) * (2 + (i : Int)) := by
   show (((i + 1 + 1) * Lr.fact (i + 1) : Nat) : Int) = _
   push_cast
   rw [Int.mul_comm]
   congr 1
   omega
  show [some (V.int (n : Int)), some (V.int ((Lr.fact (i + 1) : Int) * (2 + (i : Int)))), some (V.int (2 + (i : Int)))] = _
  rw [e]
 ·rintro σ H1 ⟨rfl, hi1, z, rfl⟩
  have e : Lr.fact (((n : Int) + 1 - 2).toNat + 1) = Lr.fact n := by
   cases n with
   | zero => rfl
   | succ m =>
    have : (((m + 1 : Nat) : Int) + 1 - 2).toNat = m := by omega
    rw [this]
  show Q (.int (Lr.fact (((n : Int) + 1 - 2).toNat + 1) : Int)) _
  rw [e]
  exact k
set_option maxHeartbeats 20000000 in
theorem cal_groups_of (F : Has K mg "groups_of" s_groups_of ["claims"] f fd) (En : Env K mg Ad) : CalE P w K mg base "groups_of" 1 ["claims"] (sp_groups K) := by
 refine F.calE (F.fn.okE sc_groups_of (fun vs H Q E h => ?_) (fun cdv A outer s H vs Q E hr h => ?_))
 ·obtain ⟨a, ts, rfl, hS, h8, k⟩ := h
  rfl
 obtain ⟨a, ts, rfl, hS, h8, k⟩ := h
 refine ⟨_, (pss_cons (ps_set (i := 1) sc_groups_of.nd rfl (Or.inl rfl) (d_lst (pa_cons (d_tup (pa_cons pe_int (pa_cons pe_int pa_nil))) pa_nil)))
  (pss_cons (ps_for PassesOwn.leaving rfl (pi_list (dv 0)) (pg_name (i := 2) sc_groups_of.nd rfl (Or.inr rfl))
   (pss_one (ps_set (i := 1) sc_groups_of.nd rfl (Or.inl rfl) (pe_op d_cat (dv 1) (pe_comp2 (defScope s_groups_of) ["claim"] [2] rfl (pi_list (dv 1)) (fun z => (d_tup (pa_cons (pe_op d_add (dv 0) (dv 2)) (pa_cons (pe_op d_add (dv 1) pe_int) pa_nil)))))))))
  (pss_one (ps_ret (dv 1))))), ?_⟩
 refine fun z0 H1 n1 => fun l0 H2 n2 => ?_
 have hg0 : PairL K H2 l0 (Lr.grp []) := ⟨_, n2.at_, .one ⟨z0, rfl, n2.same _ _ n1.at_⟩⟩
 have s2 := n1.same.trans n2.same
 refine ⟨_, rfl, ⟨_, s2.seq hS⟩, for_list (xs := ts.map V.int) (fun i σ H3 => Same H H3 ∧ ∃ (l : Addr) (z : Option V), σ = [some (.ref a), some (.ref l), z] ∧ PairL K H3 l (Lr.grp (ts.take i))) ⟨s2, l0, _, rfl, hg0⟩ (fun _ _ _ _ h => h.1.seq hS) ?_ ?_⟩
 ·rintro i u σ H3 hu ⟨s3, l, z, rfl, vs, he, hr⟩
  rw [List.getElem?_map] at hu
  obtain ⟨c, hc, rfl⟩ := Option.map_eq_some_iff.mp hu
  have hi : i < 8 := by have := (List.getElem?_eq_some_iff.mp hc).1; omega
  have hgl : (Lr.grp (ts.take i)).length ≤ 256 := by
   rw [Lr.grp_len]
   show 2 ^ (ts.take i).length ≤ 2 ^ 8
   exact Nat.pow_le_pow_right (by decide) (by rw [List.length_take]; omega)
  refine ⟨_, rfl, ⟨_, SqL.of he⟩, fun D H4 n4 => ?_⟩
  refine comp_PP (fun p => (p.1 + c, p.2 + 1)) n4 he hr (by omega) ?_ fun H5 ws s5 hf5 hD5 hr5 => ?_
  ·exact fun p hp z H' s' R h => fun q H6 n6 => h q H6 n6
  refine ⟨vs, ws, s5 _ _ he, hD5, (by rw [hr.len, hr5.len, List.length_map]; omega), fun p H6 n6 => ?_⟩
  refine ⟨s3.trans (s5.trans n6.same), p, _, rfl, _, n6.at_, ?_⟩
  rw [List.take_add_one, hc]
  show PasV K H6 (vs ++ ws) (Lr.grp (ts.take i ++ [c]))
  rw [Lr.grp_snoc]
  exact ((hr.ts s5.ts).app hr5).ts n6.ts
 ·rintro σ H3 ⟨s3, l, z, rfl, hg⟩
  rw [List.length_map, List.take_length] at hg
  exact k l H3 s3 hg
theorem atR {f : Nat → Int} {m j : Nat} (h : j < m) : atI (((List.range m).map f).map V.int) (j : Int) = some (.int (f j)) := atI_nat (by rw [List.getElem?_map, List.getElem?_map, List.getElem?_range h]; rfl)
set_option maxHeartbeats 20000000 in
theorem cal_taken_in_all_orders (F : Has K mg "taken_in_all_orders" s_taken_in_all_orders ["claim", "others", "estate"] f fd) (En : Env K mg Ad) (G_number_of_orders : CalE P w K mg base "number_of_orders" 1 ["count"] (sp_fact)) (G_groups_of : CalE P w K mg base "groups_of" 1 ["claims"] (sp_groups K)) : CalE P w K mg base "taken_in_all_orders" 2 ["claim", "others", "estate"] (sp_tia K) := by
 refine F.calE (F.fn.okE sc_taken_in_all_orders (fun vs H Q E h => ?_) (fun cdv A outer s H vs Q E hr h => ?_))
 ·obtain ⟨c, a, ts, e, rfl, hS, h7, hb, hc, k⟩ := h
  rfl
 obtain ⟨c, a, ts, e, rfl, hS, h7, hb, hc, k⟩ := h
 refine ⟨_, (pss_cons (ps_set (i := 3) sc_taken_in_all_orders.nd rfl (Or.inr rfl) (pe_comp (defScope s_taken_in_all_orders) ["others"] [1] rfl (pi_range1 rfl En.b_range (pa_cons (pe_op d_add (pe_callB d_len rfl En.b_len PySem.boot_len (pa_cons (dv 1) pa_nil)) pe_int) pa_nil)) (fun z => (pe_op d_mul (pe_callN G_number_of_orders hr (by decide) rfl (pa_cons (dv 0) pa_nil)) (pe_callN G_number_of_orders hr (by decide) rfl (pa_cons (pe_op d_sub (pe_callB d_len rfl En.b_len PySem.boot_len (pa_cons (dv 1) pa_nil)) (dv 0)) pa_nil))))))
  (pss_one (ps_ret (pe_callB (d_sum rfl) rfl En.b_sum PyProof.Rows.boot_sum (pa_cons (pe_comp2 (defScope s_taken_in_all_orders) ["times_counted", "claim", "estate"] [3, 0, 2] rfl (pi_list (pe_callP G_groups_of hr (by decide) rfl (pa_cons (dv 1) pa_nil))) (fun z => (pe_op d_mul (pe_ix d_ixL (dv 2) (dv 1) (fun _ _ => rfl)) (pe_callB (d_min rfl) rfl En.b_min PyProof.Rows.boot_min (pa_cons (dv 3) (pa_cons (pe_callB (d_max rfl) rfl En.b_max PyProof.Rows.boot_max (pa_cons (pe_op d_sub (dv 4) (dv 0)) (pa_cons pe_int pa_nil))) pa_nil)))))) pa_nil))))), ?_⟩
 refine ⟨_, .inl hS, _, rfl, by omega, (by rw [List.length_map]; omega), fun D H1 n1 => ?_⟩
 have em : (((ts.map V.int).length : Int) + 1).toNat = ts.length + 1 := by rw [List.length_map]; omega
 rw [em]
 refine comp_NI (fun i => (Lr.fact i : Int) * (Lr.fact (ts.length - i) : Int)) n1 (by omega) ?_ fun H2 n2 => ?_
 ·intro i hi z H' s' R h
  have e0 : (0 + (i : Int)) = ((i : Nat) : Int) := by omega
  refine ⟨i, (by show [V.int (0 + (i : Int))] = _; rw [e0]), by omega, _, .inl (s'.seq hS), ts.length - i, ?_, by omega, mm9 (fact_bd (by omega)) (fact_bd (by omega)), h⟩
  show [V.int (((ts.map V.int).length : Int) - (0 + (i : Int)))] = _
  rw [List.length_map, show (ts.length : Int) - (0 + (i : Int)) = ((ts.length - i : Nat) : Int) by omega]
 refine ⟨a, ts, rfl, n2.same.seq hS, by omega, fun l H3 s3 ⟨vs, he, hr⟩ => ?_⟩
 refine ⟨_, rfl, ⟨_, SqL.of he⟩, fun D2 H4 n4 => ?_⟩
 have hgl : (Lr.grp ts).length ≤ 256 := by
  rw [Lr.grp_len]
  show 2 ^ ts.length ≤ 2 ^ 8
  exact Nat.pow_le_pow_right (by decide) (by omega)
 refine comp_PI (fun p => Lr.wt ts.length p.2 * Lr.tk c e p.1) n4 he hr (by omega) ?_ fun H5 n5 => ?_
 ·intro p hp z H' s' R h
  have hs := Lr.grp_size p hp
  refine ⟨_, _, SqL.of (s' _ _ (s3 _ _ n2.at_)), atR (by omega), ?_⟩
  refine ⟨CMulB.of (m := 20000) ?_ ?_ (by decide), h⟩
  ·exact (fact_bd (by omega)).mul (fact_bd (by omega)) (by decide)
  ·exact (hc.of_le (x := Lr.tk c e p.1) (by unfold Lr.tk; omega)).mono (by decide)
 exact ⟨_, SqL.of n5.at_, k H5 (n2.same.trans (s3.trans n5.same))⟩
set_option maxHeartbeats 20000000 in
theorem cal_by_turns (F : Has K mg "by_turns" s_by_turns ["claims", "estate"] f fd) (En : Env K mg Ad) (G_look_at : CalE P w K mg base "look_at" 5 ["claims", "estate"] (sp_look K Ad)) (G_common_bottom : CalE P w K mg base "common_bottom" 2 ["ratios"] (sp_cbot K)) (G_tops_over : CalE P w K mg base "tops_over" 1 ["bottom", "ratios"] (sp_tops K)) (G_number_of_orders : CalE P w K mg base "number_of_orders" 1 ["count"] (sp_fact)) (G_ratio : CalE P w K mg base "ratio" 2 ["top", "bottom"] (sp_ratio)) (G_taken_in_all_orders : CalE P w K mg base "taken_in_all_orders" 2 ["claim", "others", "estate"] (sp_tia K)) (G_all_but : CalE P w K mg base "all_but" 1 ["claimer", "listed"] (sp_allbut K)) : CalE P w K mg base "by_turns" 6 ["claims", "estate"] (sp_turns K Ad) := by
 refine F.calE (F.fn.okE sc_by_turns (fun vs H Q E h => ?_) (fun cdv A outer s H vs Q E hr h => ?_))
 ·obtain ⟨a, v, cs, e, k, D, rfl, hL, hv, hO, hk, q, qE⟩ := h
  rfl
 obtain ⟨a, v, cs, e, k, D, rfl, hL, hv, hO, hk, q, qE⟩ := h
 refine ⟨_, (pss_cons (ps_expr (pe_callP G_look_at hr (by decide) rfl (pa_cons (dv 0) (pa_cons (dv 1) pa_nil))))
  (pss_cons (ps_set (i := 2) sc_by_turns.nd rfl (Or.inl rfl) (pe_callP G_common_bottom hr (by decide) rfl (pa_cons (pe_op d_cat (dv 0) (d_lst (pa_cons (dv 1) pa_nil))) pa_nil)))
  (pss_cons (ps_set (i := 3) sc_by_turns.nd rfl (Or.inr rfl) (pe_callP G_tops_over hr (by decide) rfl (pa_cons (dv 2) (pa_cons (dv 0) pa_nil))))
  (pss_cons (ps_set (i := 4) sc_by_turns.nd rfl (Or.inr rfl) (pe_ix d_ixL (pe_callP G_tops_over hr (by decide) rfl (pa_cons (dv 2) (pa_cons (d_lst (pa_cons (dv 1) pa_nil)) pa_nil))) pe_int (fun _ _ => rfl)))
  (pss_cons (ps_set (i := 5) sc_by_turns.nd rfl (Or.inr rfl) (pe_op d_mul (dv 2) (pe_callP G_number_of_orders hr (by decide) rfl (pa_cons (pe_callB d_len rfl En.b_len PySem.boot_len (pa_cons (dv 0) pa_nil)) pa_nil))))
  (pss_one (ps_ret (pe_comp (defScope s_by_turns) ["parted_by", "top", "tops"] [5, 4, 3] rfl (pi_range1 rfl En.b_range (pa_cons (pe_callB d_len rfl En.b_len PySem.boot_len (pa_cons (dv 0) pa_nil)) pa_nil)) (fun z => (pe_callN G_ratio hr (by decide) rfl (pa_cons (pe_callN G_taken_in_all_orders hr (by decide) rfl (pa_cons (pe_ix d_ixL (dv 3) (dv 0) (fun _ _ => rfl)) (pa_cons (pe_callN G_all_but hr (by decide) rfl (pa_cons (dv 0) (pa_cons (dv 3) pa_nil))) (pa_cons (dv 2) pa_nil)))) (pa_cons (dv 1) pa_nil)))))))))))), ?_⟩
 refine ⟨a, v, cs, e, k, D, rfl, hL, hv, hO, by omega, fun hd H1 s1 => ?_, qE⟩
 obtain ⟨h8, c0, e0, eT⟩ := due_none hd
 have hL1 := hL.same s1
 have hv1 := hv.same s1
 obtain ⟨vs, hs, hr, he⟩ := hL1.sq
 refine fun p1 H2 n2 => ?_
 refine ⟨vs, [v], n2.same _ _ he, n2.at_, (by rw [hr.len]; show cs.length + 1 ≤ 10000000; omega), fun p2 H3 n3 => ?_⟩
 have r2 : RatsV K H2 (vs ++ [v]) (cs ++ [e]) := (hr.ts n2.ts).snoc (hv1.same n2.same)
 refine ⟨p2, cs ++ [e], k, D, rfl, RatL.new n3 r2, hO.sub (fun y hy => ?_), by omega, fun B hB hBD hdv => ?_⟩
 ·rcases List.mem_append.mp hy with hy | hy
  ·exact List.mem_cons_of_mem _ hy
  ·obtain rfl : y = e := by simpa using hy
   exact List.mem_cons_self
 have bB : Bd k B := dvd_bd hO.pos hBD hO.bd
 have b9 : Bd 9000 B := bB.mono (by omega)
 have s3 := s1.trans (n2.same.trans n3.same)
 have hL3 := hL.same s3
 refine ⟨a, cs, B, rfl, hL3, hB, b9, fun x hx => hdv x (List.mem_append_left _ hx), fun x hx => (hO.sz (m := 2501) (by omega) (List.mem_cons_of_mem _ hx)).mono (by decide), by omega, fun lt ts H4 n4 ht => ?_⟩
 have htl : ts.length = cs.length := by have := congrArg List.length ht; simpa using this
 have s4 := s3.trans n4.same
 refine fun p3 H5 n5 => ?_
 have s5 := s4.trans n5.same
 refine ⟨p3, [e], B, rfl, RatL.new n5 (RatsV.nil.snoc (hv.same s4)), hB, b9, fun x hx => hdv x (List.mem_append_right _ hx), fun x hx => ?_, (by show 1 ≤ 1000000; decide), fun l1 ts1 H6 n6 ht1 => ?_⟩
 ·obtain rfl : x = e := by simpa using hx
  exact (hO.sz (m := 2501) (by omega) List.mem_cons_self).mono (by decide)
 obtain ⟨t0, rfl, et0⟩ : ∃ t0 : Int, ts1 = [t0] ∧ (t0 : Rat) = e * (B : Rat) := by
  clear n6
  match ts1, ht1 with
  | [], ht1 => cases ht1
  | [t0], ht1 => exact ⟨t0, rfl, (List.cons.inj ht1).1⟩
  | _ :: _ :: _, ht1 => cases (List.cons.inj ht1).2
 have s6 := s5.trans n6.same
 refine ⟨_, _, SqL.of n6.at_, rfl, ?_⟩
 obtain ⟨vs6, hs6, hr6, he6⟩ := (hL.same s6).sq
 refine ⟨_, .inl hs6, cs.length, (by show [V.int (vs6.length : Int)] = _; rw [hr6.len]), by omega, mm9 b9 (fact_bd (by omega)), ?_⟩
 refine ⟨_, .inl hs6, _, rfl, by omega, (by rw [hr6.len]; omega), fun Dl H7 n7 => ?_⟩
 have em : ((vs6.length : Int)).toNat = cs.length := by rw [hr6.len]; omega
 rw [em]
 have hlt6 := n6.same _ _ (n5.same _ _ n4.at_)
 have e_i : ts.map (fun t => Lr.rt t B) = cs := by
  have h1 : cs = (cs.map (· * (B : Rat))).map (fun x => x / (B : Rat)) := by
   rw [List.map_map]
   conv => lhs; rw [← List.map_id cs]
   apply List.map_congr_left
   intro x _
   have := Lr.rt_pos hB
   show x = x * (B : Rat) / (B : Rat)
   grind
  rw [h1, ← ht, List.map_map]
  apply List.map_congr_left
  intro t _
  exact Lr.rt_eq
 have e_E : Lr.rt t0 B = e := (Lr.rt_of_mul hB et0.symm).symm
 have tb : ∀ t ∈ ts, 0 ≤ t ∧ t.natAbs ≤ 2 ^ k ∧ ∀ j : Int, D = B * j → (t * j).natAbs ≤ 2 ^ k := by
  intro t htm
  have h1 : (t : Rat) ∈ cs.map (· * (B : Rat)) := by rw [← ht]; exact List.mem_map_of_mem htm
  obtain ⟨c, hc, ec⟩ := List.mem_map.mp h1
  have hov := hO.ov c (List.mem_cons_of_mem _ hc)
  refine ⟨?_, Lr.top_bd hB hO.pos hBD hov ec.symm, fun j hj => ?_⟩
  ·have h2 : 0 ≤ c * (B : Rat) := Rat.mul_nonneg (c0 c hc) (Rat.le_of_lt (Lr.rt_pos hB))
   have h3 : c * (B : Rat) = (t : Rat) := ec
   rw [h3] at h2
   exact_mod_cast h2
  ·refine Lr.top_bd (B := D) (D := D) hO.pos hO.pos (Int.dvd_refl _) hov ?_
   rw [Rat.intCast_mul, hj, Rat.intCast_mul]
   have h3 : c * (B : Rat) = (t : Rat) := ec
   rw [← h3]
   grind
 have tbd : ∀ t ∈ ts, Bd 9000 t := fun t htm => Bd.of_lt (Nat.lt_of_le_of_lt (tb t htm).2.1 (Nat.pow_lt_pow_right (by decide) (by omega)))
 have hfp : (0 : Int) < (Lr.fact cs.length : Int) := by have := Lr.fact_pos cs.length; omega
 refine comp_NR (K := K) (fun i => Lr.rt (Lr.tn ts t0 i) (B * (Lr.fact cs.length : Int))) n7 (by omega) ?_ fun H8 s8 hL8 hf8 => ?_
 ·intro i hi z H' s' R h
  have hit : i < ts.length := by omega
  have hti := List.getElem?_eq_getElem hit
  have hat : atI (ts.map V.int) (0 + (i : Int)) = some (.int ts[i]) := by
   rw [show (0 + (i : Int)) = ((i : Nat) : Int) by omega]
   exact atI_nat (by rw [List.getElem?_map, hti]; rfl)
  have hlt' := s' _ _ hlt6
  refine ⟨_, _, SqL.of hlt', hat, i, lt, ts.map V.int, (by rw [show (0 + (i : Int)) = ((i : Nat) : Int) by omega]; rfl), SqL.of hlt', (by rw [List.length_map]; exact hit), (by rw [List.length_map]; omega), fun q3 H11 s11 f11 h11 => ?_⟩
  rw [Lr.er_map] at h11
  refine ⟨ts[i], q3, ts.eraseIdx i, t0, rfl, SqL.of h11, (by rw [List.length_eraseIdx, if_pos hit]; omega), fun t htm => tbd t (List.mem_of_mem_eraseIdx htm), tbd _ (List.getElem_mem hit), fun H12 s12 => ?_⟩
  have etn : Lr.tn ts t0 i = Lr.tv ts[i] (ts.eraseIdx i) t0 := by
   unfold Lr.tn
   rw [List.getD_eq_getElem?_getD, hti]
   rfl
  refine ⟨_, _, rfl, Int.mul_ne_zero (by omega) (by omega), ?_, fun z H13 n13 => ?_⟩
  ·exact Bd.mul (m := 2400) (n := 20) (bB.mono hk) (Bd.of_lt (by have := fact8 h8; omega)) (by decide)
  ·refine h _ H13 (s11.trans (s12.trans n13.same)) ?_
   rw [etn]
   exact .new n13
 ·refine q hd Dl _ H8 (s6.trans s8) (s6.free hf8) hL8 (by simp) (fun i p hp => ?_) ⟨D * (Lr.fact cs.length : Int), Int.mul_pos hO.pos hfp, ?_, fun p hp => ?_⟩
  ·have hi := (List.getElem?_eq_some_iff.mp hp).1
   rw [List.length_map, List.length_range] at hi
   rw [List.getElem?_map, List.getElem?_range hi] at hp
   cases hp
   exact Lr.turnAt_mk hB e_i e_E i
  ·exact Bd.mul (m := k) (n := 20) hO.bd (Bd.of_lt (by have := fact8 h8; omega)) (by omega)
  ·obtain ⟨i, hi, rfl⟩ := List.mem_map.mp hp
   rw [List.mem_range] at hi
   obtain ⟨j, hj⟩ := hBD
   have hit : i < ts.length := by omega
   have hti := List.getElem?_eq_getElem hit
   have etn : Lr.tn ts t0 i = Lr.tv ts[i] (ts.eraseIdx i) t0 := by
    unfold Lr.tn
    rw [List.getD_eq_getElem?_getD, hti]
    rfl
   obtain ⟨t1, t2, t3⟩ := tb ts[i] (List.getElem_mem hit)
   have hj0 : 0 < j := by
    rcases Int.lt_or_le 0 j with h | h
    ·exact h
    ·have := Int.mul_nonpos_of_nonneg_of_nonpos (Int.le_of_lt hB) h
     have := hO.pos
     omega
   have hv := tv_bd (c := ts[i]) (ts := ts.eraseIdx i) (e := t0) t1 (by rw [List.length_eraseIdx, if_pos hit]; omega)
   refine ⟨Lr.tn ts t0 i * j, ?_, ?_⟩
   ·refine (Rat.divInt_eq_divInt_iff (by have := Int.mul_pos hB hfp; omega) (by have := Int.mul_pos hO.pos hfp; omega)).mpr ?_
    rw [hj]
    ac_rfl
   ·rw [etn]
    have h5 := t3 j hj
    have h6 : 0 ≤ ts[i] * j := Int.mul_nonneg t1 (by omega)
    have h7 : Lr.tv ts[i] (ts.eraseIdx i) t0 * j ≤ 2 ^ 32 * (ts[i] * j) := by
     rw [← Int.mul_assoc]
     exact Int.mul_le_mul_of_nonneg_right hv.2 (by omega)
    have h8 : 0 ≤ Lr.tv ts[i] (ts.eraseIdx i) t0 * j := Int.mul_nonneg hv.1 (by omega)
    have e40 : (2 : Nat) ^ (k + 40) = 1099511627776 * 2 ^ k := by rw [Nat.pow_add, Nat.mul_comm]
    rw [e40]
    omega
set_option maxHeartbeats 20000000 in
theorem cal_look_at_order (F : Has K mg "look_at_order" s_look_at_order ["claims", "order"] f fd) (En : Env K mg Ad) : CalE P w K mg base "look_at_order" 1 ["claims", "order"] (sp_lookO K Ad) := by
 refine F.calE (F.fn.okE sc_look_at_order (fun vs H Q E h => ?_) (fun cdv A outer s H vs Q E hr h => ?_))
 ·obtain ⟨a, b, cs, os, rfl, hL, hS, h64, hc, q, qE⟩ := h
  rfl
 obtain ⟨a, b, cs, os, rfl, hL, hS, h64, hc, q, qE⟩ := h
 refine ⟨_, (pss_one (ps_if (dt_cmp (d_neLJ (hu_of hr)) (pe_callB d_sorted rfl En.b_sorted PyProof.Rows.boot_sorted (pa_cons (dv 1) pa_nil)) (pe_listRange rfl En.b_list rfl En.b_range (pa_cons (pe_callB d_len rfl En.b_len PySem.boot_len (pa_cons (dv 0) pa_nil)) pa_nil)) (nomark _))
   (pss_one (ps_raise En.e_Zh rfl (pa_cons (d_str (l := [97, 110, 32, 111, 114, 100, 101, 114, 32, 104, 111, 108, 100, 115, 32, 101, 97, 99, 104, 32, 99, 108, 97, 105, 109, 101, 114, 39, 115, 32, 110, 117, 109, 98, 101, 114, 32, 111, 110, 99, 101, 32, 97, 110, 100, 32, 110, 111, 116, 104, 105, 110, 103, 32, 101, 108, 115, 101]) (by decide +kernel)) pa_nil)))
   pss_nil)), ?_⟩
 refine ⟨os, hS, by omega, fun l1 ms H1 hp hs n1 => ?_⟩
 obtain ⟨vs, hsv, hrv, _⟩ := (hL.same n1.same).sq
 refine ⟨_, .inl hsv, by omega, (by rw [hrv.len]; omega), fun l2 H2 n2 => ?_⟩
 have e2 : H2 l2 = some (.lst ((rng cs.length).map V.int)) := by
  rw [n2.at_, hrv.len, List.map_map]
  rfl
 refine ⟨ms, rng cs.length, SqL.of (n2.same _ _ n1.at_), SqL.of e2, ?_⟩
 refine brN (fun c => ?_) (fun c => ?_)
 ·exact ⟨by decide, qE (fun z => c ((ord_iff hp hs).mpr z)) H2 (n1.same.trans n2.same)⟩
 ·exact q ((ord_iff hp hs).mp c) H2 (n1.same.trans n2.same)
set_option maxHeartbeats 20000000 in
theorem cal_taken (F : Has K mg "taken" s_taken ["claims", "estate", "order"] f fd) (En : Env K mg Ad) (G_look_at : CalE P w K mg base "look_at" 5 ["claims", "estate"] (sp_look K Ad)) (G_look_at_order : CalE P w K mg base "look_at_order" 1 ["claims", "order"] (sp_lookO K Ad)) (G_lesser_of : CalE P w K mg base "lesser_of" 2 ["one", "other"] (sp_lesser K)) (G_minus : CalE P w K mg base "minus" 3 ["one", "other"] (sp_minus K)) : CalE P w K mg base "taken" 6 ["claims", "estate", "order"] (sp_taken K Ad) := by
 refine F.calE (F.fn.okE sc_taken (fun vs H Q E h => ?_) (fun cdv A outer s H vs Q E hr h => ?_))
 ·obtain ⟨a, v, b, cs, e, os, k, D, rfl, hL, hv, hS, h64, hO, hk, q, qE, qN⟩ := h
  rfl
 obtain ⟨a, v, b, cs, e, os, k, D, rfl, hL, hv, hS, h64, hO, hk, q, qE, qN⟩ := h
 refine ⟨_, (pss_cons (ps_expr (pe_callP G_look_at hr (by decide) rfl (pa_cons (dv 0) (pa_cons (dv 1) pa_nil))))
  (pss_cons (ps_expr (pe_callP G_look_at_order hr (by decide) rfl (pa_cons (dv 0) (pa_cons (dv 2) pa_nil))))
  (pss_cons (ps_setComp (k := 3) (defScope s_taken) [] [] sc_taken.nd rfl (Or.inl rfl) rfl (pi_list (dv 0)) (fun z => (En.c_Zp.pe rfl)))
  (pss_cons (ps_set (i := 4) sc_taken.nd rfl (Or.inl rfl) (dv 1))
  (pss_cons (ps_for PassesOwn.leaving rfl (pi_list (dv 2)) (pg_name (i := 5) sc_taken.nd rfl (Or.inl rfl))
   (pss_cons (ps_asg (pe_callP G_lesser_of hr (by decide) rfl (pa_cons (pe_ix d_ixL (dv 0) (dv 5) (fun _ _ => rfl)) (pa_cons (dv 4) pa_nil))) (pg_sub (dv 3) (dv 5) d_setL))
  (pss_one (ps_set (i := 4) sc_taken.nd rfl (Or.inl rfl) (pe_callP G_minus hr (by decide) rfl (pa_cons (dv 4) (pa_cons (pe_ix d_ixL (dv 3) (dv 5) (fun _ _ => rfl)) pa_nil)))))))
  (pss_one (ps_ret (dv 3)))))))), ?_⟩
 refine ⟨a, v, cs, e, k, D, rfl, hL, hv, hO, by omega, fun hd H1 s1 => ?_, qE⟩
 obtain ⟨h8, c0, e0, eT⟩ := due_none hd
 refine ⟨a, b, cs, os, rfl, hL.same s1, s1.seq hS, h64, by omega, fun ho H2 s2 => ?_, fun hn H2 s2 => qN hd hn H2 (s1.trans s2)⟩
 obtain ⟨r, er, hp⟩ := ord_nat ho
 have s12 := s1.trans s2
 obtain ⟨vs, hs, hr', he⟩ := (hL.same s12).sq
 have hlt : ∀ (j i : Nat), r[j]? = some i → i < cs.length := fun j i h => by
  have := hp.mem_iff.mp (List.mem_of_getElem? h)
  simpa using this
 have hnd : r.Nodup := hp.nodup_iff.mpr List.nodup_range
 refine ⟨_, rfl, ⟨_, hs⟩, fun Dl H3 n3 => ?_⟩
 refine comp_rats (xs := cs.map fun _ => 0) n3 hs (by rw [hr'.len]; omega) (by rw [hr'.len, List.length_map]) ?_ fun H4 s4 hC4 hf4 => ?_
 ·intro j u x hu hx z H' s' R k'
  rw [List.getElem?_map] at hx
  obtain ⟨_, _, rfl⟩ := Option.map_eq_some_iff.mp hx
  exact k' _ H' (Same.refl _) (rat0 En)
 have s14 := s12.trans s4
 have hfD : H Dl = none := s12.free hf4
 refine ⟨_, rfl, ⟨_, s14.seq hS⟩, for_list (xs := os.map V.int) (fun j σ H5 => Same H H5 ∧ ∃ (ps : List Rat) (lv : V) (zc : Option V), σ = [some (.ref a), some v, some (.ref b), some (.ref Dl), some lv, zc] ∧ RatL K H5 Dl ps ∧ RatV K H5 lv (restA cs e (r.take j)) ∧ ps.length = cs.length ∧ Lr.Ov D (2 ^ k) (restA cs e (r.take j)) ∧ 0 ≤ restA cs e (r.take j) ∧ (∀ p ∈ ps, Lr.Ov D (2 ^ k) p) ∧ ∀ (j' i : Nat), j' < j → r[j']? = some i → ps[i]? = some (Lr.mn (cs.getD i 0) (restA cs e (r.take j'))))
  ⟨s14, _, v, _, rfl, hC4, hv.same s14, (by rw [List.length_map]), hO.ov e List.mem_cons_self, e0, (fun p hp => by obtain ⟨_, _, rfl⟩ := List.mem_map.mp hp; exact Lr.Ov.zero hO.pos), fun j' i h => by omega⟩ (fun _ _ _ _ h => h.1.seq hS) ?_ ?_⟩
 ·rintro j u σ H5 hu ⟨s5, ps, lv, zc, rfl, hP, hl, hpl, hlo, hl0, hpo, hps⟩
  rw [er, List.map_map, List.getElem?_map] at hu
  obtain ⟨i, hi, rfl⟩ := Option.map_eq_some_iff.mp hu
  have hic := hlt j i hi
  have hci := List.getElem?_eq_getElem hic
  have hgd : cs.getD i 0 = cs[i] := by rw [List.getD_eq_getElem?_getD, hci]; rfl
  have hcm : cs[i] ∈ cs := List.getElem_mem hic
  have hco := hO.ov _ (List.mem_cons_of_mem _ hcm)
  have zof : ∀ {x : Rat}, Lr.Ov D (2 ^ k) x → Sz 2500 x := fun {x} h => ovSz hO.pos hO.bd h (Nat.pow_lt_pow_right (by decide) (by omega)) (by omega)
  obtain ⟨vs5, v5, x5, hs5, ha5, hx5, hv5⟩ := (hL.same s5).at (k := (i : Int)) (by omega) (by omega)
  have ei : ((i : Int)).toNat = i := by omega
  rw [ei, hci] at hx5
  cases hx5
  refine ⟨_, _, hs5, ha5, v5, lv, cs[i], _, rfl, hv5, hl, (zof hco).mono (by decide), (zof hlo).mono (by decide), fun u hu => ?_⟩
  obtain ⟨ws, hws, hwr, hwe⟩ := hP.sq
  refine ⟨_, i, hwe, ixN_nat (by rw [hwr.len, hpl]; exact hic), fun H6 c6 => ?_⟩
  have t6 := c6.ts hwe
  have hP6 : RatL K H6 Dl (ps.set i (Lr.mn cs[i] (restA cs e (r.take j)))) := ⟨_, c6.at_, (rats_set hwr hu i).ts t6⟩
  have s6 := c6.same s5 hfD
  obtain ⟨vs7, v7, x7, hs7, ha7, hx7, hv7⟩ := hP6.at (k := (i : Int)) (by omega) (by rw [List.length_set]; omega)
  rw [ei, List.getElem?_set_self (by omega)] at hx7
  cases hx7
  have hmo := Lr.Ov.mn hco hlo
  refine ⟨_, _, hs7, ha7, lv, v7, _, _, 2500, 2500, rfl, hl.ts t6, hv7, zof hlo, zof hmo, by decide, trivial, fun z H7 n7 => ?_⟩
  have hrest := ov_rest hO.pos hco hlo (c0 _ hcm) hl0
  have er' : restA cs e (r.take (j + 1)) = restA cs e (r.take j) - Lr.mn cs[i] (restA cs e (r.take j)) := by
   rw [List.take_add_one, hi]
   show restA cs e (r.take j ++ [i]) = _
   rw [restA_snoc, hgd]
  rw [er']
  refine ⟨s6.trans n7.same, _, _, _, rfl, hP6.same n7.same, .new n7, by rw [List.length_set]; exact hpl, hrest.1, hrest.2, fun p hp => ?_, fun j' i' hj' hi' => ?_⟩
  ·rcases List.mem_or_eq_of_mem_set hp with h | rfl
   ·exact hpo p h
   ·exact hmo
  ·by_cases hjj : j' = j
   ·subst hjj
    rw [hi] at hi'
    cases hi'
    rw [List.getElem?_set_self (by omega), hgd]
   ·have hne : i ≠ i' := fun z => by
     subst z
     obtain ⟨l1, e1⟩ := List.getElem?_eq_some_iff.mp hi
     obtain ⟨l2, e2⟩ := List.getElem?_eq_some_iff.mp hi'
     exact List.pairwise_iff_getElem.mp hnd j' j l2 l1 (by omega) (e2.trans e1.symm)
    rw [List.getElem?_set_ne hne]
    exact hps j' i' (by omega) hi'
 ·rintro σ H5 ⟨s5, ps, lv, zc, rfl, hP, hl, hpl, hlo, hl0, hpo, hps⟩
  refine q hd r er hp Dl ps H5 s5 hfD hP ⟨hpl, fun j i hj => hps j i ?_ hj⟩ ⟨hO.pos, hO.bd, hpo⟩
  rw [er, List.length_map, List.length_map]
  exact (List.getElem?_eq_some_iff.mp hj).1
set_option maxHeartbeats 20000000 in
theorem cal_look_at_rule (F : Has K mg "look_at_rule" s_look_at_rule ["rule"] f fd) (En : Env K mg Ad) : CalE P w K mg base "look_at_rule" 1 ["rule"] (sp_lookR Ad) := by
 refine F.calE (F.fn.okE sc_look_at_rule (fun vs H Q E h => ?_) (fun cdv A outer s H vs Q E hr h => ?_))
 ·obtain ⟨s, rfl, q, qE⟩ := h
  rfl
 obtain ⟨s, rfl, q, qE⟩ := h
 refine ⟨_, (pss_one (ps_if (dt_cmp op_notIn_seq (dv 0) (En.c_Zs.pe rfl) (by with_unfolding_all rfl))
   (pss_one (ps_raise En.e_Zg rfl (pa_cons (d_str (l := [116, 104, 101, 32, 114, 117, 108, 101, 115, 32, 97, 114, 101, 32, 115, 104, 97, 114, 101, 115, 44, 32, 103, 97, 105, 110, 115, 44, 32, 108, 111, 115, 115, 101, 115, 44, 32, 104, 97, 108, 118, 101, 115, 32, 97, 110, 100, 32, 116, 117, 114, 110, 115]) (by decide +kernel)) pa_nil)))
   pss_nil)), ?_⟩
 refine ⟨_, wordsV, rfl, .inr (.inr En.k_Zs), rfl, rfl, ?_⟩
 refine brB (fun c => ?_) (fun c => ?_)
 ·have hc : inV (.str s) wordsV = false := by simpa using c
  exact ⟨by decide, qE fun ρ z => by rw [z, word_in] at hc; cases hc⟩
 ·have hc : inV (.str s) wordsV = true := by simpa using c
  exact q (in_word hc)
set_option maxHeartbeats 20000000 in
theorem cal_shared (F : Has K mg "shared" s_shared ["rule", "claims", "estate"] f fd) (En : Env K mg Ad) (G_look_at_rule : CalE P w K mg base "look_at_rule" 1 ["rule"] (sp_lookR Ad)) (G_by_turns : CalE P w K mg base "by_turns" 6 ["claims", "estate"] (sp_turns K Ad)) (G_in_shares : CalE P w K mg base "in_shares" 6 ["claims", "estate"] (sp_shares K Ad)) (G_by_gains : CalE P w K mg base "by_gains" 7 ["claims", "estate"] (sp_gains K Ad)) (G_by_losses : CalE P w K mg base "by_losses" 8 ["claims", "estate"] (sp_losses K Ad)) (G_by_halves : CalE P w K mg base "by_halves" 8 ["claims", "estate"] (sp_halves K Ad)) : CalE P w K mg base "shared" 9 ["rule", "claims", "estate"] (sp_sharedF K Ad) := by
 refine F.calE (F.fn.okE sc_shared (fun vs H Q E h => ?_) (fun cdv A outer s H vs Q E hr h => ?_))
 ·obtain ⟨s, a, v, cs, e, k, D, rfl, hL, hv, hO, hk, q, qE⟩ := h
  rfl
 obtain ⟨s, a, v, cs, e, k, D, rfl, hL, hv, hO, hk, q, qE⟩ := h
 refine ⟨_, (pss_cons (ps_expr (pe_callP G_look_at_rule hr (by decide) rfl (pa_cons (dv 0) pa_nil)))
  (pss_cons (ps_if (dt_cmp d_eq (dv 0) (d_str (l := [115, 104, 97, 114, 101, 115]) (by decide +kernel)) (nomark _))
   (pss_one (ps_ret (pe_callP G_in_shares hr (by decide) rfl (pa_cons (dv 1) (pa_cons (dv 2) pa_nil)))))
   pss_nil)
  (pss_cons (ps_if (dt_cmp d_eq (dv 0) (d_str (l := [103, 97, 105, 110, 115]) (by decide +kernel)) (nomark _))
   (pss_one (ps_ret (pe_callP G_by_gains hr (by decide) rfl (pa_cons (dv 1) (pa_cons (dv 2) pa_nil)))))
   pss_nil)
  (pss_cons (ps_if (dt_cmp d_eq (dv 0) (d_str (l := [108, 111, 115, 115, 101, 115]) (by decide +kernel)) (nomark _))
   (pss_one (ps_ret (pe_callP G_by_losses hr (by decide) rfl (pa_cons (dv 1) (pa_cons (dv 2) pa_nil)))))
   pss_nil)
  (pss_cons (ps_if (dt_cmp d_eq (dv 0) (d_str (l := [104, 97, 108, 118, 101, 115]) (by decide +kernel)) (nomark _))
   (pss_one (ps_ret (pe_callP G_by_halves hr (by decide) rfl (pa_cons (dv 1) (pa_cons (dv 2) pa_nil)))))
   pss_nil)
  (pss_one (ps_ret (pe_callP G_by_turns hr (by decide) rfl (pa_cons (dv 1) (pa_cons (dv 2) pa_nil)))))))))), ?_⟩
 refine ⟨s, rfl, fun ⟨ρ, es⟩ => ?_, fun z => ?_⟩
 rotate_left
 ·refine qE _ ?_ H (Same.refl _)
  unfold dueR
  rw [if_neg]
  intro h
  obtain ⟨ρ, hρ⟩ := in_word h
  exact z ρ hρ
 subst es
 have ed : dueR Ad (word ρ) cs e = dueOf Ad cs e := by
  unfold dueR
  rw [if_pos (word_in ρ)]
 rw [ed] at q qE
 refine br (fun c => ?_) (fun csh => ?_)
 ·have e1 := word_is (ρ' := .sh) c
  subst e1
  exact ⟨a, v, cs, e, k, D, rfl, hL, hv, hO, by omega, fun hd l ps H' s f hP hR ⟨D', hO'⟩ => q hd _ l ps H' rfl s f hP hR ⟨D', hO'.mono (by omega)⟩, qE⟩
 refine br (fun c => ?_) (fun cga => ?_)
 ·have e1 := word_is (ρ' := .ga) c
  subst e1
  exact ⟨a, v, cs, e, k, D, rfl, hL, hv, hO, by omega, fun hd l ps H' s f hP hR hO' => q hd _ l ps H' rfl s f hP hR ⟨_, hO'.mono (by omega)⟩, qE⟩
 refine br (fun c => ?_) (fun clo => ?_)
 ·have e1 := word_is (ρ' := .lo) c
  subst e1
  exact ⟨a, v, cs, e, k, D, rfl, hL, hv, hO, by omega, fun hd l ps H' s f hP hR ⟨D', hO'⟩ => q hd _ l ps H' rfl s f hP hR ⟨D', hO'.mono (by omega)⟩, qE⟩
 refine br (fun c => ?_) (fun cha => ?_)
 ·have e1 := word_is (ρ' := .ha) c
  subst e1
  exact ⟨a, v, cs, e, k, D, rfl, hL, hv, hO, by omega, fun hd l ps H' s f hP hR ⟨D', hO'⟩ => q hd _ l ps H' rfl s f hP hR ⟨D', hO'.mono (by omega)⟩, qE⟩
 have e1 : ρ = .tu := by
  cases ρ with
  | sh => exact absurd rfl csh
  | ga => exact absurd rfl cga
  | lo => exact absurd rfl clo
  | ha => exact absurd rfl cha
  | tu => rfl
 subst e1
 exact ⟨a, v, cs, e, k, D, rfl, hL, hv, hO, by omega, fun hd l ps H' s f hP hl hR ⟨D', hO'⟩ => q hd _ l ps H' rfl s f hP ⟨hl, hR⟩ ⟨D', hO'.mono (by omega)⟩, qE⟩
set_option maxHeartbeats 20000000 in
theorem cal_all_but (F : Has K mg "all_but" s_all_but ["claimer", "listed"] f fd) (En : Env K mg Ad) : CalE P w K mg base "all_but" 1 ["claimer", "listed"] (sp_allbut K) := by
 refine F.calE (F.fn.okE sc_all_but (fun vs H Q E h => ?_) (fun cdv A outer s H vs Q E hr h => ?_))
 ·obtain ⟨i, a, xs, rfl, hS, hi, hl, q⟩ := h
  rfl
 obtain ⟨i, a, xs, rfl, hS, hi, hl, q⟩ := h
 refine ⟨_, (pss_one (ps_ret (pe_op d_cat (pe_slice d_slL (dv 1) po_none (d_some (dv 0))) (pe_slice d_slL (dv 1) (d_some (pe_op d_add (dv 0) pe_int)) po_none)))), ?_⟩
 refine ⟨_, hS, fun q1 H1 n1 => ⟨_, n1.same.seq hS, fun q2 H2 n2 => ?_⟩⟩
 refine ⟨_, _, n2.same _ _ n1.at_, n2.at_, ?_, fun q3 H3 n3 => ?_⟩
 ·have a1 := cutV_length xs none (some (i : Int))
  have a2 := cutV_length xs (some ((i : Int) + 1)) none
  omega
 rw [cutE hi] at n3
 have s2 := n1.same.trans n2.same
 exact q q3 H3 (s2.trans n3.same) (s2.free n3.fr) n3.at_
set_option maxHeartbeats 20000000 in
theorem cal_left_over (F : Has K mg "left_over" s_left_over ["claims", "estate"] f fd) (En : Env K mg Ad) (G_minus : CalE P w K mg base "minus" 3 ["one", "other"] (sp_minus K)) (G_total : CalE P w K mg base "total" 4 ["claims"] (sp_total K)) (G_less : CalE P w K mg base "less" 1 ["one", "other"] (sp_less K)) : CalE P w K mg base "left_over" 5 ["claims", "estate"] (sp_lefto K) := by
 refine F.calE (F.fn.okE sc_left_over (fun vs H Q E h => ?_) (fun cdv A outer s H vs Q E hr h => ?_))
 ·obtain ⟨a, v, cs, e, k, D, rfl, hL, hv, hO, hk, hl, q⟩ := h
  rfl
 obtain ⟨a, v, cs, e, k, D, rfl, hL, hv, hO, hk, hl, q⟩ := h
 refine ⟨_, (pss_cons (ps_set (i := 2) sc_left_over.nd rfl (Or.inl rfl) (pe_callP G_minus hr (by decide) rfl (pa_cons (dv 1) (pa_cons (pe_callP G_total hr (by decide) rfl (pa_cons (dv 0) pa_nil)) pa_nil))))
  (pss_one (ps_ret (pe_ifExp (dt_val (pe_callP G_less hr (by decide) rfl (pa_cons (dv 2) (pa_cons (En.c_Zp.pe rfl) pa_nil)))) (En.c_Zp.pe rfl) (dv 2))))), ?_⟩
 refine ⟨a, cs, k, D, rfl, hL, hO.sub (fun y hy => List.mem_cons_of_mem _ hy), hk, by omega, fun wt H1 s1 hw => ?_⟩
 have zt : Sz 3010 (Lr.sm cs) := by
  have ho := Lr.Ov.sm hO.pos (fun x hx => hO.ov x (List.mem_cons_of_mem _ hx)) (a := cs)
  refine ovSz hO.pos (hO.bd.mono hk) ho ?_ (by decide)
  have h1 : cs.length * 2 ^ k ≤ 8 * 2 ^ 3000 := Nat.mul_le_mul hl (Nat.pow_le_pow_right (by decide) hk)
  have h2 : 8 * 2 ^ 3000 < 2 ^ 3010 := by decide +kernel
  omega
 have ze : Sz 3001 e := hO.sz (by omega) List.mem_cons_self
 refine ⟨v, wt, e, Lr.sm cs, 3001, 3010, rfl, hv.same s1, hw, ze, zt, by decide, trivial, fun zr H2 n2 => ?_⟩
 have hr : RatV K H2 (.ref zr) (e - Lr.sm cs) := .new n2
 have zd : Sz 9000 (e - Lr.sm cs) := (Sz.sub ze zt).mono (by decide)
 refine ⟨.ref zr, _, e - Lr.sm cs, 0, rfl, hr, rat0 En, zd, Sz.zero.mono (by decide), ?_⟩
 refine br (fun c => ?_) (fun c => ?_)
 ·exact q _ H2 (s1.trans n2.same) (by unfold lov; rw [if_pos c]; exact rat0 En)
 ·exact q _ H2 (s1.trans n2.same) (by unfold lov; rw [if_neg c]; exact hr)
set_option maxHeartbeats 20000000 in
theorem cal_cut_claims (F : Has K mg "cut_claims" s_cut_claims ["claims", "estate"] f fd) (En : Env K mg Ad) (G_look_at : CalE P w K mg base "look_at" 5 ["claims", "estate"] (sp_look K Ad)) (G_lesser_of : CalE P w K mg base "lesser_of" 2 ["one", "other"] (sp_lesser K)) : CalE P w K mg base "cut_claims" 6 ["claims", "estate"] (sp_cutc K Ad) := by
 refine F.calE (F.fn.okE sc_cut_claims (fun vs H Q E h => ?_) (fun cdv A outer s H vs Q E hr h => ?_))
 ·obtain ⟨a, v, cs, e, k, D, rfl, hL, hv, hO, hk, q, qE⟩ := h
  rfl
 obtain ⟨a, v, cs, e, k, D, rfl, hL, hv, hO, hk, q, qE⟩ := h
 refine ⟨_, (pss_cons (ps_expr (pe_callP G_look_at hr (by decide) rfl (pa_cons (dv 0) (pa_cons (dv 1) pa_nil))))
  (pss_one (ps_ret (pe_comp (defScope s_cut_claims) ["estate"] [1] rfl (pi_list (dv 0)) (fun z => (pe_callN G_lesser_of hr (by decide) rfl (pa_cons (dv 0) (pa_cons (dv 1) pa_nil)))))))), ?_⟩
 refine ⟨a, v, cs, e, k, D, rfl, hL, hv, hO, by omega, fun hd H1 s1 => ?_, qE⟩
 have h8 := (due_none hd).1
 have hL1 := hL.same s1
 have hv1 := hv.same s1
 obtain ⟨vs, hs, hr, he⟩ := hL1.sq
 refine ⟨_, rfl, ⟨_, hs⟩, fun D2 H2 n2 => ?_⟩
 refine comp_RR (fun c => Lr.mn c e) n2 hL1 (by omega) ?_ fun H3 s3 hL3 hf => ?_
 ·exact fun c hc u z H' s' hu R h => ⟨u, v, c, e, rfl, hu, hv1.same s', (hO.sz (m := 2501) (by omega) (List.mem_cons_of_mem _ hc)).mono (by decide), (hO.sz (m := 2501) (by omega) List.mem_cons_self).mono (by decide), fun p hp => h p H' (Same.refl _) hp⟩
 ·exact q hd D2 H3 (s1.trans s3) (s1.free hf) hL3
set_option maxHeartbeats 20000000 in
theorem cal_least_rights (F : Has K mg "least_rights" s_least_rights ["claims", "estate"] f fd) (En : Env K mg Ad) (G_look_at : CalE P w K mg base "look_at" 5 ["claims", "estate"] (sp_look K Ad)) (G_left_over : CalE P w K mg base "left_over" 5 ["claims", "estate"] (sp_lefto K)) (G_all_but : CalE P w K mg base "all_but" 1 ["claimer", "listed"] (sp_allbut K)) : CalE P w K mg base "least_rights" 6 ["claims", "estate"] (sp_rights K Ad) := by
 refine F.calE (F.fn.okE sc_least_rights (fun vs H Q E h => ?_) (fun cdv A outer s H vs Q E hr h => ?_))
 ·obtain ⟨a, v, cs, e, k, D, rfl, hL, hv, hO, hk, q, qE⟩ := h
  rfl
 obtain ⟨a, v, cs, e, k, D, rfl, hL, hv, hO, hk, q, qE⟩ := h
 refine ⟨_, (pss_cons (ps_expr (pe_callP G_look_at hr (by decide) rfl (pa_cons (dv 0) (pa_cons (dv 1) pa_nil))))
  (pss_one (ps_ret (pe_comp (defScope s_least_rights) ["estate", "claims"] [1, 0] rfl (pi_range1 rfl En.b_range (pa_cons (pe_callB d_len rfl En.b_len PySem.boot_len (pa_cons (dv 0) pa_nil)) pa_nil)) (fun z => (pe_callN G_left_over hr (by decide) rfl (pa_cons (pe_callN G_all_but hr (by decide) rfl (pa_cons (dv 0) (pa_cons (dv 2) pa_nil))) (pa_cons (dv 1) pa_nil)))))))), ?_⟩
 refine ⟨a, v, cs, e, k, D, rfl, hL, hv, hO, by omega, fun hd H1 s1 => ?_, qE⟩
 have h8 := (due_none hd).1
 have hL1 := hL.same s1
 have hv1 := hv.same s1
 obtain ⟨vs, hs, hr, he⟩ := hL1.sq
 refine ⟨_, .inl hs, _, rfl, by omega, (by rw [hr.len]; omega), fun D2 H2 n2 => ?_⟩
 have em : ((vs.length : Int)).toNat = cs.length := by rw [hr.len]; omega
 rw [em]
 refine comp_NR (K := K) (fun i => lov e (Lr.sm (cs.eraseIdx i))) n2 (by omega) ?_ fun H3 s3 hL3 hf => ?_
 ·intro i hi z H' s' R h
  obtain ⟨vs', hs', hr', he'⟩ := (hL1.same s').sq
  have e0 : (0 + (i : Int)) = ((i : Nat) : Int) := by omega
  refine ⟨i, a, vs', (by rw [e0]; rfl), hs', (by rw [hr'.len]; exact hi), (by rw [hr'.len]; omega), fun l1 H4 s4 f4 h4 => ?_⟩
  have hE : RatL K H4 l1 (cs.eraseIdx i) := ⟨_, h4, (rats_erase hr' i).ts s4.ts⟩
  refine ⟨l1, v, cs.eraseIdx i, e, k, D, rfl, hE, hv1.same (s'.trans s4), hO.sub (fun y hy => ?_), by omega, ?_, fun w' H5 s5 hw => h w' H5 (s4.trans s5) hw⟩
  ·rcases List.mem_cons.mp hy with rfl | hy
   ·exact List.mem_cons_self
   ·exact List.mem_cons_of_mem _ (List.mem_of_mem_eraseIdx hy)
  ·have := List.length_eraseIdx_le cs i
   omega
 ·exact q hd D2 H3 (s1.trans s3) (s1.free hf) hL3
set_option maxHeartbeats 20000000 in
theorem cal_is_in (F : Has K mg "is_in" s_is_in ["group", "claimer"] f fd) (En : Env K mg Ad) : CalE P w K mg base "is_in" 1 ["group", "claimer"] (sp_isin) := by
 refine F.calE (F.fn.okE sc_is_in (fun vs H Q E h => ?_) (fun cdv A outer s H vs Q E hr h => ?_))
 ·obtain ⟨g, i, rfl, q⟩ := h
  rfl
 obtain ⟨g, i, rfl, q⟩ := h
 refine ⟨_, (pss_one (ps_ret (pe_cmpR d_eq (pe_op d_band (pe_op d_shr (dv 0) (dv 1)) pe_int) pe_int (nomark _)))), ?_⟩
 refine ⟨by omega, ?_⟩
 show Q (.bl (decide (Builtin.bitAnd ((g : Int) / 2 ^ ((i : Int)).toNat) 1 = 1))) H
 rw [bit_in]
 exact q
theorem pick_next {f : Nat → Bool} {xs : List V} {i : Nat} {x : V} (hx : xs[i]? = some x) : Lr.pick f 0 (xs.take (i + 1)) = Lr.pick f 0 (xs.take i) ++ (if f i = true then [x] else []) := by
 have hi := (List.getElem?_eq_some_iff.mp hx).1
 rw [List.take_add_one, hx]
 show Lr.pick f 0 (xs.take i ++ [x]) = _
 rw [Lr.pick_snoc, List.length_take, Nat.min_eq_left (by omega), Nat.zero_add]
set_option maxHeartbeats 20000000 in
theorem cal_of_members (F : Has K mg "of_members" s_of_members ["listed", "group"] f fd) (En : Env K mg Ad) (G_is_in : CalE P w K mg base "is_in" 1 ["group", "claimer"] (sp_isin)) : CalE P w K mg base "of_members" 2 ["listed", "group"] (sp_pickV K (fun g => g.testBit)) := by
 refine F.calE (F.fn.okE sc_of_members (fun vs H Q E h => ?_) (fun cdv A outer s H vs Q E hr h => ?_))
 ·obtain ⟨a, xs, g, rfl, hs, hl, q⟩ := h
  rfl
 obtain ⟨a, xs, g, rfl, hs, hl, q⟩ := h
 refine ⟨_, (pss_one (ps_ret (pe_comp2If (defScope s_of_members) ["group"] [1] rfl (pi_enum rfl En.b_enumerate (pa_cons (dv 0) pa_nil)) (fun z => (dt_val (pe_callN G_is_in hr (by decide) rfl (pa_cons (dv 2) (pa_cons (dv 0) pa_nil))))) (fun z => (dv 1))))), ?_⟩
 refine ⟨⟨_, hs⟩, fun D H1 n1 => ?_⟩
 refine comp_enumIf (xs := xs) (fun i ys H' => Same H H' ∧ H' D = some (.lst ys) ∧ ys = Lr.pick g.testBit 0 (xs.take i) ∧ ys.length ≤ i) ⟨n1.same, n1.at_, by rw [List.take_zero]; rfl, Nat.le_refl _⟩ (fun _ _ _ _ h => h.1.seq hs) ?_ ?_
 ·rintro i x ys H2 p H3 z hx ⟨s2, hD, eys, hyl⟩ n3
  have hi := (List.getElem?_eq_some_iff.mp hx).1
  have es := pick_next (f := g.testBit) hx
  have s3 := s2.trans n3.same
  refine ⟨g, i, rfl, ?_⟩
  cases hb : g.testBit i with
  | true =>
   rw [hb, if_pos rfl] at es
   refine ⟨n3.same _ _ hD, by omega, fun H4 c4 => ⟨c4.same s3 n1.fr, c4.at_, by rw [es, eys], ?_⟩⟩
   rw [List.length_append]
   show _ + 1 ≤ _
   omega
  | false =>
   rw [hb, if_neg (by decide), List.append_nil] at es
   exact ⟨s3, n3.same _ _ hD, by rw [es, eys], by omega⟩
 ·rintro ys H2 ⟨s2, hD, eys, _⟩
  rw [List.take_length] at eys
  exact q D H2 s2 n1.fr (by rw [← eys]; exact hD)
set_option maxHeartbeats 20000000 in
theorem cal_of_others (F : Has K mg "of_others" s_of_others ["listed", "group"] f fd) (En : Env K mg Ad) (G_is_in : CalE P w K mg base "is_in" 1 ["group", "claimer"] (sp_isin)) : CalE P w K mg base "of_others" 2 ["listed", "group"] (sp_pickV K (fun g i => !g.testBit i)) := by
 refine F.calE (F.fn.okE sc_of_others (fun vs H Q E h => ?_) (fun cdv A outer s H vs Q E hr h => ?_))
 ·obtain ⟨a, xs, g, rfl, hs, hl, q⟩ := h
  rfl
 obtain ⟨a, xs, g, rfl, hs, hl, q⟩ := h
 refine ⟨_, (pss_one (ps_ret (pe_comp2If (defScope s_of_others) ["group"] [1] rfl (pi_enum rfl En.b_enumerate (pa_cons (dv 0) pa_nil)) (fun z => (pt_not (dt_val (pe_callN G_is_in hr (by decide) rfl (pa_cons (dv 2) (pa_cons (dv 0) pa_nil)))))) (fun z => (dv 1))))), ?_⟩
 refine ⟨⟨_, hs⟩, fun D H1 n1 => ?_⟩
 refine comp_enumIf (xs := xs) (fun i ys H' => Same H H' ∧ H' D = some (.lst ys) ∧ ys = Lr.pick (fun i => !g.testBit i) 0 (xs.take i) ∧ ys.length ≤ i) ⟨n1.same, n1.at_, by rw [List.take_zero]; rfl, Nat.le_refl _⟩ (fun _ _ _ _ h => h.1.seq hs) ?_ ?_
 ·rintro i x ys H2 p H3 z hx ⟨s2, hD, eys, hyl⟩ n3
  have hi := (List.getElem?_eq_some_iff.mp hx).1
  have es := pick_next (f := fun i => !g.testBit i) hx
  try dsimp only at es
  have s3 := s2.trans n3.same
  refine ⟨g, i, rfl, ?_⟩
  cases hb : g.testBit i with
  | false =>
   rw [hb, if_pos (show (!false) = true from rfl)] at es
   refine ⟨n3.same _ _ hD, by omega, fun H4 c4 => ⟨c4.same s3 n1.fr, c4.at_, by rw [es, eys], ?_⟩⟩
   rw [List.length_append]
   show _ + 1 ≤ _
   omega
  | true =>
   rw [hb, if_neg (show ¬ (!true) = true by decide), List.append_nil] at es
   exact ⟨s3, n3.same _ _ hD, by rw [es, eys], by omega⟩
 ·rintro ys H2 ⟨s2, hD, eys, _⟩
  rw [List.take_length] at eys
  exact q D H2 s2 n1.fr (by rw [← eys]; exact hD)
set_option maxHeartbeats 20000000 in
theorem cal_slack (F : Has K mg "slack" s_slack ["claims", "parts", "group"] f fd) (En : Env K mg Ad) (G_of_members : CalE P w K mg base "of_members" 2 ["listed", "group"] (sp_pickV K (fun g => g.testBit))) (G_of_others : CalE P w K mg base "of_others" 2 ["listed", "group"] (sp_pickV K (fun g i => !g.testBit i))) : CalE P w K mg base "slack" 3 ["claims", "parts", "group"] (sp_slack K) := by
 refine F.calE (F.fn.okE sc_slack (fun vs H Q E h => ?_) (fun cdv A outer s H vs Q E hr h => ?_))
 ·obtain ⟨a, b, ts, gs, g, rfl, hA, hB, hla, hlb, q⟩ := h
  rfl
 obtain ⟨a, b, ts, gs, g, rfl, hA, hB, hla, hlb, q⟩ := h
 refine ⟨_, (pss_one (ps_ret (pe_op d_sub (pe_callB (d_sum rfl) rfl En.b_sum PyProof.Rows.boot_sum (pa_cons (pe_callP G_of_members hr (by decide) rfl (pa_cons (dv 1) (pa_cons (dv 2) pa_nil))) pa_nil)) (pe_callB (d_max rfl) rfl En.b_max PyProof.Rows.boot_max (pa_cons (pe_op d_sub (pe_callB (d_sum rfl) rfl En.b_sum PyProof.Rows.boot_sum (pa_cons (dv 1) pa_nil)) (pe_callB (d_sum rfl) rfl En.b_sum PyProof.Rows.boot_sum (pa_cons (pe_callP G_of_others hr (by decide) rfl (pa_cons (dv 0) (pa_cons (dv 2) pa_nil))) pa_nil))) (pa_cons pe_int pa_nil)))))), ?_⟩
 refine ⟨b, gs.map V.int, g, rfl, hB, by rw [List.length_map]; exact hlb, fun l1 H1 s1 f1 h1 => ?_⟩
 rw [Lr.pick_map] at h1
 refine ⟨_, SqL.of h1, _, s1.seq hB, ?_⟩
 refine ⟨a, ts.map V.int, g, rfl, s1.seq hA, by rw [List.length_map]; exact hla, fun l2 H2 s2 f2 h2 => ?_⟩
 rw [Lr.pick_map] at h2
 exact ⟨_, SqL.of h2, q H2 (s1.trans s2)⟩
theorem sum_nn : ∀ {l : List Int}, (∀ t ∈ l, 0 ≤ t) → 0 ≤ l.sum
 | [], _ => Int.le_refl _
 | x :: l, h => by
  have h1 := sum_nn fun t ht => h t (List.mem_cons_of_mem _ ht)
  have h2 := h x List.mem_cons_self
  rw [List.sum_cons]
  omega
set_option maxHeartbeats 20000000 in
theorem cal_slacks (F : Has K mg "slacks" s_slacks ["claims", "parts"] f fd) (En : Env K mg Ad) (G_look_at_sharing : CalE P w K mg base "look_at_sharing" 3 ["claims", "parts"] (sp_lookSh K Ad)) (G_common_bottom : CalE P w K mg base "common_bottom" 2 ["ratios"] (sp_cbot K)) (G_tops_over : CalE P w K mg base "tops_over" 1 ["bottom", "ratios"] (sp_tops K)) (G_ratio : CalE P w K mg base "ratio" 2 ["top", "bottom"] (sp_ratio)) (G_slack : CalE P w K mg base "slack" 3 ["claims", "parts", "group"] (sp_slack K)) : CalE P w K mg base "slacks" 4 ["claims", "parts"] (sp_slacksE K Ad) := by
 refine F.calE (F.fn.okE sc_slacks (fun vs H Q E h => ?_) (fun cdv A outer s H vs Q E hr h => ?_))
 ·obtain ⟨a, b, cs, ps, n, D, rfl, hL, hP, hO, hn, q, qE⟩ := h
  rfl
 obtain ⟨a, b, cs, ps, n, D, rfl, hL, hP, hO, hn, q, qE⟩ := h
 refine ⟨_, (pss_cons (ps_expr (pe_callP G_look_at_sharing hr (by decide) rfl (pa_cons (dv 0) (pa_cons (dv 1) pa_nil))))
  (pss_cons (ps_set (i := 2) sc_slacks.nd rfl (Or.inr rfl) (pe_callP G_common_bottom hr (by decide) rfl (pa_cons (pe_op d_cat (dv 0) (dv 1)) pa_nil)))
  (pss_cons (ps_set (i := 3) sc_slacks.nd rfl (Or.inr rfl) (pe_callP G_tops_over hr (by decide) rfl (pa_cons (dv 2) (pa_cons (dv 0) pa_nil))))
  (pss_cons (ps_set (i := 4) sc_slacks.nd rfl (Or.inr rfl) (pe_callP G_tops_over hr (by decide) rfl (pa_cons (dv 2) (pa_cons (dv 1) pa_nil))))
  (pss_cons (ps_set (i := 5) sc_slacks.nd rfl (Or.inl rfl) (pe_op d_sub (pe_op d_shl pe_int (pe_callB d_len rfl En.b_len PySem.boot_len (pa_cons (dv 0) pa_nil))) pe_int))
  (pss_one (ps_ret (pe_comp (defScope s_slacks) ["bottom"] [2] rfl (pi_list (pe_callB d_sortedA rfl En.b_sorted PyProof.Rows.boot_sorted (pa_cons (pe_comp (defScope s_slacks) ["claimed", "got"] [3, 4] rfl (pi_range2 rfl En.b_range (pa_cons pe_int (pa_cons (dv 5) pa_nil))) (fun z => (pe_callN G_slack hr (by decide) rfl (pa_cons (dv 1) (pa_cons (dv 2) (pa_cons (dv 0) pa_nil)))))) pa_nil))) (fun z => (pe_callN G_ratio hr (by decide) rfl (pa_cons (dv 0) (pa_cons (dv 1) pa_nil)))))))))))), ?_⟩
 have zc : ∀ c ∈ cs, Sz 9000 c := fun c hc => (hO.sz (m := 1001) (by omega) (List.mem_append_left _ hc)).mono (by decide)
 have zp : ∀ p ∈ ps, Sz 9000 p := fun p hp => (hO.sz (m := 1001) (by omega) (List.mem_append_right _ hp)).mono (by decide)
 refine ⟨a, b, cs, ps, rfl, hL, hP, zc, zp, fun hd H1 s1 => ?_, qE⟩
 obtain ⟨hpc, q⟩ := q hd
 have hnn : ∀ c ∈ cs, 0 ≤ c := by
  unfold dueS dueC at hd
  by_cases z1 : 8 < cs.length
  ·simp only [if_pos z1] at hd
   cases hd
  simp only [if_neg z1] at hd
  by_cases z2 : (cs.any fun c => decide (c < 0)) = true
  ·simp only [if_pos z2] at hd
   cases hd
  intro c hc
  have := fun z => z2 (List.any_eq_true.mpr ⟨c, hc, decide_eq_true z⟩)
  exact Rat.not_lt.mp this
 have h8 : cs.length ≤ 8 ∧ ps.length = cs.length := by
  unfold dueS dueC at hd
  by_cases z1 : 8 < cs.length
  ·simp only [if_pos z1] at hd
   cases hd
  simp only [if_neg z1] at hd
  by_cases z2 : (cs.any fun c => decide (c < 0)) = true
  ·simp only [if_pos z2] at hd
   cases hd
  simp only [if_neg z2] at hd
  by_cases z3 : ps.length ≠ cs.length ∨ badS cs ps = true
  ·simp only [if_pos z3] at hd
   cases hd
  ·exact ⟨by omega, by
    by_cases z : ps.length = cs.length
    ·exact z
    ·exact absurd (.inl z) z3⟩
 obtain ⟨vs, hs, hr, he⟩ := (hL.same s1).sq
 obtain ⟨vp, hsp, hrp, hep⟩ := (hP.same s1).sq
 have hlv := hr.len
 have hlp := hrp.len
 refine ⟨_, _, he, hep, by omega, fun l2 H2 n2 => ?_⟩
 have hC2 : RatL K H2 l2 (cs ++ ps) := ⟨_, n2.at_, (hr.app hrp).ts n2.ts⟩
 refine ⟨l2, cs ++ ps, n, D, rfl, hC2, hO, by omega, fun B hB hBD hdv => ?_⟩
 have hBb : Bd 9000 B := (dvd_bd hO.pos hBD hO.bd).mono (by omega)
 have s12 := s1.trans n2.same
 refine ⟨a, cs, B, rfl, hL.same s12, hB, hBb, fun x hx => hdv x (List.mem_append_left _ hx), zc, by omega, fun l3 ts H3 n3 ets => ?_⟩
 refine ⟨b, ps, B, rfl, (hP.same s12).same n3.same, hB, hBb, fun x hx => hdv x (List.mem_append_right _ hx), zp, by omega, fun l4 gs H4 n4 egs => ?_⟩
 have ec := tops_rt hB ets
 have ep := tops_rt hB egs
 have htl : ts.length = cs.length := by rw [ec, List.length_map]
 have hgl : gs.length = ps.length := by rw [ep, List.length_map]
 have s14 := s12.trans (n3.same.trans n4.same)
 have hgt : gs = ts := by
  rw [hpc, ← ets] at egs
  exact (List.map_inj_right fun x y e => Rat.intCast_inj.mp e).mp egs
 have hz : ∀ g, Lr.slackZ ts gs g = 0 := fun g => by
  rw [hgt]
  unfold Lr.slackZ
  have h1 := Lr.pick_sum (f := g.testBit) (k := 0) (xs := ts)
  have h2 : 0 ≤ (Lr.pick g.testBit 0 ts).sum := sum_nn fun t ht => by
   have h3 : (t : Rat) ∈ ts.map (fun (t : Int) => (t : Rat)) := List.mem_map.mpr ⟨t, Lr.pick_mem ht, rfl⟩
   rw [ets] at h3
   obtain ⟨c, hc, e⟩ := List.mem_map.mp h3
   have h4 : (0 : Rat) ≤ (t : Rat) := by
    rw [← e]
    exact Rat.mul_nonneg (hnn c hc) (Rat.intCast_nonneg.mpr (by omega))
   exact Rat.intCast_nonneg.mp h4
  omega
 obtain ⟨vs4, hs4, hr4, he4⟩ := (hL.same s14).sq
 have hl4 := hr4.len
 have e2 : (1 * 2 ^ ((vs4.length : Int)).toNat : Int) = 2 ^ cs.length := by rw [show ((vs4.length : Int)).toNat = vs4.length by omega, hr4.len]; omega
 refine ⟨vs4, .inl hs4, ⟨by omega, by omega, by decide⟩, ?_⟩
 rw [e2]
 have p1 : (1 : Int) ≤ 2 ^ cs.length ∧ (2 : Int) ^ cs.length ≤ 256 := by
  have h1 : (2 ^ cs.length : Nat) ≤ 2 ^ 8 := Nat.pow_le_pow_right (by decide) h8.1
  have h2 : 1 ≤ (2 ^ cs.length : Nat) := Nat.one_le_two_pow
  constructor
  ·exact_mod_cast h2
  ·exact_mod_cast h1
 have hts := n4.same _ _ n3.at_
 refine ⟨1, _, rfl, ⟨by omega, by omega, by omega, by omega⟩, fun D5 H5 n5 => ?_⟩
 have em : (2 ^ cs.length - 1 - 1 : Int).toNat = 2 ^ cs.length - 2 := by
  have : ((2 ^ cs.length : Nat) : Int) = 2 ^ cs.length := by rw [Int.natCast_pow]; rfl
  omega
 rw [em]
 refine comp_range (fun i ys H' => Same H4 H' ∧ H' D5 = some (.lst ys) ∧ ys = ((List.range' 1 i).map (Lr.slackZ ts gs)).map V.int) ⟨n5.same, n5.at_, rfl⟩ ?_ ?_
 ·rintro i ys H' z hi ⟨s', hD', rfl⟩
  refine ⟨l3, l4, ts, gs, 1 + i, (by show [V.ref l3, V.ref l4, V.int (1 + (i : Int))] = _; rw [show (1 + (i : Int)) = ((1 + i : Nat) : Int) by omega]), SqL.of (s' _ _ hts), SqL.of (s' _ _ n4.at_), by omega, by omega, fun H'' s'' => ?_⟩
  refine ⟨s'' _ _ hD', (by rw [List.length_map, List.length_map, List.length_range']; have := (Int.natCast_pow 2 cs.length); omega), fun H9 c9 => ⟨c9.same (s'.trans s'') n5.fr, c9.at_, ?_⟩⟩
  rw [List.range'_concat, List.map_append, List.map_append, Nat.one_mul]
  rfl
 ·rintro ys H6 ⟨s6, hD6, rfl⟩
  refine ⟨_, SqL.of hD6, (by rw [List.pairwise_map]; exact List.pairwise_of_forall fun x y => by rw [hz, hz]; exact Int.le_refl _), (by rw [List.length_map, List.length_range']; have := (Int.natCast_pow 2 cs.length); omega), fun l7 ms H7 hp7 hs7 n7 => ?_⟩
  refine ⟨_, rfl, ⟨_, SqL.of n7.at_⟩, fun D8 H8 n8 => ?_⟩
  have hml : ms.length ≤ 254 := by rw [hp7.length_eq, List.length_map, List.length_range']; have := (Int.natCast_pow 2 cs.length); omega
  refine comp_rats (xs := ms.map fun t => Lr.rt t B) n8 (SqL.of n7.at_) (by rw [List.length_map]; omega) (by rw [List.length_map, List.length_map]) ?_ fun H9 s9 hC9 hf9 => ?_
  ·intro j u x hu hx z H' s' R k'
   rw [List.getElem?_map] at hu hx
   obtain ⟨t, ht, rfl⟩ := Option.map_eq_some_iff.mp hu
   rw [ht] at hx
   cases hx
   exact ⟨t, B, rfl, by omega, hBb, fun z H' n => k' _ H' n.same (.new n)⟩
  have s79 := s14.trans (s6.trans (n7.same.trans s9))
  exact q D8 _ H9 s79 ((s14.trans (s6.trans n7.same)).free n8.fr) hC9
set_option maxHeartbeats 20000000 in
theorem cal_added (F : Has K mg "added" s_added ["claims", "estate", "order"] f fd) (En : Env K mg Ad) (G_look_at : CalE P w K mg base "look_at" 5 ["claims", "estate"] (sp_look K Ad)) (G_look_at_order : CalE P w K mg base "look_at_order" 1 ["claims", "order"] (sp_lookO K Ad)) (G_left_over : CalE P w K mg base "left_over" 5 ["claims", "estate"] (sp_lefto K)) (G_minus : CalE P w K mg base "minus" 3 ["one", "other"] (sp_minus K)) (G_of_others : CalE P w K mg base "of_others" 2 ["listed", "group"] (sp_pickV K (fun g i => !g.testBit i))) : CalE P w K mg base "added" 6 ["claims", "estate", "order"] (sp_added K Ad) := by
 refine F.calE (F.fn.okE sc_added (fun vs H Q E h => ?_) (fun cdv A outer s H vs Q E hr h => ?_))
 ·obtain ⟨a, v, b, cs, e, os, k, D, rfl, hL, hv, hS, h64, hO, hk, q, qE, qN⟩ := h
  rfl
 obtain ⟨a, v, b, cs, e, os, k, D, rfl, hL, hv, hS, h64, hO, hk, q, qE, qN⟩ := h
 refine ⟨_, (pss_cons (ps_expr (pe_callP G_look_at hr (by decide) rfl (pa_cons (dv 0) (pa_cons (dv 1) pa_nil))))
  (pss_cons (ps_expr (pe_callP G_look_at_order hr (by decide) rfl (pa_cons (dv 0) (pa_cons (dv 2) pa_nil))))
  (pss_cons (ps_setComp (k := 3) (defScope s_added) [] [] sc_added.nd rfl (Or.inl rfl) rfl (pi_list (dv 0)) (fun z => (En.c_Zp.pe rfl)))
  (pss_cons (ps_set (i := 4) sc_added.nd rfl (Or.inl rfl) pe_int)
  (pss_cons (ps_set (i := 5) sc_added.nd rfl (Or.inl rfl) (En.c_Zp.pe rfl))
  (pss_cons (ps_for PassesOwn.leaving rfl (pi_list (dv 2)) (pg_name (i := 6) sc_added.nd rfl (Or.inl rfl))
   (pss_cons (ps_set (i := 4) sc_added.nd rfl (Or.inl rfl) (pe_op d_bor (dv 4) (pe_op d_shl pe_int (dv 6))))
  (pss_cons (ps_set (i := 7) sc_added.nd rfl (Or.inl rfl) (pe_callP G_left_over hr (by decide) rfl (pa_cons (pe_callP G_of_others hr (by decide) rfl (pa_cons (dv 0) (pa_cons (dv 4) pa_nil))) (pa_cons (dv 1) pa_nil))))
  (pss_cons (ps_asg (pe_callP G_minus hr (by decide) rfl (pa_cons (dv 7) (pa_cons (dv 5) pa_nil))) (pg_sub (dv 3) (dv 6) d_setL))
  (pss_one (ps_set (i := 5) sc_added.nd rfl (Or.inl rfl) (dv 7)))))))
  (pss_one (ps_ret (dv 3))))))))), ?_⟩
 refine ⟨a, v, cs, e, k, D, rfl, hL, hv, hO, by omega, fun hd H1 s1 => ?_, qE⟩
 obtain ⟨h8, c0, e0, eT⟩ := due_none hd
 refine ⟨a, b, cs, os, rfl, hL.same s1, s1.seq hS, h64, by omega, fun ho H2 s2 => ?_, fun hn H2 s2 => qN hd hn H2 (s1.trans s2)⟩
 obtain ⟨r, er, hp⟩ := ord_nat ho
 have s12 := s1.trans s2
 obtain ⟨vs, hs, hr', he⟩ := (hL.same s12).sq
 have hlt : ∀ (j i : Nat), r[j]? = some i → i < cs.length := fun j i h => by
  have := hp.mem_iff.mp (List.mem_of_getElem? h)
  simpa using this
 have hnd : r.Nodup := hp.nodup_iff.mpr List.nodup_range
 refine ⟨_, rfl, ⟨_, hs⟩, fun Dl H3 n3 => ?_⟩
 refine comp_rats (xs := cs.map fun _ => 0) n3 hs (by rw [hr'.len]; omega) (by rw [hr'.len, List.length_map]) ?_ fun H4 s4 hC4 hf4 => ?_
 ·intro j u x hu hx z H' s' R k'
  rw [List.getElem?_map] at hx
  obtain ⟨_, _, rfl⟩ := Option.map_eq_some_iff.mp hx
  exact k' _ H' (Same.refl _) (rat0 En)
 have s14 := s12.trans s4
 have hfD : H Dl = none := s12.free hf4
 refine ⟨_, rfl, ⟨_, s14.seq hS⟩, for_list (xs := os.map V.int) (fun j σ H5 => Same H H5 ∧ ∃ (ps : List Rat) (g : Nat) (bv : V) (zc za : Option V), σ = [some (.ref a), some v, some (.ref b), some (.ref Dl), some (.int (g : Int)), some bv, zc, za] ∧ RatL K H5 Dl ps ∧ RatV K H5 bv (lov e (Lr.sm (Lr.oth g 0 cs))) ∧ ps.length = cs.length ∧ Lr.sm (Lr.oth g 0 cs) = Lr.sm cs - Lr.smAt cs (r.take j) ∧ (∀ i, g.testBit i = true ↔ i ∈ r.take j) ∧ (∀ p ∈ ps, Sz 2500 p) ∧ ∀ (j' i : Nat), j' < j → r[j']? = some i → ps[i]? = some (Lr.lv e (Lr.sm cs - Lr.smAt cs (r.take (j' + 1))) - Lr.lv e (Lr.sm cs - Lr.smAt cs (r.take j'))))
  ⟨s14, _, 0, _, _, _, rfl, hC4, (by rw [Lr.oth_zero, lov_eq, Lr.lv_all eT]; exact rat0 En), (by rw [List.length_map]), (by rw [Lr.oth_zero, List.take_zero]; show _ = Lr.sm cs - 0; grind), (fun i => by simp), (fun p hp => by obtain ⟨_, _, rfl⟩ := List.mem_map.mp hp; exact Sz.zero.mono (by decide)), fun j' i h => by omega⟩ (fun _ _ _ _ h => h.1.seq hS) ?_ ?_⟩
 ·rintro j u σ H5 hu ⟨s5, ps, g, bv, zc, za, rfl, hP, hb, hpl, hsm, hbit, zp, hps⟩
  rw [er, List.map_map, List.getElem?_map] at hu
  obtain ⟨i, hi, rfl⟩ := Option.map_eq_some_iff.mp hu
  have hic := hlt j i hi
  have hni : i ∉ r.take j := fun z => by
   obtain ⟨j2, hj2⟩ := List.mem_iff_getElem?.mp z
   have hl2 := (List.getElem?_eq_some_iff.mp hj2).1
   rw [List.length_take] at hl2
   rw [List.getElem?_take_of_lt (by omega)] at hj2
   have := (List.getElem?_inj (by have := (List.getElem?_eq_some_iff.mp hj2).1; omega) hnd).mp (hj2.trans hi.symm)
   omega
  have hnb : g.testBit (0 + i) = false := by
   rw [Nat.zero_add]
   cases hb2 : g.testBit i with
   | true => exact absurd ((hbit i).mp hb2) hni
   | false => rfl
  have hst := Lr.oth_step (cs := cs) (g := g) (k := 0) hic hnb
  rw [Nat.zero_add] at hst
  refine ⟨⟨by show (0 : Int) ≤ (i : Int); omega, by show (i : Int) ≤ 1000000; omega, by decide⟩, ?_⟩
  have ebit := bit_or g i
  refine oth_pick ⟨a, cs, g ||| 2 ^ i, (by show [V.ref a, V.int (Builtin.bitOr (g : Int) (1 * 2 ^ ((i : Int)).toNat))] ++ [] = _; rw [ebit]; rfl), hL.same s5, by omega, fun l1 H6 s6 f6 hO6 => ?_⟩
  have hol := Lr.oth_len (g ||| 2 ^ i) cs 0
  have hom : ∀ y ∈ Lr.oth (g ||| 2 ^ i) 0 cs, y ∈ cs := fun y hy => Lr.oth_mem hy
  refine ⟨l1, v, _, e, k, D, rfl, hO6, hv.same (s5.trans s6), hO.sub (fun y hy => ?_), by omega, by omega, fun w' H7 s7 hw => ?_⟩
  ·rcases List.mem_cons.mp hy with rfl | hy
   ·exact List.mem_cons_self
   ·exact List.mem_cons_of_mem _ (hom y hy)
  have s57 := s6.trans s7
  have zw := lov_sz hO hk (by omega) hom
  have zb := lov_sz hO hk (ys := Lr.oth g 0 cs) (by have := Lr.oth_len g cs 0; omega) (fun y hy => Lr.oth_mem hy)
  refine ⟨w', bv, _, _, 1212, 1212, rfl, hw, hb.same s57, zw, zb, by decide, trivial, fun z H8 n8 => ?_⟩
  have s58 := s57.trans n8.same
  obtain ⟨ws, hws, hwr, hwe⟩ := (hP.same s58).sq
  refine ⟨_, i, hwe, ixN_nat (by rw [hwr.len, hpl]; exact hic), fun H9 c9 => ?_⟩
  have t9 := c9.ts hwe
  have hP9 := (⟨_, c9.at_, (rats_set hwr (RatV.new n8) i).ts t9⟩ : RatL K H9 Dl _)
  have hsm' : Lr.sm (Lr.oth (g ||| 2 ^ i) 0 cs) = Lr.sm cs - Lr.smAt cs (r.take (j + 1)) := by
   rw [Lr.take_next hi, Lr.smAt_snoc]
   rw [hsm] at hst
   grind
  have ev : lov e (Lr.sm (Lr.oth (g ||| 2 ^ i) 0 cs)) - lov e (Lr.sm (Lr.oth g 0 cs)) = Lr.lv e (Lr.sm cs - Lr.smAt cs (r.take (j + 1))) - Lr.lv e (Lr.sm cs - Lr.smAt cs (r.take j)) := by rw [hsm', hsm, lov_eq, lov_eq]
  refine ⟨c9.same (s5.trans s58) hfD, _, g ||| 2 ^ i, w', _, _, (by rw [← ebit]; rfl), hP9, (hw.same n8.same).ts t9, by rw [List.length_set]; exact hpl, hsm', fun i2 => ?_, fun p hp => ?_, fun j' i' hj' hi' => ?_⟩
  ·rw [Lr.or_bit, Lr.take_next hi, List.mem_append, List.mem_singleton, Bool.or_eq_true, hbit i2, decide_eq_true_eq]
   exact ⟨fun h => h.elim .inl fun z => .inr z.symm, fun h => h.elim .inl fun z => .inr z.symm⟩
  ·rcases List.mem_or_eq_of_mem_set hp with h | rfl
   ·exact zp p h
   ·exact (Sz.sub zw zb).mono (by decide)
  ·by_cases hjj : j' = j
   ·subst hjj
    rw [hi] at hi'
    cases hi'
    rw [List.getElem?_set_self (by omega), ev]
   ·have hne : i ≠ i' := fun z => by
     rw [← z] at hi'
     have := (List.getElem?_inj (by have := (List.getElem?_eq_some_iff.mp hi).1; omega) hnd).mp (hi.trans hi'.symm)
     omega
    rw [List.getElem?_set_ne hne]
    exact hps j' i' (by omega) hi'
 ·rintro σ H5 ⟨s5, ps, g, bv, zc, za, rfl, hP, hb, hpl, hsm, hbit, zp, hps⟩
  refine q hd r er hp Dl ps H5 s5 hfD hP ⟨hpl, fun j i h => hps j i ?_ h⟩ zp
  have hj := (List.getElem?_eq_some_iff.mp h).1
  rw [er, List.map_map, List.length_map]
  exact hj
set_option maxHeartbeats 20000000 in
theorem cal_look_at_group (F : Has K mg "look_at_group" s_look_at_group ["claims", "group"] f fd) (En : Env K mg Ad) : CalE P w K mg base "look_at_group" 1 ["claims", "group"] (sp_lookG K Ad) := by
 refine F.calE (F.fn.okE sc_look_at_group (fun vs H Q E h => ?_) (fun cdv A outer s H vs Q E hr h => ?_))
 ·obtain ⟨a, cs, g, rfl, hL, hl, q, qE⟩ := h
  rfl
 obtain ⟨a, cs, g, rfl, hL, hl, q, qE⟩ := h
 refine ⟨_, (pss_one (ps_if (PW.pt (pw_or (dt_cmp d_lt (dv 1) pe_int (nomark _)) (pw_or1 (dt_cmp d_ge (dv 1) (pe_op d_shl pe_int (pe_callB d_len rfl En.b_len PySem.boot_len (pa_cons (dv 0) pa_nil))) (nomark _)))))
   (pss_one (ps_raise En.e_Zl rfl (pa_cons (d_str (l := [110, 111, 32, 103, 114, 111, 117, 112, 32, 111, 102, 32, 116, 104, 101, 32, 99, 108, 97, 105, 109, 101, 114, 115, 32, 105, 115, 32, 116, 111, 108, 100, 32, 98, 121, 32, 116, 104, 105, 115, 32, 110, 117, 109, 98, 101, 114]) (by decide +kernel)) pa_nil)))
   pss_nil)), ?_⟩
 obtain ⟨vs, hs, hr, he⟩ := hL.sq
 refine br (fun c => ?_) (fun c => ?_)
 ·exact ⟨by decide, qE (.inl c)⟩
 have e2 : (1 * 2 ^ ((vs.length : Int)).toNat : Int) = 2 ^ cs.length := by rw [show ((vs.length : Int)).toNat = vs.length by omega, hr.len]; omega
 refine ⟨vs, .inl hs, ⟨by omega, by rw [hr.len]; omega, by decide⟩, ?_⟩
 refine br (fun c2 => ?_) (fun c2 => ?_)
 ·exact ⟨by decide, qE (.inr (by rw [e2] at c2; exact c2))⟩
 ·exact q (by omega) (by rw [e2] at c2; omega)
set_option maxHeartbeats 20000000 in
theorem cal_worth (F : Has K mg "worth" s_worth ["claims", "estate", "group"] f fd) (En : Env K mg Ad) (G_look_at : CalE P w K mg base "look_at" 5 ["claims", "estate"] (sp_look K Ad)) (G_look_at_group : CalE P w K mg base "look_at_group" 1 ["claims", "group"] (sp_lookG K Ad)) (G_left_over : CalE P w K mg base "left_over" 5 ["claims", "estate"] (sp_lefto K)) (G_of_others : CalE P w K mg base "of_others" 2 ["listed", "group"] (sp_pickV K (fun g i => !g.testBit i))) : CalE P w K mg base "worth" 6 ["claims", "estate", "group"] (sp_worth K Ad) := by
 refine F.calE (F.fn.okE sc_worth (fun vs H Q E h => ?_) (fun cdv A outer s H vs Q E hr h => ?_))
 ·obtain ⟨a, v, cs, e, g, k, D, rfl, hL, hv, hO, hk, q, qE, qN⟩ := h
  rfl
 obtain ⟨a, v, cs, e, g, k, D, rfl, hL, hv, hO, hk, q, qE, qN⟩ := h
 refine ⟨_, (pss_cons (ps_expr (pe_callP G_look_at hr (by decide) rfl (pa_cons (dv 0) (pa_cons (dv 1) pa_nil))))
  (pss_cons (ps_expr (pe_callP G_look_at_group hr (by decide) rfl (pa_cons (dv 0) (pa_cons (dv 2) pa_nil))))
  (pss_one (ps_ret (pe_callP G_left_over hr (by decide) rfl (pa_cons (pe_callP G_of_others hr (by decide) rfl (pa_cons (dv 0) (pa_cons (dv 2) pa_nil))) (pa_cons (dv 1) pa_nil))))))), ?_⟩
 refine ⟨a, v, cs, e, k, D, rfl, hL, hv, hO, by omega, fun hd H1 s1 => ?_, qE⟩
 obtain ⟨h8, c0, e0, eT⟩ := due_none hd
 refine ⟨a, cs, g, rfl, hL.same s1, by omega, fun g0 g1 => ?_, fun hn => qN hd hn H1 s1⟩
 have eg : ((g.toNat : Nat) : Int) = g := Int.toNat_of_nonneg g0
 refine oth_pick ⟨a, cs, g.toNat, (by rw [eg]; rfl), hL.same s1, by omega, fun l1 H2 s2 f2 hO2 => ?_⟩
 have hol := Lr.oth_len g.toNat cs 0
 refine ⟨l1, v, _, e, k, D, rfl, hO2, hv.same (s1.trans s2), hO.sub (fun y hy => ?_), by omega, by omega, fun w' H3 s3 hw => q hd g0 g1 w' H3 (s1.trans (s2.trans s3)) hw⟩
 rcases List.mem_cons.mp hy with rfl | hy
 ·exact List.mem_cons_self
 ·exact List.mem_cons_of_mem _ (Lr.oth_mem hy)
set_option maxHeartbeats 20000000 in
theorem cal_look_at_sharing (F : Has K mg "look_at_sharing" s_look_at_sharing ["claims", "parts"] f fd) (En : Env K mg Ad) (G_look_at_claims : CalE P w K mg base "look_at_claims" 2 ["claims"] (sp_lookC K Ad)) (G_less : CalE P w K mg base "less" 1 ["one", "other"] (sp_less K)) : CalE P w K mg base "look_at_sharing" 3 ["claims", "parts"] (sp_lookSh K Ad) := by
 refine F.calE (F.fn.okE sc_look_at_sharing (fun vs H Q E h => ?_) (fun cdv A outer s H vs Q E hr h => ?_))
 ·obtain ⟨a, b, cs, ps, rfl, hL, hP, zc, zp, q, qE⟩ := h
  rfl
 obtain ⟨a, b, cs, ps, rfl, hL, hP, zc, zp, q, qE⟩ := h
 refine ⟨_, (pss_cons (ps_expr (pe_callP G_look_at_claims hr (by decide) rfl (pa_cons (dv 0) pa_nil)))
  (pss_cons (ps_if (dt_cmp d_ne (pe_callB d_len rfl En.b_len PySem.boot_len (pa_cons (dv 1) pa_nil)) (pe_callB d_len rfl En.b_len PySem.boot_len (pa_cons (dv 0) pa_nil)) (nomark _))
   (pss_one (ps_raise En.e_Zi rfl (pa_cons (d_str (l := [97, 32, 115, 104, 97, 114, 105, 110, 103, 32, 104, 111, 108, 100, 115, 32, 111, 110, 101, 32, 112, 97, 114, 116, 32, 102, 111, 114, 32, 101, 97, 99, 104, 32, 99, 108, 97, 105, 109]) (by decide +kernel)) pa_nil)))
   pss_nil)
  (pss_one (ps_for PassesOwn.leaving rfl (pi_zip rfl En.b_zip (pa_cons (dv 0) (pa_cons (dv 1) pa_nil))) (dg_tup rfl (dg_cons (pg_name (i := 2) sc_look_at_sharing.nd rfl (Or.inl rfl)) (dg_cons (pg_name (i := 3) sc_look_at_sharing.nd rfl (Or.inl rfl)) dg_nil)))
   (pss_one (ps_if (PW.pt (pw_or (dt_val (pe_callP G_less hr (by decide) rfl (pa_cons (dv 3) (pa_cons (En.c_Zp.pe rfl) pa_nil)))) (pw_or1 (dt_val (pe_callP G_less hr (by decide) rfl (pa_cons (dv 2) (pa_cons (dv 3) pa_nil)))))))
   (pss_one (ps_raise En.e_Zi rfl (pa_cons (d_str (l := [97, 32, 112, 97, 114, 116, 32, 105, 115, 32, 98, 101, 108, 111, 119, 32, 48, 32, 111, 114, 32, 97, 98, 111, 118, 101, 32, 105, 116, 115, 32, 99, 108, 97, 105, 109]) (by decide +kernel)) pa_nil)))
   pss_nil)))))), ?_⟩
 obtain ⟨vs, hs, hr, he⟩ := hL.sq
 obtain ⟨ws, hs2, hr2, he2⟩ := hP.sq
 refine ⟨a, cs, rfl, hL, zc, fun hd => ?_, fun c hc => qE c (by unfold dueS; rw [hc]) H (Same.refl _)⟩
 have eD : dueS Ad cs ps = if ps.length ≠ cs.length ∨ badS cs ps = true then some Ad.aNoSharing else none := by unfold dueS; rw [hd]
 refine ⟨_, .inl hs2, _, .inl hs, ?_⟩
 refine brN (fun c => ?_) (fun c => ?_)
 ·have hne : ps.length ≠ cs.length := by rw [hr.len, hr2.len] at c; omega
  exact ⟨by decide, qE _ (by rw [eD, if_pos (.inl hne)]) H (Same.refl _)⟩
 have hl : ps.length = cs.length := by rw [hr.len, hr2.len] at c; omega
 refine ⟨⟨_, hs⟩, ⟨_, hs2⟩, for_zip (xs := vs) (ys := ws) (fun i σ H1 => Same H H1 ∧ (∃ z1 z2, σ = [some (.ref a), some (.ref b), z1, z2]) ∧ ∀ (k : Nat) c p, k < i → cs[k]? = some c → ps[k]? = some p → 0 ≤ p ∧ p ≤ c) ⟨Same.refl _, ⟨_, _, rfl⟩, fun k c p h => by omega⟩ (fun _ _ _ _ h => ⟨h.1.seq hs, h.1.seq hs2⟩) (by rw [hr.len, hr2.len, hl]) ?_ ?_⟩
 ·rintro i x y σ H1 p H2 hx hy ⟨s1, ⟨z1, z2, rfl⟩, hg⟩ n2
  obtain ⟨c, hc, hv⟩ := hr.get hx
  obtain ⟨p', hp', hw⟩ := hr2.get hy
  have s2 := s1.trans n2.same
  refine ⟨_, SqT.of n2.at_, rfl, ?_⟩
  have fail : ¬ (0 ≤ p' ∧ p' ≤ c) → dueS Ad cs ps = some Ad.aNoSharing := fun hn => by
   have hbad : badS cs ps = true := by
    cases hb : badS cs ps with
    | true => rfl
    | false => exact absurd (badS_none hb hc hp') hn
   rw [eD, if_pos (.inr hbad)]
  refine ⟨y, _, p', 0, rfl, hw.same s2, rat0 En, zp p' (List.mem_of_getElem? hp'), Sz.zero.mono (by decide), ?_⟩
  refine br (fun c1 => ?_) (fun c1 => ?_)
  ·exact ⟨by decide, qE _ (fail (by grind)) H2 s2⟩
  refine ⟨x, y, c, p', rfl, hv.same s2, hw.same s2, zc c (List.mem_of_getElem? hc), zp p' (List.mem_of_getElem? hp'), ?_⟩
  refine br (fun c2 => ?_) (fun c2 => ?_)
  ·exact ⟨by decide, qE _ (fail (by grind)) H2 s2⟩
  refine ⟨s2, ⟨_, _, rfl⟩, fun k c' p'' hk hc' hp'' => ?_⟩
  by_cases hki : k = i
  ·subst hki
   rw [hc] at hc'
   rw [hp'] at hp''
   cases hc'
   cases hp''
   exact ⟨by grind, by grind⟩
  ·exact hg k c' p'' (by omega) hc' hp''
 ·rintro σ H1 ⟨s1, ⟨z1, z2, rfl⟩, hg⟩
  refine q ?_ H1 s1
  rw [eD, if_neg]
  intro z
  rcases z with z | z
  ·exact z hl
  ·rw [badS_good fun k c p hc hp => hg k c p (by rw [hr.len]; exact (List.getElem?_eq_some_iff.mp hc).1) hc hp] at z
   cases z
set_option maxHeartbeats 20000000 in
theorem cal_turned (F : Has K mg "turned" s_turned ["rule", "claims", "estate"] f fd) (En : Env K mg Ad) (G_look_at_rule : CalE P w K mg base "look_at_rule" 1 ["rule"] (sp_lookR Ad)) (G_claims_less : CalE P w K mg base "claims_less" 4 ["claims", "parts"] (sp_cless K)) (G_shared : CalE P w K mg base "shared" 9 ["rule", "claims", "estate"] (sp_sharedF K Ad)) (G_lack : CalE P w K mg base "lack" 6 ["claims", "estate"] (sp_lack K Ad)) : CalE P w K mg base "turned" 10 ["rule", "claims", "estate"] (sp_turnedF K Ad) := by
 refine F.calE (F.fn.okE sc_turned (fun vs H Q E h => ?_) (fun cdv A outer s H vs Q E hr h => ?_))
 ·obtain ⟨s, a, v, cs, e, k, D, rfl, hL, hv, hO, hk, q, qE⟩ := h
  rfl
 obtain ⟨s, a, v, cs, e, k, D, rfl, hL, hv, hO, hk, q, qE⟩ := h
 refine ⟨_, (pss_cons (ps_expr (pe_callP G_look_at_rule hr (by decide) rfl (pa_cons (dv 0) pa_nil)))
  (pss_one (ps_ret (pe_callP G_claims_less hr (by decide) rfl (pa_cons (dv 1) (pa_cons (pe_callP G_shared hr (by decide) rfl (pa_cons (dv 0) (pa_cons (dv 1) (pa_cons (pe_callP G_lack hr (by decide) rfl (pa_cons (dv 1) (pa_cons (dv 2) pa_nil))) pa_nil)))) pa_nil)))))), ?_⟩
 refine ⟨s, rfl, fun ⟨ρ, es⟩ => ?_, fun z => ?_⟩
 rotate_left
 ·refine qE _ ?_ H (Same.refl _)
  unfold dueR
  rw [if_neg]
  intro h
  obtain ⟨ρ, hρ⟩ := in_word h
  exact z ρ hρ
 subst es
 have ed : dueR Ad (word ρ) cs e = dueOf Ad cs e := by
  unfold dueR
  rw [if_pos (word_in ρ)]
 rw [ed] at q qE
 refine ⟨a, v, cs, e, k, D, rfl, hL, hv, hO, by omega, fun hd wl H1 s1 hw => ?_, qE⟩
 obtain ⟨h8, c0, e0, eT⟩ := due_none hd
 have hL1 := hL.same s1
 have hO' : Ob (k + 4) D ((Lr.sm cs - e) :: cs) := by
  refine ⟨hO.pos, hO.bd.mono (by omega), fun x hx => ?_⟩
  rcases List.mem_cons.mp hx with rfl | hx
  ·have h1 := Lr.Ov.sm hO.pos (fun x hx => hO.ov x (List.mem_cons_of_mem _ hx)) (a := cs)
   refine (Lr.Ov.sub hO.pos h1 (hO.ov e List.mem_cons_self)).mono ?_
   have h2 : cs.length * 2 ^ k ≤ 8 * 2 ^ k := Nat.mul_le_mul_right _ h8
   have h3 : 2 ^ (k + 4) = 16 * 2 ^ k := by rw [Nat.pow_add, Nat.mul_comm]
   omega
  ·exact (hO.mono (show k ≤ k + 4 by omega)).ov x (List.mem_cons_of_mem _ hx)
 have hd' : dueOf Ad cs (Lr.sm cs - e) = none := due_good h8 c0 (by grind) (by grind)
 have hdR : dueR Ad (word ρ) cs (Lr.sm cs - e) = none := by
  unfold dueR
  rw [if_pos (word_in ρ)]
  exact hd'
 refine ⟨word ρ, a, wl, cs, _, k + 4, D, rfl, hL1, hw, hO', by omega, fun _ ρ' lf ps H2 es2 s2 hf hP hR ⟨D', hO2⟩ => ?_, fun c hc => by rw [hdR] at hc; cases hc⟩
 refine ⟨a, lf, cs, ps, 2001, 4060, rfl, hL1.same s2, hP, fun c hc => hO.sz (by omega) (List.mem_cons_of_mem _ hc), fun p hp => hO2.sz (by omega) hp, by decide, by omega, hR.len, fun l H3 s3 hf3 hZ => ?_⟩
 exact q hd l _ H3 (s1.trans (s2.trans s3)) ((s1.trans s2).free hf3) hZ
set_option maxHeartbeats 20000000 in
theorem cal_of_two (F : Has K mg "of_two" s_of_two ["rule", "claim", "other", "amount"] f fd) (En : Env K mg Ad) (G_shared : CalE P w K mg base "shared" 9 ["rule", "claims", "estate"] (sp_sharedF K Ad)) : CalE P w K mg base "of_two" 10 ["rule", "claim", "other", "amount"] (sp_oftwoF K Ad) := by
 refine F.calE (F.fn.okE sc_of_two (fun vs H Q E h => ?_) (fun cdv A outer s H vs Q E hr h => ?_))
 ·obtain ⟨s, v1, v2, v3, c, d, m, k, D, rfl, h1, h2, h3, hO, hk, q, qE⟩ := h
  rfl
 obtain ⟨s, v1, v2, v3, c, d, m, k, D, rfl, h1, h2, h3, hO, hk, q, qE⟩ := h
 refine ⟨_, (pss_one (ps_ret (pe_callTy d_tuple rfl En.b_tuple PyProof.Rows.boot_tuple (pa_cons (pe_callP G_shared hr (by decide) rfl (pa_cons (dv 0) (pa_cons (d_lst (pa_cons (dv 1) (pa_cons (dv 2) pa_nil))) (pa_cons (dv 3) pa_nil)))) pa_nil)))), ?_⟩
 refine fun l H1 n1 => ?_
 have hL : RatL K H1 l [c, d] := RatL.new n1 ((RatsV.nil.snoc h1).snoc h2)
 refine ⟨s, l, v3, [c, d], m, k, D, rfl, hL, h3.same n1.same, hO, hk, fun hd ρ' lf ps H2 es s2 hf2 hP2 hR ⟨D', hO'⟩ => ?_, fun c hc H2 s2 => qE c hc H2 (n1.same.trans s2)⟩
 obtain ⟨vs, hs, hr, he⟩ := hP2.sq
 exact ⟨vs, hs, fun z H3 n3 => q hd z vs H3 (n1.same.trans (s2.trans n3.same)) n3.at_⟩
theorem atL {ns : List Int} {k : Int} (h0 : 0 ≤ k) (h : k < (ns.length : Int)) : ∃ v : Int, atI (ns.map V.int) k = some (.int v) ∧ v ∈ ns := by
 have hk : k.toNat < ns.length := by omega
 have ek : k = ((k.toNat : Nat) : Int) := by omega
 refine ⟨ns[k.toNat], ?_, List.getElem_mem hk⟩
 have q : atI (ns.map V.int) ((k.toNat : Nat) : Int) = some (.int ns[k.toNat]) := atI_nat (by rw [List.getElem?_map, List.getElem?_eq_getElem hk] <;> rfl)
 rw [← ek] at q
 exact q
theorem cdiv {x y : Int} (h : y.natAbs < 2 ^ 200) (h0 : y ≠ 0) : CDivB x y := ⟨h0, (Bd.of_lt h).mono (by decide)⟩
theorem m250 {x y : Int} (hx : x.natAbs < 2 ^ 250) (hy : y.natAbs < 2 ^ 250) : CMulB x y := CMulB.of (m := 250) (Bd.of_lt hx) (Bd.of_lt hy) (by decide)
theorem cpow {x : Int} {k : Int} (h0 : 0 ≤ k) (hk : k ≤ 1000) (hx : x.natAbs < 2 ^ 64) : CPowB x k := by
 refine ⟨h0, ?_⟩
 have h1 : (Builtin.Int.intBits x : Int) ≤ 64 := by have : Bd 64 x := Bd.of_lt hx; omega
 have : (Builtin.Int.intBits x : Int) * k ≤ 64 * 1000 := Int.mul_le_mul h1 hk h0 (by decide)
 omega
set_option maxHeartbeats 20000000 in
theorem cal_l_cell_at (F : Has K mg "_law_cell_at" s_l_cell_at ["_law_script", "_law_k"] f fd) (En : Env K mg Ad) : CalE P w K mg base "_law_cell_at" 1 ["_law_script", "_law_k"] (sp_cell K) := by
 refine F.calE (F.fn.okE sc_l_cell_at (fun vs H Q E h => ?_) (fun cdv A outer s H vs Q E hr h => ?_))
 ·obtain ⟨a, ns, k, rfl, hS, h0, q⟩ := h
  rfl
 obtain ⟨a, ns, k, rfl, hS, h0, q⟩ := h
 refine ⟨_, (pss_cons (ps_if (dt_cmp d_lt (dv 1) (pe_callB d_len rfl En.b_len PySem.boot_len (pa_cons (dv 0) pa_nil)) (nomark _))
   (pss_one (ps_ret (pe_ix d_ixL (dv 0) (dv 1) (fun _ _ => rfl))))
   pss_nil)
  (pss_one (ps_ret pe_int))), ?_⟩
 refine ⟨_, .inl hS, ?_⟩
 refine br (fun c => ?_) (fun c => ?_)
 ·rw [List.length_map] at c
  obtain ⟨v, hv, _⟩ := atL h0 c
  exact ⟨_, _, hS, hv, q v⟩
 ·exact q 0
theorem gcd_absl {a b : Int} : Int.gcd (if a < 0 then -a else a) b = Int.gcd a b := by
 unfold Int.gcd
 congr 1
 split <;> omega
set_option maxHeartbeats 20000000 in
theorem cal_l_ratio (F : Has K mg "_law_ratio" s_l_ratio ["_law_top", "_law_bottom"] f fd) (En : Env K mg Ad) : CalE P w K mg base "_law_ratio" 1 ["_law_top", "_law_bottom"] (sp_l_ratio) := by
 refine F.calE (F.fn.okE sc_l_ratio (fun vs H Q E h => ?_) (fun cdv A outer s H vs Q E hr h => ?_))
 ·obtain ⟨a, b, rfl, hb, h9, k⟩ := h
  rfl
 obtain ⟨a, b, rfl, hb, h9, k⟩ := h
 refine ⟨_, (pss_cons (ps_set (i := 2) sc_l_ratio.nd rfl (Or.inl rfl) (pe_callB d_abs rfl En.b_abs PyProof.Rows.boot_abs (pa_cons (dv 0) pa_nil)))
  (pss_cons (ps_set (i := 3) sc_l_ratio.nd rfl (Or.inl rfl) (dv 1))
  (pss_cons (ps_while PassesOwn.leaving (dt_cmp d_gt (dv 3) pe_int (nomark _))
   (pss_one (d_par rfl sc_l_ratio.nd rfl rfl (by decide : 2 ≠ 3) rfl rfl (pa_cons (dv 3) (pa_cons (pe_op d_mod (dv 2) (dv 3)) pa_nil)))))
  (pss_one (ps_ret (d_tup (pa_cons (pe_op d_fdiv (dv 0) (dv 2)) (pa_cons (pe_op d_fdiv (dv 1) (dv 2)) pa_nil)))))))), ?_⟩
 refine whl (fun m σ H' => H' = H ∧ ∃ (x y : Int), σ = [some (.int a), some (.int b), some (.int x), some (.int y)] ∧ 0 ≤ x ∧ 0 ≤ y ∧ Int.gcd x y = Int.gcd a b ∧ m = y.toNat) _ ⟨rfl, _, _, rfl, by split <;> omega, by omega, gcd_absl, rfl⟩ ?_
 rintro m σ H' ⟨rfl, x, y, rfl, hx, hy, hg, rfl⟩
 refine br (fun c => whl_in ?_) (fun c => ?_)
 ·have q1 := Int.emod_nonneg x (show y ≠ 0 by omega)
  have q2 := Int.emod_lt_of_pos x c
  exact ⟨c, _, by omega, rfl, y, x % y, rfl, by omega, q1, by rw [Lm.gcd_turn]; exact hg, rfl⟩
 ·have y0 : y = 0 := by omega
  subst y0
  have e : x = Lm.dv a b := by
   have : Lm.dv a b = (Int.gcd a b : Int) := if_neg (by omega)
   rw [this, ← hg, Int.gcd_zero_right]
   omega
  have nb : b ≠ 0 := by omega
  have d : CDivB a x := by rw [e]; exact ⟨Lm.dv_ne nb, dv_bd nb h9⟩
  have d' : CDivB b x := by rw [e]; exact ⟨Lm.dv_ne nb, dv_bd nb h9⟩
  refine ⟨d, d', fun p H1 n => k p H1 ?_⟩
  have e2 := Lr.rt_mk (a := a) nb
  rw [e] at n
  show New H' p (.tup [.int (Lr.rt a b).num, .int ((Lr.rt a b).den : Int)]) H1
  rw [← e2.1, ← e2.2]
  exact n
theorem atLast {ws : List Int} (h : ws ≠ []) : ∃ w ∈ ws, atI (ws.map V.int) (-1) = some (.int w) := by
 have hl : 0 < ws.length := List.length_pos_iff.mpr h
 refine ⟨ws[ws.length - 1], List.getElem_mem _, ?_⟩
 unfold atI ixN
 rw [List.length_map, if_neg (by decide), if_pos (by omega)]
 show (ws.map V.int)[((-1 : Int) + ws.length).toNat]? = _
 rw [show ((-1 : Int) + ws.length).toNat = ws.length - 1 by omega, List.getElem?_map, List.getElem?_eq_getElem (by omega)]
 rfl
set_option maxHeartbeats 20000000 in
theorem cal_l_wholes (F : Has K mg "_law_wholes" s_l_wholes ["_law_script", "_law_count"] f fd) (En : Env K mg Ad) (G_l_cell_at : CalE P w K mg base "_law_cell_at" 1 ["_law_script", "_law_k"] (sp_cell K)) : CalE P w K mg base "_law_wholes" 2 ["_law_script", "_law_count"] (sp_l_wholes K) := by
 refine F.calE (F.fn.okE sc_l_wholes (fun vs H Q E h => ?_) (fun cdv A outer s H vs Q E hr h => ?_))
 ·obtain ⟨a, ns, n, rfl, hS, n0, n8, k⟩ := h
  rfl
 obtain ⟨a, ns, n, rfl, hS, n0, n8, k⟩ := h
 refine ⟨_, (pss_cons (ps_set (i := 2) sc_l_wholes.nd rfl (Or.inl rfl) (d_lst pa_nil))
  (pss_cons (ps_for PassesOwn.leaving rfl (pi_range1 rfl En.b_range (pa_cons (dv 1) pa_nil)) (pg_name (i := 3) sc_l_wholes.nd rfl (Or.inl rfl))
   (pss_cons (ps_set (i := 4) sc_l_wholes.nd rfl (Or.inl rfl) (pe_op d_add (pe_op d_add (pe_callP G_l_cell_at hr (by decide) rfl (pa_cons (dv 0) (pa_cons (pe_op d_add pe_int (dv 3)) pa_nil))) (pe_op d_mul pe_int (dv 3))) pe_int))
  (pss_one (ps_if (dt_cmp d_eq (pe_op d_mod (dv 4) pe_int) pe_int (nomark _))
   (pss_one (ps_expr (d_append (dv 2) (pa_cons (pe_op d_mod (pe_op d_fdiv (dv 4) pe_int) (pe_op d_pow pe_int pe_int)) pa_nil))))
   (pss_one (ps_if (PW.pt (pw_and (dt_cmp d_eq (pe_op d_mod (dv 4) pe_int) pe_int (nomark _)) (pw_and1 (dt_cmp d_gt (dv 3) pe_int (nomark _)))))
   (pss_one (ps_expr (d_append (dv 2) (pa_cons (pe_ix d_ixL (dv 2) (pe_un d_neg pe_int) (fun _ _ => rfl)) pa_nil))))
   (pss_one (ps_if (dt_cmp d_eq (pe_op d_mod (dv 4) pe_int) pe_int (nomark _))
   (pss_one (ps_expr (d_append (dv 2) (pa_cons pe_int pa_nil))))
   (pss_one (ps_expr (d_append (dv 2) (pa_cons (pe_op d_add pe_int (pe_op d_mod (pe_op d_fdiv (dv 4) pe_int) pe_int)) pa_nil))))))))))))
  (pss_one (ps_ret (dv 2))))), ?_⟩
 intro l H0 hn
 refine ⟨n, rfl, by omega, by omega, ?_⟩
 refine for_range (fun i σ H1 => ∃ (ws : List Int) (x3 x4 : Option V), σ = [some (.ref a), some (.int n), some (.ref l), x3, x4] ∧ Same H H1 ∧ H1 l = some (.lst (ws.map V.int)) ∧ ws.length = i ∧ ∀ w ∈ ws, 0 ≤ w ∧ w < 10 ^ 30)
  ⟨[], _, _, rfl, hn.same, hn.at_, rfl, by simp⟩ ?_ ?_
 ·rintro i σ H1 hi ⟨ws, x3, x4, rfl, s1, hl, hw, hr⟩
  have hi8 : i < 8 := by omega
  refine ⟨a, ns, _, rfl, s1.seq hS, by omega, fun v => ?_⟩
  refine ⟨m250 (by decide) (by omega), ?_⟩
  have put : ∀ (z3 z4 : Option V) (w : Int), 0 ≤ w → w < 10 ^ 30 → ∀ H2, Chg H1 l (.lst (ws.map V.int ++ [.int w])) H2 →
    ∃ (ws' : List Int) (x3 x4 : Option V), [some (V.ref a), some (.int n), some (.ref l), z3, z4] = [some (.ref a), some (.int n), some (.ref l), x3, x4] ∧ Same H H2 ∧ H2 l = some (.lst (ws'.map V.int)) ∧ ws'.length = i + 1 ∧ ∀ w ∈ ws', 0 ≤ w ∧ w < 10 ^ 30 := fun z3 z4 w w0 w1 H2 ch => by
   refine ⟨ws ++ [w], _, _, rfl, ch.same s1 hn.fr, by rw [ch.at_, List.map_append]; rfl, by simp [hw], fun u hu => ?_⟩
   rcases List.mem_append.mp hu with hu | hu
   ·exact hr u hu
   ·obtain rfl : u = w := by simpa using hu
    exact ⟨w0, w1⟩
  have hlen : (ws.map V.int).length < 16000000 := by rw [List.length_map]; omega
  refine ⟨by decide, ?_⟩
  refine br (fun _ => ?_) (fun _ => ?_)
  ·refine ⟨⟨_, hl⟩, cdiv (by decide) (by decide), cpow (by decide) (by decide) (by decide), by decide, _, hl, hlen, fun H2 ch => put _ _ _ ?_ ?_ H2 ch⟩
   ·show 0 ≤ Int.fdiv _ 4 % 10 ^ 30
    omega
   ·show Int.fdiv _ 4 % 10 ^ 30 < 10 ^ 30
    omega
  refine ⟨by decide, ?_⟩
  refine br (fun _ => ?_) (fun _ => ?_)
  ·refine br (fun c0 => ?_) (fun _ => ?_)
   ·obtain ⟨w, hwm, e⟩ := atLast (ws := ws) (fun z => by rw [z] at hw; simp at hw; omega)
    exact ⟨⟨_, hl⟩, _, _, SqL.of hl, e, _, hl, hlen, fun H2 ch => put _ _ _ (hr w hwm).1 (hr w hwm).2 H2 ch⟩
   ·refine ⟨by decide, ?_⟩
    refine br (fun _ => ?_) (fun _ => ?_)
    ·exact ⟨⟨_, hl⟩, _, hl, hlen, fun H2 ch => put _ _ _ (by decide) (by decide) H2 ch⟩
    ·exact ⟨⟨_, hl⟩, cdiv (by decide) (by decide), by decide, _, hl, hlen, fun H2 ch => put _ _ _ (by omega) (by omega) H2 ch⟩
  ·refine ⟨by decide, ?_⟩
   refine br (fun _ => ?_) (fun _ => ?_)
   ·exact ⟨⟨_, hl⟩, _, hl, hlen, fun H2 ch => put _ _ _ (by decide) (by decide) H2 ch⟩
   ·exact ⟨⟨_, hl⟩, cdiv (by decide) (by decide), by decide, _, hl, hlen, fun H2 ch => put _ _ _ (by omega) (by omega) H2 ch⟩
 ·rintro σ H1 ⟨ws, x3, x4, rfl, s1, hl, hw, hr⟩
  exact k l ws H1 s1 hn.fr hl (by omega) hr
theorem sum_bd {ws : List Int} (hl : ws.length ≤ 8) (hr : ∀ w ∈ ws, 0 ≤ w ∧ w < 10 ^ 30) : 0 ≤ ws.sum ∧ ws.sum ≤ 8 * 10 ^ 30 := by
 have key : ∀ l : List Int, (∀ w ∈ l, 0 ≤ w ∧ w < 10 ^ 30) → 0 ≤ l.sum ∧ l.sum ≤ l.length * 10 ^ 30 := fun l => by
  induction l with
  | nil => intro _; exact ⟨by decide, by decide⟩
  | cons x r ih =>
   intro h
   have h1 := ih fun w hw => h w (List.mem_cons_of_mem _ hw)
   have h2 := h x List.mem_cons_self
   rw [List.sum_cons, List.length_cons]
   constructor
   ·omega
   ·have : ((r.length + 1 : Nat) : Int) * 10 ^ 30 = r.length * 10 ^ 30 + 10 ^ 30 := by push_cast; rw [Int.add_mul]; omega
    omega
 have := key ws hr
 refine ⟨this.1, Int.le_trans this.2 ?_⟩
 exact Int.mul_le_mul_of_nonneg_right (by omega) (by decide)
theorem sum_min {ws : List Int} {d : Int} (hr : ∀ w ∈ ws, 0 ≤ w ∧ w < 10 ^ 30) (hd : 0 ≤ d) : 0 ≤ (ws.map fun w => min w d).sum ∧ (ws.map fun w => min w d).sum ≤ ws.sum := by
 induction ws with
 | nil => exact ⟨Int.le_refl _, Int.le_refl _⟩
 | cons x r ih =>
  have h1 := ih fun w hw => hr w (List.mem_cons_of_mem _ hw)
  have h2 := hr x List.mem_cons_self
  rw [List.map_cons, List.sum_cons, List.sum_cons]
  omega
theorem sum_two {ws : List Int} : (ws.map fun w => 2 * w).sum = 2 * ws.sum := by
 induction ws with
 | nil => rfl
 | cons x r ih => rw [List.map_cons, List.sum_cons, List.sum_cons, ih]; omega
theorem sum_mul {ws : List Int} {p : Int} : (ws.map fun w => w * p).sum = ws.sum * p := by
 induction ws with
 | nil => simp
 | cons x r ih => rw [List.map_cons, List.sum_cons, List.sum_cons, ih, Int.add_mul]
theorem mul_bd {w p : Int} (h0 : 0 ≤ w) (h1 : w < 10 ^ 30) (p0 : 0 ≤ p) (p1 : p ≤ 1000) : 0 ≤ w * p ∧ w * p < 10 ^ 34 := by
 refine ⟨Int.mul_nonneg h0 p0, ?_⟩
 have : w * p ≤ 10 ^ 30 * 1000 := Int.mul_le_mul (by omega) p1 p0 (by decide)
 omega
theorem mul_bo {w p : Int} (h0 : 0 ≤ w) (h1 : w ≤ 10 ^ 9) (p0 : 0 ≤ p) (p1 : p ≤ 1000) : w * p < 10 ^ 13 := by
 have : w * p ≤ 10 ^ 9 * 1000 := Int.mul_le_mul (by omega) p1 p0 (by decide)
 omega
set_option maxHeartbeats 20000000 in
theorem cal_l_case (F : Has K mg "_law_case" s_l_case ["_law_script"] f fd) (En : Env K mg Ad) (G_l_wholes : CalE P w K mg base "_law_wholes" 2 ["_law_script", "_law_count"] (sp_l_wholes K)) (G_l_cell_at : CalE P w K mg base "_law_cell_at" 1 ["_law_script", "_law_k"] (sp_cell K)) : CalE P w K mg base "_law_case" 3 ["_law_script"] (sp_l_case K) := by
 refine F.calE (F.fn.okE sc_l_case (fun vs H Q E h => ?_) (fun cdv A outer s H vs Q E hr h => ?_))
 ·obtain ⟨a, ns, rfl, hS, k⟩ := h
  rfl
 obtain ⟨a, ns, rfl, hS, k⟩ := h
 refine ⟨_, (pss_cons (ps_set (i := 1) sc_l_case.nd rfl (Or.inl rfl) (pe_op d_mod (pe_callP G_l_cell_at hr (by decide) rfl (pa_cons (dv 0) (pa_cons pe_int pa_nil))) pe_int))
  (pss_cons (ps_set (i := 2) sc_l_case.nd rfl (Or.inl rfl) (pe_op d_add pe_int (pe_op d_mod (pe_op d_fdiv (pe_callP G_l_cell_at hr (by decide) rfl (pa_cons (dv 0) (pa_cons pe_int pa_nil))) pe_int) pe_int)))
  (pss_cons (ps_if (dt_cmp d_eq (pe_op d_mod (pe_op d_fdiv (pe_callP G_l_cell_at hr (by decide) rfl (pa_cons (dv 0) (pa_cons pe_int pa_nil))) pe_int) pe_int) pe_int (nomark _))
   (pss_one (ps_set (i := 2) sc_l_case.nd rfl (Or.inl rfl) (pe_op d_add pe_int (pe_op d_mod (pe_op d_fdiv (pe_callP G_l_cell_at hr (by decide) rfl (pa_cons (dv 0) (pa_cons pe_int pa_nil))) pe_int) (pe_op d_pow pe_int pe_int)))))
   pss_nil)
  (pss_cons (ps_set (i := 3) sc_l_case.nd rfl (Or.inl rfl) (pe_callP G_l_wholes hr (by decide) rfl (pa_cons (dv 0) (pa_cons (dv 1) pa_nil))))
  (pss_cons (ps_set (i := 4) sc_l_case.nd rfl (Or.inl rfl) (pe_op d_fdiv (pe_callP G_l_cell_at hr (by decide) rfl (pa_cons (dv 0) (pa_cons pe_int pa_nil))) pe_int))
  (pss_cons (ps_set (i := 5) sc_l_case.nd rfl (Or.inl rfl) (pe_op d_mod (pe_callP G_l_cell_at hr (by decide) rfl (pa_cons (dv 0) (pa_cons pe_int pa_nil))) pe_int))
  (pss_cons (ps_if (PW.pt (pw_and (dt_cmp d_eq (dv 5) pe_int (nomark _)) (pw_and1 (dt_cmp d_gt (dv 1) pe_int (nomark _)))))
   (pss_cons (ps_set (i := 6) sc_l_case.nd rfl (Or.inr rfl) (pe_ix d_ixL (dv 3) (pe_op d_mod (dv 4) (dv 1)) (fun _ _ => rfl)))
  (pss_cons (ps_set (i := 7) sc_l_case.nd rfl (Or.inl rfl) (pe_op d_mul (pe_callB (d_sum rfl) rfl En.b_sum PyProof.Rows.boot_sum (pa_cons (pe_comp (defScope s_l_case) ["_law_bend"] [6] rfl (pi_list (dv 3)) (fun z => (pe_callB (d_min rfl) rfl En.b_min PyProof.Rows.boot_min (pa_cons (dv 0) (pa_cons (dv 1) pa_nil))))) pa_nil)) (pe_op d_add pe_int (pe_op d_mod (pe_op d_fdiv (dv 4) (dv 1)) pe_int))))
  (pss_one (ps_ret (d_tup (pa_cons (pe_comp (defScope s_l_case) [] [] rfl (pi_list (dv 3)) (fun z => (pe_op d_mul pe_int (dv 0)))) (pa_cons (dv 7) (pa_cons (pe_op d_mul pe_int (dv 2)) pa_nil))))))))
   pss_nil)
  (pss_cons (ps_if (dt_cmp d_eq (dv 5) pe_int (nomark _))
   (pss_cons (ps_set (i := 8) sc_l_case.nd rfl (Or.inr rfl) (pe_op d_add pe_int (pe_op d_mod (dv 4) pe_int)))
  (pss_one (ps_ret (d_tup (pa_cons (pe_comp (defScope s_l_case) ["_law_parts"] [8] rfl (pi_list (dv 3)) (fun z => (pe_op d_mul (dv 0) (dv 1)))) (pa_cons (pe_op d_mod (pe_op d_fdiv (dv 4) pe_int) (pe_op d_add (pe_op d_mul (pe_callB (d_sum rfl) rfl En.b_sum PyProof.Rows.boot_sum (pa_cons (dv 3) pa_nil)) (dv 8)) pe_int)) (pa_cons (pe_op d_mul (dv 2) (dv 8)) pa_nil)))))))
   pss_nil)
  (pss_cons (ps_set (i := 8) sc_l_case.nd rfl (Or.inr rfl) (pe_ix d_ixL (d_lst (pa_cons pe_int (pa_cons pe_int (pa_cons pe_int (pa_cons pe_int (pa_cons (pe_op d_add pe_int (pe_op d_mod (dv 4) pe_int)) pa_nil)))))) (dv 5) (fun _ _ => rfl)))
  (pss_cons (ps_set (i := 9) sc_l_case.nd rfl (Or.inl rfl) (pe_op d_mod (pe_ix d_ixL (d_lst (pa_cons pe_int (pa_cons pe_int (pa_cons pe_int (pa_cons pe_int (pa_cons (pe_op d_fdiv (dv 4) pe_int) pa_nil)))))) (dv 5) (fun _ _ => rfl)) (pe_op d_add (dv 8) pe_int)))
  (pss_one (ps_ret (d_tup (pa_cons (pe_comp (defScope s_l_case) ["_law_parts"] [8] rfl (pi_list (dv 3)) (fun z => (pe_op d_mul (dv 0) (dv 1)))) (pa_cons (pe_op d_mul (pe_callB (d_sum rfl) rfl En.b_sum PyProof.Rows.boot_sum (pa_cons (dv 3) pa_nil)) (dv 9)) (pa_cons (pe_op d_mul (dv 2) (dv 8)) pa_nil)))))))))))))))), ?_⟩
 refine ⟨a, ns, 0, rfl, hS, by decide, fun v0 => ⟨by decide, ?_⟩⟩
 have n0 : 0 ≤ v0 % 9 ∧ v0 % 9 < 9 := by omega
 refine ⟨a, ns, 0, rfl, hS, by decide, fun v1 => ⟨cdiv (by decide) (by decide), by decide, ?_⟩⟩
 refine ⟨a, ns, 0, rfl, hS, by decide, fun v2 => ⟨cdiv (by decide) (by decide), by decide, ?_⟩⟩
 refine br (fun _ => ?_) (fun _ => ?_)
 ·refine ⟨a, ns, 0, rfl, hS, by decide, fun v5 => ⟨cdiv (by decide) (by decide), cpow (by decide) (by decide) (by decide), by decide, ?_⟩⟩
  have hb : 0 ≤ v5.fdiv 648 % 10 ^ ((9 : Int).toNat) ∧ v5.fdiv 648 % 10 ^ ((9 : Int).toNat) < 10 ^ 9 := by
   show 0 ≤ v5.fdiv 648 % 10 ^ 9 ∧ v5.fdiv 648 % 10 ^ 9 < 10 ^ 9
   omega
  generalize v5.fdiv 648 % 10 ^ ((9 : Int).toNat) = b' at hb ⊢
  refine ⟨a, ns, _, rfl, hS, by omega, by omega, fun l ws H1 s1 f1 hl hw hr => ?_⟩
  have hS1 := s1.seq hS
  have hlen : ws.length ≤ 8 := by omega
  have sb := sum_bd hlen hr
  refine ⟨a, ns, 1, rfl, hS1, by decide, fun v3 => ⟨cdiv (by decide) (by decide), a, ns, 1, rfl, hS1, by decide, fun v4 => ⟨by decide, ?_⟩⟩⟩
  generalize v3.fdiv 6 = c
  have y0 : 0 ≤ v4 % 6 ∧ v4 % 6 < 6 := by omega
  generalize v4 % 6 = y at y0
  generalize v0 % 9 = n at n0 hw
  have rest : y ≠ 5 → ∃ p q : Int, 1 ≤ p ∧ p ≤ 97 ∧ atI [V.int 1, .int 1, .int 2, .int 1, .int (1 + c % 97)] y = some (.int p) ∧ atI [V.int 0, .int 1, .int 1, .int 1, .int (c.fdiv 97)] y = some (.int q) := fun h => by
   rcases (show y = 0 ∨ y = 1 ∨ y = 2 ∨ y = 3 ∨ y = 4 by omega) with rfl | rfl | rfl | rfl | rfl
   ·exact ⟨1, 0, by decide, by decide, rfl, rfl⟩
   ·exact ⟨1, 1, by decide, by decide, rfl, rfl⟩
   ·exact ⟨2, 1, by decide, by decide, rfl, rfl⟩
   ·exact ⟨1, 1, by decide, by decide, rfl, rfl⟩
   ·exact ⟨1 + c % 97, c.fdiv 97, by omega, by omega, rfl, rfl⟩
  refine br (fun c3 => ?_) (fun c3 => ?_)
  ·refine br (fun c0 => ?_) (fun c0 => ?_)
   ·obtain ⟨d, hd, hdm⟩ := atL (ns := ws) (k := c % n) (Int.emod_nonneg _ (by omega)) (by have := Int.emod_lt_of_pos c c0; omega)
    have hd' := hr d hdm
    refine ⟨c0, _, _, SqL.of hl, hd, ?_⟩
    refine ⟨_, rfl, ⟨_, SqL.of hl⟩, fun D H2 n2 => ?_⟩
    refine comp_ints (fun w => min w d) n2 (SqL.of hl) (by omega) ?_ fun H3 n3 => ?_
    ·exact (fun w _ z H' R h => h)
    refine ⟨_, SqL.of n3.at_, ⟨by omega, (Bd.of_lt (n := 200) (by omega)).mono (by decide)⟩, by decide, ?_⟩
    have sm := sum_min (ws := ws) (d := d) hr hd'.1
    have hc2 : 0 ≤ c.fdiv n % 2 ∧ c.fdiv n % 2 < 2 := by omega
    refine ⟨m250 (by omega) (by omega), ?_⟩
    have hl3 := n3.same _ _ hl
    refine ⟨_, rfl, ⟨_, SqL.of hl3⟩, fun D2 H4 n4 => ?_⟩
    refine comp_ints (fun w => 2 * w) n4 (SqL.of hl3) (by omega) ?_ fun H5 n5 => ?_
    ·exact (fun w hwm z H' R h => ⟨m250 (by decide) (by have := hr w hwm; omega), h⟩)
    refine ⟨m250 (by decide) (by omega), fun t H6 n6 => ?_⟩
    refine k t D2 _ _ _ H6 (s1.trans (n3.same.trans (n5.same.trans n6.same))) n6.at_ (s1.free (n3.same.free n5.fr)) (n6.same _ _ n5.at_) ⟨by rw [List.length_map]; exact hlen, ?_, ?_, ?_, by omega, by omega⟩
    ·intro x hx
     obtain ⟨w, hwm, rfl⟩ := List.mem_map.mp hx
     have := hr w hwm
     omega
    ·rcases (show c.fdiv n % 2 = 0 ∨ c.fdiv n % 2 = 1 by omega) with e | e <;> rw [e] <;> omega
    ·rw [sum_two]
     rcases (show c.fdiv n % 2 = 0 ∨ c.fdiv n % 2 = 1 by omega) with e | e <;> rw [e] <;> omega
   ·
    refine br (fun c5 => ?_) (fun c5 => ?_)
    ·refine ⟨by decide, ?_⟩
     have hp : 0 ≤ c % 1000 ∧ c % 1000 < 1000 := by omega
     generalize c % 1000 = p' at hp
     refine ⟨_, rfl, ⟨_, SqL.of hl⟩, fun D H2 n2 => ?_⟩
     refine comp_ints (fun w => w * (1 + p')) n2 (SqL.of hl) (by omega) ?_ fun H3 n3 => ?_
     ·exact (fun w hwm z H' R h => ⟨m250 (by have := hr w hwm; omega) (by omega), h⟩)
     have hl3 := n3.same _ _ hl
     have sp0 : 0 ≤ ws.sum * (1 + p') := Int.mul_nonneg sb.1 (by omega)
     refine ⟨cdiv (by decide) (by decide), _, SqL.of hl3, m250 (by omega) (by omega), (by omega), ?_⟩
     refine ⟨m250 (by omega) (by omega), fun t H6 n6 => ?_⟩
     have r0 := Int.emod_nonneg (c.fdiv 1000) (show ws.sum * (1 + p') + 1 ≠ 0 by omega)
     have r1 := Int.emod_lt_of_pos (c.fdiv 1000) (show 0 < ws.sum * (1 + p') + 1 by omega)
     refine k t D _ _ _ H6 (s1.trans (n3.same.trans n6.same)) n6.at_ (s1.free n3.fr) (n6.same _ _ n3.at_) ⟨by rw [List.length_map]; exact hlen, ?_, r0, ?_, Int.mul_pos (by omega) (by omega), ?_⟩
     ·intro x hx
      obtain ⟨w, hwm, rfl⟩ := List.mem_map.mp hx
      exact mul_bd (hr w hwm).1 (hr w hwm).2 (by omega) (by omega)
     ·rw [sum_mul]; omega
     ·exact mul_bo (by omega) (by omega) (by omega) (by omega)
    ·obtain ⟨p, q, p1, p97, ep, eq⟩ := rest c5
     refine ⟨by decide, fun z1 H2 n2 => ⟨_, _, SqL.of n2.at_, ep, ?_⟩⟩
     refine ⟨cdiv (by decide) (by decide), fun z2 H3 n3 => ⟨_, _, SqL.of n3.at_, eq, (by show 0 < p + 1; omega), ?_⟩⟩
     have q0 := Int.emod_nonneg q (show p + 1 ≠ 0 by omega)
     have q1 := Int.emod_lt_of_pos q (show 0 < p + 1 by omega)
     have hl3 := n3.same _ _ (n2.same _ _ hl)
     refine ⟨_, rfl, ⟨_, SqL.of hl3⟩, fun D H4 n4 => ?_⟩
     refine comp_ints (fun w => w * p) n4 (SqL.of hl3) (by omega) ?_ fun H5 n5 => ?_
     ·exact (fun w hwm z H' R h => ⟨m250 (by have := hr w hwm; omega) (by omega), h⟩)
     have hl5 := n5.same _ _ hl3
     refine ⟨_, SqL.of hl5, m250 (by omega) (by omega), m250 (by omega) (by omega), fun t H6 n6 => ?_⟩
     refine k t D _ _ _ H6 (s1.trans (n2.same.trans (n3.same.trans (n5.same.trans n6.same)))) n6.at_ (s1.free (n2.same.free (n3.same.free n5.fr))) (n6.same _ _ n5.at_) ⟨by rw [List.length_map]; exact hlen, ?_, Int.mul_nonneg sb.1 q0, ?_, Int.mul_pos (by omega) (by omega), ?_⟩
     ·intro x hx
      obtain ⟨w, hwm, rfl⟩ := List.mem_map.mp hx
      exact mul_bd (hr w hwm).1 (hr w hwm).2 (by omega) (by omega)
     ·rw [sum_mul]
      exact Int.mul_le_mul_of_nonneg_left (by omega) sb.1
     ·exact mul_bo (by omega) (by omega) (by omega) (by omega)
  ··
    refine br (fun c5 => ?_) (fun c5 => ?_)
    ·refine ⟨by decide, ?_⟩
     have hp : 0 ≤ c % 1000 ∧ c % 1000 < 1000 := by omega
     generalize c % 1000 = p' at hp
     refine ⟨_, rfl, ⟨_, SqL.of hl⟩, fun D H2 n2 => ?_⟩
     refine comp_ints (fun w => w * (1 + p')) n2 (SqL.of hl) (by omega) ?_ fun H3 n3 => ?_
     ·exact (fun w hwm z H' R h => ⟨m250 (by have := hr w hwm; omega) (by omega), h⟩)
     have hl3 := n3.same _ _ hl
     have sp0 : 0 ≤ ws.sum * (1 + p') := Int.mul_nonneg sb.1 (by omega)
     refine ⟨cdiv (by decide) (by decide), _, SqL.of hl3, m250 (by omega) (by omega), (by omega), ?_⟩
     refine ⟨m250 (by omega) (by omega), fun t H6 n6 => ?_⟩
     have r0 := Int.emod_nonneg (c.fdiv 1000) (show ws.sum * (1 + p') + 1 ≠ 0 by omega)
     have r1 := Int.emod_lt_of_pos (c.fdiv 1000) (show 0 < ws.sum * (1 + p') + 1 by omega)
     refine k t D _ _ _ H6 (s1.trans (n3.same.trans n6.same)) n6.at_ (s1.free n3.fr) (n6.same _ _ n3.at_) ⟨by rw [List.length_map]; exact hlen, ?_, r0, ?_, Int.mul_pos (by omega) (by omega), ?_⟩
     ·intro x hx
      obtain ⟨w, hwm, rfl⟩ := List.mem_map.mp hx
      exact mul_bd (hr w hwm).1 (hr w hwm).2 (by omega) (by omega)
     ·rw [sum_mul]; omega
     ·exact mul_bo (by omega) (by omega) (by omega) (by omega)
    ·obtain ⟨p, q, p1, p97, ep, eq⟩ := rest c5
     refine ⟨by decide, fun z1 H2 n2 => ⟨_, _, SqL.of n2.at_, ep, ?_⟩⟩
     refine ⟨cdiv (by decide) (by decide), fun z2 H3 n3 => ⟨_, _, SqL.of n3.at_, eq, (by show 0 < p + 1; omega), ?_⟩⟩
     have q0 := Int.emod_nonneg q (show p + 1 ≠ 0 by omega)
     have q1 := Int.emod_lt_of_pos q (show 0 < p + 1 by omega)
     have hl3 := n3.same _ _ (n2.same _ _ hl)
     refine ⟨_, rfl, ⟨_, SqL.of hl3⟩, fun D H4 n4 => ?_⟩
     refine comp_ints (fun w => w * p) n4 (SqL.of hl3) (by omega) ?_ fun H5 n5 => ?_
     ·exact (fun w hwm z H' R h => ⟨m250 (by have := hr w hwm; omega) (by omega), h⟩)
     have hl5 := n5.same _ _ hl3
     refine ⟨_, SqL.of hl5, m250 (by omega) (by omega), m250 (by omega) (by omega), fun t H6 n6 => ?_⟩
     refine k t D _ _ _ H6 (s1.trans (n2.same.trans (n3.same.trans (n5.same.trans n6.same)))) n6.at_ (s1.free (n2.same.free (n3.same.free n5.fr))) (n6.same _ _ n5.at_) ⟨by rw [List.length_map]; exact hlen, ?_, Int.mul_nonneg sb.1 q0, ?_, Int.mul_pos (by omega) (by omega), ?_⟩
     ·intro x hx
      obtain ⟨w, hwm, rfl⟩ := List.mem_map.mp hx
      exact mul_bd (hr w hwm).1 (hr w hwm).2 (by omega) (by omega)
     ·rw [sum_mul]
      exact Int.mul_le_mul_of_nonneg_left (by omega) sb.1
     ·exact mul_bo (by omega) (by omega) (by omega) (by omega)
 ·have hb : 0 ≤ v1.fdiv 9 % 12 ∧ v1.fdiv 9 % 12 < 10 ^ 9 := by omega
  generalize v1.fdiv 9 % 12 = b' at hb ⊢
  refine ⟨a, ns, _, rfl, hS, by omega, by omega, fun l ws H1 s1 f1 hl hw hr => ?_⟩
  have hS1 := s1.seq hS
  have hlen : ws.length ≤ 8 := by omega
  have sb := sum_bd hlen hr
  refine ⟨a, ns, 1, rfl, hS1, by decide, fun v3 => ⟨cdiv (by decide) (by decide), a, ns, 1, rfl, hS1, by decide, fun v4 => ⟨by decide, ?_⟩⟩⟩
  generalize v3.fdiv 6 = c
  have y0 : 0 ≤ v4 % 6 ∧ v4 % 6 < 6 := by omega
  generalize v4 % 6 = y at y0
  generalize v0 % 9 = n at n0 hw
  have rest : y ≠ 5 → ∃ p q : Int, 1 ≤ p ∧ p ≤ 97 ∧ atI [V.int 1, .int 1, .int 2, .int 1, .int (1 + c % 97)] y = some (.int p) ∧ atI [V.int 0, .int 1, .int 1, .int 1, .int (c.fdiv 97)] y = some (.int q) := fun h => by
   rcases (show y = 0 ∨ y = 1 ∨ y = 2 ∨ y = 3 ∨ y = 4 by omega) with rfl | rfl | rfl | rfl | rfl
   ·exact ⟨1, 0, by decide, by decide, rfl, rfl⟩
   ·exact ⟨1, 1, by decide, by decide, rfl, rfl⟩
   ·exact ⟨2, 1, by decide, by decide, rfl, rfl⟩
   ·exact ⟨1, 1, by decide, by decide, rfl, rfl⟩
   ·exact ⟨1 + c % 97, c.fdiv 97, by omega, by omega, rfl, rfl⟩
  refine br (fun c3 => ?_) (fun c3 => ?_)
  ·refine br (fun c0 => ?_) (fun c0 => ?_)
   ·obtain ⟨d, hd, hdm⟩ := atL (ns := ws) (k := c % n) (Int.emod_nonneg _ (by omega)) (by have := Int.emod_lt_of_pos c c0; omega)
    have hd' := hr d hdm
    refine ⟨c0, _, _, SqL.of hl, hd, ?_⟩
    refine ⟨_, rfl, ⟨_, SqL.of hl⟩, fun D H2 n2 => ?_⟩
    refine comp_ints (fun w => min w d) n2 (SqL.of hl) (by omega) ?_ fun H3 n3 => ?_
    ·exact (fun w _ z H' R h => h)
    refine ⟨_, SqL.of n3.at_, ⟨by omega, (Bd.of_lt (n := 200) (by omega)).mono (by decide)⟩, by decide, ?_⟩
    have sm := sum_min (ws := ws) (d := d) hr hd'.1
    have hc2 : 0 ≤ c.fdiv n % 2 ∧ c.fdiv n % 2 < 2 := by omega
    refine ⟨m250 (by omega) (by omega), ?_⟩
    have hl3 := n3.same _ _ hl
    refine ⟨_, rfl, ⟨_, SqL.of hl3⟩, fun D2 H4 n4 => ?_⟩
    refine comp_ints (fun w => 2 * w) n4 (SqL.of hl3) (by omega) ?_ fun H5 n5 => ?_
    ·exact (fun w hwm z H' R h => ⟨m250 (by decide) (by have := hr w hwm; omega), h⟩)
    refine ⟨m250 (by decide) (by omega), fun t H6 n6 => ?_⟩
    refine k t D2 _ _ _ H6 (s1.trans (n3.same.trans (n5.same.trans n6.same))) n6.at_ (s1.free (n3.same.free n5.fr)) (n6.same _ _ n5.at_) ⟨by rw [List.length_map]; exact hlen, ?_, ?_, ?_, by omega, by omega⟩
    ·intro x hx
     obtain ⟨w, hwm, rfl⟩ := List.mem_map.mp hx
     have := hr w hwm
     omega
    ·rcases (show c.fdiv n % 2 = 0 ∨ c.fdiv n % 2 = 1 by omega) with e | e <;> rw [e] <;> omega
    ·rw [sum_two]
     rcases (show c.fdiv n % 2 = 0 ∨ c.fdiv n % 2 = 1 by omega) with e | e <;> rw [e] <;> omega
   ·
    refine br (fun c5 => ?_) (fun c5 => ?_)
    ·refine ⟨by decide, ?_⟩
     have hp : 0 ≤ c % 1000 ∧ c % 1000 < 1000 := by omega
     generalize c % 1000 = p' at hp
     refine ⟨_, rfl, ⟨_, SqL.of hl⟩, fun D H2 n2 => ?_⟩
     refine comp_ints (fun w => w * (1 + p')) n2 (SqL.of hl) (by omega) ?_ fun H3 n3 => ?_
     ·exact (fun w hwm z H' R h => ⟨m250 (by have := hr w hwm; omega) (by omega), h⟩)
     have hl3 := n3.same _ _ hl
     have sp0 : 0 ≤ ws.sum * (1 + p') := Int.mul_nonneg sb.1 (by omega)
     refine ⟨cdiv (by decide) (by decide), _, SqL.of hl3, m250 (by omega) (by omega), (by omega), ?_⟩
     refine ⟨m250 (by omega) (by omega), fun t H6 n6 => ?_⟩
     have r0 := Int.emod_nonneg (c.fdiv 1000) (show ws.sum * (1 + p') + 1 ≠ 0 by omega)
     have r1 := Int.emod_lt_of_pos (c.fdiv 1000) (show 0 < ws.sum * (1 + p') + 1 by omega)
     refine k t D _ _ _ H6 (s1.trans (n3.same.trans n6.same)) n6.at_ (s1.free n3.fr) (n6.same _ _ n3.at_) ⟨by rw [List.length_map]; exact hlen, ?_, r0, ?_, Int.mul_pos (by omega) (by omega), ?_⟩
     ·intro x hx
      obtain ⟨w, hwm, rfl⟩ := List.mem_map.mp hx
      exact mul_bd (hr w hwm).1 (hr w hwm).2 (by omega) (by omega)
     ·rw [sum_mul]; omega
     ·exact mul_bo (by omega) (by omega) (by omega) (by omega)
    ·obtain ⟨p, q, p1, p97, ep, eq⟩ := rest c5
     refine ⟨by decide, fun z1 H2 n2 => ⟨_, _, SqL.of n2.at_, ep, ?_⟩⟩
     refine ⟨cdiv (by decide) (by decide), fun z2 H3 n3 => ⟨_, _, SqL.of n3.at_, eq, (by show 0 < p + 1; omega), ?_⟩⟩
     have q0 := Int.emod_nonneg q (show p + 1 ≠ 0 by omega)
     have q1 := Int.emod_lt_of_pos q (show 0 < p + 1 by omega)
     have hl3 := n3.same _ _ (n2.same _ _ hl)
     refine ⟨_, rfl, ⟨_, SqL.of hl3⟩, fun D H4 n4 => ?_⟩
     refine comp_ints (fun w => w * p) n4 (SqL.of hl3) (by omega) ?_ fun H5 n5 => ?_
     ·exact (fun w hwm z H' R h => ⟨m250 (by have := hr w hwm; omega) (by omega), h⟩)
     have hl5 := n5.same _ _ hl3
     refine ⟨_, SqL.of hl5, m250 (by omega) (by omega), m250 (by omega) (by omega), fun t H6 n6 => ?_⟩
     refine k t D _ _ _ H6 (s1.trans (n2.same.trans (n3.same.trans (n5.same.trans n6.same)))) n6.at_ (s1.free (n2.same.free (n3.same.free n5.fr))) (n6.same _ _ n5.at_) ⟨by rw [List.length_map]; exact hlen, ?_, Int.mul_nonneg sb.1 q0, ?_, Int.mul_pos (by omega) (by omega), ?_⟩
     ·intro x hx
      obtain ⟨w, hwm, rfl⟩ := List.mem_map.mp hx
      exact mul_bd (hr w hwm).1 (hr w hwm).2 (by omega) (by omega)
     ·rw [sum_mul]
      exact Int.mul_le_mul_of_nonneg_left (by omega) sb.1
     ·exact mul_bo (by omega) (by omega) (by omega) (by omega)
  ··
    refine br (fun c5 => ?_) (fun c5 => ?_)
    ·refine ⟨by decide, ?_⟩
     have hp : 0 ≤ c % 1000 ∧ c % 1000 < 1000 := by omega
     generalize c % 1000 = p' at hp
     refine ⟨_, rfl, ⟨_, SqL.of hl⟩, fun D H2 n2 => ?_⟩
     refine comp_ints (fun w => w * (1 + p')) n2 (SqL.of hl) (by omega) ?_ fun H3 n3 => ?_
     ·exact (fun w hwm z H' R h => ⟨m250 (by have := hr w hwm; omega) (by omega), h⟩)
     have hl3 := n3.same _ _ hl
     have sp0 : 0 ≤ ws.sum * (1 + p') := Int.mul_nonneg sb.1 (by omega)
     refine ⟨cdiv (by decide) (by decide), _, SqL.of hl3, m250 (by omega) (by omega), (by omega), ?_⟩
     refine ⟨m250 (by omega) (by omega), fun t H6 n6 => ?_⟩
     have r0 := Int.emod_nonneg (c.fdiv 1000) (show ws.sum * (1 + p') + 1 ≠ 0 by omega)
     have r1 := Int.emod_lt_of_pos (c.fdiv 1000) (show 0 < ws.sum * (1 + p') + 1 by omega)
     refine k t D _ _ _ H6 (s1.trans (n3.same.trans n6.same)) n6.at_ (s1.free n3.fr) (n6.same _ _ n3.at_) ⟨by rw [List.length_map]; exact hlen, ?_, r0, ?_, Int.mul_pos (by omega) (by omega), ?_⟩
     ·intro x hx
      obtain ⟨w, hwm, rfl⟩ := List.mem_map.mp hx
      exact mul_bd (hr w hwm).1 (hr w hwm).2 (by omega) (by omega)
     ·rw [sum_mul]; omega
     ·exact mul_bo (by omega) (by omega) (by omega) (by omega)
    ·obtain ⟨p, q, p1, p97, ep, eq⟩ := rest c5
     refine ⟨by decide, fun z1 H2 n2 => ⟨_, _, SqL.of n2.at_, ep, ?_⟩⟩
     refine ⟨cdiv (by decide) (by decide), fun z2 H3 n3 => ⟨_, _, SqL.of n3.at_, eq, (by show 0 < p + 1; omega), ?_⟩⟩
     have q0 := Int.emod_nonneg q (show p + 1 ≠ 0 by omega)
     have q1 := Int.emod_lt_of_pos q (show 0 < p + 1 by omega)
     have hl3 := n3.same _ _ (n2.same _ _ hl)
     refine ⟨_, rfl, ⟨_, SqL.of hl3⟩, fun D H4 n4 => ?_⟩
     refine comp_ints (fun w => w * p) n4 (SqL.of hl3) (by omega) ?_ fun H5 n5 => ?_
     ·exact (fun w hwm z H' R h => ⟨m250 (by have := hr w hwm; omega) (by omega), h⟩)
     have hl5 := n5.same _ _ hl3
     refine ⟨_, SqL.of hl5, m250 (by omega) (by omega), m250 (by omega) (by omega), fun t H6 n6 => ?_⟩
     refine k t D _ _ _ H6 (s1.trans (n2.same.trans (n3.same.trans (n5.same.trans n6.same)))) n6.at_ (s1.free (n2.same.free (n3.same.free n5.fr))) (n6.same _ _ n5.at_) ⟨by rw [List.length_map]; exact hlen, ?_, Int.mul_nonneg sb.1 q0, ?_, Int.mul_pos (by omega) (by omega), ?_⟩
     ·intro x hx
      obtain ⟨w, hwm, rfl⟩ := List.mem_map.mp hx
      exact mul_bd (hr w hwm).1 (hr w hwm).2 (by omega) (by omega)
     ·rw [sum_mul]
      exact Int.mul_le_mul_of_nonneg_left (by omega) sb.1
     ·exact mul_bo (by omega) (by omega) (by omega) (by omega)
theorem lst_of {H : Hp} {l : Addr} {xs : List Rat} (h : RatL K H l xs) : ∃ ys, H l = some (.lst ys) := let ⟨vs, e, _⟩ := h; ⟨vs, e⟩
set_option maxHeartbeats 20000000 in
theorem cal_l_ask (F : Has K mg "_law_ask" s_l_ask ["_law_what", "_law_claims", "_law_estate", "_law_others"] f fd) (En : Env K mg Ad) (G_slacks : CalE P w K mg base "slacks" 4 ["claims", "parts"] (sp_slacksE K Ad)) (G_taken : CalE P w K mg base "taken" 6 ["claims", "estate", "order"] (sp_taken K Ad)) (G_by_turns : CalE P w K mg base "by_turns" 6 ["claims", "estate"] (sp_turns K Ad)) (G_of_two : CalE P w K mg base "of_two" 10 ["rule", "claim", "other", "amount"] (sp_oftwoF K Ad)) (G_turned : CalE P w K mg base "turned" 10 ["rule", "claims", "estate"] (sp_turnedF K Ad)) (G_cut_claims : CalE P w K mg base "cut_claims" 6 ["claims", "estate"] (sp_cutc K Ad)) (G_least_rights : CalE P w K mg base "least_rights" 6 ["claims", "estate"] (sp_rights K Ad)) (G_worth : CalE P w K mg base "worth" 6 ["claims", "estate", "group"] (sp_worth K Ad)) (G_added : CalE P w K mg base "added" 6 ["claims", "estate", "order"] (sp_added K Ad)) : CalE P w K mg base "_law_ask" 11 ["_law_what", "_law_claims", "_law_estate", "_law_others"] (sp_v_ask K Ad) := by
 refine F.calE (F.fn.okE sc_l_ask (fun vs H Q E h => ?_) (fun cdv A outer s H vs Q E hr h => ?_))
 ·obtain ⟨w', a, v, o, b, l, s, cs, e, os, g, ps, k, D, d, rfl, w8, ho, hL, hv, hS, hP, h64, hO, hk, hA, q, qE⟩ := h
  rfl
 obtain ⟨w', a, v, o, b, l, s, cs, e, os, g, ps, k, D, d, rfl, w8, ho, hL, hv, hS, hP, h64, hO, hk, hA, q, qE⟩ := h
 refine ⟨_, (pss_cons (ps_if (dt_cmp d_eq (dv 0) pe_int (nomark _))
   (pss_one (ps_ret (pe_callP G_taken hr (by decide) rfl (pa_cons (dv 1) (pa_cons (dv 2) (pa_cons (pe_ix d_ixL (dv 3) pe_int (fun _ _ => rfl)) pa_nil))))))
   pss_nil)
  (pss_cons (ps_if (dt_cmp d_eq (dv 0) pe_int (nomark _))
   (pss_one (ps_ret (pe_callP G_by_turns hr (by decide) rfl (pa_cons (dv 1) (pa_cons (dv 2) pa_nil)))))
   pss_nil)
  (pss_cons (ps_if (dt_cmp d_eq (dv 0) pe_int (nomark _))
   (pss_one (ps_ret (pe_callP G_of_two hr (by decide) rfl (pa_cons (pe_ix d_ixL (dv 3) pe_int (fun _ _ => rfl)) (pa_cons (pe_ix d_ixL (dv 1) pe_int (fun _ _ => rfl)) (pa_cons (pe_ix d_ixL (dv 1) pe_int (fun _ _ => rfl)) (pa_cons (dv 2) pa_nil)))))))
   pss_nil)
  (pss_cons (ps_if (dt_cmp d_eq (dv 0) pe_int (nomark _))
   (pss_one (ps_ret (pe_callP G_turned hr (by decide) rfl (pa_cons (pe_ix d_ixL (dv 3) pe_int (fun _ _ => rfl)) (pa_cons (dv 1) (pa_cons (dv 2) pa_nil))))))
   pss_nil)
  (pss_cons (ps_if (dt_cmp d_eq (dv 0) pe_int (nomark _))
   (pss_one (ps_ret (pe_callP G_cut_claims hr (by decide) rfl (pa_cons (dv 1) (pa_cons (dv 2) pa_nil)))))
   pss_nil)
  (pss_cons (ps_if (dt_cmp d_eq (dv 0) pe_int (nomark _))
   (pss_one (ps_ret (pe_callP G_least_rights hr (by decide) rfl (pa_cons (dv 1) (pa_cons (dv 2) pa_nil)))))
   pss_nil)
  (pss_cons (ps_if (dt_cmp d_eq (dv 0) pe_int (nomark _))
   (pss_one (ps_ret (pe_callP G_worth hr (by decide) rfl (pa_cons (dv 1) (pa_cons (dv 2) (pa_cons (pe_ix d_ixL (dv 3) pe_int (fun _ _ => rfl)) pa_nil))))))
   pss_nil)
  (pss_cons (ps_if (dt_cmp d_eq (dv 0) pe_int (nomark _))
   (pss_one (ps_ret (pe_callP G_added hr (by decide) rfl (pa_cons (dv 1) (pa_cons (dv 2) (pa_cons (pe_ix d_ixL (dv 3) pe_int (fun _ _ => rfl)) pa_nil))))))
   pss_nil)
  (pss_one (ps_ret (pe_callP G_slacks hr (by decide) rfl (pa_cons (dv 1) (pa_cons (pe_ix d_ixL (dv 3) pe_int (fun _ _ => rfl)) pa_nil))))))))))))), ?_⟩
 obtain ⟨A0, A1, A2, A3, A6, A8⟩ := hA
 have hOe : Ob k D (e :: cs) := hO.sub fun y hy => by
  rcases List.mem_cons.mp hy with rfl | hy
  ·exact List.mem_cons_self
  ·exact List.mem_cons_of_mem _ (List.mem_append_left _ hy)
 have lst : ∀ {H' : Hp} {l' : Addr} {xs : List Rat}, ¬ (w' = 2 ∨ w' = 6) → Same H H' → RatL K H' l' xs → d = none → Q (.ref l') H' := fun hw s' hR hd => q hd _ _ s' ⟨fun z => absurd z hw, fun _ => let ⟨ys, hy⟩ := lst_of hR; ⟨_, ys, rfl, hy⟩⟩
 refine br (fun c => ?_) (fun c0 => ?_)
 ·have hw : w' = 0 := by omega
  refine ⟨_, _, SqL.of ho, rfl, a, v, b, cs, e, os, k, D, rfl, hL, hv, hS, h64, hOe, by omega, fun hd r er hp lf ps' H' s' f' hP' _ _ => ?_, fun c hc H' s' => ?_, fun hd hn H' s' => ?_⟩
  ·rcases A0 (.inl hw) with ⟨c, h1, _⟩ | ⟨_, ⟨_, h2⟩ | ⟨h1, _⟩⟩
   ·rw [hd] at h1; cases h1
   ·exact lst (by omega) s' hP' h2
   ·exact absurd (ord_mk er hp) h1
  ·rcases A0 (.inl hw) with ⟨c', h1, h2⟩ | ⟨h1, _⟩
   ·rw [hc] at h1; cases h1; exact qE _ h2 H' s'
   ·rw [hc] at h1; cases h1
  ·rcases A0 (.inl hw) with ⟨c', h1, h2⟩ | ⟨_, ⟨h1, _⟩ | ⟨_, h2⟩⟩
   ·rw [hd] at h1; cases h1
   ·exact absurd h1 hn
   ·exact qE _ h2 H' s'
 refine br (fun c => ?_) (fun c1 => ?_)
 ·have hw : w' = 1 := by omega
  have hd1 := A1 (.inl hw)
  exact ⟨a, v, cs, e, k, D, rfl, hL, hv, hOe, by omega, fun hd lf ps' H' s' f' hP' _ _ _ => lst (by omega) s' hP' (hd1.symm.trans hd), fun c hc H' s' => qE c (hd1.symm.trans hc) H' s'⟩
 refine br (fun c => ?_) (fun c2 => ?_)
 ·have hw : w' = 2 := by omega
  obtain ⟨x0, x1, r, rfl, hd2⟩ := A2 hw
  obtain ⟨va, u0, y0, hs0, ha0, hy0, hv0⟩ := hL.at (k := 0) (by decide) (by rw [List.length_cons]; omega)
  obtain ⟨vb, u1, y1, hs1, ha1, hy1, hv1⟩ := hL.at (k := 1) (by decide) (by rw [List.length_cons, List.length_cons]; omega)
  cases hy0
  cases hy1
  refine ⟨_, _, SqL.of ho, rfl, _, _, hs0, ha0, _, _, hs1, ha1, s, u0, u1, v, x0, x1, e, k, D, rfl, hv0, hv1, hv, hO.sub (fun y hy => ?_), by omega, fun hd z xs H' s' hz => q (hd2.symm.trans hd) _ H' s' ⟨fun _ => .inl ⟨z, xs, rfl, hz⟩, fun h => absurd (.inl hw) h⟩, fun c hc H' s' => qE c (hd2.symm.trans hc) H' s'⟩
  simp only [List.mem_cons, List.not_mem_nil, or_false] at hy
  rcases hy with rfl | rfl | rfl
  ·exact List.mem_cons_self
  ·exact List.mem_cons_of_mem _ (List.mem_append_left _ List.mem_cons_self)
  ·exact List.mem_cons_of_mem _ (List.mem_append_left _ (List.mem_cons_of_mem _ List.mem_cons_self))
 refine br (fun c => ?_) (fun c3 => ?_)
 ·have hw : w' = 3 := by omega
  have hd3 := A3 hw
  exact ⟨_, _, SqL.of ho, rfl, s, a, v, cs, e, k, D, rfl, hL, hv, hOe, by omega, fun hd lf ps' H' s' f' hP' => lst (by omega) s' hP' (hd3.symm.trans hd), fun c hc H' s' => qE c (hd3.symm.trans hc) H' s'⟩
 refine br (fun c => ?_) (fun c4 => ?_)
 ·have hw : w' = 4 := by omega
  have hd1 := A1 (.inr (.inl hw))
  exact ⟨a, v, cs, e, k, D, rfl, hL, hv, hOe, by omega, fun hd lf H' s' f' hP' => lst (by omega) s' hP' (hd1.symm.trans hd), fun c hc H' s' => qE c (hd1.symm.trans hc) H' s'⟩
 refine br (fun c => ?_) (fun c5 => ?_)
 ·have hw : w' = 5 := by omega
  have hd1 := A1 (.inr (.inr hw))
  exact ⟨a, v, cs, e, k, D, rfl, hL, hv, hOe, by omega, fun hd lf H' s' f' hP' => lst (by omega) s' hP' (hd1.symm.trans hd), fun c hc H' s' => qE c (hd1.symm.trans hc) H' s'⟩
 refine br (fun c => ?_) (fun c6 => ?_)
 ·have hw : w' = 6 := by omega
  refine ⟨_, _, SqL.of ho, rfl, a, v, cs, e, g, k, D, rfl, hL, hv, hOe, by omega, fun hd g0 g1 u H' s' hu => ?_, fun c hc H' s' => ?_, fun hd hn H' s' => ?_⟩
  ·rcases A6 hw with ⟨c, h1, _⟩ | ⟨_, ⟨_, _, h2⟩ | ⟨h1, _⟩⟩
   ·rw [hd] at h1; cases h1
   ·exact q h2 u H' s' ⟨fun _ => .inr ⟨_, hu⟩, fun h => absurd (.inr hw) h⟩
   ·omega
  ·rcases A6 hw with ⟨c', h1, h2⟩ | ⟨h1, _⟩
   ·rw [hc] at h1; cases h1; exact qE _ h2 H' s'
   ·rw [hc] at h1; cases h1
  ·rcases A6 hw with ⟨c', h1, h2⟩ | ⟨_, ⟨h1, h3, _⟩ | ⟨_, h2⟩⟩
   ·rw [hd] at h1; cases h1
   ·omega
   ·exact qE _ h2 H' s'
 refine br (fun c => ?_) (fun c7 => ?_)
 ·have hw : w' = 7 := by omega
  refine ⟨_, _, SqL.of ho, rfl, a, v, b, cs, e, os, k, D, rfl, hL, hv, hS, h64, hOe, by omega, fun hd r er hp lf ps' H' s' f' hP' _ _ => ?_, fun c hc H' s' => ?_, fun hd hn H' s' => ?_⟩
  ·rcases A0 (.inr hw) with ⟨c, h1, _⟩ | ⟨_, ⟨_, h2⟩ | ⟨h1, _⟩⟩
   ·rw [hd] at h1; cases h1
   ·exact lst (by omega) s' hP' h2
   ·exact absurd (ord_mk er hp) h1
  ·rcases A0 (.inr hw) with ⟨c', h1, h2⟩ | ⟨h1, _⟩
   ·rw [hc] at h1; cases h1; exact qE _ h2 H' s'
   ·rw [hc] at h1; cases h1
  ·rcases A0 (.inr hw) with ⟨c', h1, h2⟩ | ⟨_, ⟨h1, _⟩ | ⟨_, h2⟩⟩
   ·rw [hd] at h1; cases h1
   ·exact absurd h1 hn
   ·exact qE _ h2 H' s'
 have hw : w' = 8 := by omega
 obtain ⟨hd8, he8⟩ := A8 hw
 exact ⟨_, _, SqL.of ho, rfl, a, l, cs, ps, k, D, rfl, hL, hP, hO.sub (fun y hy => List.mem_cons_of_mem _ hy), by omega, fun hd => ⟨he8 (hd8.symm.trans hd), fun lf rs H' s' f' hR' => lst (by omega) s' hR' (hd8.symm.trans hd)⟩, fun c hc H' s' => qE c (hd8.symm.trans hc) H' s'⟩
theorem kna0 {t : Value} : PySem.W.kitAny K t [] = some false := rfl
theorem kna {t c : Value} {cs : List Value} (h : PySem.W.kitOne K t c = some false) (r : PySem.W.kitAny K t cs = some false) : PySem.W.kitAny K t (c :: cs) = some false := by
 unfold PySem.W.kitAny
 rw [h]
 exact r
set_option maxHeartbeats 20000000 in
theorem cal_l_kinds (F : Has K mg "_law_kinds" s_l_kinds ["_law_e"] f fd) (En : Env K mg Ad) : CalH P w K mg base "_law_kinds" 1 ["_law_e"] (sp_v_kinds Ad) := by
 refine F.calH (F.fn.okH sc_l_kinds (fun vs H Q E h => ?_) (fun cdv A outer s H vs Q h => ?_))
 ·obtain ⟨ea, C, n, rfl, hx, hC, k⟩ := h
  rfl
 obtain ⟨ea, C, n, rfl, hx, hC, k⟩ := h
 refine ⟨_, (pss_cons (ps_if (dt_val (pe_callB call_isiA rfl En.b_isinstance PyProof.Rows.boot_isinstance (pa_cons (dv 0) (pa_cons (d_tup (pa_cons (pe_cls rfl En.e_Zo.at_) (pa_cons (pe_cls rfl En.e_Zk.at_) (pa_cons (pe_cls rfl En.e_Zj.at_) (pa_cons (pe_cls rfl En.e_Zm.at_) (pa_cons (pe_cls rfl En.e_Zn.at_) (pa_cons (pe_cls rfl En.e_Zb.at_) (pa_cons (pe_cls rfl En.e_Zc.at_) pa_nil)))))))) pa_nil))))
   (pss_one (ps_ret (d_lst pa_nil)))
   pss_nil)
  (pss_cons (ps_set (i := 1) sc_l_kinds.nd rfl (Or.inl rfl) (d_lst (pa_cons (pe_callB call_isiO rfl En.b_isinstance PyProof.Rows.boot_isinstance (pa_cons (dv 0) (pa_cons (pe_cls rfl En.e_Zg.at_) pa_nil))) (pa_cons (pe_callB call_isiO rfl En.b_isinstance PyProof.Rows.boot_isinstance (pa_cons (dv 0) (pa_cons (pe_cls rfl En.e_Zd.at_) pa_nil))) (pa_cons (pe_callB call_isiO rfl En.b_isinstance PyProof.Rows.boot_isinstance (pa_cons (dv 0) (pa_cons (pe_cls rfl En.e_Ze.at_) pa_nil))) (pa_cons (pe_callB call_isiO rfl En.b_isinstance PyProof.Rows.boot_isinstance (pa_cons (dv 0) (pa_cons (pe_cls rfl En.e_Zf.at_) pa_nil))) pa_nil))))))
  (pss_cons (ps_set (i := 1) sc_l_kinds.nd rfl (Or.inl rfl) (pe_op d_cat (dv 1) (d_lst (pa_cons (pe_callB call_isiO rfl En.b_isinstance PyProof.Rows.boot_isinstance (pa_cons (dv 0) (pa_cons (pe_cls rfl En.e_Zh.at_) pa_nil))) (pa_cons (pe_callB call_isiO rfl En.b_isinstance PyProof.Rows.boot_isinstance (pa_cons (dv 0) (pa_cons (pe_cls rfl En.e_Zl.at_) pa_nil))) (pa_cons (pe_callB call_isiO rfl En.b_isinstance PyProof.Rows.boot_isinstance (pa_cons (dv 0) (pa_cons (pe_cls rfl En.e_Zi.at_) pa_nil))) pa_nil))))))
  (pss_one (ps_ret (pe_op d_cat (dv 1) (d_lst (pa_cons (pe_callB call_isiT rfl En.b_isinstance PyProof.Rows.boot_isinstance (pa_cons (dv 0) (pa_cons (pe_bltn (v := .ty "ValueError") rfl En.b_ValueError boot_ValueError rfl) pa_nil))) pa_nil)))))))), ?_⟩
 rcases dueB_is hC with ⟨rfl, rfl⟩ | ⟨rfl, rfl⟩ | ⟨rfl, rfl⟩ | ⟨rfl, rfl⟩ | ⟨rfl, rfl⟩ | ⟨rfl, rfl⟩ | ⟨rfl, rfl⟩
 ·refine fun t4 H4 n4 => ⟨_, _, t4, [Ad.aKnown, Ad.aNoAmount, Ad.aNoClaimer, Ad.aNoLine, Ad.aNoName, Ad.aNoRatio, Ad.aNoText], _, rfl, n4.same _ _ hx, En.ek_Zg, n4.at_, (kna En.k_Zg_Zo (kna En.k_Zg_Zk (kna En.k_Zg_Zj (kna En.k_Zg_Zm (kna En.k_Zg_Zn (kna En.k_Zg_Zb (kna En.k_Zg_Zc kna0))))))), ?_⟩
  have hx4 := n4.same _ _ hx
  refine ⟨_, _, _, _, rfl, hx4, En.ek_Zg, En.k_Zg_Zg, _, _, _, _, rfl, hx4, En.ek_Zg, En.k_Zg_Zd, _, _, _, _, rfl, hx4, En.ek_Zg, En.k_Zg_Ze, _, _, _, _, rfl, hx4, En.ek_Zg, En.k_Zg_Zf, fun l1 H1 n1 => ?_⟩
  refine ⟨_, _, _, _, rfl, n1.same _ _ hx4, En.ek_Zg, En.k_Zg_Zh, _, _, _, _, rfl, n1.same _ _ hx4, En.ek_Zg, En.k_Zg_Zl, _, _, _, _, rfl, n1.same _ _ hx4, En.ek_Zg, En.k_Zg_Zi, fun l2 H2 n2 => ⟨_, _, n2.same _ _ n1.at_, n2.at_, by decide, fun l3 H3 n3 => ?_⟩⟩
  have s3 := n1.same.trans (n2.same.trans n3.same)
  refine ⟨_, _, _, _, rfl, s3 _ _ hx4, En.ek_Zg, En.kv_Zg, fun l5 H5 n5 => ⟨_, _, n5.same _ _ n3.at_, n5.at_, by decide, fun l6 H6 n6 => ?_⟩⟩
  exact k l6 H6 (n4.same.trans (s3.trans (n5.same.trans n6.same))) n6.at_
 ·refine fun t4 H4 n4 => ⟨_, _, t4, [Ad.aKnown, Ad.aNoAmount, Ad.aNoClaimer, Ad.aNoLine, Ad.aNoName, Ad.aNoRatio, Ad.aNoText], _, rfl, n4.same _ _ hx, En.ek_Zd, n4.at_, (kna En.k_Zd_Zo (kna En.k_Zd_Zk (kna En.k_Zd_Zj (kna En.k_Zd_Zm (kna En.k_Zd_Zn (kna En.k_Zd_Zb (kna En.k_Zd_Zc kna0))))))), ?_⟩
  have hx4 := n4.same _ _ hx
  refine ⟨_, _, _, _, rfl, hx4, En.ek_Zd, En.k_Zd_Zg, _, _, _, _, rfl, hx4, En.ek_Zd, En.k_Zd_Zd, _, _, _, _, rfl, hx4, En.ek_Zd, En.k_Zd_Ze, _, _, _, _, rfl, hx4, En.ek_Zd, En.k_Zd_Zf, fun l1 H1 n1 => ?_⟩
  refine ⟨_, _, _, _, rfl, n1.same _ _ hx4, En.ek_Zd, En.k_Zd_Zh, _, _, _, _, rfl, n1.same _ _ hx4, En.ek_Zd, En.k_Zd_Zl, _, _, _, _, rfl, n1.same _ _ hx4, En.ek_Zd, En.k_Zd_Zi, fun l2 H2 n2 => ⟨_, _, n2.same _ _ n1.at_, n2.at_, by decide, fun l3 H3 n3 => ?_⟩⟩
  have s3 := n1.same.trans (n2.same.trans n3.same)
  refine ⟨_, _, _, _, rfl, s3 _ _ hx4, En.ek_Zd, En.kv_Zd, fun l5 H5 n5 => ⟨_, _, n5.same _ _ n3.at_, n5.at_, by decide, fun l6 H6 n6 => ?_⟩⟩
  exact k l6 H6 (n4.same.trans (s3.trans (n5.same.trans n6.same))) n6.at_
 ·refine fun t4 H4 n4 => ⟨_, _, t4, [Ad.aKnown, Ad.aNoAmount, Ad.aNoClaimer, Ad.aNoLine, Ad.aNoName, Ad.aNoRatio, Ad.aNoText], _, rfl, n4.same _ _ hx, En.ek_Ze, n4.at_, (kna En.k_Ze_Zo (kna En.k_Ze_Zk (kna En.k_Ze_Zj (kna En.k_Ze_Zm (kna En.k_Ze_Zn (kna En.k_Ze_Zb (kna En.k_Ze_Zc kna0))))))), ?_⟩
  have hx4 := n4.same _ _ hx
  refine ⟨_, _, _, _, rfl, hx4, En.ek_Ze, En.k_Ze_Zg, _, _, _, _, rfl, hx4, En.ek_Ze, En.k_Ze_Zd, _, _, _, _, rfl, hx4, En.ek_Ze, En.k_Ze_Ze, _, _, _, _, rfl, hx4, En.ek_Ze, En.k_Ze_Zf, fun l1 H1 n1 => ?_⟩
  refine ⟨_, _, _, _, rfl, n1.same _ _ hx4, En.ek_Ze, En.k_Ze_Zh, _, _, _, _, rfl, n1.same _ _ hx4, En.ek_Ze, En.k_Ze_Zl, _, _, _, _, rfl, n1.same _ _ hx4, En.ek_Ze, En.k_Ze_Zi, fun l2 H2 n2 => ⟨_, _, n2.same _ _ n1.at_, n2.at_, by decide, fun l3 H3 n3 => ?_⟩⟩
  have s3 := n1.same.trans (n2.same.trans n3.same)
  refine ⟨_, _, _, _, rfl, s3 _ _ hx4, En.ek_Ze, En.kv_Ze, fun l5 H5 n5 => ⟨_, _, n5.same _ _ n3.at_, n5.at_, by decide, fun l6 H6 n6 => ?_⟩⟩
  exact k l6 H6 (n4.same.trans (s3.trans (n5.same.trans n6.same))) n6.at_
 ·refine fun t4 H4 n4 => ⟨_, _, t4, [Ad.aKnown, Ad.aNoAmount, Ad.aNoClaimer, Ad.aNoLine, Ad.aNoName, Ad.aNoRatio, Ad.aNoText], _, rfl, n4.same _ _ hx, En.ek_Zf, n4.at_, (kna En.k_Zf_Zo (kna En.k_Zf_Zk (kna En.k_Zf_Zj (kna En.k_Zf_Zm (kna En.k_Zf_Zn (kna En.k_Zf_Zb (kna En.k_Zf_Zc kna0))))))), ?_⟩
  have hx4 := n4.same _ _ hx
  refine ⟨_, _, _, _, rfl, hx4, En.ek_Zf, En.k_Zf_Zg, _, _, _, _, rfl, hx4, En.ek_Zf, En.k_Zf_Zd, _, _, _, _, rfl, hx4, En.ek_Zf, En.k_Zf_Ze, _, _, _, _, rfl, hx4, En.ek_Zf, En.k_Zf_Zf, fun l1 H1 n1 => ?_⟩
  refine ⟨_, _, _, _, rfl, n1.same _ _ hx4, En.ek_Zf, En.k_Zf_Zh, _, _, _, _, rfl, n1.same _ _ hx4, En.ek_Zf, En.k_Zf_Zl, _, _, _, _, rfl, n1.same _ _ hx4, En.ek_Zf, En.k_Zf_Zi, fun l2 H2 n2 => ⟨_, _, n2.same _ _ n1.at_, n2.at_, by decide, fun l3 H3 n3 => ?_⟩⟩
  have s3 := n1.same.trans (n2.same.trans n3.same)
  refine ⟨_, _, _, _, rfl, s3 _ _ hx4, En.ek_Zf, En.kv_Zf, fun l5 H5 n5 => ⟨_, _, n5.same _ _ n3.at_, n5.at_, by decide, fun l6 H6 n6 => ?_⟩⟩
  exact k l6 H6 (n4.same.trans (s3.trans (n5.same.trans n6.same))) n6.at_
 ·refine fun t4 H4 n4 => ⟨_, _, t4, [Ad.aKnown, Ad.aNoAmount, Ad.aNoClaimer, Ad.aNoLine, Ad.aNoName, Ad.aNoRatio, Ad.aNoText], _, rfl, n4.same _ _ hx, En.ek_Zh, n4.at_, (kna En.k_Zh_Zo (kna En.k_Zh_Zk (kna En.k_Zh_Zj (kna En.k_Zh_Zm (kna En.k_Zh_Zn (kna En.k_Zh_Zb (kna En.k_Zh_Zc kna0))))))), ?_⟩
  have hx4 := n4.same _ _ hx
  refine ⟨_, _, _, _, rfl, hx4, En.ek_Zh, En.k_Zh_Zg, _, _, _, _, rfl, hx4, En.ek_Zh, En.k_Zh_Zd, _, _, _, _, rfl, hx4, En.ek_Zh, En.k_Zh_Ze, _, _, _, _, rfl, hx4, En.ek_Zh, En.k_Zh_Zf, fun l1 H1 n1 => ?_⟩
  refine ⟨_, _, _, _, rfl, n1.same _ _ hx4, En.ek_Zh, En.k_Zh_Zh, _, _, _, _, rfl, n1.same _ _ hx4, En.ek_Zh, En.k_Zh_Zl, _, _, _, _, rfl, n1.same _ _ hx4, En.ek_Zh, En.k_Zh_Zi, fun l2 H2 n2 => ⟨_, _, n2.same _ _ n1.at_, n2.at_, by decide, fun l3 H3 n3 => ?_⟩⟩
  have s3 := n1.same.trans (n2.same.trans n3.same)
  refine ⟨_, _, _, _, rfl, s3 _ _ hx4, En.ek_Zh, En.kv_Zh, fun l5 H5 n5 => ⟨_, _, n5.same _ _ n3.at_, n5.at_, by decide, fun l6 H6 n6 => ?_⟩⟩
  exact k l6 H6 (n4.same.trans (s3.trans (n5.same.trans n6.same))) n6.at_
 ·refine fun t4 H4 n4 => ⟨_, _, t4, [Ad.aKnown, Ad.aNoAmount, Ad.aNoClaimer, Ad.aNoLine, Ad.aNoName, Ad.aNoRatio, Ad.aNoText], _, rfl, n4.same _ _ hx, En.ek_Zl, n4.at_, (kna En.k_Zl_Zo (kna En.k_Zl_Zk (kna En.k_Zl_Zj (kna En.k_Zl_Zm (kna En.k_Zl_Zn (kna En.k_Zl_Zb (kna En.k_Zl_Zc kna0))))))), ?_⟩
  have hx4 := n4.same _ _ hx
  refine ⟨_, _, _, _, rfl, hx4, En.ek_Zl, En.k_Zl_Zg, _, _, _, _, rfl, hx4, En.ek_Zl, En.k_Zl_Zd, _, _, _, _, rfl, hx4, En.ek_Zl, En.k_Zl_Ze, _, _, _, _, rfl, hx4, En.ek_Zl, En.k_Zl_Zf, fun l1 H1 n1 => ?_⟩
  refine ⟨_, _, _, _, rfl, n1.same _ _ hx4, En.ek_Zl, En.k_Zl_Zh, _, _, _, _, rfl, n1.same _ _ hx4, En.ek_Zl, En.k_Zl_Zl, _, _, _, _, rfl, n1.same _ _ hx4, En.ek_Zl, En.k_Zl_Zi, fun l2 H2 n2 => ⟨_, _, n2.same _ _ n1.at_, n2.at_, by decide, fun l3 H3 n3 => ?_⟩⟩
  have s3 := n1.same.trans (n2.same.trans n3.same)
  refine ⟨_, _, _, _, rfl, s3 _ _ hx4, En.ek_Zl, En.kv_Zl, fun l5 H5 n5 => ⟨_, _, n5.same _ _ n3.at_, n5.at_, by decide, fun l6 H6 n6 => ?_⟩⟩
  exact k l6 H6 (n4.same.trans (s3.trans (n5.same.trans n6.same))) n6.at_
 ·refine fun t4 H4 n4 => ⟨_, _, t4, [Ad.aKnown, Ad.aNoAmount, Ad.aNoClaimer, Ad.aNoLine, Ad.aNoName, Ad.aNoRatio, Ad.aNoText], _, rfl, n4.same _ _ hx, En.ek_Zi, n4.at_, (kna En.k_Zi_Zo (kna En.k_Zi_Zk (kna En.k_Zi_Zj (kna En.k_Zi_Zm (kna En.k_Zi_Zn (kna En.k_Zi_Zb (kna En.k_Zi_Zc kna0))))))), ?_⟩
  have hx4 := n4.same _ _ hx
  refine ⟨_, _, _, _, rfl, hx4, En.ek_Zi, En.k_Zi_Zg, _, _, _, _, rfl, hx4, En.ek_Zi, En.k_Zi_Zd, _, _, _, _, rfl, hx4, En.ek_Zi, En.k_Zi_Ze, _, _, _, _, rfl, hx4, En.ek_Zi, En.k_Zi_Zf, fun l1 H1 n1 => ?_⟩
  refine ⟨_, _, _, _, rfl, n1.same _ _ hx4, En.ek_Zi, En.k_Zi_Zh, _, _, _, _, rfl, n1.same _ _ hx4, En.ek_Zi, En.k_Zi_Zl, _, _, _, _, rfl, n1.same _ _ hx4, En.ek_Zi, En.k_Zi_Zi, fun l2 H2 n2 => ⟨_, _, n2.same _ _ n1.at_, n2.at_, by decide, fun l3 H3 n3 => ?_⟩⟩
  have s3 := n1.same.trans (n2.same.trans n3.same)
  refine ⟨_, _, _, _, rfl, s3 _ _ hx4, En.ek_Zi, En.kv_Zi, fun l5 H5 n5 => ⟨_, _, n5.same _ _ n3.at_, n5.at_, by decide, fun l6 H6 n6 => ?_⟩⟩
  exact k l6 H6 (n4.same.trans (s3.trans (n5.same.trans n6.same))) n6.at_
theorem comp_NB {D : Addr} {m : Nat} {caps : St} {te : CB → TE} {Q : VK} {H1 H2 : Hp} (f : Nat → Bool) (n : New H1 D (.lst []) H2) (hlen : m ≤ 1000000)
  (hte : ∀ i, i < m → ∀ z H', Same H1 H' → ∀ R : VK, R (.bl (f i)) H' → te z (some (.int (0 + (i : Int))) :: caps) H' R)
  (hq : ∀ H', New H1 D (.lst (((List.range m).map f).map V.bl)) H' → Q (.ref D) H') :
  CompGo (Itr 0 m) D caps te Q H2 := by
 refine comp_range (n := m) (fun i ys H' => ys = ((List.range i).map f).map V.bl ∧ New H1 D (.lst ys) H') ⟨rfl, n⟩ ?_ ?_
 ·rintro i ys H' z hi ⟨rfl, hn⟩
  refine hte i hi z H' hn.same _ ⟨hn.at_, ?_, fun H4 c => ⟨?_, Chg.new hn c⟩⟩
  ·rw [List.length_map, List.length_map, List.length_range]
   omega
  ·rw [List.range_succ, List.map_append, List.map_append]
   rfl
 ·rintro ys H' ⟨rfl, hn⟩
  exact hq H' hn
theorem kindsC_eq {n : Int} : ((List.range 7).map fun (i : Nat) => decide (0 + (i : Int) = n)) ++ [true] = kindsC n := by
 show [decide (0 + ((0 : Nat) : Int) = n), decide (0 + ((1 : Nat) : Int) = n), decide (0 + ((2 : Nat) : Int) = n), decide (0 + ((3 : Nat) : Int) = n), decide (0 + ((4 : Nat) : Int) = n), decide (0 + ((5 : Nat) : Int) = n), decide (0 + ((6 : Nat) : Int) = n), true] = _
 have e : ∀ m : Nat, decide (0 + (m : Int) = n) = decide (n = (m : Int)) := fun m => decide_eq_decide.mpr ⟨fun h => by omega, fun h => by omega⟩
 rw [e, e, e, e, e, e, e]
 rfl
theorem dueB_mx (En : Env K mg Ad) {n : Int} {c : Addr} (h : dueB Ad n = some c) : PySem.W.exmOne K (.ref c) (.ref Ad.aLeanError) = some true := by
 rcases dueB_is h with ⟨rfl, rfl⟩ | ⟨rfl, rfl⟩ | ⟨rfl, rfl⟩ | ⟨rfl, rfl⟩ | ⟨rfl, rfl⟩ | ⟨rfl, rfl⟩ | ⟨rfl, rfl⟩
 ·exact En.mx_Zg
 ·exact En.mx_Zd
 ·exact En.mx_Ze
 ·exact En.mx_Zf
 ·exact En.mx_Zh
 ·exact En.mx_Zl
 ·exact En.mx_Zi
set_option maxHeartbeats 20000000 in
theorem cal_l_told (F : Has K mg "_law_told" s_l_told ["_law_what", "_law_claims", "_law_estate", "_law_others", "_law_due_here"] f fd) (En : Env K mg Ad) (G_l_ask : CalE P w K mg base "_law_ask" 11 ["_law_what", "_law_claims", "_law_estate", "_law_others"] (sp_v_ask K Ad)) (G_l_kinds : CalH P w K mg base "_law_kinds" 1 ["_law_e"] (sp_v_kinds Ad)) : CalE P w K mg base "_law_told" 12 ["_law_what", "_law_claims", "_law_estate", "_law_others", "_law_due_here"] (sp_v_told K Ad) := by
 refine F.calE (F.fn.okE sc_l_told (fun vs H Q E h => ?_) (fun cdv A outer s H vs Q E hr h => ?_))
 ·obtain ⟨w', a, v, o, b, l, s, cs, e, os, g, ps, k, D, n, rfl, w8, ho, hL, hv, hS, hP, h64, hO, hk, hA, q⟩ := h
  rfl
 obtain ⟨w', a, v, o, b, l, s, cs, e, os, g, ps, k, D, n, rfl, w8, ho, hL, hv, hS, hP, h64, hO, hk, hA, q⟩ := h
 refine ⟨_, (pss_cons (ps_set (i := 5) sc_l_told.nd rfl (Or.inl rfl) (d_lst (pa_cons (pe_callTy d_list rfl En.b_list PyProof.Rows.boot_list (pa_cons (dv 1) pa_nil)) (pa_cons (d_lst (pa_cons (pe_ix d_ixL (dv 3) pe_int (fun _ _ => rfl)) (pa_cons (pe_callTy d_list rfl En.b_list PyProof.Rows.boot_list (pa_cons (pe_ix d_ixL (dv 3) pe_int (fun _ _ => rfl)) pa_nil)) (pa_cons (pe_ix d_ixL (dv 3) pe_int (fun _ _ => rfl)) (pa_cons (pe_callTy d_list rfl En.b_list PyProof.Rows.boot_list (pa_cons (pe_ix d_ixL (dv 3) pe_int (fun _ _ => rfl)) pa_nil)) pa_nil))))) pa_nil))))
  (pss_cons (ps_set (i := 6) sc_l_told.nd rfl (Or.inl rfl) pe_non)
  (pss_cons (ps_set (i := 7) sc_l_told.nd rfl (Or.inl rfl) (d_lst pa_nil))
  (pss_cons (ps_tryA (i := 8) (g := 6) G_l_ask hr (by decide) rfl rfl rfl rfl En.e_Za.at_ rfl (Or.inl rfl) sc_l_told.nd rfl rfl (fun _ => (pa_cons (dv 0) (pa_cons (pe_ix (show IxR _ (dIxL K) from d_ixL) (dv 5) pe_int (fun _ _ => rfl)) (pa_cons (dv 2) (pa_cons (pe_ix (show IxR _ (dIxL K) from d_ixL) (dv 5) pe_int (fun _ _ => rfl)) pa_nil)))))
   (fun ea => (pss_one (ps_set (i := 7) sc_l_told.nd rfl (Or.inl rfl) (pe_callH G_l_kinds hr.inH (by decide) rfl (pa_cons (dv 8) pa_nil))))))
  (pss_cons (ps_if (dt_cmp (d_ne4 (hu_of3 hr)) (dv 5) (d_lst (pa_cons (dv 1) (pa_cons (dv 3) pa_nil))) (nomark _))
   (pss_one (ps_ret pe_bl))
   pss_nil)
  (pss_cons (ps_if (dt_cmp d_lt (dv 4) pe_int (nomark _))
   (pss_one (ps_ret (pe_cmpR (op_eqB hr.units0) (dv 7) (pe_op d_cat (pe_comp (defScope s_l_told) ["_law_due_here"] [4] rfl (pi_range1 rfl En.b_range (pa_cons pe_int pa_nil)) (fun z => (pe_cmpR d_eq (dv 0) (dv 1) (nomark _)))) (d_lst (pa_cons pe_bl pa_nil))) (nomark _))))
   pss_nil)
  (pss_one (ps_ret (pe_ifExp (dt_cmp op_in_seq (dv 0) (d_tup (pa_cons pe_int (pa_cons pe_int pa_nil))) (by with_unfolding_all rfl)) (pe_callB d_isi rfl En.b_isinstance PyProof.Rows.boot_isinstance (pa_cons (dv 6) (pa_cons (pe_bltn (v := .ty "tuple") rfl En.b_tuple PyProof.Rows.boot_tuple rfl) pa_nil))) (pe_callB d_isi rfl En.b_isinstance PyProof.Rows.boot_isinstance (pa_cons (dv 6) (pa_cons (pe_bltn (v := .ty "list") rfl En.b_list PyProof.Rows.boot_list rfl) pa_nil)))))))))))), ?_⟩
 obtain ⟨vs, hs, hr, he⟩ := hL.sq
 obtain ⟨vp, hsp, hrp, hep⟩ := hP.sq
 refine ⟨vs, .inl hs, fun l1 H1 n1 => ?_⟩
 have ho1 := n1.same _ _ ho
 refine ⟨_, _, SqL.of ho1, rfl, _, _, SqL.of ho1, rfl, _, .inl (n1.same.seq hS), fun l2 H2 n2 => ?_⟩
 have ho2 := n2.same _ _ ho1
 refine ⟨_, _, SqL.of ho2, rfl, _, _, SqL.of ho2, rfl, vp, .inl ((n1.same.trans n2.same).seq hsp), fun l3 H3 n3 => fun l4 H4 n4 => fun lh H5 n5 => fun lk H6 n6 => ?_⟩
 have s46 := n5.same.trans n6.same
 have s36 := n4.same.trans s46
 have s26 := n3.same.trans s36
 have s16 := n2.same.trans s26
 have s6 := n1.same.trans s16
 have hc6 : RatL K H6 l1 cs := (RatL.new n1 hr).same s16
 have hi6 := s26 _ _ n2.at_
 have hp6 : RatL K H6 l3 ps := (RatL.new n3 (hrp.ts (n1.same.trans n2.same).ts)).same s36
 have ho6 := s46 _ _ n4.at_
 have hh6 := n6.same _ _ n5.at_
 refine ⟨_, _, SqL.of hh6, rfl, _, _, SqL.of hh6, rfl, ?_⟩
 rcases hA with ⟨rfl, hA⟩ | ⟨n0, n7, hA⟩
 ·refine ⟨w', l1, v, l4, l2, l3, s, cs, e, os, g, ps, k, D, none, rfl, w8, ho6, hc6, hv.same s6, SqL.of hi6, hp6, h64, hO, hk, hA, fun _ u H7 s7 hu => ?_, fun c hc => by cases hc⟩
  refine fun l8 H8 n8 => ?_
  have s78 := s7.trans n8.same
  refine ⟨_, _, _, _, _, _, _, _, cs, ps, s, os, g, s78 _ _ hh6, n8.at_, s78 _ _ ho6, (s6.trans s78) _ _ ho, hc6.same s78, hL.same (s6.trans s78), SqL.of (s78 _ _ hi6), (s6.trans s78).seq hS, hp6.same s78, hP.same (s6.trans s78), ?_⟩
  refine fun t9 H9 n9 => ⟨t9, _, rfl, .inr (SqT.of n9.at_), rfl, rfl, ?_⟩
  have z := in26 w' (by omega)
  have fin := q H9 (s6.trans (s78.trans n9.same))
  refine brB (fun h => ?_) (fun h => ?_)
  ·have hw : w' = 2 ∨ w' = 6 := of_decide_eq_true (z.symm.trans h)
   rcases hu.1 hw with ⟨zz, xs, rfl, hz⟩ | ⟨x, hx⟩
   ·exact ⟨_, _, .tup (n9.same _ _ (n8.same _ _ hz)), En.T.tt, fin⟩
   ·exact ⟨_, _, ((hx.same n8.same).same n9.same).ty, En.T.tt, fin⟩
  ·have hw : ¬ (w' = 2 ∨ w' = 6) := of_decide_eq_false (z.symm.trans h)
   obtain ⟨zz, xs, rfl, hz⟩ := hu.2 hw
   exact ⟨_, _, .lst (n9.same _ _ (n8.same _ _ hz)), En.T.ll, fin⟩
 ·obtain ⟨c, hc⟩ : ∃ c, dueB Ad n = some c := by
   unfold dueB
   by_cases h0 : n = 0
   ·exact ⟨_, if_pos h0⟩
   rw [if_neg h0]
   by_cases h1 : n = 1
   ·exact ⟨_, if_pos h1⟩
   rw [if_neg h1]
   by_cases h2 : n = 2
   ·exact ⟨_, if_pos h2⟩
   rw [if_neg h2]
   by_cases h3 : n = 3
   ·exact ⟨_, if_pos h3⟩
   rw [if_neg h3]
   by_cases h4 : n = 4
   ·exact ⟨_, if_pos h4⟩
   rw [if_neg h4]
   by_cases h5 : n = 5
   ·exact ⟨_, if_pos h5⟩
   rw [if_neg h5]
   exact ⟨_, if_pos (by omega)⟩
  refine ⟨w', l1, v, l4, l2, l3, s, cs, e, os, g, ps, k, D, dueB Ad n, rfl, w8, ho6, hc6, hv.same s6, SqL.of hi6, hp6, h64, hO, hk, hA, (fun hd => by rw [hc] at hd; cases hd), fun c' hc' H7 s7 => ?_⟩
  refine ⟨_, rfl, dueB_mx En hc', fun ea hea => ?_⟩
  have n8 := New.mk' (o := .ext (IsExc ea c')) hea
  generalize upd H7 ea (.ext (IsExc ea c')) = H8 at n8 ⊢
  refine ⟨ea, c', n, rfl, n8.at_, hc', fun lk2 H9 s9 hk9 => ?_⟩
  have s69 := s7.trans (n8.same.trans s9)
  refine fun l10 H10 n10 => ?_
  have s78 := s69.trans n10.same
  refine ⟨_, _, _, _, _, _, _, _, cs, ps, s, os, g, s78 _ _ hh6, n10.at_, s78 _ _ ho6, (s6.trans s78) _ _ ho, hc6.same s78, hL.same (s6.trans s78), SqL.of (s78 _ _ hi6), (s6.trans s78).seq hS, hp6.same s78, hP.same (s6.trans s78), ?_⟩
  refine br (fun _ => ?_) (fun z => absurd n7 z)
  refine ⟨_, rfl, by decide, by decide, fun Dk H11 n11 => ?_⟩
  refine comp_NB (fun (i : Nat) => decide (0 + (i : Int) = n)) n11 (by decide) (fun i hi z H' s' R h => h) fun H12 n12 => ?_
  refine fun l13 H13 n13 => ⟨_, _, n13.same _ _ n12.at_, n13.at_, (show 7 + 1 ≤ 10000000 by decide), fun l14 H14 n14 => ?_⟩
  have s1014 := n12.same.trans (n13.same.trans n14.same)
  refine ⟨_, _, kindsC n, rfl, rfl, SqL.of (s1014 _ _ (n10.same _ _ hk9)), SqL.of (by rw [← kindsC_eq, List.map_append]; exact n14.at_), ?_⟩
  exact q H14 (s6.trans (s78.trans s1014))
set_option maxHeartbeats 20000000 in
theorem cal_l_due (F : Has K mg "_law_due" s_l_due ["_law_what", "_law_wrongs"] f fd) (En : Env K mg Ad) : CalE P w K mg base "_law_due" 1 ["_law_what", "_law_wrongs"] (sp_v_due K) := by
 refine F.calE (F.fn.okE sc_l_due (fun vs H Q E h => ?_) (fun cdv A outer s H vs Q E hr h => ?_))
 ·obtain ⟨w', l, W, rfl, w8, hW, hl, q⟩ := h
  rfl
 obtain ⟨w', l, W, rfl, w8, hW, hl, q⟩ := h
 refine ⟨_, (pss_cons (ps_set (i := 2) sc_l_due.nd rfl (Or.inl rfl) (d_lst (pa_cons (pe_cmpR op_in_seq (dv 0) (d_tup (pa_cons pe_int (pa_cons pe_int pa_nil))) (by with_unfolding_all rfl)) (pa_cons (pe_cmpR d_ne (dv 0) pe_int (nomark _)) (pa_cons pe_bl (pa_cons (pe_cmpR d_ne (dv 0) pe_int (nomark _)) (pa_cons (pe_cmpR op_in_seq (dv 0) (d_tup (pa_cons pe_int (pa_cons pe_int pa_nil))) (by with_unfolding_all rfl)) (pa_cons (pe_cmpR d_eq (dv 0) pe_int (nomark _)) (pa_cons (pe_cmpR d_eq (dv 0) pe_int (nomark _)) pa_nil)))))))))
  (pss_cons (ps_for PassesOwn.leaving rfl (pi_range1 rfl En.b_range (pa_cons pe_int pa_nil)) (pg_name (i := 3) sc_l_due.nd rfl (Or.inl rfl))
   (pss_one (ps_if (PW.pt (pw_and (dt_val (pe_ix d_ixL (dv 1) (dv 3) (fun _ _ => rfl))) (pw_and1 (dt_val (pe_ix d_ixL (dv 2) (dv 3) (fun _ _ => rfl))))))
   (pss_one (ps_ret (dv 3)))
   pss_nil)))
  (pss_one (ps_ret pe_int)))), ?_⟩
 refine fun t1 H1 n1 => ⟨t1, _, rfl, .inr (SqT.of n1.at_), rfl, rfl, ?_⟩
 refine fun t2 H2 n2 => ⟨t2, _, rfl, .inr (SqT.of n2.at_), rfl, rfl, ?_⟩
 refine fun la H3 n3 => ?_
 have s3 := n1.same.trans (n2.same.trans n3.same)
 have hla : H3 la = some (.lst ((asked w').map V.bl)) := by
  rw [n3.at_, in23 w' (by omega), in07 w' (by omega)]
  unfold asked
  have e2 : decide ((w' : Int) = 2) = decide (w' = 2) := decide_eq_decide.mpr (by omega)
  have e6 : decide ((w' : Int) = 6) = decide (w' = 6) := decide_eq_decide.mpr (by omega)
  have e8 : decide ((w' : Int) = 8) = decide (w' = 8) := decide_eq_decide.mpr (by omega)
  simp [e2, e6, e8]
 have hl3 := s3 _ _ hl
 refine ⟨_, rfl, by decide, by decide, ?_⟩
 refine for_range (fun i σ H' => H' = H3 ∧ (∃ z, σ = [some (.int (w' : Int)), some (.ref l), some (.ref la), z]) ∧ ∀ j, j < i → (W.getD j false && (asked w').getD j false) = false) ⟨rfl, ⟨_, rfl⟩, fun j h => by omega⟩ ?_ ?_
 ·rintro i σ H' hi ⟨e', ⟨z, rfl⟩, hno⟩
  subst H'
  have hi7 : i < 7 := hi
  refine ⟨_, _, SqL.of hl3, at_bl (by omega), ?_⟩
  refine brB (fun h1 => ?_) (fun h1 => ?_)
  ·refine ⟨_, _, SqL.of hla, at_bl (W := asked w') (show i < 7 from hi7), ?_⟩
   refine brB (fun h2 => ?_) (fun h2 => ?_)
   ·have e1 := first7_at (f := fun k => W.getD k false && (asked w').getD k false) hi7 (by show (W.getD i false && (asked w').getD i false) = true; rw [h1, h2]; rfl) hno
    have z := q H3 s3
    unfold dueF at z
    rw [e1] at z
    show Q (.int (0 + (i : Int))) H3
    rw [show (0 + (i : Int)) = (i : Int) by omega]
    exact z
   ·refine ⟨rfl, ⟨_, rfl⟩, fun j hj => ?_⟩
    rcases Nat.lt_or_ge j i with hj' | hj'
    ·exact hno j hj'
    ·rw [show j = i by omega, h2, Bool.and_false]
  ·refine ⟨rfl, ⟨_, rfl⟩, fun j hj => ?_⟩
   rcases Nat.lt_or_ge j i with hj' | hj'
   ·exact hno j hj'
   ·rw [show j = i by omega, h1, Bool.false_and]
 ·rintro σ H' ⟨e', ⟨z, rfl⟩, hno⟩
  subst H'
  have e1 := first7_none (f := fun k => W.getD k false && (asked w').getD k false) hno
  have z := q H3 s3
  unfold dueF at z
  rw [e1] at z
  exact z
theorem ins_perm {r : List Nat} {p n : Nat} (h : r.Perm (List.range n)) : (r.take p ++ [n] ++ r.drop p).Perm (List.range (n + 1)) := by
 rw [List.range_succ]
 have h1 : (r.take p ++ [n] ++ r.drop p).Perm (r.take p ++ (r.drop p ++ [n])) := by
  rw [List.append_assoc]
  exact List.Perm.append_left _ List.perm_append_comm
 refine h1.trans ?_
 rw [← List.append_assoc, List.take_append_drop]
 exact h.append_right _
set_option maxHeartbeats 20000000 in
theorem cal_l_order (F : Has K mg "_law_order" s_l_order ["_law_count", "_law_cell"] f fd) (En : Env K mg Ad) : CalE P w K mg base "_law_order" 1 ["_law_count", "_law_cell"] (sp_v_order) := by
 refine F.calE (F.fn.okE sc_l_order (fun vs H Q E h => ?_) (fun cdv A outer s H vs Q E hr h => ?_))
 ·obtain ⟨n, c, rfl, h8, q⟩ := h
  rfl
 obtain ⟨n, c, rfl, h8, q⟩ := h
 refine ⟨_, (pss_cons (ps_set (i := 2) sc_l_order.nd rfl (Or.inl rfl) (d_lst pa_nil))
  (pss_cons (ps_for PassesOwn.leaving rfl (pi_range1 rfl En.b_range (pa_cons (dv 0) pa_nil)) (pg_name (i := 3) sc_l_order.nd rfl (Or.inl rfl))
   (pss_cons (ps_expr (pe_bm PySem.F.plainAttrs_list PySem.F.slot_list_insert PySem.F.type_list_insert d_insert (dv 2) (pa_cons (pe_op d_mod (dv 1) (pe_op d_add (dv 3) pe_int)) (pa_cons (dv 3) pa_nil))))
  (pss_one (ps_set (i := 1) sc_l_order.nd rfl (Or.inl rfl) (pe_op d_add (pe_op d_fdiv (dv 1) pe_int) (dv 3))))))
  (pss_one (ps_ret (dv 2))))), ?_⟩
 refine fun lo H1 n1 => ?_
 refine ⟨_, rfl, by omega, by omega, ?_⟩
 rw [Int.toNat_natCast]
 refine for_range (fun i σ H2 => Same H H2 ∧ ∃ (d : Int) (r : List Nat) (z : Option V), σ = [some (.int (n : Int)), some (.int d), some (.ref lo), z] ∧ H2 lo = some (.lst (rowN r)) ∧ r.Perm (List.range i)) ⟨n1.same, c, [], _, rfl, n1.at_, List.Perm.refl _⟩ ?_ ?_
 ·rintro i σ H2 hi ⟨s2, d, r, z, rfl, hlo, hp⟩
  have hrl : r.length = i := by rw [hp.length_eq, List.length_range]
  have t0 := Int.emod_nonneg d (show (0 + (i : Int)) + 1 ≠ 0 by omega)
  have t1 := Int.emod_lt_of_pos d (show 0 < (0 + (i : Int)) + 1 by omega)
  obtain ⟨p, ep⟩ : ∃ p : Nat, d % ((0 + (i : Int)) + 1) = (p : Int) := ⟨(d % ((0 + (i : Int)) + 1)).toNat, by omega⟩
  refine ⟨.inl ⟨rfl, _, SqL.of hlo⟩, by omega, ?_⟩
  refine ⟨_, p, hlo, ep, (by rw [List.length_map]; omega), (by rw [List.length_map]; omega), fun H3 c3 => ?_⟩
  refine ⟨cdiv (by decide) (by decide), c3.same s2 n1.fr, _, r.take p ++ [i] ++ r.drop p, _, rfl, ?_, ins_perm hp⟩
  rw [c3.at_]
  unfold rowN
  rw [List.map_append, List.map_append, List.map_take, List.map_drop, show (0 + (i : Int)) = (i : Int) by omega]
  rfl
 ·rintro σ H2 ⟨s2, d, r, z, rfl, hlo, hp⟩
  exact q lo r H2 s2 n1.fr hlo hp
theorem no_len {os : List Int} {m : Nat} (h : os.length ≠ m) : ¬ IsOrd os m := fun z => h (by have := z.length_eq; simpa using this)
theorem no_dup {os : List Int} {m : Nat} (h : ¬ os.Nodup) : ¬ IsOrd os m := fun z => h (z.nodup_iff.mpr (List.pairwise_map.mpr (List.nodup_range.imp fun h z => h (by omega))))
theorem row_intsN (r : List Nat) : rowN r = (r.map fun (n : Nat) => (n : Int)).map V.int := by
 rw [List.map_map]
 rfl
theorem cutI {ns : List Int} (p : Nat) : cutV (ns.map V.int) none (some (p : Int)) = (ns.take p).map V.int := by
 unfold cutV
 have e1 : HT.sIx (ns.map V.int).length (ns.map V.int).length (some (p : Int)) = min p (ns.map V.int).length := HT.sIx_nat _ _ p
 rw [HT.sIx_none, e1, List.drop_zero, Nat.sub_zero, List.map_take]
 rcases Nat.le_total p (ns.map V.int).length with h | h
 ·rw [Nat.min_eq_left h]
 ·rw [Nat.min_eq_right h, List.take_of_length_le (Nat.le_refl _), List.take_of_length_le h]
theorem cutJ {ns : List Int} {p : Nat} (h : p ≤ ns.length) : cutV (ns.map V.int) (some (p : Int)) none = (ns.drop p).map V.int := by
 unfold cutV
 have e1 : HT.sIx (ns.map V.int).length 0 (some (p : Int)) = min p (ns.map V.int).length := HT.sIx_nat _ _ p
 rw [HT.sIx_none, e1, Nat.min_eq_left (by rw [List.length_map]; exact h), List.map_drop]
 exact List.take_of_length_le (by rw [List.length_drop]; exact Nat.le_refl _)
theorem nnB {H H' : Hp} (s : Same H H') {b : Addr} (h : H' b = none) : H b = none := by
 cases e : H b with
 | none => rfl
 | some o => rw [s b o e] at h; cases h
set_option maxHeartbeats 20000000 in
theorem cal_l_no_order (F : Has K mg "_law_no_order" s_l_no_order ["_law_order_here", "_law_cell"] f fd) (En : Env K mg Ad) : CalE P w K mg base "_law_no_order" 1 ["_law_order_here", "_law_cell"] (sp_v_noorder) := by
 refine F.calE (F.fn.okE sc_l_no_order (fun vs H Q E h => ?_) (fun cdv A outer s H vs Q E hr h => ?_))
 ·obtain ⟨l, r, n, c, rfl, hl, hp, h8, q⟩ := h
  rfl
 obtain ⟨l, r, n, c, rfl, hl, hp, h8, q⟩ := h
 refine ⟨_, (pss_cons (ps_if (PW.pt (pw_and (dt_cmp d_eq (pe_op d_mod (dv 1) pe_int) pe_int (nomark _)) (pw_and1 (dt_cmp d_gt (pe_callB d_len rfl En.b_len PySem.boot_len (pa_cons (dv 0) pa_nil)) pe_int (nomark _)))))
   (pss_one (ps_ret (pe_slice d_slL (dv 0) (d_some pe_int) po_none)))
   pss_nil)
  (pss_cons (ps_if (PW.pt (pw_and (dt_cmp d_eq (pe_op d_mod (dv 1) pe_int) pe_int (nomark _)) (pw_and1 (dt_cmp d_gt (pe_callB d_len rfl En.b_len PySem.boot_len (pa_cons (dv 0) pa_nil)) pe_int (nomark _)))))
   (pss_one (ps_ret (pe_op d_cat (pe_op d_cat (pe_slice d_slL (dv 0) po_none (d_some pe_int)) (pe_slice d_slL (dv 0) po_none (d_some pe_int))) (pe_slice d_slL (dv 0) (d_some pe_int) po_none))))
   pss_nil)
  (pss_one (ps_ret (pe_op d_cat (dv 0) (d_lst (pa_cons (pe_op d_mod (pe_op d_fdiv (dv 1) pe_int) pe_int) pa_nil))))))), ?_⟩
 have hrl : r.length = n := by rw [hp.length_eq, List.length_range]
 have hnd : r.Nodup := hp.nodup_iff.mpr List.nodup_range
 rw [row_intsN] at hl
 have hil : (r.map fun (n : Nat) => (n : Int)).length = n := by rw [List.length_map]; exact hrl
 generalize (r.map fun (n : Nat) => (n : Int)) = is at hl hil
 have stepC : tOp dCat (dVar 0) (dLst (tCons (tOp dMod (tOp dFdiv (dVar 1) (tC (V.int 3))) (tC (V.int 20))) tNil)) [some (.ref l), some (.int c)] H Q := by
  refine ⟨cdiv (by decide) (by decide), by decide, fun l3 H3 n3 => ⟨_, _, n3.same _ _ hl, n3.at_, (by rw [List.length_map]; show _ + 1 ≤ 10000000; omega), fun l4 H4 n4 => ?_⟩⟩
  refine q l4 (is ++ [c.fdiv 3 % 20]) H4 (n3.same.trans n4.same) (nnB n3.same n4.fr) (by rw [List.map_append]; exact n4.at_) (no_len (by rw [List.length_append]; show _ + 1 ≠ _; omega)) (by rw [List.length_append]; show _ + 1 < 64; omega)
 have len : ∀ {ns : List Int}, SqL K H l (ns.map V.int) → True := fun _ => trivial
 refine ⟨by decide, ?_⟩
 refine br (fun c0 => ?_) (fun c0 => ?_)
 ·refine ⟨_, .inl (SqL.of hl), ?_⟩
  refine br (fun hpos => ?_) (fun hneg => ?_)
  ·refine ⟨_, SqL.of hl, fun l3 H3 n3 => ?_⟩
   rw [List.length_map] at hpos
   rw [show cutV (is.map V.int) (some (1 : Int)) none = (is.drop 1).map V.int from cutJ (p := 1) (by omega)] at n3
   exact q l3 _ H3 n3.same n3.fr n3.at_ (no_len (by rw [List.length_drop]; omega)) (by rw [List.length_drop]; omega)
  ·exact ⟨by decide, br (fun z => absurd z (by omega)) (fun _ => stepC)⟩
 ·refine ⟨by decide, ?_⟩
  refine br (fun c1 => ?_) (fun c1 => stepC)
  refine ⟨_, .inl (SqL.of hl), ?_⟩
  refine br (fun hpos => ?_) (fun hneg => stepC)
  rw [List.length_map] at hpos
  refine ⟨_, SqL.of hl, fun l3 H3 n3 => ⟨_, SqL.of (n3.same _ _ hl), fun l4 H4 n4 => ?_⟩⟩
  rw [show cutV (is.map V.int) none (some (1 : Int)) = (is.take 1).map V.int from cutI 1] at n3 n4
  refine ⟨_, _, n4.same _ _ n3.at_, n4.at_, (by rw [List.length_map, List.length_take]; omega), fun l5 H5 n5 => ?_⟩
  have s5 := n3.same.trans (n4.same.trans n5.same)
  refine ⟨_, SqL.of (s5 _ _ hl), fun l6 H6 n6 => ?_⟩
  rw [show cutV (is.map V.int) (some (2 : Int)) none = (is.drop 2).map V.int from cutJ (p := 2) (by omega)] at n6
  refine ⟨_, _, n6.same _ _ n5.at_, n6.at_, (by rw [List.length_append, List.length_map, List.length_map, List.length_take, List.length_drop]; omega), fun l7 H7 n7 => ?_⟩
  refine q l7 (is.take 1 ++ is.take 1 ++ is.drop 2) H7 (s5.trans (n6.same.trans n7.same)) (nnB (s5.trans n6.same) n7.fr) (by rw [List.map_append, List.map_append]; exact n7.at_) (no_dup ?_) (by rw [List.length_append, List.length_append, List.length_take, List.length_drop]; omega)
  match is, hpos with
  | x :: y :: rest, _ =>
   show ¬ (x :: x :: _).Nodup
   intro h
   exact (List.nodup_cons.mp h).1 List.mem_cons_self
  | [x], hpos => exact absurd hpos (show ¬ (1 : Int) < ((1 : Nat) : Int) by decide)
  | [], hpos => exact absurd hpos (show ¬ (1 : Int) < ((0 : Nat) : Int) by decide)
set_option maxHeartbeats 20000000 in
theorem cal_l_good (F : Has K mg "_law_good" s_l_good ["_law_what", "_law_some", "_law_estate", "_law_others"] f fd) (En : Env K mg Ad) (G_l_told : CalE P w K mg base "_law_told" 12 ["_law_what", "_law_claims", "_law_estate", "_law_others", "_law_due_here"] (sp_v_told K Ad)) : CalE P w K mg base "_law_good" 13 ["_law_what", "_law_some", "_law_estate", "_law_others"] (sp_v_good K Ad) := by
 refine F.calE (F.fn.okE sc_l_good (fun vs H Q E h => ?_) (fun cdv A outer s H vs Q E hr h => ?_))
 ·obtain ⟨w', a, v, o, b, l, s, cs, e, os, g, ps, k, D, rfl, w8, ho, hL, hv, hS, hP, h64, hO, hk, hA, h2, q⟩ := h
  rfl
 obtain ⟨w', a, v, o, b, l, s, cs, e, os, g, ps, k, D, rfl, w8, ho, hL, hv, hS, hP, h64, hO, hk, hA, h2, q⟩ := h
 refine ⟨_, (pss_cons (ps_if (dt_cmp d_eq (dv 0) pe_int (nomark _))
   (pss_cons (ps_if (dt_cmp d_lt (pe_callB d_len rfl En.b_len PySem.boot_len (pa_cons (dv 1) pa_nil)) pe_int (nomark _))
   (pss_one (ps_ret pe_bl))
   pss_nil)
  (pss_one (ps_ret (pe_callP G_l_told hr (by decide) rfl (pa_cons (dv 0) (pa_cons (pe_slice d_slL (dv 1) po_none (d_some pe_int)) (pa_cons (pe_ix d_ixL (dv 1) pe_int (fun _ _ => rfl)) (pa_cons (dv 3) (pa_cons pe_int pa_nil)))))))))
   pss_nil)
  (pss_cons (ps_if (PW.pt (pw_and (dt_cmp op_in_seq (dv 0) (d_tup (pa_cons pe_int (pa_cons pe_int pa_nil))) (by with_unfolding_all rfl)) (pw_and1 (dt_cmp d_gt (pe_callB d_len rfl En.b_len PySem.boot_len (pa_cons (dv 1) pa_nil)) pe_int (nomark _)))))
   (pss_one (ps_ret pe_bl))
   pss_nil)
  (pss_one (ps_ret (pe_callP G_l_told hr (by decide) rfl (pa_cons (dv 0) (pa_cons (dv 1) (pa_cons (dv 2) (pa_cons (dv 3) (pa_cons pe_int pa_nil)))))))))), ?_⟩
 obtain ⟨vs, hs, hr, he⟩ := hL.sq
 have hlv := hr.len
 refine br (fun c => ?_) (fun c => ?_)
 ·have hw : w' = 2 := by omega
  subst hw
  refine ⟨vs, .inl hs, ?_⟩
  refine br (fun _ => q H (Same.refl _)) (fun hl2 => ?_)
  match cs, hL, hO, h2, hr, hlv with
  | c0 :: c1 :: r, hL, hO, h2, hr, hlv =>
   refine ⟨vs, hs, fun l2 H2 n2 => ?_⟩
   rw [show cutV vs none (some (2 : Int)) = vs.take 2 from by
    unfold cutV
    have e1 : HT.sIx vs.length vs.length (some ((2 : Nat) : Int)) = min 2 vs.length := HT.sIx_nat _ _ 2
    have e1' : HT.sIx vs.length vs.length (some (2 : Int)) = min 2 vs.length := e1
    rw [HT.sIx_none, e1', List.drop_zero, Nat.sub_zero, Nat.min_eq_left (by omega)]] at n2
   have hC2 : RatL K H2 l2 [c0, c1] := ⟨_, n2.at_, by
    have hr2 := hr.ts n2.same.ts
    refine ⟨by rw [List.length_take, hlv, List.length_cons, List.length_cons]; show min 2 _ = 2; omega, fun j v x hv hx => ?_⟩
    rw [List.getElem?_take] at hv
    match j, hv, hx with
    | 0, hv, hx => exact hr2.at_ 0 v x hv hx
    | 1, hv, hx => exact hr2.at_ 1 v x hv hx
    | n + 2, _, hx => cases hx⟩
   obtain ⟨va, u0, y0, hs0, ha0, hy0, hv0⟩ := (hL.same n2.same).at (k := 0) (by decide) (by rw [List.length_cons]; omega)
   cases hy0
   refine ⟨_, _, hs0, ha0, ?_⟩
   refine ⟨2, l2, u0, o, b, l, s, [c0, c1], c0, os, g, ps, k, D, 7, rfl, by decide, n2.same _ _ ho, hC2, hv0, n2.same.seq hS, hP.same n2.same, h64, hO.sub (fun y hy => ?_), hk, .inl ⟨rfl, asks2 rfl (h2 c0 c1 r rfl)⟩, fun H' s' => q H' (n2.same.trans s')⟩
   rcases List.mem_cons.mp hy with rfl | hy
   ·exact List.mem_cons_of_mem _ (List.mem_append_left _ List.mem_cons_self)
   rcases List.mem_append.mp hy with hy | hy
   ·refine List.mem_cons_of_mem _ (List.mem_append_left _ ?_)
    simp only [List.mem_cons, List.not_mem_nil, or_false] at hy
    rcases hy with rfl | rfl
    ·exact List.mem_cons_self
    ·exact List.mem_cons_of_mem _ List.mem_cons_self
   ·exact List.mem_cons_of_mem _ (List.mem_append_right _ hy)
  | [c0], hL, _, _, _, hlv => exact absurd (show ((vs.length : Nat) : Int) < 2 by rw [hlv]; show ((1 : Nat) : Int) < 2; decide) hl2
  | [], hL, _, _, _, hlv => exact absurd (show ((vs.length : Nat) : Int) < 2 by rw [hlv]; decide) hl2
 ·have hw : w' ≠ 2 := by omega
  have told : ∀ H1, Same H H1 → sp_v_told K Ad [.int (w' : Int), .ref a, v, .ref o, .int 7] H1 Q E := fun H1 s1 => ⟨w', a, v, o, b, l, s, cs, e, os, g, ps, k, D, 7, rfl, w8, s1 _ _ ho, hL.same s1, hv.same s1, s1.seq hS, hP.same s1, h64, hO, hk, .inl ⟨rfl, hA w' w8 hw⟩, fun H' s' => q H' (s1.trans s')⟩
  refine fun t1 H1 n1 => ⟨t1, _, rfl, .inr (SqT.of n1.at_), rfl, rfl, ?_⟩
  refine brB (fun h => ?_) (fun h => ?_)
  ·refine ⟨vs, .inl (n1.same.seq hs), ?_⟩
   exact br (fun _ => q H1 n1.same) (fun _ => told H1 n1.same)
  ·exact told H1 n1.same
theorem obRt' {t b : Int} (hb : 0 < b) (h1 : Bd 149 b) (h2 : t.natAbs < 2 ^ 150) : Ob 150 b [Lr.rt t b] := by
 refine ⟨hb, h1.mono (by decide), fun y hy => ?_⟩
 obtain rfl : y = Lr.rt t b := by simpa using hy
 exact ⟨t, rfl, by omega⟩
theorem rats_one {K : PySem.W.Frag} {H : Hp} {v : V} {x : Rat} (h : RatV K H v x) : RatsV K H [v] [x] := RatsV.nil.snoc h
theorem rats_drop {K : PySem.W.Frag} {H : Hp} {vs : List V} {xs : List Rat} (h : RatsV K H vs xs) (p : Nat) : RatsV K H (vs.drop p) (xs.drop p) := by
 refine ⟨by rw [List.length_drop, List.length_drop, h.len], fun j v x hv hx => ?_⟩
 rw [List.getElem?_drop] at hv hx
 exact h.at_ _ v x hv hx
theorem rats_rep {K : PySem.W.Frag} {H : Hp} {v : V} {x : Rat} (h : RatV K H v x) : ∀ n : Nat, RatsV K H (List.replicate n [v]).flatten (List.replicate n x)
 | 0 => RatsV.nil
 | n + 1 => (rats_one h).app (rats_rep h n)
theorem obOver {k : Nat} {bo t : Int} {xs ys : List Rat} (h : Ob k bo xs) (hk : 110 ≤ k) (ht : t.natAbs ≤ 2 ^ 110) (hy : ∀ y ∈ ys, y ∈ xs ∨ y = Lr.rt t bo) : Ob k bo ys := ⟨h.pos, h.bd, fun y hm => by
 rcases hy y hm with z | rfl
 ·exact h.ov y z
 ·exact ⟨t, rfl, Nat.le_trans ht (Nat.pow_le_pow_right (by decide) hk)⟩⟩
set_option maxHeartbeats 20000000 in
theorem cal_l_wrong_claims (F : Has K mg "_law_wrong_claims" s_l_wrong_claims ["_law_good_here", "_law_bottom", "_law_cell", "_law_far"] f fd) (En : Env K mg Ad) (G_l_ratio : CalE P w K mg base "_law_ratio" 1 ["_law_top", "_law_bottom"] (sp_l_ratio)) : CalE P w K mg base "_law_wrong_claims" 2 ["_law_good_here", "_law_bottom", "_law_cell", "_law_far"] (sp_v_claims K) := by
 refine F.calE (F.fn.okE sc_l_wrong_claims (fun vs H Q E h => ?_) (fun cdv A outer s H vs Q E hr h => ?_))
 ·obtain ⟨a, cs, bo, cell, far, k, rfl, hL, h8, bo0, bo1, f0, f1, hO, hk, q⟩ := h
  rfl
 obtain ⟨a, cs, bo, cell, far, k, rfl, hL, h8, bo0, bo1, f0, f1, hO, hk, q⟩ := h
 refine ⟨_, (pss_cons (ps_set (i := 4) sc_l_wrong_claims.nd rfl (Or.inl rfl) (pe_callTy d_list rfl En.b_list PyProof.Rows.boot_list (pa_cons (dv 0) pa_nil)))
  (pss_cons (ps_if (dt_cmp d_eq (pe_op d_mod (pe_op d_fdiv (dv 2) pe_int) pe_int) pe_int (nomark _))
   (pss_one (ps_set (i := 4) sc_l_wrong_claims.nd rfl (Or.inl rfl) (pe_op d_cat (dv 4) (pe_op d_rep (d_lst (pa_cons (pe_callP G_l_ratio hr (by decide) rfl (pa_cons (pe_op d_add pe_int (pe_op d_mod (dv 3) pe_int)) (pa_cons (dv 1) pa_nil))) pa_nil)) (pe_op d_add (pe_op d_sub pe_int (pe_callB d_len rfl En.b_len PySem.boot_len (pa_cons (dv 4) pa_nil))) (pe_op d_mod (dv 3) pe_int))))))
   pss_nil)
  (pss_cons (ps_if (PW.pt (pw_and (dt_cmp d_eq (pe_op d_mod (pe_op d_fdiv (dv 2) pe_int) pe_int) pe_int (nomark _)) (pw_and1 (dt_cmp d_gt (pe_callB d_len rfl En.b_len PySem.boot_len (pa_cons (dv 4) pa_nil)) pe_int (nomark _)))))
   (pss_cons (ps_set (i := 5) sc_l_wrong_claims.nd rfl (Or.inl rfl) (pe_op d_mod (dv 3) (pe_callB (d_min rfl) rfl En.b_min PyProof.Rows.boot_min (pa_cons pe_int (pa_cons (pe_callB d_len rfl En.b_len PySem.boot_len (pa_cons (dv 4) pa_nil)) pa_nil)))))
  (pss_cons (ps_if (dt_cmp d_gt (pe_op d_mod (dv 3) pe_int) pe_int (nomark _))
   (pss_one (ps_set (i := 5) sc_l_wrong_claims.nd rfl (Or.inl rfl) (pe_op d_mod (dv 3) (pe_callB d_len rfl En.b_len PySem.boot_len (pa_cons (dv 4) pa_nil)))))
   pss_nil)
  (pss_one (ps_asg (pe_callP G_l_ratio hr (by decide) rfl (pa_cons (pe_op d_sub (pe_op d_sub pe_int pe_int) (dv 3)) (pa_cons (dv 1) pa_nil))) (pg_sub (dv 4) (dv 5) d_setL)))))
   pss_nil)
  (pss_one (ps_ret (dv 4)))))), ?_⟩
 obtain ⟨vs, hs, hr, he⟩ := hL.sq
 have hlv := hr.len
 have boB : Bd 9000 bo := (Bd.of_lt (n := 140) (by omega)).mono (by decide)
 refine ⟨vs, .inl hs, fun l1 H1 n1 => ⟨cdiv (by decide) (by decide), by decide, ?_⟩⟩
 refine ifS (fun σ H' => ∃ l ys, σ = [some (.ref a), some (.int bo), some (.int cell), some (.int far), some (.ref l), none] ∧ Same H H' ∧ H l = none ∧ RatL K H' l ys ∧ ys.length ≤ 17 ∧ (ys = cs ∨ 8 < ys.length) ∧ Ob k bo ys) ?_ (fun _ => ⟨l1, cs, rfl, n1.same, n1.fr, RatL.new n1 hr, by omega, .inl rfl, hO⟩) (fun _ hgo => ?_)
 rotate_left
 ·have r0 := Int.emod_nonneg far (show (50 : Int) ≠ 0 by decide)
  have r1 := Int.emod_lt_of_pos far (show (0 : Int) < 50 by decide)
  have t0 := Int.emod_nonneg far (show (9 : Int) ≠ 0 by decide)
  have t1 := Int.emod_lt_of_pos far (show (0 : Int) < 9 by decide)
  refine ⟨by decide, ⟨_, _, rfl, bo0, boB, fun zn Hn nn => fun lo Ho no => ?_⟩⟩
  have s1o := nn.same.trans no.same
  have hs1 : SqL K Ho l1 vs := SqL.of (s1o _ _ n1.at_)
  refine ⟨vs, .inl hs1, by decide, ?_⟩
  obtain ⟨n, hn⟩ : ∃ n : Nat, 9 - (vs.length : Int) + far % 9 = n := ⟨(9 - (vs.length : Int) + far % 9).toNat, by omega⟩
  refine ⟨_, no.at_, by omega, by omega, (by rw [hn, Int.toNat_natCast]; show 1 * n ≤ 10000000; omega), fun lq Hq nq => ?_⟩
  rw [hn, Int.toNat_natCast] at nq
  have s1q := s1o.trans nq.same
  refine ⟨_, _, s1q _ _ n1.at_, nq.at_, (by rw [List.length_flatten, List.map_replicate, List.sum_replicate_nat]; show _ + n * 1 ≤ 10000000; omega), fun l2 H2 n2 => ?_⟩
  have s12 := s1q.trans n2.same
  have hx : RatV K H2 (.ref zn) (Lr.rt (1 + far % 50) bo) := (RatV.new nn).same (no.same.trans (nq.same.trans n2.same))
  have hyl : (cs ++ List.replicate n (Lr.rt (1 + far % 50) bo)).length = cs.length + n := by rw [List.length_append, List.length_replicate]
  refine hgo _ _ ⟨l2, cs ++ List.replicate n (Lr.rt (1 + far % 50) bo), rfl, n1.same.trans s12, nnB (n1.same.trans s1q) n2.fr, ⟨_, n2.at_, (hr.ts (n1.same.trans s12).ts).app (rats_rep hx n)⟩, by omega, .inr (by omega), obOver hO hk (t := 1 + far % 50) (by omega) fun y hy => ?_⟩
  rcases List.mem_append.mp hy with hy | hy
  ·exact .inl hy
  ·exact .inr (List.eq_of_mem_replicate hy)
 rintro σ H2 ⟨l, ys, rfl, s2, f2, hY, hyl, hyc, hO2⟩
 refine ⟨cdiv (by decide) (by decide), by decide, ?_⟩
 have done : ∀ z5, tRet (dVar 4) { nx := fun x H' => Q V.non H', rt := Q } [some (.ref a), some (.int bo), some (.int cell), some (.int far), some (.ref l), z5] H2 := fun z5 => q l ys H2 s2 f2 hY hyl (fun h1 _ => hyc.resolve_right h1) hO2
 refine ifSA (fun σ H' => ∃ z5 ys', σ = [some (.ref a), some (.int bo), some (.int cell), some (.int far), some (.ref l), z5] ∧ Same H H' ∧ RatL K H' l ys' ∧ ys'.length ≤ 17 ∧ (¬ 8 < ys'.length → (ys'.any fun c => decide (c < 0)) = false → ys' = cs) ∧ Ob k bo ys') ?_ ⟨_, ys, rfl, s2, hY, hyl, (fun h1 _ => hyc.resolve_right h1), hO2⟩ (fun _ hgo => ?_)
 rotate_left
 ·obtain ⟨vy, hsy, hry, hey⟩ := hY.sq
  have hly := hry.len
  refine ⟨vy, .inl hsy, ?_⟩
  refine br (fun hpos => ?_) (fun _ => hgo _ _ ⟨_, ys, rfl, s2, hY, hyl, (fun h1 _ => hyc.resolve_right h1), hO2⟩)
  refine ⟨vy, .inl hsy, (by show 0 < min (2 : Int) (vy.length : Int); omega), by decide, ?_⟩
  have p0 := Int.emod_nonneg far (show min (2 : Int) (vy.length : Int) ≠ 0 by omega)
  have p1 := Int.emod_lt_of_pos far (show 0 < min (2 : Int) (vy.length : Int) by omega)
  have p2 := Int.emod_nonneg far (show (vy.length : Int) ≠ 0 by omega)
  have p3 := Int.emod_lt_of_pos far (show 0 < (vy.length : Int) by omega)
  refine ifS (fun σ H' => ∃ p : Nat, σ = [some (.ref a), some (.int bo), some (.int cell), some (.int far), some (.ref l), some (.int (p : Int))] ∧ H' = H2 ∧ p < vy.length) ?_ (fun _ => ⟨(far % min (2 : Int) (vy.length : Int)).toNat, by rw [Int.toNat_of_nonneg p0]; rfl, rfl, by omega⟩) (fun _ hgo2 => ?_)
  rotate_left
  ·refine ⟨vy, .inl hsy, by omega, ?_⟩
   exact hgo2 _ _ ⟨(far % (vy.length : Int)).toNat, by rw [Int.toNat_of_nonneg p2]; rfl, rfl, by omega⟩
  rintro σ H2' ⟨p, rfl, e2', hp⟩
  subst H2'
  refine ⟨_, _, rfl, bo0, boB, fun zn Hn nn => ?_⟩
  have heyn := nn.same _ _ hey
  refine ⟨_, p, heyn, ixN_nat hp, fun H3 c3 => ?_⟩
  have t3 := c3.ts heyn
  refine hgo _ _ ⟨_, ys.set p (Lr.rt (0 - 1 - far) bo), rfl, c3.same (s2.trans nn.same) f2, ⟨_, c3.at_, (rats_set (hry.ts nn.same.ts) (RatV.new nn) p).ts t3⟩, by rw [List.length_set]; exact hyl, fun _ hn => ?_, obOver hO2 hk (t := 0 - 1 - far) (by omega) fun y hy => ?_⟩
  ·have hm : Lr.rt (0 - 1 - far) bo ∈ ys.set p (Lr.rt (0 - 1 - far) bo) := List.mem_iff_getElem?.mpr ⟨p, List.getElem?_set_self (by omega)⟩
   have := List.any_eq_false.mp hn _ hm
   exact absurd (decide_eq_true (neg_rt bo0 (by omega))) this
  ·rcases List.mem_or_eq_of_mem_set hy with h | rfl
   ·exact .inl h
   ·exact .inr rfl
 rintro σ H3 ⟨z5, ys', rfl, s3, hY3, hyl3, hyc3, hO3⟩
 exact q l ys' H3 s3 f2 hY3 hyl3 hyc3 hO3
theorem five_no {c : Int} : ∃ s, atI [V.str (tx [115, 104, 97, 114, 101]), .str (tx [71, 97, 105, 110, 115]), .str (tx []), .str (tx [108, 111, 115, 115]), .str (tx [104, 97, 108, 118, 101, 115, 32])] (c % 5) = some (.str s) ∧ inV (.str s) wordsV = false := by
 have h : c % 5 = 0 ∨ c % 5 = 1 ∨ c % 5 = 2 ∨ c % 5 = 3 ∨ c % 5 = 4 := by omega
 rcases h with h | h | h | h | h <;> rw [h] <;> exact ⟨_, rfl, by decide +kernel⟩
set_option maxHeartbeats 20000000 in
theorem cal_l_wrong_others (F : Has K mg "_law_wrong_others" s_l_wrong_others ["_law_fine", "_law_good_here", "_law_count", "_law_cell", "_law_far"] f fd) (En : Env K mg Ad) (G_l_no_order : CalE P w K mg base "_law_no_order" 1 ["_law_order_here", "_law_cell"] (sp_v_noorder)) (G_l_ratio : CalE P w K mg base "_law_ratio" 1 ["_law_top", "_law_bottom"] (sp_l_ratio)) : CalE P w K mg base "_law_wrong_others" 2 ["_law_fine", "_law_good_here", "_law_count", "_law_cell", "_law_far"] (sp_v_others K) := by
 refine F.calE (F.fn.okE sc_l_wrong_others (fun vs H Q E h => ?_) (fun cdv A outer s H vs Q E hr h => ?_))
 ·obtain ⟨fo, a, b, l, s, cs, ps, r, g, m, cell, far, k, D, rfl, hfo, hL, hb, hp, hP, hm, h8, f0, f1, hO, q⟩ := h
  rfl
 obtain ⟨fo, a, b, l, s, cs, ps, r, g, m, cell, far, k, D, rfl, hfo, hL, hb, hp, hP, hm, h8, f0, f1, hO, q⟩ := h
 refine ⟨_, (pss_cons (ps_set (i := 5) sc_l_wrong_others.nd rfl (Or.inl rfl) (pe_callTy d_list rfl En.b_list PyProof.Rows.boot_list (pa_cons (dv 0) pa_nil)))
  (pss_cons (ps_if (dt_cmp d_eq (pe_op d_mod (dv 3) pe_int) pe_int (nomark _))
   (pss_one (ps_asg (pe_ix d_ixL (d_lst (pa_cons (d_str (l := [115, 104, 97, 114, 101]) (by decide +kernel)) (pa_cons (d_str (l := [71, 97, 105, 110, 115]) (by decide +kernel)) (pa_cons (d_str (l := []) (by decide +kernel)) (pa_cons (d_str (l := [108, 111, 115, 115]) (by decide +kernel)) (pa_cons (d_str (l := [104, 97, 108, 118, 101, 115, 32]) (by decide +kernel)) pa_nil)))))) (pe_op d_mod (dv 4) pe_int) (fun _ _ => rfl)) (pg_sub (dv 5) pe_int d_setL)))
   pss_nil)
  (pss_cons (ps_if (dt_cmp d_lt (pe_op d_mod (pe_op d_fdiv (dv 3) pe_int) pe_int) pe_int (nomark _))
   (pss_cons (ps_asg (pe_callP G_l_no_order hr (by decide) rfl (pa_cons (pe_ix d_ixL (dv 5) pe_int (fun _ _ => rfl)) (pa_cons (dv 4) pa_nil))) (pg_sub (dv 5) pe_int d_setL))
  (pss_cons (ps_asg (pe_ix d_ixL (d_lst (pa_cons (pe_op d_add (pe_op d_shl pe_int (dv 2)) (dv 4)) (pa_cons (pe_op d_sub (pe_op d_sub pe_int pe_int) (dv 4)) pa_nil))) (pe_op d_mod (dv 4) pe_int) (fun _ _ => rfl)) (pg_sub (dv 5) pe_int d_setL))
  (pss_one (ps_asg (pe_ix d_ixL (d_lst (pa_cons (pe_op d_cat (dv 1) (d_lst (pa_cons (d_tup (pa_cons pe_int (pa_cons pe_int pa_nil))) pa_nil))) (pa_cons (pe_op d_cat (d_lst (pa_cons (pe_callP G_l_ratio hr (by decide) rfl (pa_cons (pe_op d_sub (pe_op d_sub pe_int pe_int) (dv 4)) (pa_cons pe_int pa_nil))) pa_nil)) (pe_slice d_slL (dv 1) (d_some pe_int) po_none)) pa_nil))) (pe_op d_mul (pe_op d_mod (dv 4) pe_int) (pe_callTy d_int rfl En.b_int PyProof.Rows.boot_int (pa_cons (pe_cmpR d_gt (pe_callB d_len rfl En.b_len PySem.boot_len (pa_cons (dv 1) pa_nil)) pe_int (nomark _)) pa_nil))) (fun _ _ => rfl)) (pg_sub (dv 5) pe_int d_setL)))))
   pss_nil)
  (pss_one (ps_ret (dv 5)))))), ?_⟩
 have hrl : r.length = cs.length := by rw [hp.length_eq, List.length_range]
 refine ⟨_, .inl (SqL.of hfo), fun lo H1 n1 => ⟨by decide, ?_⟩⟩
 refine ifS (fun σ H' => ∃ s', σ = [some (.ref fo), some (.ref a), some (.int (m : Int)), some (.int cell), some (.int far), some (.ref lo)] ∧ Same H H' ∧ H' lo = some (.lst [.str s', .ref b, .int g, .ref l]) ∧ (cell % 5 = 1 → inV (.str s') wordsV = false) ∧ (¬ cell % 5 = 1 → s' = s)) ?_ (fun h => ⟨s, rfl, n1.same, n1.at_, fun z => absurd z h, fun _ => rfl⟩) (fun h hgo => ?_)
 rotate_left
 ·refine fun lw Hw nw => ⟨by decide, ?_⟩
  obtain ⟨s', hat, hin⟩ := five_no (c := far)
  refine ⟨_, _, SqL.of nw.at_, hat, ?_⟩
  refine ⟨_, 0, nw.same _ _ n1.at_, rfl, fun H2 c2 => ?_⟩
  exact hgo _ _ ⟨s', rfl, c2.same (n1.same.trans nw.same) n1.fr, c2.at_, fun _ => hin, fun z => absurd h z⟩
 rintro σ H2 ⟨s', rfl, s2, hlo, hs1, hs2⟩
 refine ⟨cdiv (by decide) (by decide), by decide, ?_⟩
 refine ifS (fun σ H' => ∃ (b' l' : Addr) (g' : Int) (os' : List Int) (ps' : List Rat), σ = [some (.ref fo), some (.ref a), some (.int (m : Int)), some (.int cell), some (.int far), some (.ref lo)] ∧ Same H H' ∧ H' lo = some (.lst [.str s', .ref b', .int g', .ref l']) ∧ SqL K H' b' (os'.map V.int) ∧ RatL K H' l' ps' ∧ os'.length < 64 ∧ (cell.fdiv 625 % 5 < 2 → ¬ IsOrd os' cs.length ∧ (g' < 0 ∨ 2 ^ m ≤ g') ∧ (ps'.length ≠ cs.length ∨ badS cs ps' = true)) ∧ (¬ cell.fdiv 625 % 5 < 2 → os' = r.map (fun (n : Nat) => (n : Int)) ∧ g' = g ∧ ps' = ps) ∧ ∃ D', Ob (k + 150) D' (cs ++ ps')) ?_ (fun h => ⟨b, l, g, r.map (fun (n : Nat) => (n : Int)), ps, rfl, s2, hlo, SqL.of (by rw [← row_intsN]; exact s2 _ _ hb), hP.same s2, by rw [List.length_map]; omega, fun z => absurd z h, fun _ => ⟨rfl, rfl, rfl⟩, D, hO.mono (by omega)⟩) (fun h hgo => ?_)
 rotate_left
 ·refine ⟨_, _, SqL.of hlo, rfl, ?_⟩
  refine ⟨b, r, cs.length, far, rfl, s2 _ _ hb, hp, h8, fun b' os' H3 s3 f3 hb3 hno h64 => ?_⟩
  have hlo3 := s3 _ _ hlo
  have neb : b' ≠ lo := fun z => by rw [z, hlo] at f3; cases f3
  refine ⟨_, 1, hlo3, rfl, fun H4 c4 => ?_⟩
  have s4 : Same H H4 := c4.same (s2.trans s3) n1.fr
  have hb4 : H4 b' = some (.lst (os'.map V.int)) := (c4.oth b' neb).trans hb3
  have hlo4 : H4 lo = some (.lst [.str s', .ref b', .int g, .ref l]) := c4.at_
  refine ⟨⟨by omega, by omega, by decide⟩, ?_⟩
  refine fun lg Hg ng => ⟨by decide, ?_⟩
  obtain ⟨g', hat, hg'⟩ : ∃ g' : Int, atI [V.int (1 * 2 ^ ((m : Int)).toNat + far), .int (0 - 1 - far)] (far % 2) = some (.int g') ∧ (g' < 0 ∨ 2 ^ m ≤ g') := by
   have h2 : far % 2 = 0 ∨ far % 2 = 1 := by omega
   rcases h2 with h2 | h2 <;> rw [h2]
   ·refine ⟨_, rfl, .inr ?_⟩
    rw [Int.toNat_natCast]
    omega
   ·exact ⟨_, rfl, .inl (by omega)⟩
  refine ⟨_, _, SqL.of ng.at_, hat, ?_⟩
  refine ⟨_, 2, ng.same _ _ hlo4, rfl, fun H5 c5 => ?_⟩
  have s45 : ∀ x o, x ≠ lo → H4 x = some o → H5 x = some o := fun x o hx h => (c5.oth x hx).trans (ng.same _ _ h)
  have s5 : Same H H5 := c5.same (s4.trans ng.same) n1.fr
  have hb5 := s45 _ _ neb hb4
  have hlo5 : H5 lo = some (.lst [.str s', .ref b', .int g', .ref l]) := c5.at_
  obtain ⟨vs, hs, hr, he⟩ := (hL.same s5).sq
  have hlv := hr.len
  refine fun t6 H6 n6 => fun l6 H6' n6' => ?_
  have s56 := n6.same.trans n6'.same
  refine ⟨_, _, s56 _ _ he, n6'.at_, (by show _ + 1 ≤ 10000000; omega), fun lA H7 nA => ?_⟩
  refine ⟨_, _, rfl, by decide, (Bd.of_lt (n := 40) (by decide)).mono (by decide), fun z8 H8 n8 => fun l8 H8' n8' => ?_⟩
  have s57 := s56.trans nA.same
  have s58 := s57.trans (n8.same.trans n8'.same)
  refine ⟨vs, s58.seq hs, fun l9 H9 n9 => ?_⟩
  have e9 : cutV vs (some (1 : Int)) none = vs.drop 1 := by
   unfold cutV
   have e1 : HT.sIx vs.length 0 (some ((1 : Nat) : Int)) = min 1 vs.length := HT.sIx_nat _ _ 1
   have e1' : HT.sIx vs.length 0 (some (1 : Int)) = min 1 vs.length := e1
   rw [HT.sIx_none, e1']
   rcases Nat.le_total 1 vs.length with h1 | h1
   ·rw [Nat.min_eq_left h1]
    exact List.take_of_length_le (by rw [List.length_drop]; exact Nat.le_refl _)
   ·rw [Nat.min_eq_right h1, List.drop_of_length_le (Nat.le_refl _), List.drop_of_length_le h1, List.take_nil]
  rw [e9] at n9
  refine ⟨_, _, n9.same _ _ n8'.at_, n9.at_, (by rw [List.length_drop]; show 1 + _ ≤ 10000000; omega), fun lB H10 nB => fun lL H11 nL => ?_⟩
  have s510 := s58.trans (n9.same.trans nB.same)
  have s511 := s510.trans nL.same
  have hxA : RatV K H6 (.ref t6) (Lr.rt 0 1) := ⟨t6, rfl, .inl n6.at_⟩
  have sA11 := n8.same.trans (n8'.same.trans (n9.same.trans (nB.same.trans nL.same)))
  have hA11 : RatL K H11 lA (cs ++ [Lr.rt 0 1]) := RatL.same sA11 ⟨_, nA.at_, (hr.ts s57.ts).app (rats_one (hxA.same (n6'.same.trans nA.same)))⟩
  have hxB : RatV K H10 (.ref z8) (Lr.rt (0 - 1 - far) 7) := (RatV.new n8).same (n8'.same.trans (n9.same.trans nB.same))
  have hB11 : RatL K H11 lB ([Lr.rt (0 - 1 - far) 7] ++ cs.drop 1) := RatL.same nL.same ⟨_, nB.at_, (rats_one hxB).app (rats_drop (hr.ts s510.ts) 1)⟩
  refine ⟨by decide, vs, .inl (s511.seq hs), ?_⟩
  have neA : lA ≠ lo := fun z => by
   have := nA.fr
   rw [z, s56 _ _ hlo5] at this
   cases this
  have neB : lB ≠ lo := fun z => by
   have := nB.fr
   rw [z, (s58.trans n9.same) _ _ hlo5] at this
   cases this
  have oA : Ob 150 1 [Lr.rt 0 1] := obRt' (by decide) ((Bd.of_lt (n := 40) (by decide)).mono (by decide)) (by decide)
  have oB : Ob 150 7 [Lr.rt (0 - 1 - far) 7] := obRt' (by decide) ((Bd.of_lt (n := 40) (by decide)).mono (by decide)) (by omega)
  obtain ⟨lf, pf, hat9, hRf, hbf, nef, hOf⟩ : ∃ (lf : Addr) (pf : List Rat), atI [V.ref lA, .ref lB] (far % 2 * (if decide ((vs.length : Int) > 0) = true then 1 else 0)) = some (.ref lf) ∧ RatL K H11 lf pf ∧ (pf.length ≠ cs.length ∨ badS cs pf = true) ∧ lf ≠ lo ∧ ∃ D', Ob (k + 150) D' (cs ++ pf) := by
   have A : far % 2 * (if decide ((vs.length : Int) > 0) = true then 1 else 0) = 0 → ∃ (lf : Addr) (pf : List Rat), atI [V.ref lA, .ref lB] (far % 2 * (if decide ((vs.length : Int) > 0) = true then 1 else 0)) = some (.ref lf) ∧ RatL K H11 lf pf ∧ (pf.length ≠ cs.length ∨ badS cs pf = true) ∧ lf ≠ lo ∧ ∃ D', Ob (k + 150) D' (cs ++ pf) := fun e0 => by
    rw [e0]
    refine ⟨lA, _, rfl, hA11, .inl (by rw [List.length_append]; show _ + 1 ≠ _; omega), neA, _, (hO.join oA).sub fun y hy => ?_⟩
    rcases List.mem_append.mp hy with hy | hy
    ·exact List.mem_append_left _ (List.mem_append_left _ hy)
    rcases List.mem_append.mp hy with hy | hy
    ·exact List.mem_append_left _ (List.mem_append_left _ hy)
    ·exact List.mem_append_right _ hy
   have h2 : far % 2 = 0 ∨ far % 2 = 1 := by omega
   rcases h2 with h2 | h2
   ·exact A (by rw [h2, Int.zero_mul])
   by_cases hc : (vs.length : Int) > 0
   ·rw [h2, decide_eq_true hc]
    match cs, hlv, hO, hB11, h8 with
    | [], hlv, _, _, _ => rw [hlv] at hc; exact absurd hc (by decide)
    | c0 :: r0, hlv, hO, hB11, _ =>
     refine ⟨lB, _, rfl, hB11, .inr ?_, neB, _, (hO.join oB).sub fun y hy => ?_⟩
     ·unfold badS
      show (decide (Lr.rt (0 - 1 - far) 7 < 0) || decide (c0 < Lr.rt (0 - 1 - far) 7) || _) = true
      rw [decide_eq_true (neg_rt (by decide) (by omega))]
      rfl
     rcases List.mem_append.mp hy with hy | hy
     ·exact List.mem_append_left _ (List.mem_append_left _ hy)
     rcases List.mem_append.mp hy with hy | hy
     ·exact List.mem_append_right _ hy
     ·exact List.mem_append_left _ (List.mem_append_left _ (List.mem_of_mem_drop hy))
   ·exact A (by rw [decide_eq_false hc]; simp)
  refine ⟨m250 (by omega) (by split <;> decide), ?_⟩
  refine ⟨_, _, SqL.of nL.at_, hat9, ?_⟩
  have hlo11 := s511 _ _ hlo5
  refine ⟨_, 3, hlo11, rfl, fun H12 c12 => ?_⟩
  obtain ⟨vf, ef, rf⟩ := hRf
  exact hgo _ _ ⟨b', lf, g', os', pf, rfl, c12.same (s5.trans s511) n1.fr, c12.at_, SqL.of ((c12.oth b' neb).trans (s511 _ _ hb5)), ⟨vf, (c12.oth lf nef).trans ef, rf.ts (c12.ts hlo11)⟩, h64, fun _ => ⟨hno, hg', hbf⟩, fun z => absurd h z, hOf⟩
 rintro σ H3 ⟨b', l', g', os', ps', rfl, s3, hlo3, hb3, hP3, h64, hw, hnw, hO3⟩
 exact q lo b' l' s' os' g' ps' H3 s3 n1.fr hlo3 hb3 hP3 h64 hs1 hs2 hw hnw hO3
theorem st0 {a : Addr} : L2.start ["_law_script", "_law_claims", "_law_amount", "_law_bottom", "_law_good_here", "_law_estate", "_law_first", "_law_word", "_law_fine", "_law_cell", "_law_far", "_law_some", "_law_others", "_law_asked", "_law_whole", "_law_what", "_law_wrongs", "_law_due_here"] [V.ref a] = [some (.ref a), none, none, none, none, none, none, none, none, none, none, none, none, none, none, none, none, none] := rfl
theorem set0 {x y : Option V} {l : List (Option V)} : List.set (x :: l) 0 y = y :: l := rfl
theorem set1 {x y : Option V} {l : List (Option V)} {n : Nat} : List.set (x :: l) (n + 1) y = x :: List.set l n y := rfl
theorem cut_two (us : List V) : cutV us none (some (2 : Int)) = us.take 2 := by
 unfold cutV
 rw [HT.sIx_none, List.drop_zero, Nat.sub_zero]
 have e : HT.sIx us.length us.length (some ((2 : Nat) : Int)) = min 2 us.length := HT.sIx_nat _ _ 2
 have e' : HT.sIx us.length us.length (some (2 : Int)) = min 2 us.length := e
 rw [e']
 rcases Nat.le_total 2 us.length with h | h
 ·rw [Nat.min_eq_left h]
 ·rw [Nat.min_eq_right h, List.take_of_length_le (Nat.le_refl _), List.take_of_length_le h]
theorem rats_take {H : Hp} {us : List V} {es : List Rat} (h : RatsV K H us es) (n : Nat) : RatsV K H (us.take n) (es.take n) := by
 refine ⟨by rw [List.length_take, List.length_take, h.len], fun j v x hv hx => ?_⟩
 rw [List.getElem?_take] at hv hx
 by_cases hj : j < n
 ·rw [if_pos hj] at hv hx
  exact h.at_ j v x hv hx
 ·rw [if_neg hj] at hv
  cases hv
set_option maxHeartbeats 20000000 in
theorem cal_law (F : Has K mg "law" s_law ["_law_script"] f fd) (En : Env K mg Ad) (G_l_case : CalE P w K mg base "_law_case" 3 ["_law_script"] (sp_l_case K)) (G_l_ratio : CalE P w K mg base "_law_ratio" 1 ["_law_top", "_law_bottom"] (sp_l_ratio)) (G_l_cell_at : CalE P w K mg base "_law_cell_at" 1 ["_law_script", "_law_k"] (sp_cell K)) (G_l_wrong_claims : CalE P w K mg base "_law_wrong_claims" 2 ["_law_good_here", "_law_bottom", "_law_cell", "_law_far"] (sp_v_claims K)) (G_l_wrong_others : CalE P w K mg base "_law_wrong_others" 2 ["_law_fine", "_law_good_here", "_law_count", "_law_cell", "_law_far"] (sp_v_others K)) (G_l_order : CalE P w K mg base "_law_order" 1 ["_law_count", "_law_cell"] (sp_v_order)) (G_l_due : CalE P w K mg base "_law_due" 1 ["_law_what", "_law_wrongs"] (sp_v_due K)) (G_l_good : CalE P w K mg base "_law_good" 13 ["_law_what", "_law_some", "_law_estate", "_law_others"] (sp_v_good K Ad)) (G_l_told : CalE P w K mg base "_law_told" 12 ["_law_what", "_law_claims", "_law_estate", "_law_others", "_law_due_here"] (sp_v_told K Ad)) : FnOk P w K mg base (CXE P w) 14 f fd ["_law_script"] (sp_law K) := by
 refine (F.fn.okE sc_law (fun vs H Q E h => ?_) (fun cdv A outer s H vs Q E hr h => ?_))
 ·obtain ⟨a, ns, rfl, hS, h63, k⟩ := h
  rfl
 obtain ⟨a, ns, rfl, hS, h63, k⟩ := h
 refine ⟨_, (pss_cons (ps_asg (pe_callP G_l_case hr (by decide) rfl (pa_cons (dv 0) pa_nil)) (dg_tup rfl (dg_cons (pg_name (i := 1) sc_law.nd rfl (Or.inl rfl)) (dg_cons (pg_name (i := 2) sc_law.nd rfl (Or.inl rfl)) (dg_cons (pg_name (i := 3) sc_law.nd rfl (Or.inr rfl)) dg_nil)))))
  (pss_cons (ps_setComp (k := 4) (defScope s_law) ["_law_bottom"] [3] sc_law.nd rfl (Or.inl rfl) rfl (pi_list (dv 1)) (fun z => (pe_callN G_l_ratio hr (by decide) rfl (pa_cons (dv 0) (pa_cons (dv 1) pa_nil)))))
  (pss_cons (ps_set (i := 5) sc_law.nd rfl (Or.inl rfl) (pe_callP G_l_ratio hr (by decide) rfl (pa_cons (dv 2) (pa_cons (dv 3) pa_nil))))
  (pss_cons (ps_set (i := 6) sc_law.nd rfl (Or.inl rfl) (pe_callP G_l_cell_at hr (by decide) rfl (pa_cons (dv 0) (pa_cons pe_int pa_nil))))
  (pss_cons (ps_set (i := 7) sc_law.nd rfl (Or.inl rfl) (pe_ix d_ixL (d_lst (pa_cons (d_str (l := [115, 104, 97, 114, 101, 115]) (by decide +kernel)) (pa_cons (d_str (l := [103, 97, 105, 110, 115]) (by decide +kernel)) (pa_cons (d_str (l := [108, 111, 115, 115, 101, 115]) (by decide +kernel)) (pa_cons (d_str (l := [104, 97, 108, 118, 101, 115]) (by decide +kernel)) (pa_cons (d_str (l := [116, 117, 114, 110, 115]) (by decide +kernel)) pa_nil)))))) (pe_op d_mod (dv 6) pe_int) (fun _ _ => rfl)))
  (pss_cons (ps_set (i := 8) sc_law.nd rfl (Or.inl rfl) (d_lst (pa_cons (dv 7) (pa_cons (pe_callP G_l_order hr (by decide) rfl (pa_cons (pe_callB d_len rfl En.b_len PySem.boot_len (pa_cons (dv 4) pa_nil)) (pa_cons (pe_op d_fdiv (dv 6) pe_int) pa_nil))) (pa_cons (pe_op d_mod (pe_op d_fdiv (dv 6) pe_int) (pe_op d_shl pe_int (pe_callB d_len rfl En.b_len PySem.boot_len (pa_cons (dv 4) pa_nil)))) (pa_cons (pe_callTy d_list rfl En.b_list PyProof.Rows.boot_list (pa_cons (dv 4) pa_nil)) pa_nil))))))
  (pss_cons (ps_set (i := 9) sc_law.nd rfl (Or.inl rfl) (pe_callP G_l_cell_at hr (by decide) rfl (pa_cons (dv 0) (pa_cons pe_int pa_nil))))
  (pss_cons (ps_set (i := 10) sc_law.nd rfl (Or.inl rfl) (pe_op d_mod (pe_op d_fdiv (dv 9) pe_int) (pe_op d_pow pe_int pe_int)))
  (pss_cons (ps_set (i := 11) sc_law.nd rfl (Or.inl rfl) (pe_callP G_l_wrong_claims hr (by decide) rfl (pa_cons (dv 4) (pa_cons (dv 3) (pa_cons (dv 9) (pa_cons (dv 10) pa_nil))))))
  (pss_cons (ps_set (i := 12) sc_law.nd rfl (Or.inl rfl) (pe_callP G_l_wrong_others hr (by decide) rfl (pa_cons (dv 8) (pa_cons (dv 4) (pa_cons (pe_callB d_len rfl En.b_len PySem.boot_len (pa_cons (dv 11) pa_nil)) (pa_cons (dv 9) (pa_cons (dv 10) pa_nil)))))))
  (pss_cons (ps_set (i := 13) sc_law.nd rfl (Or.inl rfl) (dv 5))
  (pss_cons (ps_if (dt_cmp d_eq (pe_op d_mod (pe_op d_fdiv (dv 9) pe_int) pe_int) pe_int (nomark _))
   (pss_cons (ps_set (i := 14) sc_law.nd rfl (Or.inl rfl) (pe_callB (d_sum rfl) rfl En.b_sum PyProof.Rows.boot_sum (pa_cons (pe_comp (defScope s_law) [] [] rfl (pi_list (dv 11)) (fun z => (pe_callB (d_max rfl) rfl En.b_max PyProof.Rows.boot_max (pa_cons pe_int (pa_cons (pe_ix d_ixR (dv 0) pe_int (fun _ _ => rfl)) pa_nil))))) pa_nil)))
  (pss_one (ps_set (i := 13) sc_law.nd rfl (Or.inl rfl) (pe_ix d_ixL (d_lst (pa_cons (pe_callP G_l_ratio hr (by decide) rfl (pa_cons (pe_op d_sub (pe_op d_sub pe_int pe_int) (dv 10)) (pa_cons (dv 3) pa_nil))) (pa_cons (pe_callP G_l_ratio hr (by decide) rfl (pa_cons (pe_op d_add (pe_op d_add (pe_op d_mul (dv 14) (dv 3)) pe_int) (dv 10)) (pa_cons (dv 3) pa_nil))) pa_nil))) (pe_op d_mod (dv 10) pe_int) (fun _ _ => rfl)))))
   pss_nil)
  (pss_cons (ps_for PassesOwn.leaving rfl (pi_range1 rfl En.b_range (pa_cons pe_int pa_nil)) (pg_name (i := 15) sc_law.nd rfl (Or.inl rfl))
   (pss_cons (ps_set (i := 16) sc_law.nd rfl (Or.inl rfl) (d_lst (pa_cons (pe_cmpR d_eq (pe_op d_mod (dv 9) pe_int) pe_int (nomark _)) (pa_cons (pe_cmpR d_gt (pe_callB d_len rfl En.b_len PySem.boot_len (pa_cons (dv 11) pa_nil)) pe_int (nomark _)) (pa_cons (pe_cmpR d_lt (pe_minD rfl rfl En.b_min (pa_cons (pe_comp (defScope s_law) [] [] rfl (pi_list (dv 11)) (fun z => (pe_ix d_ixR (dv 0) pe_int (fun _ _ => rfl)))) pa_nil) pe_int) pe_int (nomark _)) (pa_cons (pe_cmpR d_eq (pe_op d_mod (pe_op d_fdiv (dv 9) pe_int) pe_int) pe_int (nomark _)) pa_nil))))))
  (pss_cons (ps_set (i := 16) sc_law.nd rfl (Or.inl rfl) (pe_op d_cat (dv 16) (pe_op d_rep (d_lst (pa_cons (pe_cmpR d_lt (pe_op d_mod (pe_op d_fdiv (dv 9) pe_int) pe_int) pe_int (nomark _)) pa_nil)) pe_int)))
  (pss_cons (ps_if (dt_cmp d_eq (dv 15) pe_int (nomark _))
   (pss_one (ps_asg (pe_cmpR d_lt (pe_minD rfl rfl En.b_min (pa_cons (pe_comp (defScope s_law) [] [] rfl (pi_list (pe_slice d_slL (dv 11) po_none (d_some pe_int))) (fun z => (pe_ix d_ixR (dv 0) pe_int (fun _ _ => rfl)))) pa_nil) pe_int) pe_int (nomark _)) (pg_sub (dv 16) pe_int d_setL)))
   pss_nil)
  (pss_cons (ps_set (i := 17) sc_law.nd rfl (Or.inl rfl) (pe_callP G_l_due hr (by decide) rfl (pa_cons (dv 15) (pa_cons (dv 16) pa_nil))))
  (pss_cons (ps_if (PW.pt (pw_and (dt_cmp d_lt (dv 17) pe_int (nomark _)) (pw_and (PW.pt (pw_or (dt_cmp d_ne (dv 15) pe_int (nomark _)) (pw_or1 (dt_cmp d_gt (pe_callB d_len rfl En.b_len PySem.boot_len (pa_cons (dv 11) pa_nil)) pe_int (nomark _))))) (pw_and1 (pt_not (dt_val (pe_callP G_l_told hr (by decide) rfl (pa_cons (dv 15) (pa_cons (dv 11) (pa_cons (dv 13) (pa_cons (dv 12) (pa_cons (dv 17) pa_nil))))))))))))
   (pss_one (ps_ret pe_bl))
   pss_nil)
  (pss_one (ps_if (pt_not (dt_val (pe_callP G_l_good hr (by decide) rfl (pa_cons (dv 15) (pa_cons (dv 4) (pa_cons (dv 5) (pa_cons (dv 8) pa_nil)))))))
   (pss_one (ps_ret pe_bl))
   pss_nil))))))))
  (pss_one (ps_ret pe_bl))))))))))))))), ?_⟩
 refine ⟨a, ns, rfl, hS, fun t0 l0 cs am bo H1 s1 ht0 hf0 hl0 C => ⟨_, SqT.of ht0, rfl, ?_⟩⟩
 set_option simprocs false in try dsimp only [st0, set0, set1]
 have hbo := C.bo0
 have hbo1 := C.bo1
 have hboB : Bd 9000 bo := C.ob.bd.mono (by decide)
 have hcl : (rts cs bo).length = cs.length := List.length_map ..
 have hc8 := C.len
 have hG8 : (rts cs bo).length ≤ 8 := by omega
 have hnn := C.nn'
 refine ⟨_, rfl, ⟨_, SqL.of hl0⟩, fun lg H2 n2 => ?_⟩
 refine comp_rats (xs := rts cs bo) n2 (SqL.of hl0) (by rw [List.length_map]; omega) (by rw [List.length_map, List.length_map]) ?_ fun H3 s3 hG hf3 => ?_
 ·intro j u x hu hx z H' s' R k'
  rw [List.getElem?_map] at hu hx
  obtain ⟨c, hc, rfl⟩ := Option.map_eq_some_iff.mp hu
  rw [hc] at hx
  cases hx
  exact ⟨c, bo, rfl, hbo, hboB, fun z H' n => k' _ H' n.same (.new n)⟩
 refine ⟨am, bo, rfl, hbo, hboB, fun ze H4 n4 => ?_⟩
 set_option simprocs false in try dsimp only [st0, set0, set1]
 have hG4 := hG.same n4.same
 have hE4 : RatV K H4 (.ref ze) (Lr.rt am bo) := .new n4
 have hE0 : 0 ≤ Lr.rt am bo := (Lr.rt_nonneg hbo).mpr C.am0
 have hE1 : Lr.rt am bo ≤ Lr.sm (rts cs bo) := by rw [sm_rts hbo]; exact Lr.rt_le hbo C.am1
 have hO0 := C.ob
 generalize hGs : rts cs bo = G at *
 generalize hee : Lr.rt am bo = e at *
 have hS4 := (s1.trans (s3.trans n4.same)).seq hS
 refine ⟨a, ns, 11, rfl, hS4, by decide, fun c11 => ?_⟩
 set_option simprocs false in try dsimp only [st0, set0, set1]
 refine fun lw H5 n5 => ⟨by decide, ?_⟩
 obtain ⟨ρ, hρ⟩ := five_at (c := c11)
 refine ⟨_, _, SqL.of n5.at_, hρ, ?_⟩
 obtain ⟨vg, hsg, hrg, heg⟩ := (hG4.same n5.same).sq
 have hlg := hrg.len
 refine ⟨vg, .inl hsg, cdiv (by decide) (by decide), vg.length, _, rfl, by omega, fun lor r H6 s6 f6 hlor hpr => ?_⟩
 have e2n : (1 * 2 ^ ((vg.length : Int)).toNat : Int) = 2 ^ G.length := by rw [Int.toNat_natCast, hlg]; omega
 have p8 : (1 : Int) ≤ 2 ^ G.length ∧ (2 : Int) ^ G.length ≤ 256 := by
  have h1 : (2 ^ G.length : Nat) ≤ 2 ^ 8 := Nat.pow_le_pow_right (by decide) hG8
  have h2 : 1 ≤ (2 ^ G.length : Nat) := Nat.one_le_two_pow
  constructor
  ·exact_mod_cast h2
  ·exact_mod_cast h1
 refine ⟨cdiv (by decide) (by decide), vg, .inl (s6.seq hsg), ⟨by omega, by omega, by decide⟩, (by rw [e2n]; omega), ?_⟩
 rw [e2n]
 have gg0 := Int.emod_nonneg (c11.fdiv 7) (show (2 : Int) ^ G.length ≠ 0 by omega)
 have gg1 := Int.emod_lt_of_pos (c11.fdiv 7) (show (0 : Int) < 2 ^ G.length by omega)
 generalize c11.fdiv 7 % 2 ^ G.length = gn at *
 refine ⟨vg, .inl (s6.seq hsg), fun lp H7 n7 => fun lf H8 n8 => ?_⟩
 set_option simprocs false in try dsimp only [st0, set0, set1]
 have s48 := n5.same.trans (s6.trans (n7.same.trans n8.same))
 have s58 := s6.trans (n7.same.trans n8.same)
 have hS8 := s48.seq hS4
 refine ⟨a, ns, 10, rfl, hS8, by decide, fun c10 => ?_⟩
 set_option simprocs false in try dsimp only [st0, set0, set1]
 refine ⟨cdiv (by decide) (by decide), cpow (by decide) (by decide) (by decide), by decide, ?_⟩
 have f0 := Int.emod_nonneg (c10.fdiv 3125) (show (10 : Int) ^ ((30 : Int).toNat) ≠ 0 by decide)
 have f1 := Int.emod_lt_of_pos (c10.fdiv 3125) (show (0 : Int) < 10 ^ ((30 : Int).toNat) by decide)
 have hG8' := hG4.same s48
 have hOG : Ob 120 bo G := hO0.sub fun y hy => List.mem_cons_of_mem _ hy
 refine ⟨lg, G, bo, c10, _, 120, rfl, hG8', hG8, hbo, by omega, f0, f1, hOG, by decide, fun ls ys H9 s9 f9 hY9 hyl hyc hOy => ?_⟩
 set_option simprocs false in try dsimp only [st0, set0, set1]
 generalize c10.fdiv 3125 % 10 ^ ((30 : Int).toNat) = far at *
 rw [show (30 : Int).toNat = 30 from rfl] at f1
 obtain ⟨vy, hsy, hry, hey⟩ := hY9.sq
 have hly := hry.len
 have s49 := s48.trans s9
 have hfine9 := s9 _ _ n8.at_
 have hlor9 := (n7.same.trans (n8.same.trans s9)) _ _ hlor
 have hlp9 : RatL K H9 lp G := (RatL.new n7 (hrg.ts s6.ts)).same (n8.same.trans s9)
 have hOGG : Ob 120 bo (G ++ G) := hOG.sub fun y hy => by rcases List.mem_append.mp hy with h | h <;> exact h
 refine ⟨vy, .inl hsy, lf, lg, lor, lp, word ρ, G, G, r, gn, vy.length, c10, far, 120, bo, rfl, hfine9, hG4.same s49, hlor9, (by rw [← hlg]; exact hpr), hlp9, by omega, hG8, f0, f1, hOGG, fun o' b' l' s' os' g' ps' H10 s10 f10 ho10 hb10 hl10 h64 w1 w2 w3 w4 hO10 => ?_⟩
 set_option simprocs false in try dsimp only [st0, set0, set1]
 have s4_10 := s49.trans s10
 have hE10 := hE4.same s4_10
 have hY10 := hY9.same s10
 have hOy2 : Ob 200 bo ys := hOy.mono (by decide)
 have hsm := sum_num hOy2 (by omega)
 have hge := sm_num ys
 have hge2 : ∀ c0 c1 q, ys = c0 :: c1 :: q → c0 + c1 ≤ (((ys.map fun x => max 0 x.num).sum : Int) : Rat) := fun c0 c1 q h => take2_num h
 generalize hW : (ys.map fun x => max 0 x.num).sum = W at hsm hge hge2
 have lo := ask_lo hbo f0 f1 hOy
 have hi := ask_hi hbo hbo1 f0 f1 hsm.1 hsm.2.2 hOy
 have hOe0 : Ob 260 bo (e :: ys) := ⟨hbo, hOy.bd.mono (by decide), fun y hy => by
  rcases List.mem_cons.mp hy with rfl | hy
  ·exact ((hO0.mono (show 120 ≤ 260 by decide)).ov _ List.mem_cons_self)
  ·exact ((hOy.mono (show 120 ≤ 260 by decide)).ov y hy)⟩
 have hmB : CMulB W bo := CMulB.of hsm.2.1 (hOy.bd.mono (show 120 ≤ 400 by decide)) (by decide)
 refine ⟨cdiv (by decide) (by decide), by decide, ?_⟩
 refine ifS (fun σ H' => ∃ za e' z14, σ = [some (.ref a), some (.ref l0), some (.int am), some (.int bo), some (.ref lg), some (.ref ze), some (.int c11), some (.str (word ρ)), some (.ref lf), some (.int c10), some (.int far), some (.ref ls), some (.ref o'), some (.ref za), z14, none, none, none] ∧ Same H10 H' ∧ RatV K H' (.ref za) e' ∧ Ob 260 bo (e' :: ys) ∧ (c10.fdiv 125 % 5 = 1 → e' < 0 ∨ (W : Rat) < e') ∧ (¬ c10.fdiv 125 % 5 = 1 → e' = e)) ?_ (fun h => ⟨ze, e, _, rfl, Same.refl _, hE10, hOe0, fun z => absurd z h, fun _ => rfl⟩) (fun h hgo => ?_)
 rotate_left
 ·subst hW
  clear hsm hge hge2
  set_option simprocs false in try dsimp only [st0, set0, set1]
  obtain ⟨vz, hsz, hrz, hez⟩ := hY10.sq
  refine ⟨_, rfl, ⟨_, hsz⟩, fun Dw Hw nw => ?_⟩
  refine comp_RI (fun x => max 0 x.num) nw hez hrz (Nat.le_trans hyl (by decide)) ?_ fun Hx nx => ?_
  ·exact fun x hx u z H' hu R h => ⟨x, hu, .inl ⟨rfl, h⟩⟩
  refine ⟨_, SqL.of nx.at_, ?_⟩
  set_option simprocs false in try dsimp only [st0, set0, set1]
  refine ⟨_, _, rfl, hbo, hboB, fun z1 Hi ni => ⟨hmB, ⟨_, _, rfl, hbo, hboB, fun z2 Hj nj => fun lL Hk nk => ⟨by decide, ?_⟩⟩⟩⟩
  set_option simprocs false in try dsimp only [st0, set0, set1]
  have sall := nx.same.trans (ni.same.trans (nj.same.trans nk.same))
  have h2 : far % 2 = 0 ∨ far % 2 = 1 := Int.emod_two_eq far
  rcases h2 with h2 | h2
  ·refine ⟨_, .ref z1, SqL.of nk.at_, (by rw [h2]; rfl), ?_⟩
   exact hgo _ _ ⟨z1, _, _, rfl, sall, (RatV.new ni).same (nj.same.trans nk.same), lo.1, fun _ => .inl lo.2, fun z => absurd h z⟩
  ·refine ⟨_, .ref z2, SqL.of nk.at_, (by rw [h2]; rfl), ?_⟩
   exact hgo _ _ ⟨z2, _, _, rfl, sall, (RatV.new nj).same nk.same, hi.1, fun _ => .inr hi.2, fun z => absurd h z⟩
 rintro σ H11 ⟨za, e', z14, rfl, s11, hA11, hOe, hw1, hw2⟩
 clear lo hi hOe0 hmB hOy2 hsm
 have hWr : Wr G ys e e' ρ s' r os' gn g' ps' (decide (c10 % 5 = 1)) (decide (c10.fdiv 125 % 5 = 1)) (decide (c10.fdiv 625 % 5 < 2)) :=
  { G8 := hG8, Gn := hnn, e0 := hE0, e1 := hE1, ord := by rw [← hlg]; exact hpr, gn0 := gg0, gn1 := gg1, yc := hyc, s1 := fun h => w1 (of_decide_eq_true h), s2 := fun h => w2 (of_decide_eq_false h), e3 := fun h => (hw1 (of_decide_eq_true h)).imp id fun z => ⟨by grind, fun c0 c1 q hq => by have := hge2 c0 c1 q hq; grind⟩, e4 := fun h => hw2 (of_decide_eq_false h), w3 := fun h => by have := w3 (of_decide_eq_true h); rw [hly] at this; exact this, w4 := fun h => w4 (of_decide_eq_false h) }
 have hgd := hWr.good (A := Ad)
 have hfineA := s10 _ _ hfine9
 have hGA : RatL K H10 lg G := hG4.same s4_10
 have hordA : SqL K H10 lor ((r.map (fun (n : Nat) => (n : Int))).map V.int) := by
  rw [List.map_map]
  exact SqL.of (s10 _ _ hlor9)
 have hPA : RatL K H10 lp G := hlp9.same s10
 have hr64 : (r.map (fun (n : Nat) => (n : Int))).length < 64 := by
  rw [List.length_map, hpr.length_eq, List.length_range]
  omega
 have hOgd : Ob 120 bo (e :: (G ++ G)) := hO0.sub fun y hy => by
  rcases List.mem_cons.mp hy with rfl | hy
  ·exact List.mem_cons_self
  ·rcases List.mem_append.mp hy with hy | hy <;> exact List.mem_cons_of_mem _ hy
 obtain ⟨DA, hOA⟩ := hO10
 have hOtd : Ob 530 (bo * DA) (e' :: (ys ++ ps')) := (hOe.join hOA).sub fun y hy => by
  rcases List.mem_cons.mp hy with rfl | hy
  ·exact List.mem_append_left _ List.mem_cons_self
  ·rcases List.mem_append.mp hy with hy | hy
   ·exact List.mem_append_left _ (List.mem_cons_of_mem _ hy)
   ·exact List.mem_append_right _ (List.mem_append_right _ hy)
 have hsy10 := s10.seq hsy
 refine ⟨_, rfl, by decide, by decide, ?_⟩
 refine for_range (fun i σ H' => ∃ z15 z16 z17, σ = [some (.ref a), some (.ref l0), some (.int am), some (.int bo), some (.ref lg), some (.ref ze), some (.int c11), some (.str (word ρ)), some (.ref lf), some (.int c10), some (.int far), some (.ref ls), some (.ref o'), some (.ref za), z14, z15, z16, z17] ∧ Same H11 H') ⟨_, _, _, rfl, Same.refl _⟩ ?_ ?_
 ·rintro i σ H12 hi ⟨z15, z16, z17, rfl, s12⟩
  rw [show (0 : Int) + (i : Int) = (i : Int) by omega]
  have hY12 := (hY10.same s11).same s12
  obtain ⟨vz, hsz, hrz, hez⟩ := hY12.sq
  have hlz := hrz.len
  refine ⟨by decide, vz, .inl hsz, ?_⟩
  refine ⟨_, rfl, ⟨_, hsz⟩, fun Dw Hw nw => ?_⟩
  refine comp_RI (fun x => x.num) nw hez hrz (Nat.le_trans hyl (by decide)) (fun x hx u z H' hu R h => ⟨x, hu, .inl ⟨rfl, h⟩⟩) fun Hx nx => ?_
  dsimp only [tNil, tC]
  refine minD_any (SqL.of nx.at_) fun m1 hm1 => ?_
  rw [any_num] at hm1
  refine ⟨cdiv (by decide) (by decide), by decide, fun l1 H13 n13 => ?_⟩
  refine ⟨cdiv (by decide) (by decide), by decide, fun l2 H14 n14 => ?_⟩
  refine ⟨_, n14.at_, by decide, by decide, (by show 1 * 3 ≤ 10000000; decide), fun l3 H15 n15 => ?_⟩
  refine ⟨_, _, (n14.same.trans n15.same) _ _ n13.at_, n15.at_, (by show 4 + 3 ≤ 10000000; decide), fun l4 H16 n16 => ?_⟩
  have s16 : Same H12 H16 := nx.same.trans (n13.same.trans (n14.same.trans (n15.same.trans n16.same)))
  have e8 : decide ((vz.length : Int) > 8) = decide (8 < ys.length) := decide_eq_decide.mpr (by rw [hlz]; omega)
  rw [hm1, e8] at n16
  set_option simprocs false in try dsimp only [st0, set0, set1]
  refine ifS (fun σ H' => ∃ lw, σ = [some (.ref a), some (.ref l0), some (.int am), some (.int bo), some (.ref lg), some (.ref ze), some (.int c11), some (.str (word ρ)), some (.ref lf), some (.int c10), some (.int far), some (.ref ls), some (.ref o'), some (.ref za), z14, some (.int (i : Int)), some (.ref lw), z17] ∧ Same H12 H' ∧ H' lw = some (.lst ((wrs ys (decide (c10 % 5 = 1)) (decide (c10.fdiv 125 % 5 = 1)) (decide (c10.fdiv 625 % 5 < 2)) i).map V.bl))) ?_ (fun h => ⟨l4, rfl, s16, ?_⟩) (fun h hgo => ?_)
  rotate_left
  ·rw [n16.at_]
   unfold wrs
   rw [if_neg (by omega)]
   rfl
  ·refine ⟨vz, s16.seq hsz, fun l5 H17 n17 => ?_⟩
   rw [show cutV vz none (some (2 : Int)) = vz.take 2 from cut_two vz] at n17
   have hT : RatL K H17 l5 (ys.take 2) := ⟨_, n17.at_, rats_take (hrz.ts (s16.trans n17.same).ts) 2⟩
   obtain ⟨v5, hs5, hr5, he5⟩ := hT.sq
   refine ⟨_, rfl, ⟨_, hs5⟩, fun Dw2 Hw2 nw2 => ?_⟩
   refine comp_RI (fun x => x.num) nw2 he5 hr5 (Nat.le_trans (List.length_take_le _ _) (by decide)) (fun x hx u z H' hu R h => ⟨x, hu, .inl ⟨rfl, h⟩⟩) fun Hx2 nx2 => ?_
   dsimp only [tNil, tC]
   refine minD_any (SqL.of nx2.at_) fun m2 hm2 => ?_
   rw [any_num] at hm2
   refine ⟨_, 2, (n17.same.trans nx2.same) _ _ n16.at_, rfl, fun H18 c18 => hgo _ _ ⟨l4, rfl, c18.same (s16.trans (n17.same.trans nx2.same)) ((nx.same.trans (n13.same.trans (n14.same.trans n15.same))).free n16.fr), ?_⟩⟩
   rw [c18.at_, hm2]
   unfold wrs
   rw [if_pos (by omega)]
   rfl
  rintro σ H17 ⟨lw, rfl, s17, hlw⟩
  refine ⟨i, lw, _, rfl, by omega, rfl, hlw, fun H18 s18 => ?_⟩
  have s1118 : Same H11 H18 := s12.trans (s17.trans s18)
  have s1018 : Same H10 H18 := s11.trans s1118
  refine br (fun cd => ?_) (fun cd => ?_)
  ·refine brN (fun c2 => ?_) (fun c2 => ?_)
   ·refine iteT ?_
    have tl := hWr.told (A := Ad) (w := i) (by omega) (fun z => absurd (by omega) c2) cd
    refine ⟨i, ls, .ref za, o', b', l', s', ys, e', os', g', ps', 530, bo * DA, _, rfl, by omega, s1018 _ _ ho10, hY10.same s1018, hA11.same s1118, s1018.seq hb10, hl10.same s1018, h64, hOtd, by decide, .inr ⟨tl.1, cd, tl.2⟩, fun H19 s19 => ?_⟩
    refine ⟨i, lg, .ref ze, lf, lor, lp, word ρ, G, e, r.map (fun (n : Nat) => (n : Int)), gn, G, 120, bo, rfl, by omega, (s1018.trans s19) _ _ hfineA, hGA.same (s1018.trans s19), hE10.same (s1018.trans s19), (s1018.trans s19).seq hordA, hPA.same (s1018.trans s19), hr64, hOgd, by decide, hgd.1, hgd.2, fun H20 s20 => ?_⟩
    exact ⟨_, _, _, rfl, (s1118.trans s19).trans s20⟩
   ·refine ⟨_, .inl (s1018.seq hsy10), ?_⟩
    refine br (fun c3 => ?_) (fun c3 => ?_)
    ·have tl := hWr.told (A := Ad) (w := i) (by omega) (fun _ => by omega) cd
     refine ⟨i, ls, .ref za, o', b', l', s', ys, e', os', g', ps', 530, bo * DA, _, rfl, by omega, s1018 _ _ ho10, hY10.same s1018, hA11.same s1118, s1018.seq hb10, hl10.same s1018, h64, hOtd, by decide, .inr ⟨tl.1, cd, tl.2⟩, fun H19 s19 => ?_⟩
     refine ⟨i, lg, .ref ze, lf, lor, lp, word ρ, G, e, r.map (fun (n : Nat) => (n : Int)), gn, G, 120, bo, rfl, by omega, (s1018.trans s19) _ _ hfineA, hGA.same (s1018.trans s19), hE10.same (s1018.trans s19), (s1018.trans s19).seq hordA, hPA.same (s1018.trans s19), hr64, hOgd, by decide, hgd.1, hgd.2, fun H20 s20 => ?_⟩
     exact ⟨_, _, _, rfl, (s1118.trans s19).trans s20⟩
    ·refine brF ?_
     refine ⟨i, lg, .ref ze, lf, lor, lp, word ρ, G, e, r.map (fun (n : Nat) => (n : Int)), gn, G, 120, bo, rfl, by omega, s1018 _ _ hfineA, hGA.same s1018, hE10.same s1018, s1018.seq hordA, hPA.same s1018, hr64, hOgd, by decide, hgd.1, hgd.2, fun H20 s20 => ?_⟩
     exact ⟨_, _, _, rfl, s1118.trans s20⟩
  ·refine brF ?_
   refine ⟨i, lg, .ref ze, lf, lor, lp, word ρ, G, e, r.map (fun (n : Nat) => (n : Int)), gn, G, 120, bo, rfl, by omega, s1018 _ _ hfineA, hGA.same s1018, hE10.same s1018, s1018.seq hordA, hPA.same s1018, hr64, hOgd, by decide, hgd.1, hgd.2, fun H20 s20 => ?_⟩
   exact ⟨_, _, _, rfl, s1118.trans s20⟩
 ·rintro σ H12 ⟨z15, z16, z17, rfl, s12⟩
  exact k _
end
end My
/-! The names of twins that the last theorem's tactics would lay and that no proof needs are taken here, so that they are not laid: the file stays small. -/
namespace PySem.W.Fast
def tw15577053035142876256:=()
def tw10030922487092169856:=()
def tw5836849537387906208:=()
def tw12671610893312591040:=()
def tw4815958818985519328:=()
def tw10631834420721470848:=()
def tw5480347856110251456:=()
def tw4445373005492648384:=()
def tw13125961031327880704:=()
def tw16926762177319145088:=()
def tw4044164446768852640:=()
def tw2660768748531970752:=()
def tw14999991232411772768:=()
def tw16916524880110006112:=()
def tw5695923757401997184:=()
def tw5265482122579526560:=()
def tw7631259815351791552:=()
def tw1094417952260812801:=()
def tw9269718546620355617:=()
def tw3589906447024962689:=()
def tw13919825774837927105:=()
def tw18379881085972949185:=()
def tw7560385299742376161:=()
def tw13038959291576503521:=()
def tw15885578974926006497:=()
def tw9188991890510065921:=()
def tw12288869961864761633:=()
def tw8691354747110571425:=()
def tw3238481304224356769:=()
def tw13527711526092539361:=()
def tw18089958919963092481:=()
def tw7291602987887802977:=()
def tw11419050268328310401:=()
def tw4832124479171108545:=()
def tw8384073241055169249:=()
def tw9512634510164634337:=()
def tw8556998025825774433:=()
def tw17950724516561350497:=()
def tw14772485192251670369:=()
def tw4734224925219854241:=()
def tw4236352698777025505:=()
def tw12598023611996735618:=()
def tw7648980400345622690:=()
def tw10334550721721447810:=()
def tw19213667490791810:=()
def tw15064265816240331170:=()
def tw6599526453103769122:=()
def tw2935246345794357826:=()
def tw12269019521530231362:=()
def tw405518651992672866:=()
def tw15572565345522217570:=()
def tw6852353185938038562:=()
def tw3946082075963443074:=()
def tw13614766960404425602:=()
def tw10236843621504675810:=()
def tw14753960548047081475:=()
def tw6103061437488106531:=()
def tw9961549038844029059:=()
def tw3526395621748965571:=()
def tw18343916218607968643:=()
def tw10127694340546671011:=()
def tw6325390256587157923:=()
def tw16978856774392339907:=()
def tw17904799486589943267:=()
def tw4587688726336211555:=()
def tw15690188642501588579:=()
def tw5501894517501304547:=()
def tw17913216382050659043:=()
def tw14248257334286756707:=()
def tw13364854587692930947:=()
def tw18372602233970291619:=()
def tw14586537846510531523:=()
def tw7283911157768106947:=()
def tw17873313928059128868:=()
def tw14114839637156663460:=()
def tw16390090047015259332:=()
def tw5866013188238829828:=()
def tw12972427593822714148:=()
def tw387750121062694244:=()
def tw17495015788530851172:=()
def tw6560153989359324548:=()
def tw10197154532961889732:=()
def tw14773392624571093508:=()
def tw13184467483243408932:=()
def tw17822512571384410724:=()
def tw15799521215405187716:=()
def tw4857370541934923492:=()
def tw1306059280269761252:=()
def tw4596425641265683204:=()
def tw4829075885540010788:=()
def tw4610556266687324996:=()
def tw5686555890354907044:=()
def tw7770054844703585252:=()
def tw16784223941947335685:=()
def tw11407276299785816133:=()
def tw1425433902364924005:=()
def tw4679264185353939045:=()
def tw6684206008301107333:=()
def tw17159708850242530565:=()
def tw1320759113026467109:=()
def tw8601611042500968837:=()
def tw16898209156915784165:=()
def tw9747848038589170181:=()
def tw17955993345070642757:=()
def tw16301661040591248997:=()
def tw6014268067852634757:=()
def tw1780061421038564997:=()
def tw16560806805668891269:=()
def tw10045147399869717157:=()
def tw11589973493068789445:=()
def tw17381493180200141509:=()
def tw13299168064934833925:=()
def tw22528551021995941:=()
def tw4102750238393988005:=()
def tw2745688372171389893:=()
def tw8954170655035413477:=()
def tw2595522965528531974:=()
def tw6339508370363960358:=()
def tw15133057677005192262:=()
def tw12004952394789123174:=()
def tw9344014524098585830:=()
def tw1104325041768058150:=()
def tw2545605270232227110:=()
def tw16041115696715713862:=()
def tw1401432586561032582:=()
def tw6803294852812783014:=()
def tw10899078063953042982:=()
def tw8162404831858827846:=()
def tw8899935957072293446:=()
def tw14949511229661696582:=()
def tw7774515138391275174:=()
def tw6734361964740280038:=()
def tw11568663525879067430:=()
def tw11633247758975316870:=()
def tw2558593288550724486:=()
def tw8658432721848870822:=()
def tw6609688929416690630:=()
def tw4001876039288682470:=()
def tw15663573887292114951:=()
def tw13748363382897003559:=()
def tw4319378111561180263:=()
def tw15223216996187082951:=()
def tw12844163834381960423:=()
def tw16681080408315111:=()
def tw5893166031837259079:=()
def tw1101699480901195143:=()
def tw6515555255145505191:=()
def tw15977002009627573895:=()
def tw12743282790033898215:=()
def tw323097121708815175:=()
def tw10875391328830717863:=()
def tw15034896506380684199:=()
def tw14859380135233446855:=()
def tw12162747586171272200:=()
def tw7656461473591765000:=()
def tw6602743148228152392:=()
def tw14580689120401296456:=()
def tw15283127097654173800:=()
def tw6970195219748026600:=()
def tw14715290992017223944:=()
def tw14028684313077720424:=()
def tw11456764570835626344:=()
def tw12399360945737429352:=()
def tw13708318702122071400:=()
def tw7373941236093729160:=()
def tw14231230691737317800:=()
def tw4793276271976674856:=()
def tw5141179242021885576:=()
def tw12584042400883294888:=()
def tw8514665731504422568:=()
def tw3828310739626873544:=()
def tw14741098308023780104:=()
def tw14481877735896194824:=()
def tw776749997848056584:=()
def tw12687992691342333704:=()
def tw8666654224364248008:=()
def tw7890307905925310440:=()
def tw17426456051095821353:=()
def tw3753691609907535049:=()
def tw14414373963025117481:=()
def tw5191805292520325417:=()
def tw7189357197247410505:=()
def tw8160049109280347529:=()
def tw11664783543445419497:=()
def tw1520662078203964905:=()
def tw4739580963194113641:=()
def tw5882710863601317481:=()
def tw6383275799042187913:=()
def tw1528199155026542313:=()
def tw15827982820297373513:=()
def tw1990660930040155049:=()
def tw165310216709761961:=()
def tw2180488140957517834:=()
def tw9678790510776654858:=()
def tw13123087517741725738:=()
def tw9133240093784968234:=()
def tw14530440757755972682:=()
def tw10280047451815630922:=()
def tw3646690655425485962:=()
def tw11784751397138112778:=()
def tw10680904231633105162:=()
def tw1389644677267767594:=()
def tw2187682874357919050:=()
def tw7505009449457968522:=()
def tw17854928632648292842:=()
def tw10210150696462151178:=()
def tw5351952283499328010:=()
def tw1839634590937224778:=()
def tw952433754285470282:=()
def tw15271801149672306314:=()
def tw15813686120876802730:=()
def tw17586889283531464618:=()
def tw17271446202771901451:=()
def tw16763367687301062699:=()
def tw17541534413966262379:=()
def tw7273987545005253835:=()
def tw13226970289857750219:=()
def tw11969527717797214603:=()
def tw16907464725880372619:=()
def tw12741441114896751019:=()
def tw17415070438319925707:=()
def tw9652519247488951755:=()
def tw15030480155440896523:=()
def tw11406387634402307627:=()
def tw15825260337187840587:=()
def tw2622677555882497707:=()
def tw16016131278228555499:=()
def tw16310157834484730699:=()
def tw1318176124133517163:=()
def tw2373121709959712683:=()
def tw12656157690832236491:=()
def tw8254940401002034123:=()
def tw17429864445057943531:=()
def tw17030936175735753707:=()
def tw4827350532409164812:=()
def tw3272471578973507596:=()
def tw16324510606198099052:=()
def tw9251759644118241452:=()
def tw6918142736143805644:=()
def tw14905321163927191788:=()
def tw17070811901728019724:=()
def tw1931556795698346348:=()
def tw17231381617726036332:=()
def tw12324014703644604780:=()
def tw13556604274747106700:=()
def tw14403165921514361260:=()
def tw12165371695162978796:=()
def tw7411939018009550444:=()
def tw4570707523960721004:=()
def tw3166355885123643052:=()
def tw4306096088165407404:=()
def tw10063166256258963148:=()
def tw437300471139923724:=()
def tw4285091089168968524:=()
def tw10714128182181307244:=()
def tw4318733576205957996:=()
def tw7412362942965630860:=()
def tw6463782531067741229:=()
def tw13905159326003336237:=()
def tw3684075955732224045:=()
def tw3057238698233806893:=()
def tw9472607510760505389:=()
def tw16820993382342957229:=()
def tw12664954773529905453:=()
def tw7853895494305558861:=()
def tw4641893874754716013:=()
def tw7666315435157234029:=()
def tw13545783515473389965:=()
def tw2943460308273532365:=()
def tw15882135332358325709:=()
def tw12566793989202815469:=()
def tw6352556645904591405:=()
def tw17587811764307293773:=()
def tw12240671146757488237:=()
def tw5009671362146117229:=()
def tw2538152123113418381:=()
def tw8530471630564369101:=()
def tw2477511188908075725:=()
def tw13786525769009952461:=()
def tw9785231164181873421:=()
def tw9257719138163265293:=()
def tw17962434856769580813:=()
def tw1452248529291171629:=()
def tw12986993189443118925:=()
def tw3133798420257974093:=()
def tw11422769274105183053:=()
def tw6749119773745854413:=()
def tw5503776678052178925:=()
def tw17858493789327800301:=()
def tw342358651607390222:=()
def tw9558263131905016846:=()
def tw17369508984229822542:=()
def tw3179608323315918958:=()
def tw12294721798983277774:=()
def tw8863343024048848110:=()
def tw5760075640664021262:=()
def tw15316239599024390446:=()
def tw9254851773369505070:=()
def tw14080543516636448174:=()
def tw9542606805960885774:=()
def tw18001096283605704334:=()
def tw16356107822502368014:=()
def tw15476449009822838734:=()
def tw8776231833723011022:=()
def tw9598762988191037455:=()
def tw8641492308146652207:=()
def tw4674771116620155983:=()
def tw9276180039461444687:=()
def tw2073508240565233743:=()
def tw11981705842048927983:=()
def tw6769764910417809711:=()
def tw17236132318577550639:=()
def tw2183067561470812591:=()
def tw5639957498863295951:=()
def tw10204236358187657935:=()
def tw14983521467405656911:=()
def tw5072254488363153263:=()
def tw10449112280122863535:=()
def tw17342858983288366031:=()
def tw14981727883790672944:=()
def tw16079884649549699152:=()
def tw11231543349796497584:=()
def tw17053367773295377584:=()
def tw1976300142703320272:=()
def tw1891274590131024080:=()
def tw10778197713307870448:=()
def tw4493176083210157360:=()
def tw6802977631145108784:=()
def tw8669606462861143440:=()
def tw223007980797204912:=()
def tw9748360749617896912:=()
def tw18352858209211344464:=()
def tw4269932294349686448:=()
def tw4880103256200402672:=()
def tw740882106439146256:=()
def tw5591016402598837040:=()
def tw5777520735111961392:=()
def tw4922039739163296624:=()
def tw8205244826211469232:=()
def tw10853506425374705745:=()
def tw14784220345464853713:=()
def tw7202877088581537137:=()
def tw4729120241146547633:=()
def tw5382249750353551825:=()
def tw10690941570939186641:=()
def tw11378446031314631153:=()
def tw288207745526474321:=()
def tw3981925532023122545:=()
def tw17280858573977009937:=()
def tw12256346090920350609:=()
def tw1159529047431813073:=()
def tw2210475364137074641:=()
def tw10171238708181207058:=()
def tw14701079951755447314:=()
def tw11471140827695739954:=()
def tw2373921998155122770:=()
def tw17956917648769746066:=()
def tw13290414655338130578:=()
def tw13207519493121499282:=()
def tw8915278811664096434:=()
def tw6036988084735818994:=()
def tw18090579774125401330:=()
def tw14980904426125254930:=()
def tw16161230531160184114:=()
def tw18002513253929698610:=()
def tw18237614235780741426:=()
def tw4292877263560710514:=()
def tw1063979703709247890:=()
def tw10508770095131819442:=()
def tw8985931530869965266:=()
def tw12793803067130621394:=()
def tw17490924090076771826:=()
def tw17358787413465810642:=()
def tw1062737082896843538:=()
def tw16669879466939715346:=()
def tw12852881884168876850:=()
def tw12384672261057697618:=()
def tw6081758561981203539:=()
def tw6787023299615847507:=()
def tw15396619012418696339:=()
def tw1137819672514213075:=()
def tw11323068031533882579:=()
def tw11025121738020547859:=()
def tw2333009110008121715:=()
def tw14403485687309447603:=()
def tw15110960893943756339:=()
def tw9689813831140282963:=()
def tw505257259191757427:=()
def tw10356705071475446483:=()
def tw13705107685570038483:=()
def tw10239721652222823187:=()
def tw13555821632157116179:=()
def tw5626354944547928947:=()
def tw164159284635114419:=()
def tw8703714319132639219:=()
def tw5543488590922138644:=()
def tw5993045011187294260:=()
def tw3229801267751338164:=()
def tw12705899043753845940:=()
def tw14782784714577438900:=()
def tw8926416204903956788:=()
def tw13777902223581710644:=()
def tw16241104388114263380:=()
def tw15031650362037025108:=()
def tw9229691721902720404:=()
def tw4988412014592177620:=()
def tw14022364734103947892:=()
def tw15789330590254584500:=()
def tw1509670119628544692:=()
def tw13476669316431945428:=()
def tw3255868021309618964:=()
def tw10150716690826054420:=()
def tw18305420583127805748:=()
def tw11026860742372418484:=()
def tw15850723890374340532:=()
def tw1582848249634126869:=()
def tw16157335189973065813:=()
def tw17618414060778856661:=()
def tw2245655414485217493:=()
def tw9180387030935490805:=()
def tw2511575683294193973:=()
def tw5799772099667040597:=()
def tw9325516729683368277:=()
def tw2275611542199892341:=()
def tw2906188817235607989:=()
def tw14004668254242611669:=()
def tw13056221611166263765:=()
def tw2915978240962644629:=()
def tw18200774550426856149:=()
def tw16306214001900552949:=()
def tw15711559286618524469:=()
def tw17192922832286138197:=()
def tw6027371737741270901:=()
def tw4542399156363072405:=()
def tw16518495908059757461:=()
def tw18260768845433966517:=()
def tw4197999383947917237:=()
def tw372403175935244213:=()
def tw3259067860305004566:=()
def tw9731895534321589270:=()
def tw3460807828443302966:=()
def tw3986920355367317558:=()
def tw4067727476436725878:=()
def tw10849670583821541526:=()
def tw313346216693491862:=()
def tw6095958539566975158:=()
def tw4647589419658667286:=()
def tw10157738794293938550:=()
def tw9012946967869532566:=()
def tw2181027889911132662:=()
def tw13733329746599656982:=()
def tw7480595174917830230:=()
def tw2085007677778454198:=()
def tw14894488507172177622:=()
def tw8549646748012558102:=()
def tw13369077769339837238:=()
def tw5014503688661883766:=()
def tw4910875550809418646:=()
def tw5416070277704242134:=()
def tw4859143318368776182:=()
def tw1761543940574455798:=()
def tw8963347680556011543:=()
def tw15403286318712946839:=()
def tw13471138373548558487:=()
def tw12417325079325919479:=()
def tw16008680755070459191:=()
def tw602760721517565271:=()
def tw11765189335545869719:=()
def tw13051706545286683063:=()
def tw2983773081446614615:=()
def tw16742073204967275095:=()
def tw10941032271951728311:=()
def tw8924396882787397399:=()
def tw16727255211148099383:=()
def tw7411982222489980791:=()
def tw9503164930221905879:=()
def tw5155972298465177591:=()
def tw5921387304033780760:=()
def tw13381329660736216088:=()
def tw6734965314344026200:=()
def tw14963192518702288984:=()
def tw8879889441890082904:=()
def tw5987468128477012088:=()
def tw330809130172615832:=()
def tw10756545659974348952:=()
def tw6113695982413649080:=()
def tw15778488879922779352:=()
def tw10819316541188422904:=()
def tw12806657824376389944:=()
def tw18410419527337635128:=()
def tw16139300888767478136:=()
def tw5938854588166053304:=()
def tw5094757437618896312:=()
def tw10409883125808028088:=()
def tw4467910841737900504:=()
def tw16894548017545168408:=()
def tw18147205333236696728:=()
def tw641685443351967384:=()
def tw860706074044038840:=()
def tw10459892672117554968:=()
def tw9418736017742977848:=()
def tw15295059198204148536:=()
def tw13579102309413429176:=()
def tw2696663407576167384:=()
def tw7034111726410588120:=()
def tw4767537687726288888:=()
def tw2098624292115159097:=()
def tw755192159875227769:=()
def tw8119013194933084281:=()
def tw10076799633585972473:=()
def tw18231180845079117145:=()
def tw14194581239904318841:=()
def tw612269138794579353:=()
def tw7894827209223160217:=()
def tw9565051532943600057:=()
def tw1319362415681653241:=()
def tw3630196014428209721:=()
def tw6979649623801507545:=()
def tw6291793401056771865:=()
def tw529091482738420601:=()
def tw16301488113580829593:=()
def tw7139136993040904089:=()
def tw9563338642417169434:=()
def tw2635788658840721434:=()
def tw10145701564573214746:=()
def tw11165731448856678554:=()
def tw5489037823246215322:=()
def tw17103289431753788634:=()
def tw14736424891258772762:=()
def tw1820227132833184122:=()
def tw14627159380561294714:=()
def tw3682777967341795706:=()
def tw17055735512220783034:=()
def tw1362686266468214394:=()
def tw702320517835100826:=()
def tw13259451253490818714:=()
def tw2694781229040318106:=()
def tw656444823359721242:=()
def tw12189638854962892570:=()
def tw14943546534362544922:=()
def tw11235050769820410714:=()
def tw972086926393868154:=()
def tw10759685481145768826:=()
def tw14708707771274758138:=()
def tw5443144128971660282:=()
def tw16904880653443254331:=()
def tw9502490190503373915:=()
def tw3301848208733796539:=()
def tw16799636429479720187:=()
def tw12213099632904206587:=()
def tw15981823874690923835:=()
def tw13103594023503876411:=()
def tw5466618670721104187:=()
def tw3171440260914662747:=()
def tw3119798703056247163:=()
def tw16699938591266128315:=()
def tw16833467906721706427:=()
def tw5630983651224830459:=()
def tw7034166499353277947:=()
def tw11749314065389657627:=()
def tw10116775887477382715:=()
def tw3970243307079383675:=()
def tw6484354646762193627:=()
def tw5156585219795175131:=()
def tw16373880695031486267:=()
def tw15790113329611248507:=()
def tw13837210208992414651:=()
def tw2764961037275718619:=()
def tw10394428681169163259:=()
def tw3027146717759690780:=()
def tw948890430911348892:=()
def tw4423586742837193916:=()
def tw11119003566965973180:=()
def tw12500560467118674140:=()
def tw17505128915542758748:=()
def tw5225062449867361660:=()
def tw9613183164179064188:=()
def tw14242384868319104412:=()
def tw7653917832232081852:=()
def tw1344778318463927804:=()
def tw8650521048097761820:=()
def tw8368443365915980316:=()
def tw10255686948008122940:=()
def tw9787636263927145020:=()
def tw13011392897330200316:=()
def tw17488426146677984060:=()
def tw1863835003297025884:=()
def tw4491449535857634236:=()
def tw6405403506575287292:=()
def tw11064182555588469789:=()
def tw12128132644559107101:=()
def tw12131540594846532701:=()
def tw408946433033475261:=()
def tw16038784822418490557:=()
def tw8297572377180851485:=()
def tw15619673431656156445:=()
def tw11142717942888230333:=()
def tw16257933717489235453:=()
def tw9677551460385869437:=()
def tw16954083211967728317:=()
def tw9693287186107924253:=()
def tw4551847307160263517:=()
def tw10096277499096761213:=()
def tw10820439300990892925:=()
def tw16771419376723972029:=()
def tw10445818114417355838:=()
def tw3340781382683547774:=()
def tw1653568913763809438:=()
def tw10970734447026783454:=()
def tw5282997362054609310:=()
def tw1266455560327316894:=()
def tw14704367213490389470:=()
def tw16692339579771204094:=()
def tw1303604027031975486:=()
def tw6942605619596942942:=()
def tw6905355432179049086:=()
def tw8282222202642922110:=()
def tw17814189724436116094:=()
def tw14009168448747947710:=()
def tw11662747125952438974:=()
def tw16872345481242871582:=()
def tw3382265475551610686:=()
def tw1231432902416320350:=()
def tw10209316336386583390:=()
def tw17032376585386300350:=()
def tw8090290365779284127:=()
def tw17985963749476041951:=()
def tw2273372855815963903:=()
def tw5868912717749747007:=()
def tw7649983404204990815:=()
def tw13670627620720694719:=()
def tw14576361173207475647:=()
def tw6194082382191040991:=()
def tw9945646248975892991:=()
def tw6325736882869280287:=()
def tw5916094239779144255:=()
def tw17844184843820650079:=()
def tw14795520470061890175:=()
def tw14802762923665321631:=()
def tw3376689678200463039:=()
def tw13125739211689235167:=()
def tw11148924441455974111:=()
def tw11265282373016380159:=()
def tw12652069564962343711:=()
def tw15527129072020819743:=()
def tw1662503881009937215:=()
def tw2363872640771571551:=()
def tw3501051096593446815:=()
end PySem.W.Fast

open PySem PySem.W PyProof.Rows
set_option maxRecDepth 100000 in
set_option maxHeartbeats 0 in
theorem PySem.Challenge.cw_leanestate_k48_all_refuse_in_order_holds : PySem.Challenge.rw_leanestate_k48_all_refuse_in_order.Holds := by
 w_on; o_law; k_head; (case hw => w_witness2)
 k_fill
 refine L2.walkE (k := 14) (l := PySem.Challenge.rw_leanestate_k48_all_refuse_in_order) (by decide) rfl rfl (fun w h Y => PySem.W.kIn_of Y) ?F
 case F =>
  intro w mg fa h KX G hmg
  have h_l_cell_at : ∃ f fd, L2.Has (L2.KOf KX) mg "_law_cell_at" My.s_l_cell_at ["_law_script", "_law_k"] f fd := by
   dsimp only [L2.KOf]
   refine' ⟨_, _, L2.has_mk (st := My.s_l_cell_at) (ps := ["_law_script", "_law_k"]) KX G ?a ?l ?c ?k (fun _ _ _ _ _ _ us hl => L2.byLen2 us hl (fun _ _ => rfl))⟩
   (case a => k_is); (case l => k_is); (case c => k_is); (case k => k_is)
  have h_l_wholes : ∃ f fd, L2.Has (L2.KOf KX) mg "_law_wholes" My.s_l_wholes ["_law_script", "_law_count"] f fd := by
   dsimp only [L2.KOf]
   refine' ⟨_, _, L2.has_mk (st := My.s_l_wholes) (ps := ["_law_script", "_law_count"]) KX G ?a ?l ?c ?k (fun _ _ _ _ _ _ us hl => L2.byLen2 us hl (fun _ _ => rfl))⟩
   (case a => k_is); (case l => k_is); (case c => k_is); (case k => k_is)
  have h_l_case : ∃ f fd, L2.Has (L2.KOf KX) mg "_law_case" My.s_l_case ["_law_script"] f fd := by
   dsimp only [L2.KOf]
   refine' ⟨_, _, L2.has_mk (st := My.s_l_case) (ps := ["_law_script"]) KX G ?a ?l ?c ?k (fun _ _ _ _ _ _ us hl => L2.byLen1 us hl (fun _ => rfl))⟩
   (case a => k_is); (case l => k_is); (case c => k_is); (case k => k_is)
  have h_l_ratio : ∃ f fd, L2.Has (L2.KOf KX) mg "_law_ratio" My.s_l_ratio ["_law_top", "_law_bottom"] f fd := by
   dsimp only [L2.KOf]
   refine' ⟨_, _, L2.has_mk (st := My.s_l_ratio) (ps := ["_law_top", "_law_bottom"]) KX G ?a ?l ?c ?k (fun _ _ _ _ _ _ us hl => L2.byLen2 us hl (fun _ _ => rfl))⟩
   (case a => k_is); (case l => k_is); (case c => k_is); (case k => k_is)
  have h_l_wrong_claims : ∃ f fd, L2.Has (L2.KOf KX) mg "_law_wrong_claims" My.s_l_wrong_claims ["_law_good_here", "_law_bottom", "_law_cell", "_law_far"] f fd := by
   dsimp only [L2.KOf]
   refine' ⟨_, _, L2.has_mk (st := My.s_l_wrong_claims) (ps := ["_law_good_here", "_law_bottom", "_law_cell", "_law_far"]) KX G ?a ?l ?c ?k (fun _ _ _ _ _ _ us hl => L2.byLen4 us hl (fun _ _ _ _ => rfl))⟩
   (case a => k_is); (case l => k_is); (case c => k_is); (case k => k_is)
  have h_l_no_order : ∃ f fd, L2.Has (L2.KOf KX) mg "_law_no_order" My.s_l_no_order ["_law_order_here", "_law_cell"] f fd := by
   dsimp only [L2.KOf]
   refine' ⟨_, _, L2.has_mk (st := My.s_l_no_order) (ps := ["_law_order_here", "_law_cell"]) KX G ?a ?l ?c ?k (fun _ _ _ _ _ _ us hl => L2.byLen2 us hl (fun _ _ => rfl))⟩
   (case a => k_is); (case l => k_is); (case c => k_is); (case k => k_is)
  have h_l_wrong_others : ∃ f fd, L2.Has (L2.KOf KX) mg "_law_wrong_others" My.s_l_wrong_others ["_law_fine", "_law_good_here", "_law_count", "_law_cell", "_law_far"] f fd := by
   dsimp only [L2.KOf]
   refine' ⟨_, _, L2.has_mk (st := My.s_l_wrong_others) (ps := ["_law_fine", "_law_good_here", "_law_count", "_law_cell", "_law_far"]) KX G ?a ?l ?c ?k (fun _ _ _ _ _ _ us hl => L2.byLen5 us hl (fun _ _ _ _ _ => rfl))⟩
   (case a => k_is); (case l => k_is); (case c => k_is); (case k => k_is)
  have h_l_order : ∃ f fd, L2.Has (L2.KOf KX) mg "_law_order" My.s_l_order ["_law_count", "_law_cell"] f fd := by
   dsimp only [L2.KOf]
   refine' ⟨_, _, L2.has_mk (st := My.s_l_order) (ps := ["_law_count", "_law_cell"]) KX G ?a ?l ?c ?k (fun _ _ _ _ _ _ us hl => L2.byLen2 us hl (fun _ _ => rfl))⟩
   (case a => k_is); (case l => k_is); (case c => k_is); (case k => k_is)
  have h_l_due : ∃ f fd, L2.Has (L2.KOf KX) mg "_law_due" My.s_l_due ["_law_what", "_law_wrongs"] f fd := by
   dsimp only [L2.KOf]
   refine' ⟨_, _, L2.has_mk (st := My.s_l_due) (ps := ["_law_what", "_law_wrongs"]) KX G ?a ?l ?c ?k (fun _ _ _ _ _ _ us hl => L2.byLen2 us hl (fun _ _ => rfl))⟩
   (case a => k_is); (case l => k_is); (case c => k_is); (case k => k_is)
  have h_less : ∃ f fd, L2.Has (L2.KOf KX) mg "less" My.s_less ["one", "other"] f fd := by
   dsimp only [L2.KOf]
   refine' ⟨_, _, L2.has_mk (st := My.s_less) (ps := ["one", "other"]) KX G ?a ?l ?c ?k (fun _ _ _ _ _ _ us hl => L2.byLen2 us hl (fun _ _ => rfl))⟩
   (case a => k_is); (case l => k_is); (case c => k_is); (case k => k_is)
  have h_look_at_claims : ∃ f fd, L2.Has (L2.KOf KX) mg "look_at_claims" My.s_look_at_claims ["claims"] f fd := by
   dsimp only [L2.KOf]
   refine' ⟨_, _, L2.has_mk (st := My.s_look_at_claims) (ps := ["claims"]) KX G ?a ?l ?c ?k (fun _ _ _ _ _ _ us hl => L2.byLen1 us hl (fun _ => rfl))⟩
   (case a => k_is); (case l => k_is); (case c => k_is); (case k => k_is)
  have h_look_at_sharing : ∃ f fd, L2.Has (L2.KOf KX) mg "look_at_sharing" My.s_look_at_sharing ["claims", "parts"] f fd := by
   dsimp only [L2.KOf]
   refine' ⟨_, _, L2.has_mk (st := My.s_look_at_sharing) (ps := ["claims", "parts"]) KX G ?a ?l ?c ?k (fun _ _ _ _ _ _ us hl => L2.byLen2 us hl (fun _ _ => rfl))⟩
   (case a => k_is); (case l => k_is); (case c => k_is); (case k => k_is)
  have h_common_divisor : ∃ f fd, L2.Has (L2.KOf KX) mg "common_divisor" My.s_common_divisor ["one", "other"] f fd := by
   dsimp only [L2.KOf]
   refine' ⟨_, _, L2.has_mk (st := My.s_common_divisor) (ps := ["one", "other"]) KX G ?a ?l ?c ?k (fun _ _ _ _ _ _ us hl => L2.byLen2 us hl (fun _ _ => rfl))⟩
   (case a => k_is); (case l => k_is); (case c => k_is); (case k => k_is)
  have h_common_bottom : ∃ f fd, L2.Has (L2.KOf KX) mg "common_bottom" My.s_common_bottom ["ratios"] f fd := by
   dsimp only [L2.KOf]
   refine' ⟨_, _, L2.has_mk (st := My.s_common_bottom) (ps := ["ratios"]) KX G ?a ?l ?c ?k (fun _ _ _ _ _ _ us hl => L2.byLen1 us hl (fun _ => rfl))⟩
   (case a => k_is); (case l => k_is); (case c => k_is); (case k => k_is)
  have h_tops_over : ∃ f fd, L2.Has (L2.KOf KX) mg "tops_over" My.s_tops_over ["bottom", "ratios"] f fd := by
   dsimp only [L2.KOf]
   refine' ⟨_, _, L2.has_mk (st := My.s_tops_over) (ps := ["bottom", "ratios"]) KX G ?a ?l ?c ?k (fun _ _ _ _ _ _ us hl => L2.byLen2 us hl (fun _ _ => rfl))⟩
   (case a => k_is); (case l => k_is); (case c => k_is); (case k => k_is)
  have h_is_whole : ∃ f fd, L2.Has (L2.KOf KX) mg "is_whole" My.s_is_whole ["value"] f fd := by
   dsimp only [L2.KOf]
   refine' ⟨_, _, L2.has_mk (st := My.s_is_whole) (ps := ["value"]) KX G ?a ?l ?c ?k (fun _ _ _ _ _ _ us hl => L2.byLen1 us hl (fun _ => rfl))⟩
   (case a => k_is); (case l => k_is); (case c => k_is); (case k => k_is)
  have h_ratio : ∃ f fd, L2.Has (L2.KOf KX) mg "ratio" My.s_ratio ["top", "bottom"] f fd := by
   dsimp only [L2.KOf]
   refine' ⟨_, _, L2.has_mk (st := My.s_ratio) (ps := ["top", "bottom"]) KX G ?a ?l ?c ?k (fun _ _ _ _ _ _ us hl => L2.byLen2 us hl (fun _ _ => rfl))⟩
   (case a => k_is); (case l => k_is); (case c => k_is); (case k => k_is)
  have h_is_in : ∃ f fd, L2.Has (L2.KOf KX) mg "is_in" My.s_is_in ["group", "claimer"] f fd := by
   dsimp only [L2.KOf]
   refine' ⟨_, _, L2.has_mk (st := My.s_is_in) (ps := ["group", "claimer"]) KX G ?a ?l ?c ?k (fun _ _ _ _ _ _ us hl => L2.byLen2 us hl (fun _ _ => rfl))⟩
   (case a => k_is); (case l => k_is); (case c => k_is); (case k => k_is)
  have h_of_members : ∃ f fd, L2.Has (L2.KOf KX) mg "of_members" My.s_of_members ["listed", "group"] f fd := by
   dsimp only [L2.KOf]
   refine' ⟨_, _, L2.has_mk (st := My.s_of_members) (ps := ["listed", "group"]) KX G ?a ?l ?c ?k (fun _ _ _ _ _ _ us hl => L2.byLen2 us hl (fun _ _ => rfl))⟩
   (case a => k_is); (case l => k_is); (case c => k_is); (case k => k_is)
  have h_of_others : ∃ f fd, L2.Has (L2.KOf KX) mg "of_others" My.s_of_others ["listed", "group"] f fd := by
   dsimp only [L2.KOf]
   refine' ⟨_, _, L2.has_mk (st := My.s_of_others) (ps := ["listed", "group"]) KX G ?a ?l ?c ?k (fun _ _ _ _ _ _ us hl => L2.byLen2 us hl (fun _ _ => rfl))⟩
   (case a => k_is); (case l => k_is); (case c => k_is); (case k => k_is)
  have h_slack : ∃ f fd, L2.Has (L2.KOf KX) mg "slack" My.s_slack ["claims", "parts", "group"] f fd := by
   dsimp only [L2.KOf]
   refine' ⟨_, _, L2.has_mk (st := My.s_slack) (ps := ["claims", "parts", "group"]) KX G ?a ?l ?c ?k (fun _ _ _ _ _ _ us hl => L2.byLen3 us hl (fun _ _ _ => rfl))⟩
   (case a => k_is); (case l => k_is); (case c => k_is); (case k => k_is)
  have h_slacks : ∃ f fd, L2.Has (L2.KOf KX) mg "slacks" My.s_slacks ["claims", "parts"] f fd := by
   dsimp only [L2.KOf]
   refine' ⟨_, _, L2.has_mk (st := My.s_slacks) (ps := ["claims", "parts"]) KX G ?a ?l ?c ?k (fun _ _ _ _ _ _ us hl => L2.byLen2 us hl (fun _ _ => rfl))⟩
   (case a => k_is); (case l => k_is); (case c => k_is); (case k => k_is)
  have h_plus : ∃ f fd, L2.Has (L2.KOf KX) mg "plus" My.s_plus ["one", "other"] f fd := by
   dsimp only [L2.KOf]
   refine' ⟨_, _, L2.has_mk (st := My.s_plus) (ps := ["one", "other"]) KX G ?a ?l ?c ?k (fun _ _ _ _ _ _ us hl => L2.byLen2 us hl (fun _ _ => rfl))⟩
   (case a => k_is); (case l => k_is); (case c => k_is); (case k => k_is)
  have h_total : ∃ f fd, L2.Has (L2.KOf KX) mg "total" My.s_total ["claims"] f fd := by
   dsimp only [L2.KOf]
   refine' ⟨_, _, L2.has_mk (st := My.s_total) (ps := ["claims"]) KX G ?a ?l ?c ?k (fun _ _ _ _ _ _ us hl => L2.byLen1 us hl (fun _ => rfl))⟩
   (case a => k_is); (case l => k_is); (case c => k_is); (case k => k_is)
  have h_look_at : ∃ f fd, L2.Has (L2.KOf KX) mg "look_at" My.s_look_at ["claims", "estate"] f fd := by
   dsimp only [L2.KOf]
   refine' ⟨_, _, L2.has_mk (st := My.s_look_at) (ps := ["claims", "estate"]) KX G ?a ?l ?c ?k (fun _ _ _ _ _ _ us hl => L2.byLen2 us hl (fun _ _ => rfl))⟩
   (case a => k_is); (case l => k_is); (case c => k_is); (case k => k_is)
  have h_look_at_order : ∃ f fd, L2.Has (L2.KOf KX) mg "look_at_order" My.s_look_at_order ["claims", "order"] f fd := by
   dsimp only [L2.KOf]
   refine' ⟨_, _, L2.has_mk (st := My.s_look_at_order) (ps := ["claims", "order"]) KX G ?a ?l ?c ?k (fun _ _ _ _ _ _ us hl => L2.byLen2 us hl (fun _ _ => rfl))⟩
   (case a => k_is); (case l => k_is); (case c => k_is); (case k => k_is)
  have h_lesser_of : ∃ f fd, L2.Has (L2.KOf KX) mg "lesser_of" My.s_lesser_of ["one", "other"] f fd := by
   dsimp only [L2.KOf]
   refine' ⟨_, _, L2.has_mk (st := My.s_lesser_of) (ps := ["one", "other"]) KX G ?a ?l ?c ?k (fun _ _ _ _ _ _ us hl => L2.byLen2 us hl (fun _ _ => rfl))⟩
   (case a => k_is); (case l => k_is); (case c => k_is); (case k => k_is)
  have h_minus : ∃ f fd, L2.Has (L2.KOf KX) mg "minus" My.s_minus ["one", "other"] f fd := by
   dsimp only [L2.KOf]
   refine' ⟨_, _, L2.has_mk (st := My.s_minus) (ps := ["one", "other"]) KX G ?a ?l ?c ?k (fun _ _ _ _ _ _ us hl => L2.byLen2 us hl (fun _ _ => rfl))⟩
   (case a => k_is); (case l => k_is); (case c => k_is); (case k => k_is)
  have h_taken : ∃ f fd, L2.Has (L2.KOf KX) mg "taken" My.s_taken ["claims", "estate", "order"] f fd := by
   dsimp only [L2.KOf]
   refine' ⟨_, _, L2.has_mk (st := My.s_taken) (ps := ["claims", "estate", "order"]) KX G ?a ?l ?c ?k (fun _ _ _ _ _ _ us hl => L2.byLen3 us hl (fun _ _ _ => rfl))⟩
   (case a => k_is); (case l => k_is); (case c => k_is); (case k => k_is)
  have h_number_of_orders : ∃ f fd, L2.Has (L2.KOf KX) mg "number_of_orders" My.s_number_of_orders ["count"] f fd := by
   dsimp only [L2.KOf]
   refine' ⟨_, _, L2.has_mk (st := My.s_number_of_orders) (ps := ["count"]) KX G ?a ?l ?c ?k (fun _ _ _ _ _ _ us hl => L2.byLen1 us hl (fun _ => rfl))⟩
   (case a => k_is); (case l => k_is); (case c => k_is); (case k => k_is)
  have h_groups_of : ∃ f fd, L2.Has (L2.KOf KX) mg "groups_of" My.s_groups_of ["claims"] f fd := by
   dsimp only [L2.KOf]
   refine' ⟨_, _, L2.has_mk (st := My.s_groups_of) (ps := ["claims"]) KX G ?a ?l ?c ?k (fun _ _ _ _ _ _ us hl => L2.byLen1 us hl (fun _ => rfl))⟩
   (case a => k_is); (case l => k_is); (case c => k_is); (case k => k_is)
  have h_taken_in_all_orders : ∃ f fd, L2.Has (L2.KOf KX) mg "taken_in_all_orders" My.s_taken_in_all_orders ["claim", "others", "estate"] f fd := by
   dsimp only [L2.KOf]
   refine' ⟨_, _, L2.has_mk (st := My.s_taken_in_all_orders) (ps := ["claim", "others", "estate"]) KX G ?a ?l ?c ?k (fun _ _ _ _ _ _ us hl => L2.byLen3 us hl (fun _ _ _ => rfl))⟩
   (case a => k_is); (case l => k_is); (case c => k_is); (case k => k_is)
  have h_all_but : ∃ f fd, L2.Has (L2.KOf KX) mg "all_but" My.s_all_but ["claimer", "listed"] f fd := by
   dsimp only [L2.KOf]
   refine' ⟨_, _, L2.has_mk (st := My.s_all_but) (ps := ["claimer", "listed"]) KX G ?a ?l ?c ?k (fun _ _ _ _ _ _ us hl => L2.byLen2 us hl (fun _ _ => rfl))⟩
   (case a => k_is); (case l => k_is); (case c => k_is); (case k => k_is)
  have h_by_turns : ∃ f fd, L2.Has (L2.KOf KX) mg "by_turns" My.s_by_turns ["claims", "estate"] f fd := by
   dsimp only [L2.KOf]
   refine' ⟨_, _, L2.has_mk (st := My.s_by_turns) (ps := ["claims", "estate"]) KX G ?a ?l ?c ?k (fun _ _ _ _ _ _ us hl => L2.byLen2 us hl (fun _ _ => rfl))⟩
   (case a => k_is); (case l => k_is); (case c => k_is); (case k => k_is)
  have h_look_at_rule : ∃ f fd, L2.Has (L2.KOf KX) mg "look_at_rule" My.s_look_at_rule ["rule"] f fd := by
   dsimp only [L2.KOf]
   refine' ⟨_, _, L2.has_mk (st := My.s_look_at_rule) (ps := ["rule"]) KX G ?a ?l ?c ?k (fun _ _ _ _ _ _ us hl => L2.byLen1 us hl (fun _ => rfl))⟩
   (case a => k_is); (case l => k_is); (case c => k_is); (case k => k_is)
  have h_over : ∃ f fd, L2.Has (L2.KOf KX) mg "over" My.s_over ["one", "other"] f fd := by
   dsimp only [L2.KOf]
   refine' ⟨_, _, L2.has_mk (st := My.s_over) (ps := ["one", "other"]) KX G ?a ?l ?c ?k (fun _ _ _ _ _ _ us hl => L2.byLen2 us hl (fun _ _ => rfl))⟩
   (case a => k_is); (case l => k_is); (case c => k_is); (case k => k_is)
  have h_times : ∃ f fd, L2.Has (L2.KOf KX) mg "times" My.s_times ["one", "other"] f fd := by
   dsimp only [L2.KOf]
   refine' ⟨_, _, L2.has_mk (st := My.s_times) (ps := ["one", "other"]) KX G ?a ?l ?c ?k (fun _ _ _ _ _ _ us hl => L2.byLen2 us hl (fun _ _ => rfl))⟩
   (case a => k_is); (case l => k_is); (case c => k_is); (case k => k_is)
  have h_in_shares : ∃ f fd, L2.Has (L2.KOf KX) mg "in_shares" My.s_in_shares ["claims", "estate"] f fd := by
   dsimp only [L2.KOf]
   refine' ⟨_, _, L2.has_mk (st := My.s_in_shares) (ps := ["claims", "estate"]) KX G ?a ?l ?c ?k (fun _ _ _ _ _ _ us hl => L2.byLen2 us hl (fun _ _ => rfl))⟩
   (case a => k_is); (case l => k_is); (case c => k_is); (case k => k_is)
  have h_gain_level : ∃ f fd, L2.Has (L2.KOf KX) mg "gain_level" My.s_gain_level ["claims", "estate"] f fd := by
   dsimp only [L2.KOf]
   refine' ⟨_, _, L2.has_mk (st := My.s_gain_level) (ps := ["claims", "estate"]) KX G ?a ?l ?c ?k (fun _ _ _ _ _ _ us hl => L2.byLen2 us hl (fun _ _ => rfl))⟩
   (case a => k_is); (case l => k_is); (case c => k_is); (case k => k_is)
  have h_by_gains : ∃ f fd, L2.Has (L2.KOf KX) mg "by_gains" My.s_by_gains ["claims", "estate"] f fd := by
   dsimp only [L2.KOf]
   refine' ⟨_, _, L2.has_mk (st := My.s_by_gains) (ps := ["claims", "estate"]) KX G ?a ?l ?c ?k (fun _ _ _ _ _ _ us hl => L2.byLen2 us hl (fun _ _ => rfl))⟩
   (case a => k_is); (case l => k_is); (case c => k_is); (case k => k_is)
  have h_lack : ∃ f fd, L2.Has (L2.KOf KX) mg "lack" My.s_lack ["claims", "estate"] f fd := by
   dsimp only [L2.KOf]
   refine' ⟨_, _, L2.has_mk (st := My.s_lack) (ps := ["claims", "estate"]) KX G ?a ?l ?c ?k (fun _ _ _ _ _ _ us hl => L2.byLen2 us hl (fun _ _ => rfl))⟩
   (case a => k_is); (case l => k_is); (case c => k_is); (case k => k_is)
  have h_loss_level : ∃ f fd, L2.Has (L2.KOf KX) mg "loss_level" My.s_loss_level ["claims", "estate"] f fd := by
   dsimp only [L2.KOf]
   refine' ⟨_, _, L2.has_mk (st := My.s_loss_level) (ps := ["claims", "estate"]) KX G ?a ?l ?c ?k (fun _ _ _ _ _ _ us hl => L2.byLen2 us hl (fun _ _ => rfl))⟩
   (case a => k_is); (case l => k_is); (case c => k_is); (case k => k_is)
  have h_claims_less : ∃ f fd, L2.Has (L2.KOf KX) mg "claims_less" My.s_claims_less ["claims", "parts"] f fd := by
   dsimp only [L2.KOf]
   refine' ⟨_, _, L2.has_mk (st := My.s_claims_less) (ps := ["claims", "parts"]) KX G ?a ?l ?c ?k (fun _ _ _ _ _ _ us hl => L2.byLen2 us hl (fun _ _ => rfl))⟩
   (case a => k_is); (case l => k_is); (case c => k_is); (case k => k_is)
  have h_by_losses : ∃ f fd, L2.Has (L2.KOf KX) mg "by_losses" My.s_by_losses ["claims", "estate"] f fd := by
   dsimp only [L2.KOf]
   refine' ⟨_, _, L2.has_mk (st := My.s_by_losses) (ps := ["claims", "estate"]) KX G ?a ?l ?c ?k (fun _ _ _ _ _ _ us hl => L2.byLen2 us hl (fun _ _ => rfl))⟩
   (case a => k_is); (case l => k_is); (case c => k_is); (case k => k_is)
  have h_by_halves : ∃ f fd, L2.Has (L2.KOf KX) mg "by_halves" My.s_by_halves ["claims", "estate"] f fd := by
   dsimp only [L2.KOf]
   refine' ⟨_, _, L2.has_mk (st := My.s_by_halves) (ps := ["claims", "estate"]) KX G ?a ?l ?c ?k (fun _ _ _ _ _ _ us hl => L2.byLen2 us hl (fun _ _ => rfl))⟩
   (case a => k_is); (case l => k_is); (case c => k_is); (case k => k_is)
  have h_shared : ∃ f fd, L2.Has (L2.KOf KX) mg "shared" My.s_shared ["rule", "claims", "estate"] f fd := by
   dsimp only [L2.KOf]
   refine' ⟨_, _, L2.has_mk (st := My.s_shared) (ps := ["rule", "claims", "estate"]) KX G ?a ?l ?c ?k (fun _ _ _ _ _ _ us hl => L2.byLen3 us hl (fun _ _ _ => rfl))⟩
   (case a => k_is); (case l => k_is); (case c => k_is); (case k => k_is)
  have h_of_two : ∃ f fd, L2.Has (L2.KOf KX) mg "of_two" My.s_of_two ["rule", "claim", "other", "amount"] f fd := by
   dsimp only [L2.KOf]
   refine' ⟨_, _, L2.has_mk (st := My.s_of_two) (ps := ["rule", "claim", "other", "amount"]) KX G ?a ?l ?c ?k (fun _ _ _ _ _ _ us hl => L2.byLen4 us hl (fun _ _ _ _ => rfl))⟩
   (case a => k_is); (case l => k_is); (case c => k_is); (case k => k_is)
  have h_turned : ∃ f fd, L2.Has (L2.KOf KX) mg "turned" My.s_turned ["rule", "claims", "estate"] f fd := by
   dsimp only [L2.KOf]
   refine' ⟨_, _, L2.has_mk (st := My.s_turned) (ps := ["rule", "claims", "estate"]) KX G ?a ?l ?c ?k (fun _ _ _ _ _ _ us hl => L2.byLen3 us hl (fun _ _ _ => rfl))⟩
   (case a => k_is); (case l => k_is); (case c => k_is); (case k => k_is)
  have h_cut_claims : ∃ f fd, L2.Has (L2.KOf KX) mg "cut_claims" My.s_cut_claims ["claims", "estate"] f fd := by
   dsimp only [L2.KOf]
   refine' ⟨_, _, L2.has_mk (st := My.s_cut_claims) (ps := ["claims", "estate"]) KX G ?a ?l ?c ?k (fun _ _ _ _ _ _ us hl => L2.byLen2 us hl (fun _ _ => rfl))⟩
   (case a => k_is); (case l => k_is); (case c => k_is); (case k => k_is)
  have h_left_over : ∃ f fd, L2.Has (L2.KOf KX) mg "left_over" My.s_left_over ["claims", "estate"] f fd := by
   dsimp only [L2.KOf]
   refine' ⟨_, _, L2.has_mk (st := My.s_left_over) (ps := ["claims", "estate"]) KX G ?a ?l ?c ?k (fun _ _ _ _ _ _ us hl => L2.byLen2 us hl (fun _ _ => rfl))⟩
   (case a => k_is); (case l => k_is); (case c => k_is); (case k => k_is)
  have h_least_rights : ∃ f fd, L2.Has (L2.KOf KX) mg "least_rights" My.s_least_rights ["claims", "estate"] f fd := by
   dsimp only [L2.KOf]
   refine' ⟨_, _, L2.has_mk (st := My.s_least_rights) (ps := ["claims", "estate"]) KX G ?a ?l ?c ?k (fun _ _ _ _ _ _ us hl => L2.byLen2 us hl (fun _ _ => rfl))⟩
   (case a => k_is); (case l => k_is); (case c => k_is); (case k => k_is)
  have h_look_at_group : ∃ f fd, L2.Has (L2.KOf KX) mg "look_at_group" My.s_look_at_group ["claims", "group"] f fd := by
   dsimp only [L2.KOf]
   refine' ⟨_, _, L2.has_mk (st := My.s_look_at_group) (ps := ["claims", "group"]) KX G ?a ?l ?c ?k (fun _ _ _ _ _ _ us hl => L2.byLen2 us hl (fun _ _ => rfl))⟩
   (case a => k_is); (case l => k_is); (case c => k_is); (case k => k_is)
  have h_worth : ∃ f fd, L2.Has (L2.KOf KX) mg "worth" My.s_worth ["claims", "estate", "group"] f fd := by
   dsimp only [L2.KOf]
   refine' ⟨_, _, L2.has_mk (st := My.s_worth) (ps := ["claims", "estate", "group"]) KX G ?a ?l ?c ?k (fun _ _ _ _ _ _ us hl => L2.byLen3 us hl (fun _ _ _ => rfl))⟩
   (case a => k_is); (case l => k_is); (case c => k_is); (case k => k_is)
  have h_added : ∃ f fd, L2.Has (L2.KOf KX) mg "added" My.s_added ["claims", "estate", "order"] f fd := by
   dsimp only [L2.KOf]
   refine' ⟨_, _, L2.has_mk (st := My.s_added) (ps := ["claims", "estate", "order"]) KX G ?a ?l ?c ?k (fun _ _ _ _ _ _ us hl => L2.byLen3 us hl (fun _ _ _ => rfl))⟩
   (case a => k_is); (case l => k_is); (case c => k_is); (case k => k_is)
  have h_l_ask : ∃ f fd, L2.Has (L2.KOf KX) mg "_law_ask" My.s_l_ask ["_law_what", "_law_claims", "_law_estate", "_law_others"] f fd := by
   dsimp only [L2.KOf]
   refine' ⟨_, _, L2.has_mk (st := My.s_l_ask) (ps := ["_law_what", "_law_claims", "_law_estate", "_law_others"]) KX G ?a ?l ?c ?k (fun _ _ _ _ _ _ us hl => L2.byLen4 us hl (fun _ _ _ _ => rfl))⟩
   (case a => k_is); (case l => k_is); (case c => k_is); (case k => k_is)
  have h_l_kinds : ∃ f fd, L2.Has (L2.KOf KX) mg "_law_kinds" My.s_l_kinds ["_law_e"] f fd := by
   dsimp only [L2.KOf]
   refine' ⟨_, _, L2.has_mk (st := My.s_l_kinds) (ps := ["_law_e"]) KX G ?a ?l ?c ?k (fun _ _ _ _ _ _ us hl => L2.byLen1 us hl (fun _ => rfl))⟩
   (case a => k_is); (case l => k_is); (case c => k_is); (case k => k_is)
  have h_l_told : ∃ f fd, L2.Has (L2.KOf KX) mg "_law_told" My.s_l_told ["_law_what", "_law_claims", "_law_estate", "_law_others", "_law_due_here"] f fd := by
   dsimp only [L2.KOf]
   refine' ⟨_, _, L2.has_mk (st := My.s_l_told) (ps := ["_law_what", "_law_claims", "_law_estate", "_law_others", "_law_due_here"]) KX G ?a ?l ?c ?k (fun _ _ _ _ _ _ us hl => L2.byLen5 us hl (fun _ _ _ _ _ => rfl))⟩
   (case a => k_is); (case l => k_is); (case c => k_is); (case k => k_is)
  have h_l_good : ∃ f fd, L2.Has (L2.KOf KX) mg "_law_good" My.s_l_good ["_law_what", "_law_some", "_law_estate", "_law_others"] f fd := by
   dsimp only [L2.KOf]
   refine' ⟨_, _, L2.has_mk (st := My.s_l_good) (ps := ["_law_what", "_law_some", "_law_estate", "_law_others"]) KX G ?a ?l ?c ?k (fun _ _ _ _ _ _ us hl => L2.byLen4 us hl (fun _ _ _ _ => rfl))⟩
   (case a => k_is); (case l => k_is); (case c => k_is); (case k => k_is)
  have h_law : ∃ f fd, L2.Has (L2.KOf KX) mg "law" My.s_law ["_law_script"] f fd := by
   dsimp only [L2.KOf]
   refine' ⟨_, _, L2.has_mk (st := My.s_law) (ps := ["_law_script"]) KX G ?a ?l ?c ?k (fun _ _ _ _ _ _ us hl => L2.byLen1 us hl (fun _ => rfl))⟩
   (case a => k_is); (case l => k_is); (case c => k_is); (case k => k_is)
  have T : L2.Kt (L2.KOf KX) := by
   dsimp only [L2.KOf]
   refine' ⟨?t0, ?t1, ?t2, ?t3, ?t4, ?t5, ?t6⟩
   (case t0 => kit_is)
   (case t1 => kit_is)
   (case t2 => kit_is)
   (case t3 => kit_is)
   (case t4 => kit_is)
   (case t5 => kit_is)
   (case t6 => kit_is)
  have En : ∃ Ad, My.Env (L2.KOf KX) mg Ad := by
   dsimp only [L2.KOf] at T ⊢
   refine' My.env_mk T KX G ?n_Za ?n_Zb ?n_Zc ?n_Zd ?n_Ze ?n_Zf ?n_Zg ?n_Zh ?n_Zi ?n_Zj ?n_Zk ?n_Zl ?n_Zm ?n_Zn ?n_Zo ?x_Za ?x_Zb ?x_Zc ?x_Zd ?x_Ze ?x_Zf ?x_Zg ?x_Zh ?x_Zi ?x_Zj ?x_Zk ?x_Zl ?x_Zm ?x_Zn ?x_Zo ?z_len ?z_abs ?z_range ?z_isinstance ?z_int ?z_bool ?z_tuple ?z_list ?z_sum ?z_min ?z_max ?z_enumerate ?z_sorted ?z_zip ?z_ValueError ?c0_Zp ?c1_Zp ?c2_Zp ?c3_Zp ?c4_Zp ?c5_Zp ?c0_Zq ?c1_Zq ?c0_Zr ?c1_Zr ?c2_Zr ?c3_Zr ?c4_Zr ?c5_Zr ?c0_Zs ?c1_Zs ?c2_Zs ?c3_Zs ?c40_Zs ?c41_Zs ?c42_Zs ?c43_Zs ?c44_Zs ?m1_Zg ?m2_Zg ?m3_Zg ?kga_Zg ?kgt_Zg ?kcl_Zg ?ksg_Zg ?ktk_Zg ?kmo_Zg ?kmb_Zg ?v_Zg ?p_Zg_Zo ?p_Zg_Zk ?p_Zg_Zj ?p_Zg_Zm ?p_Zg_Zn ?p_Zg_Zb ?p_Zg_Zc ?p_Zg_Zg ?p_Zg_Zd ?p_Zg_Ze ?p_Zg_Zf ?p_Zg_Zh ?p_Zg_Zl ?p_Zg_Zi ?m1_Zd ?m2_Zd ?m3_Zd ?kga_Zd ?kgt_Zd ?kcl_Zd ?ksg_Zd ?ktk_Zd ?kmo_Zd ?kmb_Zd ?v_Zd ?p_Zd_Zo ?p_Zd_Zk ?p_Zd_Zj ?p_Zd_Zm ?p_Zd_Zn ?p_Zd_Zb ?p_Zd_Zc ?p_Zd_Zg ?p_Zd_Zd ?p_Zd_Ze ?p_Zd_Zf ?p_Zd_Zh ?p_Zd_Zl ?p_Zd_Zi ?m1_Ze ?m2_Ze ?m3_Ze ?kga_Ze ?kgt_Ze ?kcl_Ze ?ksg_Ze ?ktk_Ze ?kmo_Ze ?kmb_Ze ?v_Ze ?p_Ze_Zo ?p_Ze_Zk ?p_Ze_Zj ?p_Ze_Zm ?p_Ze_Zn ?p_Ze_Zb ?p_Ze_Zc ?p_Ze_Zg ?p_Ze_Zd ?p_Ze_Ze ?p_Ze_Zf ?p_Ze_Zh ?p_Ze_Zl ?p_Ze_Zi ?m1_Zf ?m2_Zf ?m3_Zf ?kga_Zf ?kgt_Zf ?kcl_Zf ?ksg_Zf ?ktk_Zf ?kmo_Zf ?kmb_Zf ?v_Zf ?p_Zf_Zo ?p_Zf_Zk ?p_Zf_Zj ?p_Zf_Zm ?p_Zf_Zn ?p_Zf_Zb ?p_Zf_Zc ?p_Zf_Zg ?p_Zf_Zd ?p_Zf_Ze ?p_Zf_Zf ?p_Zf_Zh ?p_Zf_Zl ?p_Zf_Zi ?m1_Zh ?m2_Zh ?m3_Zh ?kga_Zh ?kgt_Zh ?kcl_Zh ?ksg_Zh ?ktk_Zh ?kmo_Zh ?kmb_Zh ?v_Zh ?p_Zh_Zo ?p_Zh_Zk ?p_Zh_Zj ?p_Zh_Zm ?p_Zh_Zn ?p_Zh_Zb ?p_Zh_Zc ?p_Zh_Zg ?p_Zh_Zd ?p_Zh_Ze ?p_Zh_Zf ?p_Zh_Zh ?p_Zh_Zl ?p_Zh_Zi ?m1_Zl ?m2_Zl ?m3_Zl ?kga_Zl ?kgt_Zl ?kcl_Zl ?ksg_Zl ?ktk_Zl ?kmo_Zl ?kmb_Zl ?v_Zl ?p_Zl_Zo ?p_Zl_Zk ?p_Zl_Zj ?p_Zl_Zm ?p_Zl_Zn ?p_Zl_Zb ?p_Zl_Zc ?p_Zl_Zg ?p_Zl_Zd ?p_Zl_Ze ?p_Zl_Zf ?p_Zl_Zh ?p_Zl_Zl ?p_Zl_Zi ?m1_Zi ?m2_Zi ?m3_Zi ?kga_Zi ?kgt_Zi ?kcl_Zi ?ksg_Zi ?ktk_Zi ?kmo_Zi ?kmb_Zi ?v_Zi ?p_Zi_Zo ?p_Zi_Zk ?p_Zi_Zj ?p_Zi_Zm ?p_Zi_Zn ?p_Zi_Zb ?p_Zi_Zc ?p_Zi_Zg ?p_Zi_Zd ?p_Zi_Ze ?p_Zi_Zf ?p_Zi_Zh ?p_Zi_Zl ?p_Zi_Zi
   (case n_Za => k_is)
   (case n_Zb => k_is)
   (case n_Zc => k_is)
   (case n_Zd => k_is)
   (case n_Ze => k_is)
   (case n_Zf => k_is)
   (case n_Zg => k_is)
   (case n_Zh => k_is)
   (case n_Zi => k_is)
   (case n_Zj => k_is)
   (case n_Zk => k_is)
   (case n_Zl => k_is)
   (case n_Zm => k_is)
   (case n_Zn => k_is)
   (case n_Zo => k_is)
   (case x_Za => k_exc)
   (case x_Zb => k_exc)
   (case x_Zc => k_exc)
   (case x_Zd => k_exc)
   (case x_Ze => k_exc)
   (case x_Zf => k_exc)
   (case x_Zg => k_exc)
   (case x_Zh => k_exc)
   (case x_Zi => k_exc)
   (case x_Zj => k_exc)
   (case x_Zk => k_exc)
   (case x_Zl => k_exc)
   (case x_Zm => k_exc)
   (case x_Zn => k_exc)
   (case x_Zo => k_exc)
   (case z_len => k_is)
   (case z_abs => k_is)
   (case z_range => k_is)
   (case z_isinstance => k_is)
   (case z_int => k_is)
   (case z_bool => k_is)
   (case z_tuple => k_is)
   (case z_list => k_is)
   (case z_sum => k_is)
   (case z_min => k_is)
   (case z_max => k_is)
   (case z_enumerate => k_is)
   (case z_sorted => k_is)
   (case z_zip => k_is)
   (case z_ValueError => k_is)
   (case c0_Zp => k_is)
   (case c1_Zp => k_is)
   (case c2_Zp => rfl)
   (case c3_Zp => rfl)
   (case c4_Zp => decide)
   (case c5_Zp => decide)
   (case c0_Zq => k_is)
   (case c1_Zq => decide +kernel)
   (case c0_Zr => k_is)
   (case c1_Zr => k_is)
   (case c2_Zr => rfl)
   (case c3_Zr => rfl)
   (case c4_Zr => decide)
   (case c5_Zr => decide)
   (case c0_Zs => k_is)
   (case c1_Zs => k_is)
   (case c2_Zs => rfl)
   (case c3_Zs => rfl)
   (case c40_Zs => decide +kernel)
   (case c41_Zs => decide +kernel)
   (case c42_Zs => decide +kernel)
   (case c43_Zs => decide +kernel)
   (case c44_Zs => decide +kernel)
   (case m1_Zg => k_is)
   (case m2_Zg => kit_is)
   (case m3_Zg => decide)
   (case kga_Zg => k_is)
   (case kgt_Zg => k_is)
   (case kcl_Zg => k_is)
   (case ksg_Zg => k_is)
   (case ktk_Zg => k_is)
   (case kmo_Zg => k_is)
   (case kmb_Zg => k_is)
   (case v_Zg => kit_is)
   (case p_Zg_Zo => kit_is)
   (case p_Zg_Zk => kit_is)
   (case p_Zg_Zj => kit_is)
   (case p_Zg_Zm => kit_is)
   (case p_Zg_Zn => kit_is)
   (case p_Zg_Zb => kit_is)
   (case p_Zg_Zc => kit_is)
   (case p_Zg_Zg => kit_is)
   (case p_Zg_Zd => kit_is)
   (case p_Zg_Ze => kit_is)
   (case p_Zg_Zf => kit_is)
   (case p_Zg_Zh => kit_is)
   (case p_Zg_Zl => kit_is)
   (case p_Zg_Zi => kit_is)
   (case m1_Zd => k_is)
   (case m2_Zd => kit_is)
   (case m3_Zd => decide)
   (case kga_Zd => k_is)
   (case kgt_Zd => k_is)
   (case kcl_Zd => k_is)
   (case ksg_Zd => k_is)
   (case ktk_Zd => k_is)
   (case kmo_Zd => k_is)
   (case kmb_Zd => k_is)
   (case v_Zd => kit_is)
   (case p_Zd_Zo => kit_is)
   (case p_Zd_Zk => kit_is)
   (case p_Zd_Zj => kit_is)
   (case p_Zd_Zm => kit_is)
   (case p_Zd_Zn => kit_is)
   (case p_Zd_Zb => kit_is)
   (case p_Zd_Zc => kit_is)
   (case p_Zd_Zg => kit_is)
   (case p_Zd_Zd => kit_is)
   (case p_Zd_Ze => kit_is)
   (case p_Zd_Zf => kit_is)
   (case p_Zd_Zh => kit_is)
   (case p_Zd_Zl => kit_is)
   (case p_Zd_Zi => kit_is)
   (case m1_Ze => k_is)
   (case m2_Ze => kit_is)
   (case m3_Ze => decide)
   (case kga_Ze => k_is)
   (case kgt_Ze => k_is)
   (case kcl_Ze => k_is)
   (case ksg_Ze => k_is)
   (case ktk_Ze => k_is)
   (case kmo_Ze => k_is)
   (case kmb_Ze => k_is)
   (case v_Ze => kit_is)
   (case p_Ze_Zo => kit_is)
   (case p_Ze_Zk => kit_is)
   (case p_Ze_Zj => kit_is)
   (case p_Ze_Zm => kit_is)
   (case p_Ze_Zn => kit_is)
   (case p_Ze_Zb => kit_is)
   (case p_Ze_Zc => kit_is)
   (case p_Ze_Zg => kit_is)
   (case p_Ze_Zd => kit_is)
   (case p_Ze_Ze => kit_is)
   (case p_Ze_Zf => kit_is)
   (case p_Ze_Zh => kit_is)
   (case p_Ze_Zl => kit_is)
   (case p_Ze_Zi => kit_is)
   (case m1_Zf => k_is)
   (case m2_Zf => kit_is)
   (case m3_Zf => decide)
   (case kga_Zf => k_is)
   (case kgt_Zf => k_is)
   (case kcl_Zf => k_is)
   (case ksg_Zf => k_is)
   (case ktk_Zf => k_is)
   (case kmo_Zf => k_is)
   (case kmb_Zf => k_is)
   (case v_Zf => kit_is)
   (case p_Zf_Zo => kit_is)
   (case p_Zf_Zk => kit_is)
   (case p_Zf_Zj => kit_is)
   (case p_Zf_Zm => kit_is)
   (case p_Zf_Zn => kit_is)
   (case p_Zf_Zb => kit_is)
   (case p_Zf_Zc => kit_is)
   (case p_Zf_Zg => kit_is)
   (case p_Zf_Zd => kit_is)
   (case p_Zf_Ze => kit_is)
   (case p_Zf_Zf => kit_is)
   (case p_Zf_Zh => kit_is)
   (case p_Zf_Zl => kit_is)
   (case p_Zf_Zi => kit_is)
   (case m1_Zh => k_is)
   (case m2_Zh => kit_is)
   (case m3_Zh => decide)
   (case kga_Zh => k_is)
   (case kgt_Zh => k_is)
   (case kcl_Zh => k_is)
   (case ksg_Zh => k_is)
   (case ktk_Zh => k_is)
   (case kmo_Zh => k_is)
   (case kmb_Zh => k_is)
   (case v_Zh => kit_is)
   (case p_Zh_Zo => kit_is)
   (case p_Zh_Zk => kit_is)
   (case p_Zh_Zj => kit_is)
   (case p_Zh_Zm => kit_is)
   (case p_Zh_Zn => kit_is)
   (case p_Zh_Zb => kit_is)
   (case p_Zh_Zc => kit_is)
   (case p_Zh_Zg => kit_is)
   (case p_Zh_Zd => kit_is)
   (case p_Zh_Ze => kit_is)
   (case p_Zh_Zf => kit_is)
   (case p_Zh_Zh => kit_is)
   (case p_Zh_Zl => kit_is)
   (case p_Zh_Zi => kit_is)
   (case m1_Zl => k_is)
   (case m2_Zl => kit_is)
   (case m3_Zl => decide)
   (case kga_Zl => k_is)
   (case kgt_Zl => k_is)
   (case kcl_Zl => k_is)
   (case ksg_Zl => k_is)
   (case ktk_Zl => k_is)
   (case kmo_Zl => k_is)
   (case kmb_Zl => k_is)
   (case v_Zl => kit_is)
   (case p_Zl_Zo => kit_is)
   (case p_Zl_Zk => kit_is)
   (case p_Zl_Zj => kit_is)
   (case p_Zl_Zm => kit_is)
   (case p_Zl_Zn => kit_is)
   (case p_Zl_Zb => kit_is)
   (case p_Zl_Zc => kit_is)
   (case p_Zl_Zg => kit_is)
   (case p_Zl_Zd => kit_is)
   (case p_Zl_Ze => kit_is)
   (case p_Zl_Zf => kit_is)
   (case p_Zl_Zh => kit_is)
   (case p_Zl_Zl => kit_is)
   (case p_Zl_Zi => kit_is)
   (case m1_Zi => k_is)
   (case m2_Zi => kit_is)
   (case m3_Zi => decide)
   (case kga_Zi => k_is)
   (case kgt_Zi => k_is)
   (case kcl_Zi => k_is)
   (case ksg_Zi => k_is)
   (case ktk_Zi => k_is)
   (case kmo_Zi => k_is)
   (case kmb_Zi => k_is)
   (case v_Zi => kit_is)
   (case p_Zi_Zo => kit_is)
   (case p_Zi_Zk => kit_is)
   (case p_Zi_Zj => kit_is)
   (case p_Zi_Zm => kit_is)
   (case p_Zi_Zn => kit_is)
   (case p_Zi_Zb => kit_is)
   (case p_Zi_Zc => kit_is)
   (case p_Zi_Zg => kit_is)
   (case p_Zi_Zd => kit_is)
   (case p_Zi_Ze => kit_is)
   (case p_Zi_Zf => kit_is)
   (case p_Zi_Zh => kit_is)
   (case p_Zi_Zl => kit_is)
   (case p_Zi_Zi => kit_is)
  obtain ⟨Ad, En⟩ := En
  obtain ⟨f_l_cell_at, d_l_cell_at, h_l_cell_at⟩ := h_l_cell_at
  obtain ⟨f_l_wholes, d_l_wholes, h_l_wholes⟩ := h_l_wholes
  obtain ⟨f_l_case, d_l_case, h_l_case⟩ := h_l_case
  obtain ⟨f_l_ratio, d_l_ratio, h_l_ratio⟩ := h_l_ratio
  obtain ⟨f_l_wrong_claims, d_l_wrong_claims, h_l_wrong_claims⟩ := h_l_wrong_claims
  obtain ⟨f_l_no_order, d_l_no_order, h_l_no_order⟩ := h_l_no_order
  obtain ⟨f_l_wrong_others, d_l_wrong_others, h_l_wrong_others⟩ := h_l_wrong_others
  obtain ⟨f_l_order, d_l_order, h_l_order⟩ := h_l_order
  obtain ⟨f_l_due, d_l_due, h_l_due⟩ := h_l_due
  obtain ⟨f_less, d_less, h_less⟩ := h_less
  obtain ⟨f_look_at_claims, d_look_at_claims, h_look_at_claims⟩ := h_look_at_claims
  obtain ⟨f_look_at_sharing, d_look_at_sharing, h_look_at_sharing⟩ := h_look_at_sharing
  obtain ⟨f_common_divisor, d_common_divisor, h_common_divisor⟩ := h_common_divisor
  obtain ⟨f_common_bottom, d_common_bottom, h_common_bottom⟩ := h_common_bottom
  obtain ⟨f_tops_over, d_tops_over, h_tops_over⟩ := h_tops_over
  obtain ⟨f_is_whole, d_is_whole, h_is_whole⟩ := h_is_whole
  obtain ⟨f_ratio, d_ratio, h_ratio⟩ := h_ratio
  obtain ⟨f_is_in, d_is_in, h_is_in⟩ := h_is_in
  obtain ⟨f_of_members, d_of_members, h_of_members⟩ := h_of_members
  obtain ⟨f_of_others, d_of_others, h_of_others⟩ := h_of_others
  obtain ⟨f_slack, d_slack, h_slack⟩ := h_slack
  obtain ⟨f_slacks, d_slacks, h_slacks⟩ := h_slacks
  obtain ⟨f_plus, d_plus, h_plus⟩ := h_plus
  obtain ⟨f_total, d_total, h_total⟩ := h_total
  obtain ⟨f_look_at, d_look_at, h_look_at⟩ := h_look_at
  obtain ⟨f_look_at_order, d_look_at_order, h_look_at_order⟩ := h_look_at_order
  obtain ⟨f_lesser_of, d_lesser_of, h_lesser_of⟩ := h_lesser_of
  obtain ⟨f_minus, d_minus, h_minus⟩ := h_minus
  obtain ⟨f_taken, d_taken, h_taken⟩ := h_taken
  obtain ⟨f_number_of_orders, d_number_of_orders, h_number_of_orders⟩ := h_number_of_orders
  obtain ⟨f_groups_of, d_groups_of, h_groups_of⟩ := h_groups_of
  obtain ⟨f_taken_in_all_orders, d_taken_in_all_orders, h_taken_in_all_orders⟩ := h_taken_in_all_orders
  obtain ⟨f_all_but, d_all_but, h_all_but⟩ := h_all_but
  obtain ⟨f_by_turns, d_by_turns, h_by_turns⟩ := h_by_turns
  obtain ⟨f_look_at_rule, d_look_at_rule, h_look_at_rule⟩ := h_look_at_rule
  obtain ⟨f_over, d_over, h_over⟩ := h_over
  obtain ⟨f_times, d_times, h_times⟩ := h_times
  obtain ⟨f_in_shares, d_in_shares, h_in_shares⟩ := h_in_shares
  obtain ⟨f_gain_level, d_gain_level, h_gain_level⟩ := h_gain_level
  obtain ⟨f_by_gains, d_by_gains, h_by_gains⟩ := h_by_gains
  obtain ⟨f_lack, d_lack, h_lack⟩ := h_lack
  obtain ⟨f_loss_level, d_loss_level, h_loss_level⟩ := h_loss_level
  obtain ⟨f_claims_less, d_claims_less, h_claims_less⟩ := h_claims_less
  obtain ⟨f_by_losses, d_by_losses, h_by_losses⟩ := h_by_losses
  obtain ⟨f_by_halves, d_by_halves, h_by_halves⟩ := h_by_halves
  obtain ⟨f_shared, d_shared, h_shared⟩ := h_shared
  obtain ⟨f_of_two, d_of_two, h_of_two⟩ := h_of_two
  obtain ⟨f_turned, d_turned, h_turned⟩ := h_turned
  obtain ⟨f_cut_claims, d_cut_claims, h_cut_claims⟩ := h_cut_claims
  obtain ⟨f_left_over, d_left_over, h_left_over⟩ := h_left_over
  obtain ⟨f_least_rights, d_least_rights, h_least_rights⟩ := h_least_rights
  obtain ⟨f_look_at_group, d_look_at_group, h_look_at_group⟩ := h_look_at_group
  obtain ⟨f_worth, d_worth, h_worth⟩ := h_worth
  obtain ⟨f_added, d_added, h_added⟩ := h_added
  obtain ⟨f_l_ask, d_l_ask, h_l_ask⟩ := h_l_ask
  obtain ⟨f_l_kinds, d_l_kinds, h_l_kinds⟩ := h_l_kinds
  obtain ⟨f_l_told, d_l_told, h_l_told⟩ := h_l_told
  obtain ⟨f_l_good, d_l_good, h_l_good⟩ := h_l_good
  obtain ⟨f_law, d_law, h_law⟩ := h_law
  have e0 := hmg.symm.trans h_law.at_
  cases e0
  refine ⟨d_law, fun s u => ?_, fun base _ _ => ?_⟩
  ·exact .of_eq (h_law.bd [u] rfl)
  ·have g_l_cell_at := My.cal_l_cell_at (P := PySem.Challenge.rw_leanestate_k48_all_refuse_in_order.prog) (w := w) (base := base) h_l_cell_at En
   have g_l_wholes := My.cal_l_wholes (P := PySem.Challenge.rw_leanestate_k48_all_refuse_in_order.prog) (w := w) (base := base) h_l_wholes En g_l_cell_at
   have g_l_case := My.cal_l_case (P := PySem.Challenge.rw_leanestate_k48_all_refuse_in_order.prog) (w := w) (base := base) h_l_case En g_l_wholes g_l_cell_at
   have g_l_ratio := My.cal_l_ratio (P := PySem.Challenge.rw_leanestate_k48_all_refuse_in_order.prog) (w := w) (base := base) h_l_ratio En
   have g_l_wrong_claims := My.cal_l_wrong_claims (P := PySem.Challenge.rw_leanestate_k48_all_refuse_in_order.prog) (w := w) (base := base) h_l_wrong_claims En g_l_ratio
   have g_l_no_order := My.cal_l_no_order (P := PySem.Challenge.rw_leanestate_k48_all_refuse_in_order.prog) (w := w) (base := base) h_l_no_order En
   have g_l_wrong_others := My.cal_l_wrong_others (P := PySem.Challenge.rw_leanestate_k48_all_refuse_in_order.prog) (w := w) (base := base) h_l_wrong_others En g_l_no_order g_l_ratio
   have g_l_order := My.cal_l_order (P := PySem.Challenge.rw_leanestate_k48_all_refuse_in_order.prog) (w := w) (base := base) h_l_order En
   have g_l_due := My.cal_l_due (P := PySem.Challenge.rw_leanestate_k48_all_refuse_in_order.prog) (w := w) (base := base) h_l_due En
   have g_less := My.cal_less (P := PySem.Challenge.rw_leanestate_k48_all_refuse_in_order.prog) (w := w) (base := base) h_less En
   have g_look_at_claims := My.cal_look_at_claims (P := PySem.Challenge.rw_leanestate_k48_all_refuse_in_order.prog) (w := w) (base := base) h_look_at_claims En g_less
   have g_look_at_sharing := My.cal_look_at_sharing (P := PySem.Challenge.rw_leanestate_k48_all_refuse_in_order.prog) (w := w) (base := base) h_look_at_sharing En g_look_at_claims g_less
   have g_common_divisor := My.cal_common_divisor (P := PySem.Challenge.rw_leanestate_k48_all_refuse_in_order.prog) (w := w) (base := base) h_common_divisor En
   have g_common_bottom := My.cal_common_bottom (P := PySem.Challenge.rw_leanestate_k48_all_refuse_in_order.prog) (w := w) (base := base) h_common_bottom En g_common_divisor
   have g_tops_over := My.cal_tops_over (P := PySem.Challenge.rw_leanestate_k48_all_refuse_in_order.prog) (w := w) (base := base) h_tops_over En
   have g_is_whole := My.cal_is_whole (P := PySem.Challenge.rw_leanestate_k48_all_refuse_in_order.prog) (w := w) (base := base) h_is_whole En
   have g_ratio := My.cal_ratio (P := PySem.Challenge.rw_leanestate_k48_all_refuse_in_order.prog) (w := w) (base := base) h_ratio En g_common_divisor g_is_whole
   have g_is_in := My.cal_is_in (P := PySem.Challenge.rw_leanestate_k48_all_refuse_in_order.prog) (w := w) (base := base) h_is_in En
   have g_of_members := My.cal_of_members (P := PySem.Challenge.rw_leanestate_k48_all_refuse_in_order.prog) (w := w) (base := base) h_of_members En g_is_in
   have g_of_others := My.cal_of_others (P := PySem.Challenge.rw_leanestate_k48_all_refuse_in_order.prog) (w := w) (base := base) h_of_others En g_is_in
   have g_slack := My.cal_slack (P := PySem.Challenge.rw_leanestate_k48_all_refuse_in_order.prog) (w := w) (base := base) h_slack En g_of_members g_of_others
   have g_slacks := My.cal_slacks (P := PySem.Challenge.rw_leanestate_k48_all_refuse_in_order.prog) (w := w) (base := base) h_slacks En g_look_at_sharing g_common_bottom g_tops_over g_ratio g_slack
   have g_plus := My.cal_plus (P := PySem.Challenge.rw_leanestate_k48_all_refuse_in_order.prog) (w := w) (base := base) h_plus En g_ratio
   have g_total := My.cal_total (P := PySem.Challenge.rw_leanestate_k48_all_refuse_in_order.prog) (w := w) (base := base) h_total En g_plus
   have g_look_at := My.cal_look_at (P := PySem.Challenge.rw_leanestate_k48_all_refuse_in_order.prog) (w := w) (base := base) h_look_at En g_look_at_claims g_less g_total
   have g_look_at_order := My.cal_look_at_order (P := PySem.Challenge.rw_leanestate_k48_all_refuse_in_order.prog) (w := w) (base := base) h_look_at_order En
   have g_lesser_of := My.cal_lesser_of (P := PySem.Challenge.rw_leanestate_k48_all_refuse_in_order.prog) (w := w) (base := base) h_lesser_of En g_less
   have g_minus := My.cal_minus (P := PySem.Challenge.rw_leanestate_k48_all_refuse_in_order.prog) (w := w) (base := base) h_minus En g_ratio
   have g_taken := My.cal_taken (P := PySem.Challenge.rw_leanestate_k48_all_refuse_in_order.prog) (w := w) (base := base) h_taken En g_look_at g_look_at_order g_lesser_of g_minus
   have g_number_of_orders := My.cal_number_of_orders (P := PySem.Challenge.rw_leanestate_k48_all_refuse_in_order.prog) (w := w) (base := base) h_number_of_orders En
   have g_groups_of := My.cal_groups_of (P := PySem.Challenge.rw_leanestate_k48_all_refuse_in_order.prog) (w := w) (base := base) h_groups_of En
   have g_taken_in_all_orders := My.cal_taken_in_all_orders (P := PySem.Challenge.rw_leanestate_k48_all_refuse_in_order.prog) (w := w) (base := base) h_taken_in_all_orders En g_number_of_orders g_groups_of
   have g_all_but := My.cal_all_but (P := PySem.Challenge.rw_leanestate_k48_all_refuse_in_order.prog) (w := w) (base := base) h_all_but En
   have g_by_turns := My.cal_by_turns (P := PySem.Challenge.rw_leanestate_k48_all_refuse_in_order.prog) (w := w) (base := base) h_by_turns En g_look_at g_common_bottom g_tops_over g_number_of_orders g_ratio g_taken_in_all_orders g_all_but
   have g_look_at_rule := My.cal_look_at_rule (P := PySem.Challenge.rw_leanestate_k48_all_refuse_in_order.prog) (w := w) (base := base) h_look_at_rule En
   have g_over := My.cal_over (P := PySem.Challenge.rw_leanestate_k48_all_refuse_in_order.prog) (w := w) (base := base) h_over En g_ratio
   have g_times := My.cal_times (P := PySem.Challenge.rw_leanestate_k48_all_refuse_in_order.prog) (w := w) (base := base) h_times En g_ratio
   have g_in_shares := My.cal_in_shares (P := PySem.Challenge.rw_leanestate_k48_all_refuse_in_order.prog) (w := w) (base := base) h_in_shares En g_look_at g_total g_over g_times
   have g_gain_level := My.cal_gain_level (P := PySem.Challenge.rw_leanestate_k48_all_refuse_in_order.prog) (w := w) (base := base) h_gain_level En g_look_at g_common_bottom g_tops_over g_ratio
   have g_by_gains := My.cal_by_gains (P := PySem.Challenge.rw_leanestate_k48_all_refuse_in_order.prog) (w := w) (base := base) h_by_gains En g_gain_level g_lesser_of
   have g_lack := My.cal_lack (P := PySem.Challenge.rw_leanestate_k48_all_refuse_in_order.prog) (w := w) (base := base) h_lack En g_look_at g_minus g_total
   have g_loss_level := My.cal_loss_level (P := PySem.Challenge.rw_leanestate_k48_all_refuse_in_order.prog) (w := w) (base := base) h_loss_level En g_gain_level g_lack
   have g_claims_less := My.cal_claims_less (P := PySem.Challenge.rw_leanestate_k48_all_refuse_in_order.prog) (w := w) (base := base) h_claims_less En g_minus
   have g_by_losses := My.cal_by_losses (P := PySem.Challenge.rw_leanestate_k48_all_refuse_in_order.prog) (w := w) (base := base) h_by_losses En g_loss_level g_claims_less g_lesser_of
   have g_by_halves := My.cal_by_halves (P := PySem.Challenge.rw_leanestate_k48_all_refuse_in_order.prog) (w := w) (base := base) h_by_halves En g_lack g_claims_less g_times g_less g_by_gains
   have g_shared := My.cal_shared (P := PySem.Challenge.rw_leanestate_k48_all_refuse_in_order.prog) (w := w) (base := base) h_shared En g_look_at_rule g_by_turns g_in_shares g_by_gains g_by_losses g_by_halves
   have g_of_two := My.cal_of_two (P := PySem.Challenge.rw_leanestate_k48_all_refuse_in_order.prog) (w := w) (base := base) h_of_two En g_shared
   have g_turned := My.cal_turned (P := PySem.Challenge.rw_leanestate_k48_all_refuse_in_order.prog) (w := w) (base := base) h_turned En g_look_at_rule g_claims_less g_shared g_lack
   have g_cut_claims := My.cal_cut_claims (P := PySem.Challenge.rw_leanestate_k48_all_refuse_in_order.prog) (w := w) (base := base) h_cut_claims En g_look_at g_lesser_of
   have g_left_over := My.cal_left_over (P := PySem.Challenge.rw_leanestate_k48_all_refuse_in_order.prog) (w := w) (base := base) h_left_over En g_minus g_total g_less
   have g_least_rights := My.cal_least_rights (P := PySem.Challenge.rw_leanestate_k48_all_refuse_in_order.prog) (w := w) (base := base) h_least_rights En g_look_at g_left_over g_all_but
   have g_look_at_group := My.cal_look_at_group (P := PySem.Challenge.rw_leanestate_k48_all_refuse_in_order.prog) (w := w) (base := base) h_look_at_group En
   have g_worth := My.cal_worth (P := PySem.Challenge.rw_leanestate_k48_all_refuse_in_order.prog) (w := w) (base := base) h_worth En g_look_at g_look_at_group g_left_over g_of_others
   have g_added := My.cal_added (P := PySem.Challenge.rw_leanestate_k48_all_refuse_in_order.prog) (w := w) (base := base) h_added En g_look_at g_look_at_order g_left_over g_minus g_of_others
   have g_l_ask := My.cal_l_ask (P := PySem.Challenge.rw_leanestate_k48_all_refuse_in_order.prog) (w := w) (base := base) h_l_ask En g_slacks g_taken g_by_turns g_of_two g_turned g_cut_claims g_least_rights g_worth g_added
   have g_l_kinds := My.cal_l_kinds (P := PySem.Challenge.rw_leanestate_k48_all_refuse_in_order.prog) (w := w) (base := base) h_l_kinds En
   have g_l_told := My.cal_l_told (P := PySem.Challenge.rw_leanestate_k48_all_refuse_in_order.prog) (w := w) (base := base) h_l_told En g_l_ask g_l_kinds
   have g_l_good := My.cal_l_good (P := PySem.Challenge.rw_leanestate_k48_all_refuse_in_order.prog) (w := w) (base := base) h_l_good En g_l_told
   have g_law := My.cal_law (P := PySem.Challenge.rw_leanestate_k48_all_refuse_in_order.prog) (w := w) (base := base) h_law En g_l_case g_l_ratio g_l_cell_at g_l_wrong_claims g_l_wrong_others g_l_order g_l_due g_l_good g_l_told
   exact g_law
