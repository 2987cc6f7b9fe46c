import PyProof.Rows.All
import Wide.All
import OpenK.AllK
import Wide.FinOn
import Lean
import PyProof.EqAt
import PyProof.EqKinds
import PyProof.NeKinds
import PyProof.TupleCall
import PySem.Challenge.RW_leanestate_k37_no_path
set_option Elab.async false
set_option linter.all false
set_option maxRecDepth 100000
set_option genSizeOf false
set_option genSizeOfSpec false
namespace L2
open PySem PySem.Spec PyProof.Rows

noncomputable abbrev Key := Sum Int Str
noncomputable def keyIs : Key → Value → Bool
  | .inl k, v => Value.isInt k v
  | .inr x, v => Value.isStrOf x v
noncomputable def keyH (w : World) : Key → Int
  | .inl k => hashInt k
  | .inr x => hashStr w x
theorem keyIs_shape : ∀ {k : Key} {v : Value}, keyIs k v = true → (∃ i t, k = Sum.inl i ∧ v = Value.int i t) ∨ (∃ x t, k = Sum.inr x ∧ v = Value.str x t)
  | .inl i, v, h => by
    obtain ⟨t, e⟩ := Value.isInt_shape (k := i) (v := v) h
    exact .inl ⟨i, t, rfl, e⟩
  | .inr x, v, h => by
    obtain ⟨t, e⟩ := Value.isStrOf_shape (x := x) (v := v) h
    exact .inr ⟨x, t, rfl, e⟩
theorem key_ll (a b : Int) : decide ((Sum.inl a : Key) = Sum.inl b) = (a == b) := by
  by_cases e : a = b
  · subst e; simp
  · have h : ¬ (Sum.inl a : Key) = Sum.inl b := fun q => e (Sum.inl.inj q)
    rw [decide_eq_false h]
    exact (beq_eq_false_iff_ne.mpr e).symm
theorem key_rr (a b : Str) : decide ((Sum.inr a : Key) = Sum.inr b) = decide (a = b) := by
  by_cases e : a = b
  · subst e; simp
  · have h : ¬ (Sum.inr a : Key) = Sum.inr b := fun q => e (Sum.inr.inj q)
    rw [decide_eq_false h, decide_eq_false e]
theorem key_lr (a : Int) (b : Str) : decide ((Sum.inl a : Key) = Sum.inr b) = false := decide_eq_false (fun q => nomatch q)
theorem key_rl (a : Str) (b : Int) : decide ((Sum.inr a : Key) = Sum.inl b) = false := decide_eq_false (fun q => nomatch q)

noncomputable def mixKind (prog : Program) (w : World) : PySem.KeyKind prog w Key where
  is := keyIs
  hash := keyH w
  inj := fun v a b ha hb => by
    rcases keyIs_shape ha with ⟨i, t, rfl, rfl⟩ | ⟨x, t, rfl, rfl⟩
    · rcases keyIs_shape hb with ⟨j, u, rfl, e⟩ | ⟨y, u, rfl, e⟩
      · injection e with e1 _; rw [e1]
      · exact nomatch e
    · rcases keyIs_shape hb with ⟨j, u, rfl, e⟩ | ⟨y, u, rfl, e⟩
      · exact nomatch e
      · injection e with e1 _; rw [e1]
  byValue := fun k v h => by
    rcases keyIs_shape h with ⟨i, t, rfl, rfl⟩ | ⟨x, t, rfl, rfl⟩ <;> rfl
  pyHash := fun hv h => by
    rcases keyIs_shape hv with ⟨i, t, rfl, rfl⟩ | ⟨x, t, rfl, rfl⟩
    · exact wpAny_pyHash_int h
    · exact wpAny_pyHash_str h
  eqBool := fun hu hv h => by
    rcases keyIs_shape hu with ⟨i, t, rfl, rfl⟩ | ⟨x, t, rfl, rfl⟩
    · rcases keyIs_shape hv with ⟨j, u, rfl, rfl⟩ | ⟨y, u, rfl, rfl⟩
      · rw [key_ll] at h; exact wpAny_eqBool_int h
      · rw [key_lr] at h; exact SeqAt.EqAt.int_str i t y u _ _ _ _ h
    · rcases keyIs_shape hv with ⟨j, u, rfl, rfl⟩ | ⟨y, u, rfl, rfl⟩
      · rw [key_rl] at h; exact SeqAt.EqAt.str_int x t j u _ _ _ _ h
      · rw [key_rr] at h; exact wpAny_eqBool_str h
  «strs» := fun k x t v h => by
    rcases keyIs_shape h with ⟨i, u, rfl, e⟩ | ⟨y, u, rfl, e⟩
    · exact nomatch e
    · injection e with e1 _
      subst e1
      cases v <;> rfl

end L2

namespace L2
open PySem PySem.Spec PyProof.Rows

inductive V where
  | non | bl (b : Bool) | int (i : Int) | str (x : Str) | byt (b : Array UInt8) | flt (b : UInt64) | ref (a : Addr) | ty (n : String)
  deriving DecidableEq

noncomputable def RelV : V → Value → Prop
  | .non, u => u = Value.none
  | .bl b, u => u = Value.bool b
  | .int i, u => ∃ t, u = Value.int i t
  | .str x, u => ∃ t, u = Value.str x t
  | .byt b, u => ∃ t, u = Value.bytes b t
  | .flt b, u => ∃ t, u = Value.float b t
  | .ref a, u => u = Value.ref a
  | .ty n, u => u = Value.type n

noncomputable abbrev Vals : List V → List Value → Prop := Paired RelV
theorem Vals.length {xs : List V} {us : List Value} (r : Vals xs us) : xs.length = us.length := Paired.length r
theorem Vals.get : ∀ {xs : List V} {us : List Value} {i : Nat} {x : V}, Vals xs us → xs[i]? = some x → ∃ u, us[i]? = some u ∧ RelV x u
  | _, _, _, _, .nil, e => by simp at e
  | _, _, 0, _, .cons r _, e => by simp at e; subst e; exact ⟨_, rfl, r⟩
  | _, _, i + 1, x, .cons _ t, e => by
    obtain ⟨u, h1, h2⟩ := Vals.get (i := i) (x := x) t (by simpa using e)
    exact ⟨u, by simpa using h1, h2⟩
theorem Vals.set {x : V} {u : Value} (r : RelV x u) : ∀ {xs : List V} {us : List Value} (i : Nat), Vals xs us → Vals (xs.set i x) (us.set i u)
  | _, _, _, .nil => .nil
  | _, _, 0, .cons _ t => .cons r t
  | _, _, i + 1, .cons q t => .cons q (Vals.set r i t)
theorem Vals.append : ∀ {xs ys : List V} {us ws : List Value}, Vals xs us → Vals ys ws → Vals (xs ++ ys) (us ++ ws)
  | _, _, _, _, .nil, s => s
  | _, _, _, _, .cons r t, s => .cons r (Vals.append t s)
theorem Vals.take : ∀ {xs : List V} {us : List Value} (n : Nat), Vals xs us → Vals (xs.take n) (us.take n)
  | _, _, 0, _ => .nil
  | _, _, _ + 1, .nil => .nil
  | _, _, n + 1, .cons r t => .cons r (Vals.take n t)
theorem Vals.drop : ∀ {xs : List V} {us : List Value} (n : Nat), Vals xs us → Vals (xs.drop n) (us.drop n)
  | _, _, 0, r => r
  | _, _, _ + 1, .nil => .nil
  | _, _, n + 1, .cons _ t => Vals.drop n t
noncomputable def RelO : Option V → Option Value → Prop
  | some v, some u => RelV v u
  | none, none => True
  | _, _ => False
noncomputable def KV {κ : Type} : List (κ × V) → List (κ × Value) → Prop := Paired fun (p : κ × V) (q : κ × Value) => p.1 = q.1 ∧ RelV p.2 q.2

noncomputable def kV : Key → V
  | .inl i => .int i
  | .inr x => .str x

inductive HO where
  /-- a list -/
  | lst (xs : List V)
  /-- a tuple (never changes) -/
  | tup (xs : List V)
  /-- a dict whose keys are ints and texts; one whose keys are tuples of ints and texts (the empty one is both) -/
  | dK (kvs : List (Key × V)) | dT (kvs : List (List Key × V))
  /-- a set of ints: its members, its size -/
  | set (S : Int → Bool) (n : Nat)
  /-- an instance of the class at C, its dict at dx, its attributes -/
  | ins (C dx : Addr) (fs : List (Str × V))
  /-- the dict of the instance at x -/
  | own (x : Addr)
  /-- the dict of an exception -/
  | xd (fs : List (Str × V))
  /-- a bound method, f of x -/
  | met (f x : Addr)
  /-- a range object lo, lo + 1, .. below hi -/
  | rng (lo hi : Int)
  /-- a thing that is known to the object (the script; a dict while a loop walks it): read, never written while it is so -/
  | frz (o : Obj) (u : HO)
  /-- a code object's table -/
  | tbl (ps : Array Value)
  /-- any other thing, by what is true of its one object (a def of one's own: SetO a S n := HO.ext fun h => ..) -/
  | ext (φ : Heap → Prop)

noncomputable abbrev Hp := Addr → Option HO
noncomputable def upd (H : Hp) (a : Addr) (o : HO) : Hp := fun b => if b = a then some o else H b
theorem upd_same {H : Hp} {a : Addr} {o : HO} : upd H a o a = some o := by unfold upd; rw [if_pos rfl]
theorem upd_ne {H : Hp} {a b : Addr} {o : HO} (h : b ≠ a) : upd H a o b = H b := by unfold upd; rw [if_neg h]
theorem ne_of {H : Hp} {a b : Addr} {o u : HO} (h : H a = some o) (h' : H b = some u) (d : o ≠ u) : a ≠ b := by
  intro e; subst e; rw [h] at h'; exact d (Option.some.inj h')
theorem ne_of_none {H : Hp} {a b : Addr} {o : HO} (h : H a = some o) (h' : H b = none) : a ≠ b := by
  intro e; subst e; rw [h] at h'; cases h'

section
variable (P : Program) (w : World)
noncomputable def ObjOk (H : Hp) (h : Heap) (a : Addr) : HO → Prop
  | .lst xs => xs.length ≤ sizeLine ∧ ∃ (its : List Value) (n : Nat), Vals xs its ∧ h.get? a = some { cls := .type "list", data := .seq its.toArray n }
  | .tup xs => xs.length ≤ sizeLine ∧ ∃ its : List Value, Vals xs its ∧ IsTup h a its.toArray
  | .dK kvs => kvs.length ≤ sizeLine ∧ (a == sysModules) = false ∧ ∃ vs, KV kvs vs ∧ h.DictOf (mixKind P w) a vs
  | .dT kvs => kvs.length ≤ sizeLine ∧ (a == sysModules) = false ∧ ∃ xs : List (List Key × Addr × Value),
      Paired (fun (p : List Key × V) (q : List Key × Addr × Value) => p.1 = q.1 ∧ H q.2.1 = some (.tup (p.1.map kV)) ∧ RelV p.2 q.2.2) kvs xs ∧
      ∃ o es ep, h.get? a = some o ∧ o.ExactDict ∧ o.data = .dict es ep ∧ es.toList = xs.map (entryOfKey (tupleKind (mixKind P w))) ∧ (xs.map (·.1)).Nodup
  | .set S n => h.SetOf (intKind P w) a S n
  | .ins C dx fs => H dx = some (.own a) ∧ fs.length ≤ 1000 ∧ dx ≠ a ∧ h.get? a = some (PySem.W.instObj C dx) ∧
      ∃ mA, h.Ns1 dx mA ∧ (∀ f, RelO (fs.lookup f) (mA f)) ∧ PySem.Within mA (fs.map (·.1))
  | .own _ => ∃ o, h.get? a = some o
  | .xd fs => ∃ mA, h.Ns1 a mA ∧ ∀ f, RelO (fs.lookup f) (mA f)
  | .rng lo hi => ∃ t u v, h.get? a = some { cls := .type "range", data := .fields #[.int lo t, .int hi u, .int 1 v] }
  | .frz o u => h.get? a = some o ∧ ObjOk H h a u
  | .tbl ps => h.get? a = some { cls := .none, data := .fields ps }
  | .met f x => h.get? a = some (PySem.W.methodObj (.ref f) (.ref x))
  | .ext φ => φ h ∧ (∃ o, h.get? a = some o) ∧ ∀ h1 h2 : Heap, φ h1 → (∀ o, h1.get? a = some o → h2.get? a = some o) → φ h2
noncomputable def HOk (H : Hp) (h : Heap) : Prop := ∀ a o, H a = some o → ObjOk P w H h a o
end

section
variable {P : Program} {w : World} {H H' : Hp} {h h' : Heap} {a : Addr} {o : HO}
theorem ObjOk.lt (x : ObjOk P w H h a o) : a < h.objs.size := by
  cases o with
  | lst xs => obtain ⟨_, _, _, _, e⟩ := x; exact Heap.lt_size e
  | tup xs => obtain ⟨_, _, _, p⟩ := x; exact p.lt
  | dK kvs => obtain ⟨_, _, _, _, o, _, _, e, _⟩ := x; exact Heap.lt_size e
  | dT kvs => obtain ⟨_, _, _, _, o, _, _, e, _⟩ := x; exact Heap.lt_size e
  | set S n => obtain ⟨o, _, _, _, e, _⟩ := x; exact Heap.lt_size e
  | ins C dx fs => obtain ⟨_, _, _, e, _⟩ := x; exact Heap.lt_size e
  | own y => obtain ⟨_, e⟩ := x; exact Heap.lt_size e
  | xd fs => obtain ⟨_, ⟨_, _, _, e, _⟩, _⟩ := x; exact Heap.lt_size e
  | rng lo hi => obtain ⟨_, _, _, e⟩ := x; exact Heap.lt_size e
  | frz ob u => obtain ⟨e, _⟩ := x; exact Heap.lt_size e
  | tbl ps => exact Heap.lt_size (show h.get? a = some _ from x)
  | met f y => exact Heap.lt_size (show h.get? a = some _ from x)
  | ext φ => obtain ⟨_, ⟨_, e⟩, _⟩ := x; exact Heap.lt_size e
theorem Paired.mapP {α β : Type} {F G : α → β → Prop} : ∀ {l₁ : List α} {l₂ : List β}, Paired F l₁ l₂ → (∀ a b, F a b → G a b) → Paired G l₁ l₂
  | _, _, .nil, _ => .nil
  | _, _, .cons r t, f => .cons (f _ _ r) (Paired.mapP t f)
theorem ObjOk.stay (x : ObjOk P w H h a o) (k : ∀ b u, (b = a ∨ H b = some (.own a)) → h.get? b = some u → h'.get? b = some u)
    (ho : ∀ b, H b = some (.own a) → H' b = some (.own a)) (ht : ∀ b xs, H b = some (.tup xs) → H' b = some (.tup xs)) : ObjOk P w H' h' a o := by
  induction o with
  | lst xs => obtain ⟨z, its, n, r, e⟩ := x; exact ⟨z, its, n, r, k _ _ (.inl rfl) e⟩
  | tup xs => obtain ⟨z, its, r, ob, e, c⟩ := x; exact ⟨z, its, r, ob, k _ _ (.inl rfl) e, c⟩
  | dK kvs => obtain ⟨z, y, vs, r, ob, es, ep, e, c⟩ := x; exact ⟨z, y, vs, r, ob, es, ep, k _ _ (.inl rfl) e, c⟩
  | dT kvs =>
    obtain ⟨z, y, xs, r, ob, es, ep, e, c⟩ := x
    exact ⟨z, y, xs, Paired.mapP r fun p q z => ⟨z.1, ht _ _ z.2.1, z.2.2⟩, ob, es, ep, k _ _ (.inl rfl) e, c⟩
  | set S n => obtain ⟨ob, es, ep, t, e, c⟩ := x; exact ⟨ob, es, ep, t, k _ _ (.inl rfl) e, c⟩
  | ins C dx fs =>
    obtain ⟨d, z, ne, e, mA, ⟨od, es, ep, e2, c⟩, r⟩ := x
    exact ⟨ho _ d, z, ne, k _ _ (.inl rfl) e, mA, ⟨od, es, ep, k _ _ (.inr d) e2, c⟩, r⟩
  | own y => obtain ⟨ob, e⟩ := x; exact ⟨ob, k _ _ (.inl rfl) e⟩
  | xd fs => obtain ⟨mA, ⟨od, es, ep, e, c⟩, r⟩ := x; exact ⟨mA, ⟨od, es, ep, k _ _ (.inl rfl) e, c⟩, r⟩
  | rng lo hi => obtain ⟨t, u, v, e⟩ := x; exact ⟨t, u, v, k _ _ (.inl rfl) e⟩
  | frz ob u ih => obtain ⟨e, q⟩ := x; exact ⟨k _ _ (.inl rfl) e, ih q⟩
  | tbl ps =>
    have e : h.get? a = some { cls := .none, data := .fields ps } := x
    show h'.get? a = some { cls := .none, data := .fields ps }
    exact k a _ (.inl rfl) e
  | met f y =>
    have e : h.get? a = some (PySem.W.methodObj (.ref f) (.ref y)) := x
    show h'.get? a = some (PySem.W.methodObj (.ref f) (.ref y))
    exact k a _ (.inl rfl) e
  | ext φ => obtain ⟨p, ⟨o, e⟩, st⟩ := x; exact ⟨st _ _ p fun o q => k _ _ (.inl rfl) q, ⟨o, k _ _ (.inl rfl) e⟩, st⟩
theorem HOk.lt (x : HOk P w H h) (e : H a = some o) : a < h.objs.size := (x a o e).lt
theorem HOk.fresh (x : HOk P w H h) (e : h.objs.size ≤ a) : H a = none := by
  cases q : H a with
  | none => rfl
  | some u => exact absurd (Nat.lt_of_lt_of_le (x.lt q) e) (Nat.lt_irrefl _)
theorem HOk.kept (x : HOk P w H h) (k : ∀ b u, h.get? b = some u → h'.get? b = some u) : HOk P w H h' := fun a o e =>
  (x a o e).stay (fun b u _ q => k b u q) (fun _ q => q) fun _ _ q => q
theorem HOk.laid (x : HOk P w H h) (k : ∀ b u, h.get? b = some u → h'.get? b = some u) (hp : h.objs.size ≤ a) (new : ObjOk P w (upd H a o) h' a o) : HOk P w (upd H a o) h' := fun b u e => by
  have hn := x.fresh hp
  by_cases hb : b = a
  · subst hb; rw [upd_same] at e; cases e; exact new
  · rw [upd_ne hb] at e
    exact (x b u e).stay (fun c v _ q => k c v q) (fun c q => by rw [upd_ne (ne_of_none q hn)]; exact q) fun c xs q => by rw [upd_ne (ne_of_none q hn)]; exact q
end

noncomputable def Rd (H : Hp) (a : Addr) (u : HO) : Prop := H a = some u ∨ ∃ o, H a = some (.frz o u)
theorem Rd.ok {P : Program} {w : World} {H : Hp} {h : Heap} {a : Addr} {u : HO} (r : Rd H a u) (x : HOk P w H h) : ObjOk P w H h a u := by
  rcases r with r | ⟨o, r⟩
  · exact x a u r
  · obtain ⟨_, q⟩ := x a _ r
    exact q
noncomputable def Mut : Option HO → Prop
  | some (.lst _) => True
  | some (.dK _) => True
  | some (.dT _) => True
  | some (.set _ _) => True
  | some (.ins _ _ _) => True
  | some (.ext _) => True
  | _ => False
section
variable {P : Program} {w : World} {H : Hp} {h h' : Heap} {x e : Addr} {o' : HO}
theorem HOk.write (ok : HOk P w H h) (mu : Mut (H x)) (he : e = x ∨ H e = some (.own x)) (k : ∀ b u, b ≠ e → h.get? b = some u → h'.get? b = some u) (heo : ∃ u, h'.get? e = some u)
    (new : ObjOk P w (upd H x o') h' x o') : HOk P w (upd H x o') h' := fun b u q => by
  have nown : ∀ c y, H c = some (.own y) → c ≠ x := fun c y r z => by subst z; rw [r] at mu; exact mu
  have ntup : ∀ c xs, H c = some (.tup xs) → c ≠ x := fun c xs r z => by subst z; rw [r] at mu; exact mu
  by_cases hb : b = x
  · subst hb; rw [upd_same] at q; cases q; exact new
  · rw [upd_ne hb] at q
    by_cases hbe : b = e
    · have q' : H b = some (.own x) := by
        rcases he with z | z
        · exact absurd (hbe.trans z) hb
        · rw [hbe]; exact z
      rw [q] at q'; cases q'
      obtain ⟨v, hv⟩ := heo
      exact ⟨v, by rw [hbe]; exact hv⟩
    · refine (ok b u q).stay (fun c v hc r => k c v ?_ r) (fun c r => by rw [upd_ne (nown c b r)]; exact r) fun c xs r => by rw [upd_ne (ntup c xs r)]; exact r
      rcases hc with rfl | hc
      · exact hbe
      · rintro rfl
        rcases he with z | z
        · exact nown c b hc z
        · rw [hc] at z; cases z; exact hb rfl
end

set_option genInjectivity false in
structure Un (fs ex : List Addr) (H H' : Hp) (h h' : Heap) : Prop where
  keep : ∀ b o, h.get? b = some o → H b = none → b ∉ fs → b ∉ ex → h'.get? b = some o
  slot : ∀ b o, h.get? b = some o → H b = none → b ∈ fs → b ∉ ex → ∃ sl, h'.get? b = some { o with slots := sl }
  free : ∀ b o, h.get? b = some o → H b = none → b ∉ ex → H' b = none
  there : ∀ b o, h.get? b = some o → b ∉ ex → ∃ o', h'.get? b = some o'
  tups : ∀ b xs, H b = some (.tup xs) → H' b = some (.tup xs)
  frzs : ∀ b o u, H b = some (.frz o u) → H' b = some (.frz o u)
  tbls : ∀ b ps, H b = some (.tbl ps) → ∃ more, H' b = some (.tbl (ps ++ more))
section
variable {fs fs' ex ex' : List Addr} {H H1 H2 : Hp} {h h1 h2 h' : Heap} {a x e : Addr} {o : HO}
theorem Un.any (u : Un fs ex H H1 h h1) {b : Addr} {ob : Obj} (q : h.get? b = some ob) (n : H b = none) (hx : b ∉ ex) : ∃ sl, h1.get? b = some { ob with slots := sl } := by
  by_cases hb : b ∈ fs
  · exact u.slot b ob q n hb hx
  · exact ⟨ob.slots, u.keep b ob q n hb hx⟩
theorem Un.kept (k : ∀ b u, h.get? b = some u → h'.get? b = some u) : Un fs ex H H h h' :=
  ⟨fun b ob q _ _ _ => k b ob q, fun b ob q _ _ _ => ⟨ob.slots, k b ob q⟩, fun _ _ _ n _ => n, fun b ob q _ => ⟨ob, k b ob q⟩, fun _ _ q => q, fun _ _ _ q => q, fun _ ps q => ⟨#[], by rw [q]; simp⟩⟩
theorem Un.refl : Un fs ex H H h h := Un.kept fun _ _ q => q
theorem Un.laid (k : ∀ b u, h.get? b = some u → h'.get? b = some u) (hp : h.objs.size ≤ a) (hn : H a = none) : Un fs ex H (upd H a o) h h' where
  keep := fun b u q _ _ _ => k b u q
  slot := fun b u q _ _ _ => ⟨u.slots, k b u q⟩
  free := fun b u q n _ => by rw [upd_ne (Nat.ne_of_lt (Nat.lt_of_lt_of_le (Heap.lt_size q) hp))]; exact n
  there := fun b u q _ => ⟨u, k b u q⟩
  tups := fun b xs q => by rw [upd_ne (ne_of_none q hn)]; exact q
  frzs := fun b u xs q => by rw [upd_ne (ne_of_none q hn)]; exact q
  tbls := fun b ps q => ⟨#[], by rw [upd_ne (ne_of_none q hn), q]; simp⟩
theorem Un.write (mu : Mut (H x)) (he : e = x ∨ H e = some (.own x)) (k : ∀ b u, b ≠ e → h.get? b = some u → h'.get? b = some u) (heo : ∃ u, h'.get? e = some u) : Un fs ex H (upd H x o) h h' := by
  have hx : ∀ b, H b = none → b ≠ x := fun b n z => by subst z; rw [n] at mu; exact mu
  have hb : ∀ b, H b = none → b ≠ e := fun b n z => by
    subst z
    rcases he with r | r
    · exact hx b n r
    · rw [n] at r; cases r
  have hm : ∀ b u, H b = some u → ¬ Mut (some u) → b ≠ x := fun b u q nm z => by subst z; rw [q] at mu; exact nm mu
  refine ⟨fun b u q n _ _ => k b u (hb b n) q, fun b u q n _ _ => ⟨u.slots, k b u (hb b n) q⟩, fun b u q n _ => by rw [upd_ne (hx b n)]; exact n, fun b u q _ => ?_,
    fun b xs q => by rw [upd_ne (hm b _ q fun z => z)]; exact q, fun b u xs q => by rw [upd_ne (hm b _ q fun z => z)]; exact q, fun b ps q => ⟨#[], by rw [upd_ne (hm b _ q fun z => z), q]; simp⟩⟩
  by_cases hbe : b = e
  · subst hbe; exact heo
  · exact ⟨u, k b u hbe q⟩
end

noncomputable def trk (h : Heap) (H : Hp) : List Addr := (List.range h.objs.size).filter fun a => (H a).isSome
noncomputable def hidT (h : Heap) (H : Hp) : Heap := PySem.W.hideAll h (trk h H)
theorem hidT_size (h : Heap) (H : Hp) : (hidT h H).objs.size = h.objs.size := PySem.W.hideAll_size _ _
theorem hidT_get {h : Heap} {H : Hp} {b : Addr} {o : Obj} (e : h.get? b = some o) (n : H b = none) : (hidT h H).get? b = some o :=
  PySem.W.hideAll_get _ e fun hm => by
    have q : (H b).isSome = true := (List.mem_filter.mp hm).2
    rw [n] at q; simp at q
theorem of_hidT {h : Heap} {H : Hp} {b : Addr} {o : Obj} (e : (hidT h H).get? b = some o) : h.get? b = some o ∧ H b = none := by
  have e' : h.get? b = some o := PySem.W.of_hideAll (trk h H) e
  refine ⟨e', ?_⟩
  cases q : H b with
  | none => rfl
  | some x =>
    have hm : b ∈ trk h H := List.mem_filter.mpr ⟨List.mem_range.mpr (Heap.lt_size e'), by simp [q]⟩
    have z : (hidT h H).get? b = none := PySem.W.hideAll_none (trk h H) hm
    rw [z] at e; cases e

noncomputable def allNews (g h : Heap) (L : Addr) : List (Addr × Obj) := (List.range h.objs.size).filterMap fun a => if a = L ∨ (g.get? a).isSome = true then none else (h.get? a).map fun o => (a, o)
noncomputable def rest (g h : Heap) (L d : Addr) : List (Addr × Obj) := (allNews g h L).filter fun p => decide (p.1 ≠ d)
end L2

namespace L2
open PySem PySem.Spec PyProof.Rows

structure Mod (K : PySem.W.Frag) (mg : Str → Option Value) (base : Heap) : Prop where
  kin : K.In base
  glob : base.Ns mainGlobals mg
  blt : ∃ mb, base.Ns builtinsNs mb ∧ ∀ x : Str, x ≠ "__name__" → mb x = bootBuiltins x
  nolimit : base.NoLimit

set_option genInjectivity false in
structure Cx where
  prog : Program
  w : World
  K : PySem.W.Frag
  mg : Str → Option Value
  base : Heap
  A : Around
  N : List Str
  s₀ : Shared
  H₀ : Hp
  env : Env
  outer : List Env
  stack : List Env
  ex : List Addr
  fn : Str → Bool
  calm : Bool
  pn : List (Addr × Obj)
  xe : Value → Shared → Prop
noncomputable def frs (l : List Env) : List Addr := l.filterMap (·.frame)
noncomputable abbrev Cx.fs (X : Cx) : List Addr := frs X.outer

noncomputable def Vis (sc : Scope) (x : Str) : Prop := sc.names.lookup x = some .local ∨ sc.names.lookup x = some .cell ∨ sc.names.lookup x = some .free
noncomputable def Loc (sc : Scope) (x : Str) : Prop := sc.names.lookup x = some .local ∨ sc.names.lookup x = some .cell
noncomputable def Look (env : Env) (h : Heap) (m : Str → Option Value) (x : Str) (u : Value) : Prop :=
  (env.kindOf x = some .local ∧ m x = some u) ∨ ((env.kindOf x = some .cell ∨ env.kindOf x = some .free) ∧ ∃ c, env.cells.lookup x = some c ∧ h.IsCell c (some u))

set_option genInjectivity false in
structure Cx.Ok (X : Cx) : Prop where
  mod : Mod X.K X.mg X.base
  kind : X.env.scope.kind = .function
  glob : X.env.globals = mainGlobals
  blt : X.env.builtins = builtinsNs
  above : X.s₀.heap.objs.size ≤ X.env.locals
  inj : ∀ x y c, X.env.cells.lookup x = some c → X.env.cells.lookup y = some c → x = y
  has : ∀ x, (X.env.kindOf x = some .cell ∨ X.env.kindOf x = some .free) → ∃ c, X.env.cells.lookup x = some c
  cab : ∀ x c, X.fn x = true → X.env.cells.lookup x = some c → X.s₀.heap.objs.size ≤ c
  hd : X.calm = true → X.A.handled = none
  frames : X.A.frames = some X.stack
  stk : X.stack = X.outer ∨ (X.stack = X.env :: X.outer ∧ X.env.frame = some X.env.locals)
  exf : ∀ b ∈ X.ex, b ≠ X.env.locals ∧ ∀ x c, X.env.cells.lookup x = some c → c ≠ b
  bs : ∀ b o, X.base.get? b = some o → X.s₀.heap.get? b = some o ∧ X.H₀ b = none
  bsz : X.base.objs.size ≤ X.s₀.heap.objs.size
  noex : ∀ b o, X.base.get? b = some o → b ∉ X.ex
  exfs : ∀ b ∈ X.ex, b ∉ X.fs
  funs : X.s₀.heap.FunFrames X.base X.outer
  frf : ∀ b ∈ X.fs, X.H₀ b = none

set_option genInjectivity false in
structure Inv (X : Cx) (pins : List (Addr × Obj)) (σ : List (Option V)) (H : Hp) (s : Shared) : Prop where
  ok : X.Ok
  os : s.os = X.s₀.os
  bare : AllBare s.gens
  base : Un X.fs X.ex X.H₀ H X.s₀.heap s.heap
  loc : ∃ m, s.heap.Ns X.env.locals m ∧ ∀ (i : Nat) (x : Str) (v : V), X.N[i]? = some x → σ[i]? = some (some v) → Vis X.env.scope x → ∃ u, RelV v u ∧ Look X.env s.heap m x u
  cell : ∀ x c, X.env.cells.lookup x = some c → ∃ v, s.heap.IsCell c v
  free : H X.env.locals = none
  freeC : ∀ x c, X.env.cells.lookup x = some c → H c = none
  pin : ∀ p ∈ X.pn ++ pins, s.heap.get? p.1 = some p.2 ∧ H p.1 = none ∧ p.1 ≠ X.env.locals ∧ p.1 ∉ X.fs ∧ ∀ v, p.2.data ≠ .cell v
  hok : HOk X.prog X.w H s.heap
  len : σ.length = X.N.length

section
variable {X : Cx} {pins : List (Addr × Obj)} {σ : List (Option V)} {H H' : Hp} {s : Shared} {h' : Heap}

theorem Cx.Ok.nofr (ok : X.Ok) {b : Addr} {o : Obj} (e : X.base.get? b = some o) : b ∉ X.fs := fun hb => by
  have := (ok.funs.mem hb).1
  rw [e] at this; cases this
theorem Inv.bs (I : Inv X pins σ H s) : ∀ b o, X.base.get? b = some o → s.heap.get? b = some o ∧ H b = none := fun b o e =>
  ⟨I.base.keep b o (I.ok.bs b o e).1 (I.ok.bs b o e).2 (I.ok.nofr e) (I.ok.noex b o e), I.base.free b o (I.ok.bs b o e).1 (I.ok.bs b o e).2 (I.ok.noex b o e)⟩
theorem Inv.bk (I : Inv X pins σ H s) : ∀ b o, X.base.get? b = some o → s.heap.get? b = some o := fun b o e => (I.bs b o e).1
theorem Inv.mod (I : Inv X pins σ H s) : Mod X.K X.mg X.base := I.ok.mod
theorem Inv.kIn (I : Inv X pins σ H s) : X.K.In s.heap := I.ok.mod.kin.keeps I.bk
theorem Inv.lt (I : Inv X pins σ H s) : X.env.locals < s.heap.objs.size := let ⟨_, hn, _⟩ := I.loc; hn.lt
theorem Inv.sz (I : Inv X pins σ H s) : X.s₀.heap.objs.size ≤ s.heap.objs.size := Nat.le_trans I.ok.above (Nat.le_of_lt I.lt)
theorem Inv.nofs (I : Inv X pins σ H s) {a : Addr} (h : s.heap.objs.size ≤ a) : a ∉ X.fs := fun hb => by
  obtain ⟨_, o, ho, _⟩ := I.ok.funs.mem hb
  exact absurd (Nat.lt_of_lt_of_le (Heap.lt_size ho) (Nat.le_trans I.sz h)) (Nat.lt_irrefl _)
theorem Inv.cne (I : Inv X pins σ H s) : ∀ x c, X.env.cells.lookup x = some c → c ≠ X.env.locals := fun x c e z => by
  obtain ⟨v, o, ho, hd⟩ := I.cell x c e
  obtain ⟨m, ⟨o', es, ep, ho', hd', _⟩, _⟩ := I.loc
  rw [z, ho'] at ho; cases ho; rw [hd'] at hd; cases hd
theorem Inv.funs (I : Inv X pins σ H s) : s.heap.FunFrames X.base X.outer := by
  have all : ∀ (l : List Env), (∀ b ∈ frs l, b ∈ X.fs) → X.s₀.heap.FunFrames X.base l → s.heap.FunFrames X.base l := by
    intro l
    induction l with
    | nil => intro _ _; trivial
    | cons env r ih =>
      intro hs hl
      obtain ⟨hk, ⟨L, o, hf, hn, ho, hd⟩, hr⟩ := hl
      have hL : L ∈ X.fs := hs L (by unfold frs; rw [List.filterMap_cons, hf]; exact List.mem_cons_self)
      obtain ⟨sl, e⟩ := I.base.slot L o ho (I.ok.frf L hL) hL fun z => I.ok.exfs L z hL
      exact ⟨hk, ⟨L, _, hf, hn, e, hd⟩, ih (fun b hb => hs b (by unfold frs; rw [List.filterMap_cons, hf]; exact List.mem_cons_of_mem _ hb)) hr⟩
  exact all X.outer (fun _ hb => hb) I.ok.funs

theorem Inv.stack (I : Inv X pins σ H s) : s.heap.FunFrames X.base X.stack := by
  rcases I.ok.stk with e | ⟨e, hf⟩
  · rw [e]; exact I.funs
  · rw [e]
    obtain ⟨m, hn, _⟩ := I.loc
    refine .cons (by rw [I.ok.kind]; decide) hf hn ?_ I.funs
    exact Heap.get?_none_of_le (Nat.le_trans I.ok.bsz I.ok.above)
theorem Inv.stkSub (I : Inv X pins σ H s) : ∀ b ∈ frs X.stack, b ∈ X.env.locals :: X.fs := fun b hb => by
  rcases I.ok.stk with e | ⟨e, hf⟩
  · rw [e] at hb; exact List.mem_cons_of_mem _ hb
  · rw [e] at hb
    unfold frs at hb
    rw [List.filterMap_cons, hf] at hb
    exact hb
theorem Inv.stkFree (I : Inv X pins σ H s) : ∀ b ∈ frs X.stack, H b = none := fun b hb => by
  rcases List.mem_cons.mp (I.stkSub b hb) with e | hb
  · rw [e]; exact I.free
  · obtain ⟨_, o, ho, _⟩ := I.ok.funs.mem hb
    exact I.base.free b o ho (I.ok.frf b hb) fun z => I.ok.exfs b z hb

theorem Inv.step {g' : Array GenState} {t' : Nat} {d' : Drawn} {ch : List Addr} (I : Inv X pins σ H s)
    (hch : ∀ b ∈ ch, (b ∈ X.ex ∨ X.s₀.heap.objs.size ≤ b) ∧ b ≠ X.env.locals ∧ (∀ x c, X.env.cells.lookup x = some c → c ≠ b) ∧ ∀ p ∈ X.pn ++ pins, p.1 ≠ b)
    (keep : ∀ b o, b ≠ X.env.locals → b ∉ X.fs → b ∉ ch → s.heap.get? b = some o → H b = none → h'.get? b = some o)
    (slot : ∀ b o, b ≠ X.env.locals → b ∈ X.fs → b ∉ ch → s.heap.get? b = some o → H b = none → ∃ sl, h'.get? b = some { o with slots := sl }) (free : ∀ b o, b ∉ ch → s.heap.get? b = some o → H b = none → H' b = none)
    (there : ∀ b o, b ∉ ch → s.heap.get? b = some o → ∃ o', h'.get? b = some o')
    (tups : ∀ b xs, H b = some (.tup xs) → H' b = some (.tup xs)) (frzs : ∀ b o u, H b = some (.frz o u) → H' b = some (.frz o u)) (tbls : ∀ b ps, H b = some (.tbl ps) → ∃ more, H' b = some (.tbl (ps ++ more)))
    (ns : ∀ m, s.heap.Ns X.env.locals m → h'.Ns X.env.locals m) (hok : HOk X.prog X.w H' h') (hg : AllBare g') :
    Inv X pins σ H' { s with heap := h', gens := g', drawn := d', toks := t' } := by
  have neL : ∀ b o, X.s₀.heap.get? b = some o → b ≠ X.env.locals := fun b o e => Nat.ne_of_lt (Nat.lt_of_lt_of_le (Heap.lt_size e) I.ok.above)
  have neC : ∀ b o, X.s₀.heap.get? b = some o → b ∉ X.ex → b ∉ ch := fun b o e hx hb => by
    rcases (hch b hb).1 with z | z
    · exact hx z
    · exact absurd (Nat.lt_of_lt_of_le (Heap.lt_size e) z) (Nat.lt_irrefl _)
  have cellK : ∀ x c, X.env.cells.lookup x = some c → ∀ v, s.heap.IsCell c v → h'.IsCell c v := fun x c e v ⟨o, ho, hd⟩ => by
    have nch : c ∉ ch := fun z => (hch c z).2.2.1 x c e rfl
    by_cases hc : c ∈ X.fs
    · obtain ⟨sl, q⟩ := slot c o (I.cne x c e) hc nch ho (I.freeC x c e)
      exact ⟨_, q, hd⟩
    · exact ⟨o, keep c o (I.cne x c e) hc nch ho (I.freeC x c e), hd⟩
  refine ⟨I.ok, I.os, hg, ⟨fun b o e n hb hx => ?_, fun b o e n hb hx => ?_, fun b o e n hx => ?_, fun b o e hx => ?_, fun b xs e => tups b xs (I.base.tups b xs e), fun b o xs e => frzs b o xs (I.base.frzs b o xs e), fun b ps e => ?_⟩, ?_, fun x c e => ?_, ?_, fun x c e => ?_, fun p hp => ?_, hok, I.len⟩
  · exact keep b o (neL b o e) hb (neC b o e hx) (I.base.keep b o e n hb hx) (I.base.free b o e n hx)
  · obtain ⟨sl, e1⟩ := I.base.slot b o e n hb hx
    obtain ⟨sl', e2⟩ := slot b _ (neL b o e) hb (neC b o e hx) e1 (I.base.free b o e n hx)
    exact ⟨sl', e2⟩
  · obtain ⟨o', e1⟩ := I.base.there b o e hx
    exact free b o' (neC b o e hx) e1 (I.base.free b o e n hx)
  · obtain ⟨o', e1⟩ := I.base.there b o e hx
    exact there b o' (neC b o e hx) e1
  · obtain ⟨m1, e1⟩ := I.base.tbls b ps e
    obtain ⟨m2, e2⟩ := tbls b _ e1
    exact ⟨m1 ++ m2, by rw [e2, Array.append_assoc]⟩
  · obtain ⟨m, hn, hl⟩ := I.loc
    refine ⟨m, ns m hn, fun i x v e1 e2 e3 => ?_⟩
    obtain ⟨u, r, l⟩ := hl i x v e1 e2 e3
    refine ⟨u, r, ?_⟩
    rcases l with l | ⟨k, c, e, z⟩
    · exact .inl l
    · exact .inr ⟨k, c, e, cellK x c e _ z⟩
  · obtain ⟨v, z⟩ := I.cell x c e
    exact ⟨v, cellK x c e v z⟩
  · obtain ⟨m, ⟨o, _, _, ho, _⟩, _⟩ := I.loc
    exact free _ o (fun z => (hch _ z).2.1 rfl) ho I.free
  · obtain ⟨v, o, ho, hd⟩ := I.cell x c e
    exact free c o (fun z => (hch c z).2.2.1 x c e rfl) ho (I.freeC x c e)
  · obtain ⟨e, n, ne, nf, d⟩ := I.pin p hp
    have nch : p.1 ∉ ch := fun z => (hch p.1 z).2.2.2 p hp rfl
    exact ⟨keep p.1 p.2 ne nf nch e n, free p.1 p.2 nch e n, ne, nf, d⟩
theorem Inv.un {t' : Nat} (I : Inv X pins σ H s) (u : Un X.fs [] H H' s.heap h') (hok : HOk X.prog X.w H' h') : Inv X pins σ H' { s with heap := h', toks := t' } := by
  obtain ⟨m, ⟨o, es, ep, ho, r⟩, _⟩ := id I.loc
  obtain ⟨sl, hL⟩ := u.any ho I.free (by simp)
  exact I.step (g' := s.gens) (d' := s.drawn) (ch := []) (fun _ z => nomatch z) (fun b o _ hb _ e n => u.keep b o e n hb (by simp)) (fun b o _ hb _ e n => u.slot b o e n hb (by simp)) (fun b o _ e n => u.free b o e n (by simp)) (fun b o _ e => u.there b o e (by simp)) u.tups u.frzs u.tbls (fun m' hm => by
    obtain ⟨o', es', ep', ho', r'⟩ := hm
    rw [ho] at ho'; cases ho'
    exact ⟨_, es', ep', hL, r'⟩) hok I.bare
theorem Inv.call {g' : Array GenState} {t' : Nat} {d' : Drawn} {ch : List Addr} (I : Inv X pins σ H s) (u : Un (frs X.stack) ch H H' s.heap h') (hok : HOk X.prog X.w H' h') (hg : AllBare g')
    (hch : ∀ b ∈ ch, (b ∈ X.ex ∨ X.s₀.heap.objs.size ≤ b) ∧ b ≠ X.env.locals ∧ (∀ x c, X.env.cells.lookup x = some c → c ≠ b) ∧ ∀ p ∈ X.pn ++ pins, p.1 ≠ b) :
    Inv X pins σ H' { s with heap := h', gens := g', drawn := d', toks := t' } := by
  obtain ⟨m, ⟨o, es, ep, ho, r⟩, _⟩ := id I.loc
  obtain ⟨sl, hL⟩ := u.any ho I.free fun z => (hch _ z).2.1 rfl
  exact I.step (ch := ch) hch (fun b o hL hb hc e n => u.keep b o e n (fun z => (List.mem_cons.mp (I.stkSub b z)).elim hL hb) hc) (fun b o _ _ hc e n => u.any e n hc) (fun b o hc e n => u.free b o e n hc) (fun b o hc e => u.there b o e hc) u.tups u.frzs u.tbls (fun m' hm => by
    obtain ⟨o', es', ep', ho', r'⟩ := hm
    rw [ho] at ho'; cases ho'
    exact ⟨_, es', ep', hL, r'⟩) hok hg
theorem Inv.turned {t' : Nat} {it : Addr} (I : Inv X pins σ H s) (k : ∀ b o, b ≠ it → s.heap.get? b = some o → h'.get? b = some o) (hn : H it = none) (hL : it ≠ X.env.locals)
    (h1 : it ∈ X.ex ∨ X.s₀.heap.objs.size ≤ it) (h2 : ∀ x c, X.env.cells.lookup x = some c → c ≠ it) (h3 : ∀ p ∈ X.pn ++ pins, p.1 ≠ it) : Inv X pins σ H { s with heap := h', toks := t' } := by
  have nit : ∀ b u, H b = some u → b ≠ it := fun b u e z => by rw [z, hn] at e; cases e
  refine I.step (g' := s.gens) (d' := s.drawn) (ch := [it]) (fun b hb => ?_) (fun b o _ _ hc e _ => k b o (fun z => hc (by simp [z])) e) (fun b o _ _ hc e _ => ⟨o.slots, k b o (fun z => hc (by simp [z])) e⟩) (fun _ _ _ _ n => n)
    (fun b o hc e => ⟨o, k b o (fun z => hc (by simp [z])) e⟩) (fun _ _ e => e) (fun _ _ _ e => e) (fun b ps e => ⟨#[], by rw [e]; simp⟩) (fun m hm => ?_) (fun b u e => ?_) I.bare
  · have e : b = it := by simpa using hb
    subst e
    exact ⟨h1, hL, h2, h3⟩
  · obtain ⟨o, es, ep, ho, r⟩ := hm
    exact ⟨o, es, ep, k _ o (Ne.symm hL) ho, r⟩
  · refine (I.hok b u e).stay (fun c v hc q => k c v ?_ q) (fun _ q => q) fun _ _ q => q
    rcases hc with z | z
    · rw [z]; exact nit b u e
    · exact nit c _ z
theorem Inv.tok (I : Inv X pins σ H s) (t : Nat) : Inv X pins σ H { s with toks := t } := I.un (h' := s.heap) (t' := t) Un.refl I.hok
theorem Inv.kept {t' : Nat} (I : Inv X pins σ H s) (k : ∀ b u, s.heap.get? b = some u → h'.get? b = some u) : Inv X pins σ H { s with heap := h', toks := t' } := I.un (Un.kept k) (I.hok.kept k)
theorem Inv.laid {a : Addr} {o : HO} {t' : Nat} (I : Inv X pins σ H s) (k : ∀ b u, s.heap.get? b = some u → h'.get? b = some u) (hp : s.heap.objs.size ≤ a) (new : ObjOk X.prog X.w (upd H a o) h' a o) :
    Inv X pins σ (upd H a o) { s with heap := h', toks := t' } := I.un (Un.laid k hp (I.hok.fresh hp)) (I.hok.laid k hp new)
theorem Inv.write {x e : Addr} {o : HO} {t' : Nat} (I : Inv X pins σ H s) (mu : Mut (H x)) (he : e = x ∨ H e = some (.own x)) (k : ∀ b u, b ≠ e → s.heap.get? b = some u → h'.get? b = some u) (heo : ∃ u, h'.get? e = some u)
    (new : ObjOk X.prog X.w (upd H x o) h' x o) : Inv X pins σ (upd H x o) { s with heap := h', toks := t' } := I.un (Un.write mu he k heo) (I.hok.write mu he k heo new)
theorem Inv.pins_of {pins' : List (Addr × Obj)} (I : Inv X pins σ H s) (h : ∀ p ∈ pins', s.heap.get? p.1 = some p.2 ∧ H p.1 = none ∧ p.1 ≠ X.env.locals ∧ p.1 ∉ X.fs ∧ ∀ v, p.2.data ≠ .cell v) : Inv X pins' σ H s :=
  ⟨I.ok, I.os, I.bare, I.base, I.loc, I.cell, I.free, I.freeC, fun p hp => (List.mem_append.mp hp).elim (fun z => I.pin p (List.mem_append_left _ z)) (h p), I.hok, I.len⟩

theorem nodup_ix {N : List Str} (hN : N.Nodup) {i j : Nat} {x : Str} (a : N[i]? = some x) (b : N[j]? = some x) : i = j := by
  obtain ⟨h1, e1⟩ := List.getElem?_eq_some_iff.mp a
  obtain ⟨h2, e2⟩ := List.getElem?_eq_some_iff.mp b
  exact (List.getElem_inj hN).mp (e1.trans e2.symm)

theorem store_ok2 {M : Model} {A : Around} {E : Value → Shared → Prop} {i : Nat} {x : Str} {v : V} {u : Value} {Q : Unit → Shared → Prop} (I : Inv X pins σ H s) (hN : X.N.Nodup) (hi : X.N[i]? = some x) (hx : Loc X.env.scope x) (r : RelV v u)
    (h : ∀ s', Inv X pins (σ.set i (some v)) H s' → (∃ a, Heap.SameBut a s.heap s'.heap ∧ (a = X.env.locals ∨ X.env.cells.lookup x = some a)) → Q () s') (hf : X.fn x = true ∨ X.env.scope.names.lookup x = some .local := by first | exact .inl rfl | exact .inr rfl | assumption) : wpAny M A (storeName X.env x u) Q E s := by
  obtain ⟨m, hn, hl⟩ := id I.loc
  have hcls : (X.env.scope.kind == .class || (X.env.scope.kind == .module && X.env.locals != X.env.globals)) = false := by rw [I.ok.kind]; rfl
  have hiσ : i < σ.length := by rw [I.len]; exact (List.getElem?_eq_some_iff.mp hi).1
  have cne := I.cne
  have tracked : ∀ {a : Addr} {h' : Heap}, (∃ o, s.heap.get? a = some o ∧ H a = none) → Heap.SameBut a s.heap h' → HOk X.prog X.w H h' := fun {a h'} ha hs b ob e => by
    obtain ⟨_, _, hfree⟩ := ha
    refine (I.hok b ob e).stay (fun c w' hc q => (hs.2 c ?_).trans q) (fun _ q => q) fun _ _ q => q
    rintro rfl
    rcases hc with rfl | hc
    · rw [hfree] at e; cases e
    · rw [hfree] at hc; cases hc
  rcases hx with hk | hk
  · refine wpAny_storeName_local hk hn (fun h' hn' hs => ?_) hcls
    obtain ⟨oL, _, _, hoL, _⟩ := id hn
    refine h _ ⟨I.ok, I.os, I.bare, ⟨fun b o e n hb hx => ?_, fun b o e n hb hx => ?_, I.base.free, fun b o e hx => ?_, I.base.tups, I.base.frzs, I.base.tbls⟩, ⟨_, hn', fun j y v' e1 e2 e3 => ?_⟩, fun y c e => ?_, I.free, I.freeC, fun p hp => ?_, tracked ⟨oL, hoL, I.free⟩ hs, by simpa using I.len⟩ ⟨_, hs, .inl rfl⟩
    · exact (hs.2 b (Nat.ne_of_lt (Nat.lt_of_lt_of_le (Heap.lt_size e) I.ok.above))).trans (I.base.keep b o e n hb hx)
    · obtain ⟨sl, e1⟩ := I.base.slot b o e n hb hx
      exact ⟨sl, (hs.2 b (Nat.ne_of_lt (Nat.lt_of_lt_of_le (Heap.lt_size e) I.ok.above))).trans e1⟩
    · obtain ⟨o', e1⟩ := I.base.there b o e hx
      exact ⟨o', (hs.2 b (Nat.ne_of_lt (Nat.lt_of_lt_of_le (Heap.lt_size e) I.ok.above))).trans e1⟩
    · by_cases hj : j = i
      · subst hj
        rw [hi] at e1; cases e1
        rw [List.getElem?_set_self hiσ] at e2
        cases e2
        exact ⟨u, r, .inl ⟨hk, by simp⟩⟩
      · rw [List.getElem?_set_ne (Ne.symm hj)] at e2
        obtain ⟨u', r', q⟩ := hl j y v' e1 e2 e3
        refine ⟨u', r', ?_⟩
        rcases q with ⟨k, e⟩ | ⟨k, c, e, z⟩
        · refine .inl ⟨k, ?_⟩
          have : y ≠ x := fun e => hj (nodup_ix hN e1 (e ▸ hi))
          simp [this, e]
        · exact .inr ⟨k, c, e, z.sameBut hs (cne y c e)⟩
    · obtain ⟨w', z⟩ := I.cell y c e
      exact ⟨w', z.sameBut hs (cne y c e)⟩
    · obtain ⟨e, n, ne, nf, d⟩ := I.pin p hp
      exact ⟨(hs.2 p.1 ne).trans e, n, ne, nf, d⟩
  · have hfn : X.fn x = true := by
      rcases hf with z | z
      · exact z
      · rw [z] at hk; cases hk
    obtain ⟨c, hc⟩ := I.ok.has x (.inl hk)
    obtain ⟨w', z⟩ := I.cell x c hc
    refine wpAny_storeName_cell I.ok.kind hk hc z (fun h' hc' hs => ?_)
    obtain ⟨oc, hoc, hocd⟩ := id z
    refine h { s with heap := h' } ⟨I.ok, I.os, I.bare, ⟨fun b o e n hb hx => ?_, fun b o e n hb hx => ?_, I.base.free, fun b o e hx => ?_, I.base.tups, I.base.frzs, I.base.tbls⟩, ⟨m, hn.sameBut hs (Ne.symm (cne x c hc)), fun j y v' e1 e2 e3 => ?_⟩, fun y c' e => ?_, I.free, I.freeC, fun p hp => ?_, tracked ⟨oc, hoc, I.freeC x c hc⟩ hs, by simpa using I.len⟩ ⟨c, hs, .inr hc⟩
    · exact (hs.2 b (Nat.ne_of_lt (Nat.lt_of_lt_of_le (Heap.lt_size e) (I.ok.cab x c hfn hc)))).trans (I.base.keep b o e n hb hx)
    · obtain ⟨sl, e1⟩ := I.base.slot b o e n hb hx
      exact ⟨sl, (hs.2 b (Nat.ne_of_lt (Nat.lt_of_lt_of_le (Heap.lt_size e) (I.ok.cab x c hfn hc)))).trans e1⟩
    · obtain ⟨o', e1⟩ := I.base.there b o e hx
      exact ⟨o', (hs.2 b (Nat.ne_of_lt (Nat.lt_of_lt_of_le (Heap.lt_size e) (I.ok.cab x c hfn hc)))).trans e1⟩
    · by_cases hj : j = i
      · subst hj
        rw [hi] at e1; cases e1
        rw [List.getElem?_set_self hiσ] at e2
        cases e2
        exact ⟨u, r, .inr ⟨.inl hk, c, hc, hc'⟩⟩
      · rw [List.getElem?_set_ne (Ne.symm hj)] at e2
        obtain ⟨u', r', q⟩ := hl j y v' e1 e2 e3
        refine ⟨u', r', ?_⟩
        rcases q with q | ⟨k, c', e, z'⟩
        · exact .inl q
        · refine .inr ⟨k, c', e, z'.sameBut hs ?_⟩
          rintro rfl
          exact hj (nodup_ix hN e1 (I.ok.inj _ _ _ e hc ▸ hi))
    · by_cases hcc : c' = c
      · subst hcc; exact ⟨_, hc'⟩
      · obtain ⟨w2, z2⟩ := I.cell y c' e
        exact ⟨w2, z2.sameBut hs hcc⟩
    · obtain ⟨e, n, ne, nf, d⟩ := I.pin p hp
      refine ⟨(hs.2 p.1 ?_).trans e, n, ne, nf, d⟩
      intro q
      rw [q, hoc] at e
      have q' : oc = p.2 := Option.some.inj e
      exact d w' (by rw [← q']; exact hocd)
theorem store_ok {M : Model} {A : Around} {E : Value → Shared → Prop} {i : Nat} {x : Str} {v : V} {u : Value} {Q : Unit → Shared → Prop} (I : Inv X pins σ H s) (hN : X.N.Nodup) (hi : X.N[i]? = some x) (hx : Loc X.env.scope x) (r : RelV v u)
    (h : ∀ s', Inv X pins (σ.set i (some v)) H s' → Q () s') (hf : X.fn x = true ∨ X.env.scope.names.lookup x = some .local := by first | exact .inl rfl | exact .inr rfl | assumption) : wpAny M A (storeName X.env x u) Q E s :=
  store_ok2 I hN hi hx r (fun s' I' _ => h s' I') hf
theorem Inv.call' {s' : Shared} {ch : List Addr} (I : Inv X pins σ H s) (ho : s'.os = s.os) (u : Un (frs X.stack) ch H H' s.heap s'.heap) (hok : HOk X.prog X.w H' s'.heap) (hg : AllBare s'.gens)
    (hch : ∀ b ∈ ch, (b ∈ X.ex ∨ X.s₀.heap.objs.size ≤ b) ∧ b ≠ X.env.locals ∧ (∀ x c, X.env.cells.lookup x = some c → c ≠ b) ∧ ∀ p ∈ X.pn ++ pins, p.1 ≠ b) : Inv X pins σ H' s' := by
  obtain ⟨h', g', d', t', o'⟩ := s'
  have e : o' = s.os := ho
  subst e
  exact I.call (g' := g') (t' := t') (d' := d') u hok hg hch
end

noncomputable abbrev XK := Value → Option Addr → Hp → Prop
noncomputable abbrev St := List (Option V)
noncomputable abbrev VK := V → Hp → Prop
noncomputable abbrev TE := St → Hp → VK → Prop
noncomputable abbrev TT := St → Hp → (Bool → Hp → Prop) → Prop
noncomputable abbrev TA := St → Hp → (List V → Hp → Prop) → Prop
set_option genInjectivity false in
structure Ends where
  nx : St → Hp → Prop
  rt : VK
  bk : St → Hp → Prop := fun _ _ => False
  ct : St → Hp → Prop := fun _ _ => False
noncomputable abbrev TS := Ends → St → Hp → Prop

noncomputable def EP (X : Cx) (pins : List (Addr × Obj)) (σ : St) (Q : VK) (u : Value) (s' : Shared) : Prop := ∃ v H', Inv X pins σ H' s' ∧ RelV v u ∧ Q v H'
noncomputable def TP (X : Cx) (pins : List (Addr × Obj)) (σ : St) (Q : Bool → Hp → Prop) (b : Bool) (s' : Shared) : Prop := ∃ H', Inv X pins σ H' s' ∧ Q b H'
noncomputable def AP (X : Cx) (pins : List (Addr × Obj)) (σ : St) (Q : List V → Hp → Prop) (us : List Value) (s' : Shared) : Prop := ∃ vs H', Inv X pins σ H' s' ∧ Vals vs us ∧ Q vs H'
noncomputable def SP (X : Cx) (pins : List (Addr × Obj)) (D : Ends) (f : Flow) (s' : Shared) : Prop :=
  match f with
  | .next => ∃ σ' H', Inv X pins σ' H' s' ∧ D.nx σ' H'
  | .brk => ∃ σ' H', Inv X pins σ' H' s' ∧ D.bk σ' H'
  | .cont => ∃ σ' H', Inv X pins σ' H' s' ∧ D.ct σ' H'
  | .ret u => ∃ v σ' H', Inv X pins σ' H' s' ∧ RelV v u ∧ D.rt v H'

noncomputable def PE (X : Cx) (e : Expr) (t : TE) : Prop :=
  ∀ (pins : List (Addr × Obj)) (s : Shared) (σ : St) (H : Hp) (Q : VK), Inv X pins σ H s → t σ H Q → wpAny (model X.prog X.w) X.A (eval e X.env) (EP X pins σ Q) X.xe s
noncomputable def PT (X : Cx) (e : Expr) (t : TT) : Prop :=
  ∀ (pins : List (Addr × Obj)) (s : Shared) (σ : St) (H : Hp) (Q : Bool → Hp → Prop), Inv X pins σ H s → t σ H Q → wpAny (model X.prog X.w) X.A (isTrue e X.env (eval e X.env)) (TP X pins σ Q) X.xe s
noncomputable def PW (X : Cx) (e : Expr) (t : TT) : Prop :=
  ∀ (whole : Sem Value) (pins : List (Addr × Obj)) (s : Shared) (σ : St) (H : Hp) (Q : Bool → Hp → Prop), Inv X pins σ H s → t σ H Q → wpAny (model X.prog X.w) X.A (isTrue e X.env whole) (TP X pins σ Q) X.xe s
theorem PW.pt {X : Cx} {e : Expr} {t : TT} (h : PW X e t) : PT X e t := h _
noncomputable def PA (X : Cx) (es : List Expr) (t : TA) : Prop :=
  ∀ (pos : Pos) (pins : List (Addr × Obj)) (s : Shared) (σ : St) (H : Hp) (Q : List V → Hp → Prop), Inv X pins σ H s → t σ H Q → wpAny (model X.prog X.w) X.A (spliced (backTo pos (starEach es X.env))) (AP X pins σ Q) X.xe s
noncomputable def PS (X : Cx) (st : Stmt) (t : TS) : Prop :=
  ∀ (pins : List (Addr × Obj)) (s : Shared) (σ : St) (H : Hp) (D : Ends), Inv X pins σ H s → t D σ H → wpAny (model X.prog X.w) X.A (exec st X.env) (SP X pins D) X.xe s
noncomputable def PSs (X : Cx) (st : List Stmt) (t : TS) : Prop :=
  ∀ (pins : List (Addr × Obj)) (s : Shared) (σ : St) (H : Hp) (D : Ends), Inv X pins σ H s → t D σ H → wpAny (model X.prog X.w) X.A (execs st X.env) (SP X pins D) X.xe s
theorem thn {α : Type} {t : Sem α} {Q Q' : α → Shared → Prop} {M : Model} {A : Around} {E : Value → Shared → Prop} {s : Shared} (h : wpAny M A t Q E s) (hQ : ∀ a s, Q a s → Q' a s) : wpAny M A t Q' E s := wpAny_mono h hQ fun _ _ x => x
end L2

namespace L2
open PySem PySem.Spec PyProof.Rows
section
variable {X : Cx}

noncomputable def tVar (i : Nat) : TE := fun σ H Q => ∃ v, σ[i]? = some (some v) ∧ Q v H
noncomputable def tC (v : V) : TE := fun _ H Q => Q v H
theorem pe_var {i : Nat} {x : Str} {pos : Pos} (hN : X.N[i]? = some x) (hv : Vis X.env.scope x) (hd : (x == ("__debug__" : Str)) = false := by decide) (hcd : (x == ("__classdict__" : Str)) = false := by decide) : PE X (.Name x pos) (tVar i) := by
  intro pins s σ H Q I h
  obtain ⟨v, e, h⟩ := h
  obtain ⟨m, hn, hl⟩ := I.loc
  obtain ⟨u, r, l⟩ := hl i x v hN e hv
  have fin : EP X pins σ Q u s := ⟨v, H, I, r, h⟩
  rcases l with ⟨hk, hm⟩ | ⟨hk, c, hc, hcell⟩
  · exact wpAny_Name (wpAny_loadName_local I.ok.kind hk hn hm fin) hd
  · rcases hk with hk | hk
    · exact wpAny_Name (wpAny_loadName_cell I.ok.kind hk hc hcell fin) hd
    · exact wpAny_Name (wpAny_loadName_free I.ok.kind hk hc hcell fin hcd) hd
theorem pe_int {i j pos} : PE X (.Constant (.int i) j pos) (tC (.int i)) := fun _ _ _ H _ I h => wpAny_Constant_int ⟨.int i, H, I.tok _, ⟨_, rfl⟩, h⟩
theorem pe_bl {b j pos} : PE X (.Constant (.bool b) j pos) (tC (.bl b)) := fun _ _ _ H _ I h => Constant_bool ⟨.bl b, H, I, rfl, h⟩
theorem pe_non {j pos} : PE X (.Constant .none j pos) (tC .non) := fun _ _ _ H _ I h => Constant_none ⟨.non, H, I, rfl, h⟩
theorem pe_str {x j pos} : PE X (.Constant (.str x) j pos) (tC (.str x)) := fun _ _ _ H _ I h => Calls.Constant_str ⟨.str x, H, I.tok _, ⟨_, rfl⟩, h⟩

noncomputable def Gl (X : Cx) (x : Str) : Prop := X.env.kindOf x = some .globalImplicit
theorem ld_glob {E : Value → Shared → Prop} {pins : List (Addr × Obj)} {s : Shared} {σ : St} {H : Hp} {x : Str} {u : Value} {pos : Pos} {Q : Value → Shared → Prop} (I : Inv X pins σ H s) (hg : Gl X x) (hm : X.mg x = some u) (h : Q u s)
    (hd : (x == ("__debug__" : Str)) = false := by decide) : wpAny (model X.prog X.w) X.A (eval (.Name x pos) X.env) Q E s :=
  Calls.Name_function_global I.ok.kind hg (Calls.loadGlobal_global (by rw [I.ok.glob]; exact I.mod.glob.keeps I.bk) hm h) hd
theorem ld_blt {E : Value → Shared → Prop} {pins : List (Addr × Obj)} {s : Shared} {σ : St} {H : Hp} {x : Str} {u : Value} {pos : Pos} {Q : Value → Shared → Prop} (I : Inv X pins σ H s) (hg : Gl X x) (hm : X.mg x = none) (hv : bootBuiltins x = some u) (h : Q u s)
    (hn : x ≠ "__name__" := by decide) (hd : (x == ("__debug__" : Str)) = false := by decide) : wpAny (model X.prog X.w) X.A (eval (.Name x pos) X.env) Q E s := by
  obtain ⟨mb, h1, h2⟩ := I.mod.blt
  exact Calls.Name_function_global I.ok.kind hg (Calls.loadGlobal_builtin (by rw [I.ok.glob]; exact I.mod.glob.keeps I.bk) hm (by rw [I.ok.blt]; exact h1.keeps I.bk) ((h2 x hn).trans hv) h) hd
theorem pe_glob {x : Str} {v : V} {u : Value} {pos : Pos} (hg : Gl X x) (hm : X.mg x = some u) (r : RelV v u) (hd : (x == ("__debug__" : Str)) = false := by decide) : PE X (.Name x pos) (tC v) :=
  fun _ _ _ H _ I h => ld_glob I hg hm ⟨v, H, I, r, h⟩ hd
theorem pe_bltn {x : Str} {v : V} {u : Value} {pos : Pos} (hg : Gl X x) (hm : X.mg x = none) (hv : bootBuiltins x = some u) (r : RelV v u) (hn : x ≠ "__name__" := by decide) (hd : (x == ("__debug__" : Str)) = false := by decide) : PE X (.Name x pos) (tC v) :=
  fun _ _ _ H _ I h => ld_blt I hg hm hv ⟨v, H, I, r, h⟩ hn hd

variable {a b : Expr} {ta tb : TE} {pos : Pos}
noncomputable def tB (t : TE) : TT := fun σ H Q => t σ H fun x H1 => ∃ c, x = .bl c ∧ Q c H1
theorem pt_val {e : Expr} {t : TE} (h : PE X e t) (he : ∀ whole, isTrue e X.env whole = (do let v ← whole; standAt e.pos; holding [v] (truthy v)) := by intro _; rfl) : PT X e (tB t) := by
  intro pins s σ H Q I hw
  refine isTrue_plain (thn (h pins s σ H _ I hw) fun v s1 ⟨x, H1, I1, r1, q1⟩ => ?_) (he _)
  obtain ⟨d, rfl, q⟩ := q1
  cases r1
  exact wpAny_truthy_bool ⟨H1, I1, q⟩

variable {tA tB' : TT} {rest : List Expr}
noncomputable def tAnd (t u : TT) : TT := fun σ H Q => t σ H fun c H1 => if c = true then u σ H1 Q else Q false H1
noncomputable def tOr (t u : TT) : TT := fun σ H Q => t σ H fun c H1 => if c = true then Q true H1 else u σ H1 Q
noncomputable def tNot (t : TT) : TT := fun σ H Q => t σ H fun c H1 => Q (!c) H1
theorem pw_and1 (ha : PT X a tA) : PW X (.BoolOp .And [a] pos) tA := by
  intro wh pins s σ H Q I h
  refine isTrue_and (thn (ha pins s σ H Q I h) fun c s1 e => ?_)
  cases c with
  | true => exact isTrue_and_nil e
  | false => exact e
theorem pw_or1 (ha : PT X a tA) : PW X (.BoolOp .Or [a] pos) tA := by
  intro wh pins s σ H Q I h
  refine isTrue_or (thn (ha pins s σ H Q I h) fun c s1 e => ?_)
  cases c with
  | false => exact isTrue_or_nil e
  | true => exact e
theorem pw_and (ha : PT X a tA) (hb : PW X (.BoolOp .And (b :: rest) pos) tB') : PW X (.BoolOp .And (a :: b :: rest) pos) (tAnd tA tB') := by
  intro wh pins s σ H Q I h
  refine isTrue_and (thn (ha pins s σ H _ I h) fun c s1 ⟨H1, I1, q1⟩ => ?_)
  cases c with
  | true => exact hb wh pins s1 σ H1 Q I1 q1
  | false => exact ⟨H1, I1, q1⟩
theorem pw_or (ha : PT X a tA) (hb : PW X (.BoolOp .Or (b :: rest) pos) tB') : PW X (.BoolOp .Or (a :: b :: rest) pos) (tOr tA tB') := by
  intro wh pins s σ H Q I h
  refine isTrue_or (thn (ha pins s σ H _ I h) fun c s1 ⟨H1, I1, q1⟩ => ?_)
  cases c with
  | true => exact ⟨H1, I1, q1⟩
  | false => exact hb wh pins s1 σ H1 Q I1 q1
theorem pt_not (ha : PT X a tA) : PT X (.UnaryOp .Not a pos) (tNot tA) := by
  intro pins s σ H Q I h
  exact isTrue_not (ha pins s σ H (fun c H1 => Q (!c) H1) I h)
noncomputable def tAndV (ta tb : TE) : TE := fun σ H Q => ta σ H fun x H1 => ∃ c, x = .bl c ∧ if c = true then tb σ H1 Q else Q (.bl false) H1
noncomputable def tOrV (ta tb : TE) : TE := fun σ H Q => ta σ H fun x H1 => ∃ c, x = .bl c ∧ if c = true then Q (.bl true) H1 else tb σ H1 Q
noncomputable def tNotV (ta : TE) : TE := fun σ H Q => ta σ H fun x H1 => ∃ c, x = .bl c ∧ Q (.bl (!c)) H1
theorem pe_one {op} {t : TE} (h : PE X a t) : PE X (.BoolOp op [a] pos) t := fun pins s σ H Q I hw => BoolOp_one (h pins s σ H Q I hw)
theorem pe_and (ha : PE X a ta) (hb : PE X (.BoolOp .And (b :: rest) pos) tb) : PE X (.BoolOp .And (a :: b :: rest) pos) (tAndV ta tb) := by
  intro pins s σ H Q I h
  refine BoolOp_and (thn (ha pins s σ H _ I h) fun v s1 ⟨x, H1, I1, r1, q1⟩ => ?_)
  obtain ⟨c, rfl, q1⟩ := q1
  cases r1
  refine wpAny_truthy_bool ?_
  cases c with
  | true => exact hb pins s1 σ H1 Q I1 q1
  | false => exact ⟨.bl false, H1, I1, rfl, q1⟩
theorem pe_or (ha : PE X a ta) (hb : PE X (.BoolOp .Or (b :: rest) pos) tb) : PE X (.BoolOp .Or (a :: b :: rest) pos) (tOrV ta tb) := by
  intro pins s σ H Q I h
  refine BoolOp_or (thn (ha pins s σ H _ I h) fun v s1 ⟨x, H1, I1, r1, q1⟩ => ?_)
  obtain ⟨c, rfl, q1⟩ := q1
  cases r1
  refine wpAny_truthy_bool ?_
  cases c with
  | false => exact hb pins s1 σ H1 Q I1 q1
  | true => exact ⟨.bl true, H1, I1, rfl, q1⟩
theorem pe_not (ha : PE X a ta) : PE X (.UnaryOp .Not a pos) (tNotV ta) := by
  intro pins s σ H Q I h
  refine UnaryOp_ (thn (ha pins s σ H _ I h) fun v s1 ⟨x, H1, I1, r1, q1⟩ => ?_)
  obtain ⟨c, rfl, q1⟩ := q1
  cases r1
  exact not_of (wpAny_truthy_bool ⟨.bl (!c), H1, I1, rfl, q1⟩)
noncomputable def tIf (t : TT) (ta tb : TE) : TE := fun σ H Q => t σ H fun c H1 => if c = true then ta σ H1 Q else tb σ H1 Q
theorem pe_ifExp {c : Expr} (hc : PT X c tA) (ha : PE X a ta) (hb : PE X b tb) : PE X (.IfExp c a b pos) (tIf tA ta tb) := by
  intro pins s σ H Q I h
  refine wpAny_IfExp (thn (hc pins s σ H _ I h) fun d s1 ⟨H1, I1, q1⟩ => ?_)
  cases d with
  | true => exact ha pins s1 σ H1 Q I1 q1
  | false => exact hb pins s1 σ H1 Q I1 q1
end
end L2

namespace L2
open PySem PySem.Spec PyProof.Rows

noncomputable def SqL (K : PySem.W.Frag) (H : Hp) (a : Addr) (xs : List V) : Prop :=
  Rd H a (.lst xs) ∨
    ∃ (o : Obj) (its : Array Value) (n : Nat), K.lookup a = some o ∧ o.cls = .type "list" ∧ o.dict = none ∧ o.data = .seq its n ∧ its.size ≤ sizeLine ∧ Vals xs its.toList
noncomputable def SqT (K : PySem.W.Frag) (H : Hp) (a : Addr) (xs : List V) : Prop :=
  Rd H a (.tup xs) ∨
    ∃ (o : Obj) (its : Array Value) (n : Nat), K.lookup a = some o ∧ o.cls = .type "tuple" ∧ o.data = .seq its n ∧ its.size ≤ sizeLine ∧ Vals xs its.toList
noncomputable def absV : Value → Option V
  | .none => some .non
  | .bool b => some (.bl b)
  | .int i _ => some (.int i)
  | .str x _ => some (.str x)
  | .bytes b _ => some (.byt b)
  | .float b _ => some (.flt b)
  | .ref a => some (.ref a)
  | .type n => some (.ty n)
  | _ => none
theorem RelV.abs {x : V} {u : Value} (r : RelV x u) : absV u = some x := by
  cases x with
  | non => cases r; rfl
  | bl _ => cases r; rfl
  | int _ => obtain ⟨t, rfl⟩ := r; rfl
  | str _ => obtain ⟨t, rfl⟩ := r; rfl
  | byt _ => obtain ⟨t, rfl⟩ := r; rfl
  | flt _ => obtain ⟨t, rfl⟩ := r; rfl
  | ref _ => cases r; rfl
  | ty _ => cases r; rfl
theorem RelV.inj {x y : V} {u : Value} (r : RelV x u) (q : RelV y u) : x = y := Option.some.inj (r.abs.symm.trans q.abs)
theorem Vals.inj : ∀ {xs ys : List V} {us : List Value}, Vals xs us → Vals ys us → xs = ys
  | _, _, _, .nil, .nil => rfl
  | _, _, _, .cons r t, .cons r' t' => by rw [r.inj r', Vals.inj t t']
section
variable {X : Cx} {pins : List (Addr × Obj)} {σ : St} {H : Hp} {s : Shared} {a : Addr} {xs ys : List V}
theorem SqL.of {K : PySem.W.Frag} (h : H a = some (.lst xs)) : SqL K H a xs := .inl (.inl h)
theorem SqT.of {K : PySem.W.Frag} (h : H a = some (.tup xs)) : SqT K H a xs := .inl (.inl h)
theorem Inv.list (I : Inv X pins σ H s) (h : SqL X.K H a xs) : ∃ its : List Value, Vals xs its ∧ PlainL s.heap a its.toArray ∧ xs.length ≤ sizeLine := by
  rcases h with h | ⟨o, its, n, hk, hc, hd, hs, hz, r⟩
  · obtain ⟨z, its, n, r, e⟩ := h.ok I.hok
    exact ⟨its, r, ⟨_, n, e, rfl, rfl, rfl⟩, z⟩
  · refine ⟨its.toList, r, ⟨o, n, I.kIn a o hk, hc, hd, by simpa using hs⟩, ?_⟩
    have e := r.length
    simp only [Array.length_toList] at e
    omega
theorem Inv.tuple (I : Inv X pins σ H s) (h : SqT X.K H a xs) : ∃ its : List Value, Vals xs its ∧ IsTup s.heap a its.toArray ∧ xs.length ≤ sizeLine := by
  rcases h with h | ⟨o, its, n, hk, hc, hs, hz, r⟩
  · obtain ⟨z, its, r, p⟩ := h.ok I.hok
    exact ⟨its, r, p, z⟩
  · refine ⟨its.toList, r, ⟨o, I.kIn a o hk, hc, n, by simpa using hs⟩, ?_⟩
    have e := r.length
    simp only [Array.length_toList] at e
    omega
theorem Inv.list_inj (I : Inv X pins σ H s) (h : SqL X.K H a xs) (h' : SqL X.K H a ys) : xs = ys := by
  obtain ⟨its, r, ⟨o, n, e, _, _, d⟩, _⟩ := I.list h
  obtain ⟨its', r', ⟨o', n', e', _, _, d'⟩, _⟩ := I.list h'
  rw [e] at e'; cases e'
  rw [d] at d'
  injection d' with d1 _
  have : its = its' := by simpa using congrArg Array.toList d1
  subst this
  exact r.inj r'
end

noncomputable abbrev Cx.wish (X : Cx) (E : Value → Shared → Prop) : Cx := { X with xe := E }
theorem Cx.Ok.wish {X : Cx} (ok : X.Ok) (E : Value → Shared → Prop) : (X.wish E).Ok :=
  ⟨ok.mod, ok.kind, ok.glob, ok.blt, ok.above, ok.inj, ok.has, ok.cab, ok.hd, ok.frames, ok.stk, ok.exf, ok.bs, ok.bsz, ok.noex, ok.exfs, ok.funs, ok.frf⟩
theorem Cx.Ok.unwish {X : Cx} {E : Value → Shared → Prop} (ok : (X.wish E).Ok) : X.Ok :=
  ⟨ok.mod, ok.kind, ok.glob, ok.blt, ok.above, ok.inj, ok.has, ok.cab, ok.hd, ok.frames, ok.stk, ok.exf, ok.bs, ok.bsz, ok.noex, ok.exfs, ok.funs, ok.frf⟩
section
variable {X : Cx} {pins : List (Addr × Obj)} {σ : St} {H : Hp} {s : Shared} {E : Value → Shared → Prop}
theorem Inv.wish (I : Inv X pins σ H s) (E : Value → Shared → Prop) : Inv (X.wish E) pins σ H s := ⟨I.ok.wish E, I.os, I.bare, I.base, I.loc, I.cell, I.free, I.freeC, I.pin, I.hok, I.len⟩
theorem Inv.unwish (I : Inv (X.wish E) pins σ H s) : Inv X pins σ H s := ⟨I.ok.unwish, I.os, I.bare, I.base, I.loc, I.cell, I.free, I.freeC, I.pin, I.hok, I.len⟩
end

section
variable {X : Cx} {st : Stmt} {rest : List Stmt} {t u : TS} {e : Expr} {te : TE} {pos : Pos}
noncomputable def tNext : TS := fun D σ H => D.nx σ H
noncomputable def tSeq (t u : TS) : TS := fun D σ H => t { D with nx := u D } σ H
theorem pss_nil : PSs X [] tNext := fun _ _ σ H _ I h => wpAny_execs_nil ⟨σ, H, I, h⟩
theorem pss_cons (h1 : PS X st t) (h2 : PSs X rest u) : PSs X (st :: rest) (tSeq t u) := by
  intro pins s σ H D I h
  refine wpAny_execs_cons (thn (h1 pins s σ H { D with nx := u D } I h) fun f s1 q => ?_)
  cases f with
  | next =>
    obtain ⟨σ', H', I', q⟩ := q
    exact h2 pins s1 σ' H' D I' q
  | ret v => exact q
  | brk => exact q
  | cont => exact q
theorem pss_one (h1 : PS X st t) : PSs X [st] t := by
  intro pins s σ H D I h
  refine wpAny_execs_cons (thn (h1 pins s σ H D I h) fun f s1 q => ?_)
  cases f with
  | next => exact wpAny_execs_nil q
  | ret v => exact q
  | brk => exact q
  | cont => exact q
theorem Inv.quiet {pins : List (Addr × Obj)} {σ : St} {H : Hp} {s : Shared} (I : Inv X pins σ H s) : interactive X.env = false := by simp [interactive, I.ok.kind]
noncomputable def tDrop (te : TE) : TS := fun D σ H => te σ H fun _ H1 => D.nx σ H1
theorem ps_expr (he : PE X e te) (hs : swapsWith e none pos.line X.env = pure false := by rfl) : PS X (.Expr e pos) (tDrop te) := by
  intro pins s σ H D I h
  exact wpAny_Expr_any (thn (he pins s σ H _ I h) fun v s1 ⟨x, H1, I1, r1, q1⟩ => ⟨σ, H1, I1, q1⟩) I.quiet hs
noncomputable def tRet (te : TE) : TS := fun D σ H => te σ H D.rt
theorem ps_ret (he : PE X e te) : PS X (.Return (some e) pos) (tRet te) := by
  intro pins s σ H D I h
  exact wpAny_Return_some (thn (he pins s σ H _ I h) fun v s1 ⟨x, H1, I1, r1, q1⟩ => ⟨x, σ, H1, I1, r1, q1⟩)
noncomputable def tIfS (c : TT) (t u : TS) : TS := fun D σ H => c σ H fun b H1 => if b = true then t D σ H1 else u D σ H1
theorem ps_if {c : Expr} {a b : List Stmt} {tc : TT} (hc : PT X c tc) (ha : PSs X a t) (hb : PSs X b u) : PS X (.If c a b pos) (tIfS tc t u) := by
  intro pins s σ H D I h
  refine wpAny_If (thn (hc pins s σ H _ I h) fun d s1 ⟨H1, I1, q1⟩ => ?_)
  cases d with
  | true => exact ha pins s1 σ H1 D I1 q1
  | false => exact hb pins s1 σ H1 D I1 q1
end

noncomputable abbrev TG := V → St → Hp → (St → Hp → Prop) → Prop
noncomputable abbrev TGs := List V → St → Hp → (St → Hp → Prop) → Prop
noncomputable def PG (X : Cx) (target : Expr) (t : TG) : Prop :=
  ∀ (pins : List (Addr × Obj)) (s : Shared) (σ : St) (H : Hp) (v : V) (u : Value) (Q : St → Hp → Prop), Inv X pins σ H s → RelV v u → t v σ H Q →
    wpAny (model X.prog X.w) X.A (assign target X.env u) (fun _ s' => ∃ σ' H', Inv X pins σ' H' s' ∧ Q σ' H') X.xe s
noncomputable def PGs (X : Cx) (ts : List Expr) (t : TGs) : Prop :=
  ∀ (pins : List (Addr × Obj)) (s : Shared) (σ : St) (H : Hp) (vs : List V) (us : List Value) (Q : St → Hp → Prop), Inv X pins σ H s → Vals vs us → t vs σ H Q →
    wpAny (model X.prog X.w) X.A (assignInOrder ((assignEach ts X.env).map (·.2)) us) (fun _ s' => ∃ σ' H', Inv X pins σ' H' s' ∧ Q σ' H') X.xe s
noncomputable abbrev TSet := V → V → V → Hp → (Hp → Prop) → Prop
noncomputable def PSet (X : Cx) (t : TSet) : Prop :=
  ∀ (pins : List (Addr × Obj)) (s : Shared) (σ : St) (H : Hp) (o i v : V) (ov iv u : Value) (Q : Hp → Prop), Inv X pins σ H s → RelV o ov → RelV i iv → RelV v u → t o i v H Q →
    wpAny (model X.prog X.w) X.A (setItem ov iv u) (fun _ s' => ∃ H', Inv X pins σ H' s' ∧ Q H') X.xe s
section
variable {X : Cx} {pos : Pos}
noncomputable def gName (i : Nat) : TG := fun v σ H Q => Q (σ.set i (some v)) H
theorem pg_name {i : Nat} {x : Str} (hN : X.N.Nodup) (hi : X.N[i]? = some x) (hx : Loc X.env.scope x) (hf : X.fn x = true ∨ X.env.scope.names.lookup x = some .local := by first | exact .inl rfl | exact .inr rfl | assumption) : PG X (.Name x pos) (gName i) := by
  intro pins s σ H v u Q I r h
  exact wpAny_assign_Name (store_ok I hN hi hx r (fun s' I' => ⟨_, H, I', h⟩) hf)
noncomputable def gNil : TGs := fun vs σ H Q => vs = [] ∧ Q σ H
noncomputable def gCons (t : TG) (u : TGs) : TGs := fun vs σ H Q => ∃ v r, vs = v :: r ∧ t v σ H fun σ' H' => u r σ' H' Q
theorem pgs_nil : PGs X [] gNil := by
  intro pins s σ H vs us Q I r h
  obtain ⟨e, h⟩ := h
  subst e
  cases r
  exact assignInOrder_nil ⟨σ, H, I, h⟩
theorem pgs_cons {e : Expr} {es : List Expr} {t : TG} {u : TGs} (h1 : PG X e t) (h2 : PGs X es u)
    (hs : (assignEach (e :: es) X.env).map (·.2) = assign e X.env :: (assignEach es X.env).map (·.2) := by rfl) : PGs X (e :: es) (gCons t u) := by
  intro pins s σ H vs us Q I r h
  obtain ⟨v, vr, e1, h⟩ := h
  subst e1
  cases r with
  | cons r rr =>
    rw [hs]
    refine assignInOrder_cons (thn (h1 pins s σ H _ _ _ I r h) fun _ s1 ⟨σ1, H1, I1, q1⟩ => ?_)
    exact h2 pins s1 σ1 H1 _ _ Q I1 rr q1
noncomputable def gTup (K : PySem.W.Frag) (n : Nat) (t : TGs) : TG := fun v σ H Q => ∃ a xs, v = .ref a ∧ SqT K H a xs ∧ xs.length = n ∧ t xs σ H Q
theorem pg_tup {es : List Expr} {k : Nat} {t : TGs} {n : Nat} (hc : X.calm = true) (h : PGs X es t)
    (hn : (assignEach es X.env).length = n := by rfl) (hst : (assignEach es X.env).findIdx? (·.1) = none := by rfl) : PG X (.Tuple es k pos) (gTup X.K n t) := by
  intro pins s σ H v u Q I r hw
  obtain ⟨a, xs, e1, hq, hl, hw⟩ := hw
  subst e1
  cases r
  obtain ⟨its, rv, ht, hz⟩ := I.tuple hq
  refine assign_Tuple_tuple (I.ok.hd hc) ht (by simp [hn, ← hl, rv.length]) hst fun h' hx => ?_
  have I1 : Inv X pins σ H { s with heap := h' } := I.kept (t' := s.toks) fun b o e => hx b o (Nat.ne_of_lt (Heap.lt_size e)) e
  exact h pins _ σ H xs _ Q I1 (by simpa using rv) hw
noncomputable def gSub (to ti : TE) (t : TSet) : TG := fun v σ H Q => to σ H fun o H1 => ti σ H1 fun i H2 => t o i v H2 fun H3 => Q σ H3
theorem pg_sub {o i : Expr} {to ti : TE} {t : TSet} (ho : PE X o to) (hi : PE X i ti) (hs : PSet X t)
    (ha : ∀ v, assign (.Subscript o i pos) X.env v = (do
      let ov ← holding [v] (eval o X.env)
      let iv ← holding [v, ov] (eval i X.env)
      standAt pos
      holding [v, ov, iv] (setItem ov iv v)
      release [v, ov, iv] []) := by intro _; rfl) : PG X (.Subscript o i pos) (gSub to ti t) := by
  intro pins s σ H v u Q I r h
  rw [ha]
  refine wpAny_bind (wpAny_holding (thn (ho pins s σ H _ I h) fun ov s1 ⟨x, H1, I1, r1, q1⟩ => ?_))
  refine wpAny_bind (wpAny_holding (thn (hi pins s1 σ H1 _ I1 q1) fun iv s2 ⟨y, H2, I2, r2, q2⟩ => ?_))
  refine wpAny_bind (wpAny_standAt (wpAny_bind (wpAny_holding (thn (hs pins s2 σ H2 x y v ov iv u _ I2 r1 r2 r q2) fun _ s3 ⟨H3, I3, q3⟩ => ?_))))
  exact wpAny_release ⟨σ, H3, I3, q3⟩
noncomputable def tAsg (te : TE) (g : TG) : TS := fun D σ H => te σ H fun x H1 => g x σ H1 D.nx
theorem ps_asg {tg e : Expr} {te : TE} {g : TG} (he : PE X e te) (hg : PG X tg g) (hs : swapsWithSole [tg] e pos.line X.env = pure false := by rfl) (hw : swappedStores [tg] e X.env = pure none := by rfl)
    (h1 : (assignEach [tg] X.env).map (·.2) = [assign tg X.env] := by rfl) : PS X (.Assign [tg] e pos) (tAsg te g) := by
  intro pins s σ H D I h
  refine wpAny_Assign_stores (thn (he pins s σ H _ I h) fun v s1 ⟨x, H1, I1, r1, q1⟩ => ?_) hs hw
  rw [h1]
  exact thn (hg pins s1 σ H1 x v _ I1 r1 q1) fun _ s2 q => q
theorem ps_set {i : Nat} {x : Str} {e : Expr} {te : TE} {pos' : Pos} (hN : X.N.Nodup) (hi : X.N[i]? = some x) (hx : Loc X.env.scope x) (he : PE X e te) (hs : swapsWith e (some (.Name x pos')) pos.line X.env = pure false := by rfl) (hf : X.fn x = true ∨ X.env.scope.names.lookup x = some .local := by first | exact .inl rfl | exact .inr rfl | assumption) :
    PS X (.Assign [.Name x pos'] e pos) (tAsg te (gName i)) := by
  intro pins s σ H D I h
  refine wpAny_Assign_Name (thn (he pins s σ H _ I h) fun v s1 ⟨y, H1, I1, r1, q1⟩ => ?_) hs
  exact store_ok I1 hN hi hx r1 (fun s2 I2 => ⟨_, H1, I2, q1⟩) hf
end

section
variable {X : Cx} {pos : Pos}
noncomputable def tWhile (c : TT) (tb : TS) : TS := fun D σ H => ∃ W : Nat → St → Hp → Prop, (∃ m, W m σ H) ∧ ∀ m σ H, W m σ H →
  c σ H fun b H1 => if b = true then ∃ N : St → Hp → Prop, (∀ σ' H', N σ' H' → ∃ m', m' < m ∧ W m' σ' H') ∧ tb { D with nx := N, ct := N, bk := D.nx } σ H1 else D.nx σ H1
theorem ps_while {c : Expr} {body : List Stmt} {tc : TT} {tb : TS} (hp : PassesOwn (model X.prog X.w) X.A X.env X.xe) (hc : PT X c tc) (hb : PSs X body tb) : PS X (.While c body [] pos) (tWhile tc tb) := by
  intro pins s σ H D I h
  obtain ⟨W, ⟨m0, w0⟩, turn⟩ := h
  refine wpAny_While (codeAny_whileLoop (fun n s' => ∃ σ' H', Inv X pins σ' H' s' ∧ W n σ' H') ?_ m0 ⟨σ, H, I, w0⟩)
  rintro n s1 ⟨σ1, H1, I1, w1⟩
  refine wpAny_passesOwn hp (thn (hc pins s1 σ1 H1 _ I1 (turn n σ1 H1 w1)) fun b s2 ⟨H2, I2, q2⟩ => ?_)
  cases b with
  | true =>
    obtain ⟨N, hN, q2⟩ := q2
    rw [if_pos rfl]
    refine wpAny_passesOwn hp (thn (hb pins s2 σ1 H2 _ I2 q2) fun f s3 q3 => ?_)
    cases f with
    | next =>
      obtain ⟨σ3, H3, I3, n3⟩ := q3
      obtain ⟨m', hm, w3⟩ := hN σ3 H3 n3
      exact ⟨m', hm, σ3, H3, I3, w3⟩
    | cont =>
      obtain ⟨σ3, H3, I3, n3⟩ := q3
      obtain ⟨m', hm, w3⟩ := hN σ3 H3 n3
      exact ⟨m', hm, σ3, H3, I3, w3⟩
    | brk => exact q3
    | ret v => exact q3
  | false =>
    rw [if_neg Bool.false_ne_true]
    exact wpAny_execs_nil ⟨σ1, H2, I2, q2⟩
end

set_option genInjectivity false in
structure It where
  go : Nat → Hp → Prop
  yld : Nat → Hp → V → Hp → Prop
  stop : Nat → Hp → Prop
noncomputable def FpOk (X : Cx) (pins : List (Addr × Obj)) (H : Hp) (b : Addr) : Prop :=
  H b = none ∧ b ≠ X.env.locals ∧ b ∉ X.fs ∧ (b ∈ X.ex ∨ X.s₀.heap.objs.size ≤ b) ∧ (∀ x c, X.env.cells.lookup x = some c → c ≠ b) ∧ ∀ p ∈ X.pn ++ pins, p.1 ≠ b
theorem Inv.fpOk {X : Cx} {pins : List (Addr × Obj)} {σ : St} {H H' : Hp} {s : Shared} {b : Addr} (I : Inv X pins σ H s) (hb : s.heap.objs.size ≤ b) (hn : H' b = none) : FpOk X pins H' b := by
  refine ⟨hn, Nat.ne_of_gt (Nat.lt_of_lt_of_le I.lt hb), I.nofs hb, .inr (Nat.le_trans I.sz hb), fun x c e z => ?_, fun p hp z => ?_⟩
  · obtain ⟨v, q⟩ := I.cell x c e
    exact absurd (Nat.lt_of_lt_of_le q.lt (by rw [z]; exact hb)) (Nat.lt_irrefl _)
  · exact absurd (Nat.lt_of_lt_of_le (Heap.lt_size (I.pin p hp).1) (by rw [z]; exact hb)) (Nat.lt_irrefl _)
set_option genInjectivity false in
structure Turn (P : Program) (w : World) (K : PySem.W.Frag) (tg : Expr) (J : It) (fp : List Addr) (it : Addr) (tn : Nat → Heap → Prop) : Prop where
  mem : it ∈ fp
  obj : ∀ i h, tn i h → ∀ b ∈ fp, ∃ o, h.get? b = some o ∧ ∀ v, o.data ≠ .cell v
  keep : ∀ i h h', tn i h → (∀ b ∈ fp, ∀ o, h.get? b = some o → h'.get? b = some o) → tn i h'
  item : ∀ (X : Cx), X.prog = P → X.w = w → X.K = K → X.calm = true → ∀ (i : Nat) (pins : List (Addr × Obj)) (s : Shared) (σ : St) (H : Hp) (E : Value → Shared → Prop), Inv X pins σ H s → (∀ b ∈ fp, FpOk X pins H b) → tn i s.heap → J.go i H →
    wpAny (model P w) X.A (pyNext (.ref it)) (fun r s1 => ∃ u, r = some u ∧
      wpAny (model P w) X.A (letOwnedTupleGo tg (.ref it) u) (fun _ s2 => ∃ x H', Inv X pins σ H' s2 ∧ RelV x u ∧ J.yld i H x H' ∧ tn (i + 1) s2.heap ∧ ∀ b ∈ fp, H' b = none) E s1) E s
  done : ∀ (X : Cx), X.prog = P → X.w = w → X.K = K → X.calm = true → ∀ (i : Nat) (pins : List (Addr × Obj)) (s : Shared) (σ : St) (H : Hp) (E : Value → Shared → Prop), Inv X pins σ H s → (∀ b ∈ fp, FpOk X pins H b) → tn i s.heap → J.stop i H →
    wpAny (model P w) X.A (pyNext (.ref it)) (fun r s1 => r = none ∧ Inv X pins σ H s1) E s
  self : ∀ (A : Around) (i : Nat) (s : Shared) (Q : Value → Shared → Prop) (E : Value → Shared → Prop), tn i s.heap → Q (.ref it) s → wpAny (model P w) A (pyIter (.ref it)) Q E s
noncomputable abbrev TI := St → Hp → (It → Hp → Prop) → Prop
noncomputable def PIE (X : Cx) (pins : List (Addr × Obj)) (σ : St) (tg : Expr) (R : It → Hp → Prop) (itv : Value) (s2 : Shared) : Prop :=
  ∃ (it : Addr) (fp : List Addr) (tn : Nat → Heap → Prop) (J : It) (H' : Hp), itv = .ref it ∧ Inv X pins σ H' s2 ∧ Turn X.prog X.w X.K tg J fp it tn ∧ tn 0 s2.heap ∧ (∀ b ∈ fp, FpOk X pins H' b) ∧ R J H'
noncomputable def PI (X : Cx) (tg iter : Expr) (wi : TI) : Prop :=
  ∀ (pins : List (Addr × Obj)) (s : Shared) (σ : St) (H : Hp) (R : It → Hp → Prop), Inv X pins σ H s → wi σ H R →
    wpAny (model X.prog X.w) X.A (eval iter X.env) (fun v s1 => wpAny (model X.prog X.w) X.A (pyIter v) (PIE X pins σ tg R) X.xe s1) X.xe s

theorem go_of {M : Model} {A : Around} {E : Value → Shared → Prop} {s : Shared} {tg : Expr} {it : Addr} {u : Value} {o : Obj} {n : String} {vs : Array Value} {Q : Unit → Shared → Prop} (ho : s.heap.get? it = some o) (hc : o.cls = .type n) (hd : o.data = .fields vs)
    (hn : ["enumerate", "zip", "dict_itemiterator", "dict_reverseitemiterator", "odict_iterator", "itertools.zip_longest", "itertools.pairwise"].contains n = false) (hQ : Q () s) : wpAny M A (letOwnedTupleGo tg (.ref it) u) Q E s := by
  unfold letOwnedTupleGo
  cases tg <;> first
    | exact wpAny_pure hQ
    | (cases u <;> first
        | exact wpAny_pure hQ
        | (refine wpAny_bind (wpAny_load ho ?_)
           rw [hc, hd]
           show wpAny M A (if (["enumerate", "zip", "dict_itemiterator", "dict_reverseitemiterator", "odict_iterator", "itertools.zip_longest", "itertools.pairwise"].contains n && vs[0]? == some (rawInt _)) = true then _ else _) Q E s
           rw [if_neg (by intro h; rw [hn, Bool.false_and] at h; cases h)]
           exact wpAny_pure hQ))

noncomputable def Itl (K : PySem.W.Frag) (a : Addr) : It :=
  ⟨fun i H => ∃ xs x, SqL K H a xs ∧ xs[i]? = some x, fun i H x H' => H' = H ∧ ∀ xs, SqL K H a xs → xs[i]? = some x, fun i H => ∃ xs, SqL K H a xs ∧ xs.length ≤ i⟩
noncomputable def Itr (lo : Int) (n : Nat) : It := ⟨fun i _ => i < n, fun i H x H' => H' = H ∧ x = .int (lo + i), fun i _ => n ≤ i⟩
theorem turn_list {P : Program} {w : World} {K : PySem.W.Frag} {tg : Expr} (a it : Addr) : Turn P w K tg (Itl K a) [it] it (fun i h => h.IsListIter it a i) where
  mem := by simp
  obj := fun i h st b hb => by
    have e : b = it := by simpa using hb
    subst e
    obtain ⟨o, e, c, d⟩ := st
    exact ⟨o, e, fun v z => by rw [d] at z; cases z⟩
  keep := fun i h h' st k => st.at fun o e => k it (by simp) o e
  item := by
    intro X hP hw hK hc i pins s σ H E I hf st hg
    subst hP hw hK
    obtain ⟨xs, x, hq, hx⟩ := hg
    obtain ⟨its, rv, p, hz⟩ := I.list hq
    obtain ⟨u, hu, ru⟩ := rv.get hx
    obtain ⟨f0, f1, f2, f3, f4, f5⟩ := hf it (by simp)
    refine wpAny_pyNext_list_item st p.isList (x := u) (by simpa using hu) fun h' st' sb => ?_
    have I1 : Inv X pins σ H { s with heap := h' } := I.turned (t' := s.toks) (fun b o hb e => (sb.2 b hb).trans e) f0 f1 f3 f4 f5
    obtain ⟨o, e, c, d⟩ := id st'
    exact ⟨u, rfl, go_of (s := { s with heap := h' }) e c d (by decide) ⟨x, H, I1, ru, ⟨rfl, fun ys hy => by rw [I.list_inj hy hq]; exact hx⟩, st', fun b hb => (hf b hb).1⟩⟩
  done := by
    intro X hP hw hK hc i pins s σ H E I hf st hg
    subst hP hw hK
    obtain ⟨xs, hq, hx⟩ := hg
    obtain ⟨its, rv, p, hz⟩ := I.list hq
    obtain ⟨f0, f1, f2, f3, f4, f5⟩ := hf it (by simp)
    have hl := rv.length
    exact wpAny_pyNext_list_end (I.ok.hd hc) st p.isList (by simp; omega) fun h' eb => ⟨rfl, I.turned (t' := s.toks) (fun b o hb e => eb b o hb e) f0 f1 f3 f4 f5⟩
  self := fun _ _ _ _ _ st h => wpAny_pyIter_listiter st h
theorem turn_range {P : Program} {w : World} {K : PySem.W.Frag} {tg : Expr} (it : Addr) (lo : Int) (n : Nat) : Turn P w K tg (Itr lo n) [it] it (fun i h => IsRangeIter h it (lo + (i : Nat) * 1) ((n : Int) - (i : Nat)) 1) where
  mem := by simp
  obj := fun i h st b hb => by
    have e : b = it := by simpa using hb
    subst e
    exact ⟨_, st, fun v z => by
      have z' : Data.fields _ = Data.cell v := z
      cases z'⟩
  keep := fun i h h' st k => k it (by simp) _ st
  item := by
    intro X hP hw hK hc i pins s σ H E I hf st hg
    subst hP hw hK
    obtain ⟨f0, f1, f2, f3, f4, f5⟩ := hf it (by simp)
    have W := Walks.range (prog := X.prog) (w := X.w) (I.ok.hd hc) it lo 1 n
    refine W.item i s _ _ hg st fun v h' tk hv st' kk => ?_
    obtain ⟨t, rfl⟩ := hv
    have I1 : Inv X pins σ H { s with heap := h', toks := tk } := I.turned (fun b o hb e => kk b o (by simpa using hb) e) f0 f1 f3 f4 f5
    refine ⟨_, rfl, go_of (s := { s with heap := h', toks := tk }) (n := "range_iterator") st' rfl rfl (by decide) ⟨.int (lo + i), H, I1, ⟨t, ?_⟩, ⟨rfl, rfl⟩, st', fun b hb => (hf b hb).1⟩⟩
    rw [Int.mul_one]
  done := by
    intro X hP hw hK hc i pins s σ H E I hf st hg
    subst hP hw hK
    obtain ⟨f0, f1, f2, f3, f4, f5⟩ := hf it (by simp)
    exact wpAny_pyNext_range_end (I.ok.hd hc) st (by have : n ≤ i := hg; omega) fun h' eb => ⟨rfl, I.turned (t' := s.toks) (fun b o hb e => eb b o hb e) f0 f1 f3 f4 f5⟩
  self := fun _ _ _ _ _ st h => wpAny_pyIter_rangeiter st h
end L2

namespace L2
open PySem PySem.Spec PyProof.Rows
section
variable {X : Cx} {tg : Expr}
noncomputable def iList (K : PySem.W.Frag) (tl : TE) : TI := fun σ H R => tl σ H fun x H1 => ∃ a, x = .ref a ∧ (∃ xs, SqL K H1 a xs) ∧ R (Itl K a) H1
theorem pi_list {l : Expr} {tl : TE} (hl : PE X l tl) : PI X tg l (iList X.K tl) := by
  intro pins s σ H R I h
  refine thn (hl pins s σ H _ I h) fun v s1 ⟨x, H1, I1, r1, q1⟩ => ?_
  obtain ⟨a, e, ⟨xs, hq⟩, q⟩ := q1
  subst e
  cases r1
  obtain ⟨its, rv, p, hz⟩ := I1.list hq
  refine wpAny_pyIter_list p.isList ?_
  refine ⟨s1.heap.objs.size, [s1.heap.objs.size], _, _, H1, rfl, I1.kept (t' := s1.toks) fun b o e => Heap.get?_push_of_some _ e, turn_list a _, ⟨_, Heap.get?_push_size _ rfl, rfl, rfl⟩, fun b hb => ?_, q⟩
  have e : b = s1.heap.objs.size := by simpa using hb
  subst e
  exact I1.fpOk (Nat.le_refl _) (I1.hok.fresh (Nat.le_refl _))
theorem range_it {pins : List (Addr × Obj)} {σ : St} {H : Hp} {s : Shared} {R : It → Hp → Prop} {E : Value → Shared → Prop} {lo hi : Int} {t u v : Tok} {tk : Nat} (I : Inv X pins σ H s) (h1 : -(2 ^ 62) ≤ lo) (h2 : lo < 2 ^ 62) (h3 : -(2 ^ 62) ≤ hi) (h4 : hi < 2 ^ 62)
    (q : R (Itr lo (hi - lo).toNat) H) : wpAny (model X.prog X.w) X.A (pyIter (.ref s.heap.objs.size)) (PIE X pins σ tg R) E { s with heap := s.heap.push { cls := .type "range", data := .fields #[.int lo t, .int hi u, .int 1 v] }, toks := tk } := by
  refine wpAny_pyIter_range (IsRange.new ..) (small_one h1 h2 h3 h4) ?_
  have I1 : Inv X pins σ H { s with heap := s.heap.push { cls := .type "range", data := .fields #[.int lo t, .int hi u, .int 1 v] }, toks := tk } := I.kept fun b o e => Heap.get?_push_of_some _ e
  refine ⟨(s.heap.push { cls := .type "range", data := .fields #[.int lo t, .int hi u, .int 1 v] }).objs.size, [(s.heap.push { cls := .type "range", data := .fields #[.int lo t, .int hi u, .int 1 v] }).objs.size], _, _, H, rfl,
    I1.kept (t' := tk) fun b o e => Heap.get?_push_of_some _ e, turn_range _ lo (hi - lo).toNat, ?_, fun b hb => ?_, q⟩
  · have e1 : lo + ((0 : Nat) : Int) * 1 = lo := by simp
    have e2 : (((hi - lo).toNat : Nat) : Int) - ((0 : Nat) : Int) = Builtin.Range.rangeSize lo hi 1 := by rw [rangeSize_one]; split <;> omega
    show IsRangeIter _ _ (lo + ((0 : Nat) : Int) * 1) ((((hi - lo).toNat : Nat) : Int) - ((0 : Nat) : Int)) 1
    rw [e1, e2]
    exact Heap.get?_push_size _ rfl
  · have e : b = (s.heap.push { cls := .type "range", data := .fields #[.int lo t, .int hi u, .int 1 v] }).objs.size := by simpa using hb
    subst e
    exact I1.fpOk (Nat.le_refl _) (I1.hok.fresh (Nat.le_refl _))
noncomputable def iRng1 (ta : TA) : TI := fun σ H R => ta σ H fun vs H1 => ∃ j : Int, vs = [.int j] ∧ -(2 ^ 62) ≤ j ∧ j < 2 ^ 62 ∧ R (Itr 0 j.toNat) H1
theorem pi_range1 {a : Expr} {ta : TA} {p pos : Pos} (hg : Gl X "range") (hm : X.mg "range" = none) (ha : PA X [a] ta) (hs : starEach [a] X.env = [(false, eval a X.env)] := by rfl) : PI X tg (.Call (.Name "range" p) [a] [] pos) (iRng1 ta) := by
  intro pins s σ H R I h
  refine Call_ (ld_blt I hg hm boot_range (PyProof.Rows.callWith_type1 (thn (ha pos pins s σ H _ I h) fun us s1 ⟨vs, H1, I1, r1, q1⟩ => ?_) hs rfl))
  obtain ⟨j, e, q1, q2, q⟩ := q1
  subst e
  cases r1 with
  | cons r rr =>
    cases rr
    obtain ⟨t, rfl⟩ := r
    exact call_range_1 (range_it I1 (by omega) (by omega) q1 q2 (by simpa using q))
noncomputable def tFor (wi : TI) (g : TG) (tb : TS) : TS := fun D σ H => wi σ H fun J H1 => ∃ W : Nat → Nat → St → Hp → Prop, (∃ m, W 0 m σ H1) ∧ ∀ i m σ H, W i m σ H →
  (J.stop i H ∧ D.nx σ H) ∨ (J.go i H ∧ ∃ N : St → Hp → Prop, (∀ σ' H', N σ' H' → ∃ m', m' < m ∧ W (i + 1) m' σ' H') ∧ ∀ x H', J.yld i H x H' → g x σ H' fun σ2 H2 => tb { D with nx := N, ct := N, bk := D.nx } σ2 H2)
noncomputable def pinsAt (fp : List Addr) (h : Heap) : List (Addr × Obj) := fp.filterMap fun b => (h.get? b).map fun o => (b, o)
theorem mem_pinsAt {fp : List Addr} {h : Heap} {b : Addr} {o : Obj} (hb : b ∈ fp) (e : h.get? b = some o) : (b, o) ∈ pinsAt fp h := List.mem_filterMap.mpr ⟨b, hb, by rw [e]; rfl⟩
theorem of_pinsAt {fp : List Addr} {h : Heap} {p : Addr × Obj} (hp : p ∈ pinsAt fp h) : p.1 ∈ fp ∧ h.get? p.1 = some p.2 := by
  obtain ⟨b, hb, e⟩ := List.mem_filterMap.mp hp
  cases q : h.get? b with
  | none => rw [q] at e; cases e
  | some o =>
    rw [q] at e
    have e' : (b, o) = p := Option.some.inj e
    subst e'
    exact ⟨hb, q⟩
theorem Inv.pinned {pins : List (Addr × Obj)} {σ : St} {H : Hp} {s : Shared} {fp : List Addr} (I : Inv X pins σ H s) (hf : ∀ b ∈ fp, FpOk X pins H b) (ho : ∀ b ∈ fp, ∃ o, s.heap.get? b = some o ∧ ∀ v, o.data ≠ .cell v) : Inv X (pins ++ pinsAt fp s.heap) σ H s :=
  I.pins_of fun p hp => (List.mem_append.mp hp).elim (fun z => I.pin p (List.mem_append_right _ z)) fun z => by
    obtain ⟨hb, e⟩ := of_pinsAt z
    obtain ⟨f0, f1, f2, _⟩ := hf p.1 hb
    obtain ⟨o, e', d⟩ := ho p.1 hb
    rw [e] at e'; cases e'
    exact ⟨e, f0, f1, f2, d⟩
theorem Inv.unpinned {pins pl : List (Addr × Obj)} {σ : St} {H : Hp} {s : Shared} (I : Inv X (pins ++ pl) σ H s) : Inv X pins σ H s := I.pins_of fun p hp => I.pin p (List.mem_append_right _ (List.mem_append_left _ hp))
theorem ps_for {iter : Expr} {body : List Stmt} {wi : TI} {g : TG} {tb : TS} {pos : Pos} (hp : PassesOwn (model X.prog X.w) X.A X.env X.xe) (hc : X.calm = true) (hi : PI X tg iter wi) (hg : PG X tg g) (hb : PSs X body tb)
    (hs : ∀ x, foldedSetIterable iter X.env x = pure x := by intro _; rfl) : PS X (.For tg iter body [] pos) (tFor wi g tb) := by
  intro pins s σ H D I h
  refine wpAny_For (thn (hi pins s σ H _ I h) fun v s1 h1 => thn h1 fun itv s2 h2 => ?_) hs
  obtain ⟨it, fp, tn, J, H2, e, I2, T, st2, f2, W, ⟨m0, w0⟩, turn⟩ := h2
  subst e
  -- what stays true of the iterator's objects through the loop
  have stat : ∀ {H' : Hp}, (∀ b ∈ fp, H' b = none) → ∀ b ∈ fp, FpOk X pins H' b := fun hn b hb => ⟨hn b hb, (f2 b hb).2⟩
  refine codeAny_forLoop_any (fun n s' => ∃ i σ' H', Inv X pins σ' H' s' ∧ tn i s'.heap ∧ (∀ b ∈ fp, H' b = none) ∧ W i n σ' H') ?_ m0 ⟨0, σ, H2, I2, st2, fun b hb => (f2 b hb).1, w0⟩
  rintro n s3 ⟨i, σ3, H3, I3, st3, fr3, w3⟩
  rcases turn i n σ3 H3 w3 with ⟨stop, qn⟩ | ⟨go, N, hN, step⟩
  · refine wpAny_passesOwn hp (thn (T.done X rfl rfl rfl hc i pins s3 σ3 H3 X.xe I3 (stat fr3) st3 stop) fun r s4 ⟨hr, I4⟩ => ?_)
    subst hr
    exact wpAny_execs_nil ⟨σ3, H3, I4, qn⟩
  · refine wpAny_passesOwn hp (thn (T.item X rfl rfl rfl hc i pins s3 σ3 H3 X.xe I3 (stat fr3) st3 go) fun r s4 ⟨u, hr, h4⟩ => ?_)
    subst hr
    refine wpAny_passesOwn hp (thn h4 fun _ s5 ⟨x, H5, I5, r5, y5, st5, fr5⟩ => ?_)
    have I5' := I5.pinned (stat fr5) (T.obj _ _ st5)
    refine wpAny_passesOwn hp (thn (hg _ s5 σ3 H5 x u _ I5' r5 (step x H5 y5)) fun _ s6 ⟨σ6, H6, I6, q6⟩ => ?_)
    refine wpAny_passesOwn hp (thn (hb _ s6 σ6 H6 _ I6 q6) fun f s7 q7 => ?_)
    have again : ∀ {σ7 : St} {H7 : Hp}, Inv X (pins ++ pinsAt fp s5.heap) σ7 H7 s7 → N σ7 H7 → ∃ m, m < n ∧ ∃ i σ' H', Inv X pins σ' H' s7 ∧ tn i s7.heap ∧ (∀ b ∈ fp, H' b = none) ∧ W i m σ' H' := fun {σ7 H7} I7 n7 => by
      obtain ⟨m', hm, w7⟩ := hN σ7 H7 n7
      refine ⟨m', hm, i + 1, σ7, H7, I7.unpinned, T.keep _ _ _ st5 fun b hb o e => (I7.pin (b, o) (List.mem_append_right _ (List.mem_append_right _ (mem_pinsAt hb e)))).1, fun b hb => ?_, w7⟩
      obtain ⟨o, e, d⟩ := T.obj _ _ st5 b hb
      exact (I7.pin (b, o) (List.mem_append_right _ (List.mem_append_right _ (mem_pinsAt hb e)))).2.1
    cases f with
    | next => obtain ⟨σ7, H7, I7, n7⟩ := q7; exact again I7 n7
    | cont => obtain ⟨σ7, H7, I7, n7⟩ := q7; exact again I7 n7
    | brk => obtain ⟨σ7, H7, I7, q7⟩ := q7; exact ⟨σ7, H7, I7.unpinned, q7⟩
    | ret v => obtain ⟨x7, σ7, H7, I7, r7, q7⟩ := q7; exact ⟨x7, σ7, H7, I7.unpinned, r7, q7⟩
end

theorem for_list {K : PySem.W.Frag} {a : Addr} {xs : List V} {g : TG} {tb : TS} {D : Ends} {σ : St} {H : Hp} (Pv : Nat → St → Hp → Prop) (h0 : Pv 0 σ H) (hl : ∀ i σ H, i ≤ xs.length → Pv i σ H → SqL K H a xs)
    (hs : ∀ i x σ H, xs[i]? = some x → Pv i σ H → g x σ H fun σ2 H2 => tb { D with nx := Pv (i + 1), ct := Pv (i + 1), bk := D.nx } σ2 H2) (hd : ∀ σ H, Pv xs.length σ H → D.nx σ H) :
    ∃ W : Nat → Nat → St → Hp → Prop, (∃ m, W 0 m σ H) ∧ ∀ i m σ H, W i m σ H →
      ((Itl K a).stop i H ∧ D.nx σ H) ∨ ((Itl K a).go i H ∧ ∃ N : St → Hp → Prop, (∀ σ' H', N σ' H' → ∃ m', m' < m ∧ W (i + 1) m' σ' H') ∧ ∀ x H', (Itl K a).yld i H x H' → g x σ H' fun σ2 H2 => tb { D with nx := N, ct := N, bk := D.nx } σ2 H2) := by
  refine ⟨fun i m σ H => m = xs.length - i ∧ i ≤ xs.length ∧ Pv i σ H, ⟨xs.length, by simp, Nat.zero_le _, h0⟩, ?_⟩
  rintro i m σ H ⟨rfl, hi, p⟩
  have q := hl i σ H hi p
  by_cases hlt : i < xs.length
  · refine .inr ⟨⟨xs, xs[i], q, by simp [hlt]⟩, Pv (i + 1), fun σ' H' p' => ⟨xs.length - (i + 1), by omega, rfl, hlt, p'⟩, fun x H' y => ?_⟩
    obtain ⟨e, y⟩ := y
    subst e
    exact hs i x σ _ (y xs q) p
  · have e : i = xs.length := by omega
    subst e
    exact .inl ⟨⟨xs, q, Nat.le_refl _⟩, hd σ H p⟩
theorem for_range {lo : Int} {n : Nat} {g : TG} {tb : TS} {D : Ends} {σ : St} {H : Hp} (Pv : Nat → St → Hp → Prop) (h0 : Pv 0 σ H)
    (hs : ∀ i σ H, i < n → Pv i σ H → g (.int (lo + i)) σ H fun σ2 H2 => tb { D with nx := Pv (i + 1), ct := Pv (i + 1), bk := D.nx } σ2 H2) (hd : ∀ σ H, Pv n σ H → D.nx σ H) :
    ∃ W : Nat → Nat → St → Hp → Prop, (∃ m, W 0 m σ H) ∧ ∀ i m σ H, W i m σ H →
      ((Itr lo n).stop i H ∧ D.nx σ H) ∨ ((Itr lo n).go i H ∧ ∃ N : St → Hp → Prop, (∀ σ' H', N σ' H' → ∃ m', m' < m ∧ W (i + 1) m' σ' H') ∧ ∀ x H', (Itr lo n).yld i H x H' → g x σ H' fun σ2 H2 => tb { D with nx := N, ct := N, bk := D.nx } σ2 H2) := by
  refine ⟨fun i m σ H => m = n - i ∧ i ≤ n ∧ Pv i σ H, ⟨n, by simp, Nat.zero_le _, h0⟩, ?_⟩
  rintro i m σ H ⟨rfl, hi, p⟩
  by_cases hlt : i < n
  · refine .inr ⟨hlt, Pv (i + 1), fun σ' H' p' => ⟨n - (i + 1), by omega, rfl, hlt, p'⟩, fun x H' y => ?_⟩
    obtain ⟨e, y⟩ := y
    subst e y
    exact hs i σ _ hlt p
  · have e : i = n := by omega
    subst e
    exact .inl ⟨Nat.le_refl _, hd σ H p⟩
end L2

namespace L2
open PySem PySem.Spec PyProof.Rows

noncomputable abbrev R2 := V → V → Hp → VK → Prop
noncomputable def OpR (X : Cx) (f : Value → Value → Sem Value) (r : R2) : Prop :=
  ∀ (pins : List (Addr × Obj)) (s : Shared) (σ : St) (H : Hp) (x y : V) (v u : Value) (Q : VK), Inv X pins σ H s → RelV x v → RelV y u → r x y H Q →
    wpAny (model X.prog X.w) X.A (f v u) (EP X pins σ Q) X.xe s
noncomputable def UnR (X : Cx) (f : Value → Sem Value) (r : V → Hp → VK → Prop) : Prop :=
  ∀ (pins : List (Addr × Obj)) (s : Shared) (σ : St) (H : Hp) (x : V) (v : Value) (Q : VK), Inv X pins σ H s → RelV x v → r x H Q →
    wpAny (model X.prog X.w) X.A (f v) (EP X pins σ Q) X.xe s
noncomputable def CallR (X : Cx) (f : Value) (r : List V → Hp → VK → Prop) : Prop :=
  ∀ (pins : List (Addr × Obj)) (s : Shared) (σ : St) (H : Hp) (xs : List V) (us : List Value) (Q : VK), Inv X pins σ H s → Vals xs us → r xs H Q →
    wpAny (model X.prog X.w) X.A (call f us) (EP X pins σ Q) X.xe s
noncomputable def tOp (r : R2) (ta tb : TE) : TE := fun σ H Q => ta σ H fun x H1 => tb σ H1 fun y H2 => r x y H2 Q
noncomputable def tUn (r : V → Hp → VK → Prop) (ta : TE) : TE := fun σ H Q => ta σ H fun x H1 => r x H1 Q
noncomputable def rI (C : Int → Int → Prop) (g : Int → Int → V) : R2 := fun x y H Q => ∃ i j, x = .int i ∧ y = .int j ∧ C i j ∧ Q (g i j) H
noncomputable def rI0 (g : Int → Int → V) : R2 := fun x y H Q => ∃ i j, x = .int i ∧ y = .int j ∧ Q (g i j) H
noncomputable def rU (g : Int → V) : V → Hp → VK → Prop := fun x H Q => ∃ i, x = .int i ∧ Q (g i) H

section
variable {X : Cx} {a b c : Expr} {ta tb tc : TE} {pos : Pos}

theorem binT (ha : PE X a ta) (hb : PE X b tb) {pins : List (Addr × Obj)} {s : Shared} {σ : St} {H : Hp} {R : V → V → Hp → Prop} (I : Inv X pins σ H s)
    (h : ta σ H fun x H1 => tb σ H1 fun y H2 => R x y H2) {Q : Value → Shared → Prop} {f : Value → Value → Sem Value}
    (hf : ∀ v u s2 x y H2, Inv X pins σ H2 s2 → RelV x v → RelV y u → R x y H2 → wpAny (model X.prog X.w) X.A (f v u) Q X.xe s2) :
    wpAny (model X.prog X.w) X.A (eval a X.env) (fun v s₁ => wpAny (model X.prog X.w) X.A (eval b X.env) (fun u s₂ => wpAny (model X.prog X.w) X.A (f v u) Q X.xe s₂) X.xe s₁) X.xe s := by
  refine thn (ha pins s σ H _ I h) fun v s1 ⟨x, H1, I1, r1, q1⟩ => ?_
  refine thn (hb pins s1 σ H1 _ I1 q1) fun u s2 ⟨y, H2, I2, r2, q2⟩ => ?_
  exact hf v u s2 x y H2 I2 r1 r2 q2

theorem pe_op {op : Operator} {r : R2} (ho : OpR X (binaryOp op) r) (ha : PE X a ta) (hb : PE X b tb) : PE X (.BinOp a op b pos) (tOp r ta tb) := by
  intro pins s σ H Q I h
  exact wpAny_BinOp (binT ha hb I h fun v u s2 x y H2 I2 rx ry q => ho pins s2 σ H2 x y v u Q I2 rx ry q)
theorem pe_un {op : UnaryOp} {r : V → Hp → VK → Prop} (ho : UnR X (unaryOp op) r) (ha : PE X a ta) : PE X (.UnaryOp op a pos) (tUn r ta) := by
  intro pins s σ H Q I h
  exact UnaryOp_ (thn (ha pins s σ H _ I h) fun v s1 ⟨x, H1, I1, r1, q1⟩ => ho pins s1 σ H1 x v Q I1 r1 q1)
theorem opI {f : Value → Value → Sem Value} {C : Int → Int → Prop} {g : Int → Int → Int}
    (rule : ∀ (i j : Int) (t u : Tok) (s : Shared) (Q : Value → Shared → Prop) (E : Value → Shared → Prop), C i j → Q (.int (g i j) s.toks) { s with toks := s.toks + 1 } → wpAny (model X.prog X.w) X.A (f (.int i t) (.int j u)) Q E s) :
    OpR X f (rI C fun i j => .int (g i j)) := by
  intro pins s σ H x y v u Q I rx ry h
  obtain ⟨i, j, rfl, rfl, hc, q⟩ := h
  obtain ⟨t, rfl⟩ := rx
  obtain ⟨t', rfl⟩ := ry
  exact rule i j t t' s _ _ hc ⟨.int (g i j), H, I.tok _, ⟨_, rfl⟩, q⟩
theorem opI0 {f : Value → Value → Sem Value} {g : Int → Int → Int}
    (rule : ∀ (i j : Int) (t u : Tok) (s : Shared) (Q : Value → Shared → Prop) (E : Value → Shared → Prop), Q (.int (g i j) s.toks) { s with toks := s.toks + 1 } → wpAny (model X.prog X.w) X.A (f (.int i t) (.int j u)) Q E s) :
    OpR X f (rI0 fun i j => .int (g i j)) := by
  intro pins s σ H x y v u Q I rx ry h
  obtain ⟨i, j, rfl, rfl, q⟩ := h
  obtain ⟨t, rfl⟩ := rx
  obtain ⟨t', rfl⟩ := ry
  exact rule i j t t' s _ _ ⟨.int (g i j), H, I.tok _, ⟨_, rfl⟩, q⟩
theorem opB0 {f : Value → Value → Sem Value} {g : Int → Int → Bool}
    (rule : ∀ (i j : Int) (t u : Tok) (s : Shared) (Q : Value → Shared → Prop) (E : Value → Shared → Prop), Q (.bool (g i j)) s → wpAny (model X.prog X.w) X.A (f (.int i t) (.int j u)) Q E s) :
    OpR X f (rI0 fun i j => .bl (g i j)) := by
  intro pins s σ H x y v u Q I rx ry h
  obtain ⟨i, j, rfl, rfl, q⟩ := h
  obtain ⟨t, rfl⟩ := rx
  obtain ⟨t', rfl⟩ := ry
  exact rule i j t t' s _ _ ⟨.bl (g i j), H, I, rfl, q⟩

theorem op_add : OpR X (binaryOp .Add) (rI0 fun i j => .int (i + j)) := opI0 fun _ _ _ _ _ _ _ q => add_int q
theorem op_sub : OpR X (binaryOp .Sub) (rI0 fun i j => .int (i - j)) := opI0 fun _ _ _ _ _ _ _ q => sub_int q
theorem op_mod : OpR X (binaryOp .Mod) (rI (fun _ j => 0 < j) fun i j => .int (i % j)) := opI fun i j _ _ _ _ _ hc q => by
  have h1 : (0 : Int) < j := hc
  exact mod_int' (by omega) (by rw [Int.fmod_eq_emod_of_nonneg i (by omega)]; exact q)
theorem unI {f : Value → Sem Value} {g : Int → Int}
    (rule : ∀ (i : Int) (t : Tok) (s : Shared) (Q : Value → Shared → Prop) (E : Value → Shared → Prop), Q (.int (g i) s.toks) { s with toks := s.toks + 1 } → wpAny (model X.prog X.w) X.A (f (.int i t)) Q E s) :
    UnR X f (rU fun i => .int (g i)) := by
  intro pins s σ H x v Q I rx h
  obtain ⟨i, rfl, q⟩ := h
  obtain ⟨t, rfl⟩ := rx
  exact rule i t s _ _ ⟨.int (g i), H, I.tok _, ⟨_, rfl⟩, q⟩
theorem un_neg : UnR X (unaryOp .USub) (rU fun i => .int (-i)) := unI fun _ _ _ _ _ q => neg_int q
end

noncomputable def scal : V → V → Bool
  | .non, .non => true | .non, .int _ => true | .int _, .non => true | .non, .bl _ => true | .bl _, .non => true | .non, .str _ => true | .str _, .non => true
  | .int _, .int _ => true | .bl _, .bl _ => true | .str _, .str _ => true | .byt _, .byt _ => true
  | .int _, .str _ => true | .str _, .int _ => true | .bl _, .str _ => true | .str _, .bl _ => true
  | _, _ => false
noncomputable def rEq : R2 := fun x y H Q => scal x y = true ∧ Q (.bl (decide (x = y))) H
noncomputable def rNe : R2 := fun x y H Q => scal x y = true ∧ Q (.bl (!decide (x = y))) H

theorem dec_int {i j : Int} : decide (V.int i = V.int j) = (i == j) := by
  rw [Bool.eq_iff_iff]
  simp
theorem dec_bl {i j : Bool} : decide (V.bl i = V.bl j) = (i == j) := by
  rw [Bool.eq_iff_iff]
  simp
theorem dec_str {i j : Str} : decide (V.str i = V.str j) = (i == j) := by
  rw [Bool.eq_iff_iff]
  simp
theorem dec_byt {i j : Array UInt8} : decide (V.byt i = V.byt j) = (i.toList == j.toList) := by
  rw [Bool.eq_iff_iff]
  cases i
  cases j
  simp

section
variable {X : Cx} {a b c : Expr} {ta tb tc : TE} {pos : Pos}
theorem fin_bl {pins : List (Addr × Obj)} {σ : St} {H : Hp} {s : Shared} {Q : VK} {k k' : Bool} (I : Inv X pins σ H s) (q : Q (.bl k) H) (e : k = k') : EP X pins σ Q (.bool k') s := by
  subst e
  exact ⟨.bl k, H, I, rfl, q⟩
theorem op_eq : OpR X (compareOp .Eq) rEq := by
  intro pins s σ H x y v u Q I rx ry h
  obtain ⟨hs, q⟩ := h
  cases x with
  | non =>
    cases rx
    cases y with
    | non => cases ry; exact PySem.EqNone.eq_none_none (fin_bl I q (by simp))
    | bl j => cases ry; exact PySem.EqNone.eq_none_bool (fin_bl I q (by simp))
    | int j => obtain ⟨t', rfl⟩ := ry; exact PySem.EqNone.eq_none_int (fin_bl I q (by simp))
    | str j => obtain ⟨t', rfl⟩ := ry; exact PySem.EqNone.eq_none_str (fin_bl I q (by simp))
    | _ => exact absurd (show false = true from hs) Bool.false_ne_true
  | bl i =>
    cases rx
    cases y with
    | non => cases ry; exact PySem.EqNone.eq_bool_none (fin_bl I q (by simp))
    | bl j => cases ry; exact eq_bool (fin_bl I q dec_bl)
    | str j => obtain ⟨t', rfl⟩ := ry; exact PySem.EqMixed.eq_bool_str (fin_bl I q (by simp))
    | _ => exact absurd (show false = true from hs) Bool.false_ne_true
  | int i =>
    obtain ⟨t, rfl⟩ := rx
    cases y with
    | non => cases ry; exact PySem.EqNone.eq_int_none (fin_bl I q (by simp))
    | int j => obtain ⟨t', rfl⟩ := ry; exact eq_int (fin_bl I q dec_int)
    | str j => obtain ⟨t', rfl⟩ := ry; exact PySem.EqMixed.eq_int_str (fin_bl I q (by simp))
    | _ => exact absurd (show false = true from hs) Bool.false_ne_true
  | str i =>
    obtain ⟨t, rfl⟩ := rx
    cases y with
    | non => cases ry; exact PySem.EqNone.eq_str_none (fin_bl I q (by simp))
    | bl j => cases ry; exact PySem.EqMixed.eq_str_bool (fin_bl I q (by simp))
    | int j => obtain ⟨t', rfl⟩ := ry; exact PySem.EqMixed.eq_str_int (fin_bl I q (by simp))
    | str j => obtain ⟨t', rfl⟩ := ry; exact eq_str (fin_bl I q dec_str)
    | _ => exact absurd (show false = true from hs) Bool.false_ne_true
  | byt i =>
    obtain ⟨t, rfl⟩ := rx
    cases y with
    | byt j => obtain ⟨t', rfl⟩ := ry; exact PySem.W.eq_bytes (fin_bl I q dec_byt)
    | _ => exact absurd (show false = true from hs) Bool.false_ne_true
  | _ => cases y <;> exact absurd (show false = true from hs) Bool.false_ne_true
theorem op_ne : OpR X (compareOp .NotEq) rNe := by
  intro pins s σ H x y v u Q I rx ry h
  obtain ⟨hs, q⟩ := h
  cases x with
  | non =>
    cases rx
    cases y with
    | non => cases ry; exact PySem.EqNone.ne_none_none (fin_bl I q (by simp))
    | bl j => cases ry; exact PySem.EqNone.ne_none_bool (fin_bl I q (by simp))
    | int j => obtain ⟨t', rfl⟩ := ry; exact PySem.EqNone.ne_none_int (fin_bl I q (by simp))
    | str j => obtain ⟨t', rfl⟩ := ry; exact PySem.EqNone.ne_none_str (fin_bl I q (by simp))
    | _ => exact absurd (show false = true from hs) Bool.false_ne_true
  | bl i =>
    cases rx
    cases y with
    | non => cases ry; exact PySem.EqNone.ne_bool_none (fin_bl I q (by simp))
    | bl j => cases ry; exact ne_bool (fin_bl I q (congrArg not dec_bl))
    | str j => obtain ⟨t', rfl⟩ := ry; exact PySem.EqMixed.ne_bool_str (fin_bl I q (by simp))
    | _ => exact absurd (show false = true from hs) Bool.false_ne_true
  | int i =>
    obtain ⟨t, rfl⟩ := rx
    cases y with
    | non => cases ry; exact PySem.EqNone.ne_int_none (fin_bl I q (by simp))
    | int j => obtain ⟨t', rfl⟩ := ry; exact ne_int (fin_bl I q (congrArg not dec_int))
    | str j => obtain ⟨t', rfl⟩ := ry; exact PySem.EqMixed.ne_int_str (fin_bl I q (by simp))
    | _ => exact absurd (show false = true from hs) Bool.false_ne_true
  | str i =>
    obtain ⟨t, rfl⟩ := rx
    cases y with
    | non => cases ry; exact PySem.EqNone.ne_str_none (fin_bl I q (by simp))
    | bl j => cases ry; exact PySem.EqMixed.ne_str_bool (fin_bl I q (by simp))
    | int j => obtain ⟨t', rfl⟩ := ry; exact PySem.EqMixed.ne_str_int (fin_bl I q (by simp))
    | str j => obtain ⟨t', rfl⟩ := ry; exact ne_str (fin_bl I q (congrArg not dec_str))
    | _ => exact absurd (show false = true from hs) Bool.false_ne_true
  | byt i =>
    obtain ⟨t, rfl⟩ := rx
    cases y with
    | byt j => obtain ⟨t', rfl⟩ := ry; exact PySem.W.ne_bytes (fin_bl I q (congrArg not dec_byt))
    | _ => exact absurd (show false = true from hs) Bool.false_ne_true
  | _ => cases y <;> exact absurd (show false = true from hs) Bool.false_ne_true

theorem op_lt : OpR X (compareOp .Lt) (rI0 fun i j => .bl (decide (i < j))) := opB0 fun _ _ _ _ _ _ _ q => lt_int q
theorem op_le : OpR X (compareOp .LtE) (rI0 fun i j => .bl (decide (i ≤ j))) := opB0 fun _ _ _ _ _ _ _ q => le_int q
theorem op_gt : OpR X (compareOp .Gt) (rI0 fun i j => .bl (decide (j < i))) := opB0 fun _ _ _ _ _ _ _ q => gt_int q
theorem op_ge : OpR X (compareOp .GtE) (rI0 fun i j => .bl (decide (j ≤ i))) := opB0 fun _ _ _ _ _ _ _ q => ge_int q
theorem nomark (b : Expr) {op : CmpOp} (h : op ≠ .In := by decide) (h2 : op ≠ .NotIn := by decide) : behindInMarks op b = false := by
  have e1 : (op == CmpOp.In) = false := by cases op <;> first | rfl | exact absurd rfl h
  have e2 : (op == CmpOp.NotIn) = false := by cases op <;> first | rfl | exact absurd rfl h2
  cases b <;> simp [behindInMarks, e1, e2]
theorem pe_cmpR {op : CmpOp} {r : R2} (ho : OpR X (compareOp op) r) (ha : PE X a ta) (hb : PE X b tb) (hm : behindInMarks op b = false) : PE X (.Compare a [op] [b] pos) (tOp r ta tb) := by
  intro pins s σ H Q I h
  exact wpAny_Compare1 (binT ha hb I h fun v u s2 x y H2 I2 rx ry q => ho pins s2 σ H2 x y v u Q I2 rx ry q) hm
noncomputable def tTest (t : TE) : TT := fun σ H Q => t σ H fun x H' => ∃ k, x = .bl k ∧ Q k H'
theorem pt_cmpR {op : CmpOp} {r : R2} (ho : OpR X (compareOp op) r) (ha : PE X a ta) (hb : PE X b tb) (hm : behindInMarks op b = false) : PT X (.Compare a [op] [b] pos) (tTest (tOp r ta tb)) := by
  intro pins s σ H Q I h
  refine wpAny_isTrue_Compare1 (thn (ha pins s σ H _ I h) fun v s1 ⟨x, H1, I1, r1, q1⟩ => thn (hb pins s1 σ H1 _ I1 q1) fun u s2 ⟨y, H2, I2, r2, q2⟩ =>
    thn (ho pins s2 σ H2 x y v u _ I2 r1 r2 q2) fun c s3 ⟨z, H3, I3, r3, k, e, q3⟩ => ?_) hm
  subst e
  cases r3
  exact wpAny_truthy_bool ⟨H3, I3, q3⟩
theorem line63 : (sizeLine : Nat) < 2 ^ 63 := by rw [sizeLine_eq]; decide
theorem vals1 {x : V} {us : List Value} (r : Vals [x] us) : ∃ u, us = [u] ∧ RelV x u := by
  cases r with
  | cons r1 r2 => cases r2; exact ⟨_, rfl, r1⟩
theorem vals2 {x y : V} {us : List Value} (r : Vals [x, y] us) : ∃ u w', us = [u, w'] ∧ RelV x u ∧ RelV y w' := by
  cases r with
  | cons r1 r2 =>
    cases r2 with
    | cons r3 r4 => cases r4; exact ⟨_, _, rfl, r1, r3⟩
theorem call_abs : CallR X (.builtin "abs") (fun xs H Q => ∃ i, xs = [.int i] ∧ Q (.int (if i < 0 then -i else i)) H) := by
  intro pins s σ H xs us Q I r h
  obtain ⟨i, rfl, q⟩ := h
  obtain ⟨u, rfl, t, rfl⟩ := vals1 r
  exact call_abs_int fun u tk => ⟨.int (if i < 0 then -i else i), H, I.tok _, ⟨_, rfl⟩, q⟩
theorem call_max2 (hc : X.calm = true) : CallR X (.builtin "max") (fun xs H Q => ∃ i j, xs = [.int i, .int j] ∧ Q (.int (if j > i then j else i)) H) := by
  intro pins s σ H xs us Q I r h
  obtain ⟨i, j, rfl, q⟩ := h
  obtain ⟨u, w', rfl, ⟨t, rfl⟩, ⟨t', rfl⟩⟩ := vals2 r
  refine max_two_ints (I.ok.hd hc) fun h' tk k => ⟨_, H, I.kept k, ?_, q⟩
  by_cases hj : j > i
  · rw [if_pos hj, if_pos hj]; exact ⟨_, rfl⟩
  · rw [if_neg hj, if_neg hj]; exact ⟨_, rfl⟩
theorem call_min2 (hc : X.calm = true) : CallR X (.builtin "min") (fun xs H Q => ∃ i j, xs = [.int i, .int j] ∧ Q (.int (if j < i then j else i)) H) := by
  intro pins s σ H xs us Q I r h
  obtain ⟨i, j, rfl, q⟩ := h
  obtain ⟨u, w', rfl, ⟨t, rfl⟩, ⟨t', rfl⟩⟩ := vals2 r
  refine min_two_ints (I.ok.hd hc) fun h' tk k => ⟨_, H, I.kept k, ?_, q⟩
  by_cases hj : j < i
  · rw [if_pos hj, if_pos hj]; exact ⟨_, rfl⟩
  · rw [if_neg hj, if_neg hj]; exact ⟨_, rfl⟩
end
end L2

namespace L2
open PySem PySem.Spec PyProof.Rows

structure ObjM (h : Heap) (x dx C : Addr) (mA : Str → Option Value) : Prop where
  obj : h.get? x = some (PySem.W.instObj C dx)
  ns : h.Ns1 dx mA
  ne : dx ≠ x

theorem lookIn_ns {h : Heap} {dx : Addr} {mA : Str → Option Value} (n : h.Ns1 dx mA) : ∃ od, h.get? dx = some od ∧ ∀ name, PySem.W.lookIn name od = some (mA name) := by
  obtain ⟨o, es, ep, ho, hd, hk, _, hm⟩ := n
  refine ⟨o, ho, fun name => ?_⟩
  have e := hm name
  unfold nsFind findBy at e
  rw [← Array.find?_toList] at e
  unfold PySem.W.lookIn
  rw [hd]
  dsimp only
  split
  · rename_i y q
    rw [q] at e
    exact congrArg some e
  · rename_i q
    rw [q] at e
    have a : es.toList.any (·.refKey) = false := by
      rw [List.any_eq_false]
      intro y hy
      obtain ⟨z, t, hkey⟩ := hk y (Array.mem_toList_iff.mp hy)
      simp [DictEntry.refKey, hkey]
    have a' : ¬ es.toList.any (·.refKey) = true := by rw [a]; exact Bool.false_ne_true
    rw [if_neg a']
    exact congrArg some e

theorem ObjM.look {h : Heap} {x dx C : Addr} {mA : Str → Option Value} (I : ObjM h x dx C mA) : ∃ od, PySem.W.InstAt h x (PySem.W.instObj C dx) C (some od) ∧ ∀ name, PySem.W.lookIn name od = some (mA name) :=
  let ⟨od, ho, hl⟩ := lookIn_ns I.ns
  ⟨od, ⟨I.obj, rfl, rfl, ho⟩, hl⟩

section
variable {prog : Program} {w : World} {A : Around} {E : Value → Shared → Prop} {s : Shared} {K : PySem.W.Frag} {x dx C f : Addr} {mA : Str → Option Value} {name : Str} {v : Value}

end

section
variable {P : Program} {w : World} {H H' : Hp} {h h' : Heap} {a C dx : Addr} {fs fs' : List (Str × V)}
theorem ins_get (hok : HOk P w H h) (e : H a = some (.ins C dx fs)) : ∃ mA, ObjM h a dx C mA ∧ (∀ f, RelO (fs.lookup f) (mA f)) ∧ PySem.Within mA (fs.map (·.1)) ∧ fs.length ≤ 1000 ∧ H dx = some (.own a) := by
  obtain ⟨d, z, ne, ob, mA, n, r, q⟩ := (show ObjOk P w H h a (.ins C dx fs) from hok a _ e)
  exact ⟨mA, ⟨ob, n, ne⟩, r, q, z, d⟩
end

structure Cls (K : PySem.W.Frag) (C : Addr) : Prop where
  pg : PySem.W.plainGet K C Str.empty = true
  hd : PySem.W.hasDictIn K C = true
  po : PySem.W.plainOver K C = true
  sa : PySem.W.findIn K (.ref C) "__setattr__" = some (some (.builtin "object.__setattr__"))
theorem Cls.get {K : PySem.W.Frag} {C : Addr} (c : Cls K C) (f : Str) : PySem.W.plainGet K C f = true := c.pg
section
variable {X : Cx} {pins : List (Addr × Obj)} {σ : St} {H : Hp} {s : Shared} {a C dx : Addr} {fs : List (Str × V)} {f : Str} {v : V} {A : Around} {E : Value → Shared → Prop}

end

section
variable {X : Cx} {o e value : Expr} {f : Str} {pos pos' tpos : Pos} {ta tv : TE}
end

section
variable {X : Cx} {pins : List (Addr × Obj)} {σ : St} {H : Hp} {s : Shared} {A : Around} {E : Value → Shared → Prop} {Q : Value → Shared → Prop} {c : Value} {b : Bool}
inductive TyOf (K : PySem.W.Frag) (H : Hp) : V → Value → Prop where
  | non : TyOf K H .non (.type "NoneType")
  | bl (x : Bool) : TyOf K H (.bl x) (.type "bool")
  | int (i : Int) : TyOf K H (.int i) (.type "int")
  | str (x : Str) : TyOf K H (.str x) (.type "str")
  | flt (x : UInt64) : TyOf K H (.flt x) (.type "float")
  | lst {a : Addr} {xs : List V} (e : H a = some (.lst xs)) : TyOf K H (.ref a) (.type "list")
  | frz {a : Addr} {o : Obj} {xs : List V} (e : H a = some (.frz o (.lst xs))) : TyOf K H (.ref a) (.type "list")
  | tup {a : Addr} {xs : List V} (e : H a = some (.tup xs)) : TyOf K H (.ref a) (.type "tuple")
  | dK {a : Addr} {kvs : List (Key × V)} (e : H a = some (.dK kvs)) : TyOf K H (.ref a) (.type "dict")
  | dT {a : Addr} {kvs : List (List Key × V)} (e : H a = some (.dT kvs)) : TyOf K H (.ref a) (.type "dict")
  | ins {a C dx : Addr} {fs : List (Str × V)} (e : H a = some (.ins C dx fs)) (cl : Cls K C) (ha : PySem.W.findIn K (.ref C) "__class__" = some (some (.builtin "object.__class__")))
      (hn : PySem.W.specialIn K (.builtin "object.__class__") "__get__" = some (some (.builtin "getset_descriptor.__get__"))) (htk : PySem.W.takesIn K (.builtin "object.__class__") = some true)
      (hm : PySem.W.mroIn K C (.type "object") = some true) : TyOf K H (.ref a) (.ref C)
theorem isinst_ok {x : V} {u t : Value} (I : Inv X pins σ H s) (rx : RelV x u) (ty : TyOf X.K H x t) (e : PySem.W.kitOne X.K t c = some b) (h : ∀ tk, Q (.bool b) { s with toks := tk }) :
    wpAny (model X.prog X.w) A (call (.builtin "isinstance") [u, c]) Q E s := by
  cases ty with
  | non => cases (show u = Value.none from rx); exact PySem.W.kia_one PySem.W.kitx_none I.kIn True.intro e (fun z => nomatch z) h
  | bl y => cases (show u = Value.bool y from rx); exact PySem.W.kia_one PySem.W.kitx_bool I.kIn True.intro e (fun z => nomatch z) h
  | int i => obtain ⟨t, q⟩ := (show ∃ t, u = Value.int i t from rx); cases q; exact PySem.W.kia_one PySem.W.kitx_int I.kIn True.intro e (fun z => nomatch z) h
  | str y => obtain ⟨t, q⟩ := (show ∃ t, u = Value.str y t from rx); cases q; exact PySem.W.kia_one PySem.W.kitx_str I.kIn True.intro e (fun z => nomatch z) h
  | flt y => obtain ⟨t, q⟩ := (show ∃ t, u = Value.float y t from rx); cases q; exact PySem.W.kia_one PySem.W.kitx_float I.kIn True.intro e (fun z => nomatch z) h
  | @lst a xs ea =>
    cases (show u = Value.ref a from rx)
    obtain ⟨_, _, n, _, h1⟩ := (show ObjOk X.prog X.w H s.heap a (.lst xs) from I.hok a _ ea)
    exact PySem.W.kia_one PySem.W.kitx_list I.kIn ⟨_, h1, rfl⟩ e (fun z => nomatch z) h
  | @frz a ob xs ea =>
    cases (show u = Value.ref a from rx)
    obtain ⟨_, _, _, n, _, h1⟩ := (show ObjOk X.prog X.w H s.heap a (.frz ob (.lst xs)) from I.hok a _ ea)
    exact PySem.W.kia_one PySem.W.kitx_list I.kIn ⟨_, h1, rfl⟩ e (fun z => nomatch z) h
  | @tup a xs ea =>
    cases (show u = Value.ref a from rx)
    obtain ⟨_, _, _, p⟩ := (show ObjOk X.prog X.w H s.heap a (.tup xs) from I.hok a _ ea)
    obtain ⟨o, h1, h2, _⟩ := p
    exact PySem.W.kia_one PySem.W.kitx_tuple I.kIn ⟨o, h1, h2⟩ e (fun z => nomatch z) h
  | @dK a kvs ea =>
    cases (show u = Value.ref a from rx)
    obtain ⟨_, _, vs, _, p⟩ := (show ObjOk X.prog X.w H s.heap a (.dK kvs) from I.hok a _ ea)
    obtain ⟨o, es, ep, h1, h2, _⟩ := p
    exact PySem.W.kia_one PySem.W.kitx_dict I.kIn ⟨o, h1, h2.1⟩ e (fun z => nomatch z) h
  | @dT a kvs ea =>
    cases (show u = Value.ref a from rx)
    obtain ⟨_, _, xs, _, o, es, ep, h1, h2, _⟩ := (show ObjOk X.prog X.w H s.heap a (.dT kvs) from I.hok a _ ea)
    exact PySem.W.kia_one PySem.W.kitx_dict I.kIn ⟨o, h1, h2.1⟩ e (fun z => nomatch z) h
  | @ins a C dx fs ea cl ha hn htk hm =>
    cases (show u = Value.ref a from rx)
    obtain ⟨mA, O, _⟩ := ins_get I.hok ea
    obtain ⟨od, J, _⟩ := O.look
    exact PySem.W.kia_one (PySem.W.kitx_own (cl.get _) cl.hd ha hn htk hm) I.kIn J e (fun z => nomatch z) h
end
end L2

namespace L2
open PySem PySem.Spec PyProof.Rows

structure Room (k : Nat) (A : Around) : Prop where
  hd : A.handled = none
  dp : A.depth + 3 * k + 5 < recursionLimit
  un : A.units + 16 * k + 200 < cLine
theorem Room.mono {j k : Nat} {A : Around} (r : Room k A) (h : j ≤ k) : Room j A := ⟨r.hd, by have := r.dp; omega, by have := r.un; omega⟩
theorem Room.deeper {k : Nat} {A : Around} (r : Room (k + 1) A) (env : Env) : Room k (A.deeper env) :=
  ⟨r.hd, by have := r.dp; show A.depth + 1 + 3 * k + 5 < _; omega, by have := r.un; show A.units + 3 + 16 * k + 200 < _; omega⟩
theorem Room.depth {k : Nat} {A : Around} (r : Room k A) : A.depth < recursionLimit := by have := r.dp; omega
theorem Room.units {k : Nat} {A : Around} (r : Room k A) : A.units + 64 < cLine := by have := r.un; omega
theorem Room.units0 {k : Nat} {A : Around} (r : Room k A) : A.units < cLine := by have := r.un; omega

noncomputable def tNil : TA := fun _ H Q => Q [] H
noncomputable def tCons (ta : TE) (tr : TA) : TA := fun σ H Q => ta σ H fun x H1 => tr σ H1 fun xs H2 => Q (x :: xs) H2
section
variable {X : Cx} {e : Expr} {es : List Expr} {te : TE} {t : TA} {pos : Pos}
theorem pa_nil : PA X [] tNil := fun _ _ _ _ H Q I h => Calls.spliced_nil ⟨[], H, I, .nil, h⟩
theorem pa_cons (ha : PE X e te) (hr : PA X es t) (hs : starEach (e :: es) X.env = (false, eval e X.env) :: starEach es X.env := by rfl) : PA X (e :: es) (tCons te t) := by
  intro pos pins s σ H Q I h
  rw [hs]
  show wpAny _ _ (spliced ((false, eval e X.env) :: backTo pos (starEach es X.env))) _ _ s
  refine Calls.spliced_cons (thn (ha pins s σ H _ I h) fun u s1 ⟨x, H1, I1, r1, q1⟩ => ?_)
  exact thn (hr pos pins s1 σ H1 _ I1 q1) fun us s2 ⟨xs, H2, I2, r2, q2⟩ => ⟨x :: xs, H2, I2, .cons r1 r2, q2⟩

noncomputable def tTup (t : TA) : TE := fun σ H Q => t σ H fun xs H1 => xs.length ≤ sizeLine ∧ ∀ p, H1 p = none → Q (.ref p) (upd H1 p (.tup xs))
noncomputable def tLst (t : TA) : TE := fun σ H Q => t σ H fun xs H1 => xs.length ≤ sizeLine ∧ ∀ p, H1 p = none → Q (.ref p) (upd H1 p (.lst xs))
theorem pe_tup {x1} (h : PA X es t) : PE X (.Tuple es x1 pos) (tTup t) := by
  intro pins s σ H Q I hq
  refine wpAny_Tuple_spliced (thn (h pos pins s σ H _ I hq) fun us s1 ⟨xs, H1, I1, r, z, q⟩ => ⟨by rw [← r.length]; exact z, ?_⟩)
  have hf : H1 s1.heap.objs.size = none := I1.hok.fresh (Nat.le_refl _)
  refine ⟨.ref s1.heap.objs.size, upd H1 s1.heap.objs.size (.tup xs), I1.laid (t' := s1.toks) (fun b u e => Heap.get?_push_of_some _ e) (Nat.le_refl _) ?_, rfl, q _ hf⟩
  exact ⟨z, us, r, ⟨_, Heap.get?_push_size _ rfl, rfl, _, rfl⟩⟩
theorem pe_lst (h : PA X es t) : PE X (.List es pos) (tLst t) := by
  intro pins s σ H Q I hq
  refine wpAny_List_spliced (thn (h pos pins s σ H _ I hq) fun us s1 ⟨xs, H1, I1, r, z, q⟩ => ⟨by rw [← r.length]; exact z, ?_⟩)
  have hf : H1 s1.heap.objs.size = none := I1.hok.fresh (Nat.le_refl _)
  refine ⟨.ref s1.heap.objs.size, upd H1 s1.heap.objs.size (.lst xs), I1.laid (t' := s1.toks) (fun b u e => Heap.get?_push_of_some _ e) (Nat.le_refl _) ?_, rfl, q _ hf⟩
  exact ⟨z, us, 0, r, Heap.get?_push_size _ rfl⟩
end

noncomputable abbrev Sp := List V → Hp → VK → XK → Prop
noncomputable abbrev CXT := List Env → Hp → Shared → XK → Value → Shared → Prop

set_option genInjectivity false in
structure Env0 (P : Program) (w : World) (K : PySem.W.Frag) (mg : Str → Option Value) (base : Heap) (A : Around) (outer : List Env) (s : Shared) (H : Hp) : Prop where
  frames : A.frames = some outer
  mod : Mod K mg base
  bs : ∀ b o, base.get? b = some o → s.heap.get? b = some o ∧ H b = none
  bsz : base.objs.size ≤ s.heap.objs.size
  funs : s.heap.FunFrames base outer
  frf : ∀ b ∈ frs outer, H b = none
  hok : HOk P w H s.heap
  bare : AllBare s.gens
noncomputable def CE (outer : List Env) (P : Program) (w : World) (H : Hp) (s : Shared) (Q : VK) (u : Value) (s' : Shared) : Prop :=
  ∃ v H', s'.os = s.os ∧ AllBare s'.gens ∧ Un (frs outer) [] H H' s.heap s'.heap ∧ HOk P w H' s'.heap ∧ RelV v u ∧ Q v H'
noncomputable def CR (CX : CXT) (outer : List Env) (P : Program) (w : World) (H : Hp) (s : Shared) (Q : VK) (E : XK) (r : Result) (s' : Shared) : Prop :=
  match r with
  | .ok (.ret u) => CE outer P w H s Q u s'
  | .ok _ => False
  | .error e => CX outer H s E e s'
structure FnOk (P : Program) (w : World) (K : PySem.W.Frag) (mg : Str → Option Value) (base : Heap) (CX : CXT) (k : Nat) (f : Addr) (fd : FuncData) (ps : List Str) (sp : Sp) : Prop where
  len : ∀ vs H Q E, sp vs H Q E → vs.length = ps.length
  run : ∀ (A : Around) (outer : List Env) (s : Shared) (H : Hp) (args : Args) (us : List Value) (vs : List V) (Q : VK) (E : XK), Room k A → Env0 P w K mg base A outer s H → BindsTo s fd args (ps.zip us) → Vals vs us → sp vs H Q E →
    codeAny (model P w) A (.call (.ref f) args) (CR CX outer P w H s Q E) s
section
variable {X : Cx} {pins : List (Addr × Obj)} {σ : St} {H : Hp} {s s' : Shared}
theorem Inv.env0 (I : Inv X pins σ H s) : Env0 X.prog X.w X.K X.mg X.base X.A X.stack s H :=
  ⟨I.ok.frames, I.ok.mod, I.bs, Nat.le_trans I.ok.bsz I.sz, I.stack, I.stkFree, I.hok, I.bare⟩
theorem Inv.after {Q : VK} {u : Value} (I : Inv X pins σ H s) (h : CE X.stack X.prog X.w H s Q u s') : EP X pins σ Q u s' := by
  obtain ⟨v, H', os, bare, un, hok, r, q⟩ := h
  obtain ⟨hh, g, d, t, os'⟩ := s'
  obtain rfl : os' = s.os := os
  exact ⟨v, H', I.call (h' := hh) (g' := g) (d' := d) (t' := t) (ch := []) un hok bare (fun b z => absurd z (by simp)), r, q⟩
end

noncomputable def tCall (sp : Sp) (dvs : List V) (E : XK) (t : TA) : TE := fun σ H Q => t σ H fun vs H1 => sp (vs ++ dvs) H1 Q E
noncomputable def Binds (K : PySem.W.Frag) (fd : FuncData) (ps : List Str) (ds : List Value) : Prop :=
  ∀ (s : Shared) (us : List Value), K.In s.heap → (us ++ ds).length = ps.length → BindsTo s fd ⟨us, []⟩ (ps.zip (us ++ ds))
theorem Binds.all {K : PySem.W.Frag} {fd : FuncData} {ps : List Str} (h : ∀ us : List Value, us.length = ps.length → bindArgs fd ⟨us, []⟩ = pure (ps.zip us)) : Binds K fd ps [] := fun s us _ hl => by
  rw [List.append_nil] at hl ⊢
  exact .of_eq (h us hl)

noncomputable def Passes (CX : CXT) (X : Cx) (E : XK) : Prop := ∀ (pins : List (Addr × Obj)) (σ : St) (H : Hp) (s : Shared) (e : Value) (s' : Shared), Inv X pins σ H s → CX X.stack H s E e s' → X.xe e s'

section
variable {X : Cx} {CX : CXT} {k : Nat} {f C : Addr} {fd : FuncData} {ps : List Str} {sp : Sp} {dvs : List V} {ds : List Value} {E : XK} {x m : Str} {p pos apos : Pos} {e o : Expr} {es : List Expr} {ta : TE} {t : TA}

theorem run_fn {pins : List (Addr × Obj)} {σ : St} {H : Hp} {s : Shared} {Q : VK} {us : List Value} {vs : List V} (F : FnOk X.prog X.w X.K X.mg X.base CX k f fd ps sp) (hr : Room k X.A) (hb : Binds X.K fd ps ds) (hd : Vals dvs ds) (hx : Passes CX X E)
    (I : Inv X pins σ H s) (r : Vals vs us) (h : sp (vs ++ dvs) H Q E) : wpAny (model X.prog X.w) X.A (call (.ref f) us) (EP X pins σ Q) X.xe s := by
  have r2 : Vals (vs ++ dvs) (us ++ ds) := r.append hd
  have hl : (us ++ ds).length = ps.length := by rw [← r2.length]; exact F.len _ _ _ _ h
  refine wpAny_call (codeAny_mono (F.run X.A X.stack s H ⟨us, []⟩ (us ++ ds) (vs ++ dvs) Q E hr I.env0 (hb s us I.kIn hl) r2 h) fun r s' hq => ?_)
  cases r with
  | error e => exact hx pins σ H s e s' I hq
  | ok fl =>
    cases fl with
    | ret u => exact I.after hq
    | next => exact False.elim hq
    | brk => exact False.elim hq
    | cont => exact False.elim hq

theorem pe_call (F : FnOk X.prog X.w X.K X.mg X.base CX k f fd ps sp) (hr : Room k X.A) (hg : Gl X x) (hm : X.mg x = some (.ref f)) (hk : PySem.W.keepIn X.K (.ref f) = true) (hb : Binds X.K fd ps ds) (hd : Vals dvs ds) (hx : Passes CX X E)
    (ha : PA X (e :: es) t) (hdb : (x == ("__debug__" : Str)) = false := by decide) (he : starEach (e :: es) X.env = (false, eval e X.env) :: starEach es X.env := by rfl) (hpl : (backTo pos (starEach es X.env)).any (·.1) = false := by rfl) :
    PE X (.Call (.Name x p) (e :: es) [] pos) (tCall sp dvs E t) := by
  intro pins s σ H Q I h
  refine wpAny_Call_Name_kw (ld_glob I hg hm ?_ hdb)
  refine PySem.W.callWith_K (h₀ := X.base) I.ok.mod.kin hk (thn (ha pos pins s σ H _ I h) fun us s1 ⟨vs, H1, I1, r, q⟩ => ⟨I1.kIn, ?_⟩) he hpl
  exact run_fn F hr hb hd hx I1 r q
end

section
variable {X : Cx} {CX : CXT} {k : Nat} {f C : Addr} {fd : FuncData} {ps ks : List Str} {sp : Sp} {E : XK} {x m : Str} {p pos apos kpos : Pos} {e o : Expr} {es : List Expr} {kws : List Keyword} {te ta : TE} {t tk : TA} {nm : Option Str}
variable {g : List Value → List Value → List Value} {gV : List V → List V → List V}
end

structure FnScope (N P : List Str) (sc : Scope) : Prop where
  kind : sc.kind = .function
  co : sc.isCoroutine = false
  gen : sc.isGenerator = false
  nd : N.Nodup
  pre : N.take P.length = P
  par : ∀ x ∈ P, sc.names.lookup x = some .local ∨ sc.names.lookup x = some .cell
  nofree : ∀ y ∈ sc.names, y.2 ≠ .free

theorem bindL_out {kindOf : Str → Option NameKind} {x : Str} : ∀ {binds : List (Str × Value)} {m : Str → Option Value}, (∀ v, (x, v) ∉ binds) → bindL kindOf binds m x = m x
  | [], _, _ => rfl
  | (n, v) :: r, m, h => by
    unfold bindL
    rw [bindL_out fun w hw => h w (List.mem_cons_of_mem _ hw)]
    split
    · have : x ≠ n := by rintro rfl; exact h v List.mem_cons_self
      simp [this]
    · rfl
theorem bindC_out {kindOf : Str → Option NameKind} {x : Str} : ∀ {binds : List (Str × Value)} {m : Str → Option Value}, (∀ v, (x, v) ∉ binds) → bindC kindOf binds m x = m x
  | [], _, _ => rfl
  | (n, v) :: r, m, h => by
    unfold bindC
    rw [bindC_out fun w hw => h w (List.mem_cons_of_mem _ hw)]
    split
    · rfl
    · have : x ≠ n := by rintro rfl; exact h v List.mem_cons_self
      simp [this]
theorem bindL_get {kindOf : Str → Option NameKind} {x : Str} {v : Value} : ∀ {P : List Str} {vs : List Value} {i : Nat} {m : Str → Option Value}, P.Nodup → P[i]? = some x → vs[i]? = some v → kindOf x = some .local →
    bindL kindOf (P.zip vs) m x = some v
  | [], _, _, _, _, h, _, _ => by simp at h
  | _ :: _, [], _, _, _, _, h, _ => by simp at h
  | p :: P, w :: vs, 0, m, nd, h1, h2, hk => by
    simp at h1 h2; subst h1; subst h2
    show bindL kindOf ((p, w) :: P.zip vs) m p = _
    unfold bindL
    rw [bindL_out fun v hv => (List.nodup_cons.mp nd).1 (List.of_mem_zip hv).1, if_pos hk]
    simp
  | p :: P, w :: vs, i + 1, m, nd, h1, h2, hk => by
    show bindL kindOf ((p, w) :: P.zip vs) m x = _
    unfold bindL
    exact bindL_get (i := i) (List.nodup_cons.mp nd).2 (by simpa using h1) (by simpa using h2) hk
theorem bindC_get {kindOf : Str → Option NameKind} {x : Str} {v : Value} : ∀ {P : List Str} {vs : List Value} {i : Nat} {m : Str → Option Value}, P.Nodup → P[i]? = some x → vs[i]? = some v → kindOf x ≠ some .local →
    bindC kindOf (P.zip vs) m x = some v
  | [], _, _, _, _, h, _, _ => by simp at h
  | _ :: _, [], _, _, _, _, h, _ => by simp at h
  | p :: P, w :: vs, 0, m, nd, h1, h2, hk => by
    simp at h1 h2; subst h1; subst h2
    show bindC kindOf ((p, w) :: P.zip vs) m p = _
    unfold bindC
    rw [bindC_out fun v hv => (List.nodup_cons.mp nd).1 (List.of_mem_zip hv).1, if_neg hk]
    simp
  | p :: P, w :: vs, i + 1, m, nd, h1, h2, hk => by
    show bindC kindOf ((p, w) :: P.zip vs) m x = _
    unfold bindC
    exact bindC_get (i := i) (List.nodup_cons.mp nd).2 (by simpa using h1) (by simpa using h2) hk

noncomputable def start (N : List Str) (vs : List V) : St := vs.map some ++ List.replicate (N.length - vs.length) none

noncomputable def cxOf (CX : CXT) (P : Program) (w : World) (K : PySem.W.Frag) (mg : Str → Option Value) (base : Heap) (N : List Str) (qual : Str) (scope : Scope) (f : Addr) (cd : Value) (A : Around) (outer : List Env) (s : Shared) (H : Hp) (E : XK) : Cx where
  prog := P
  w := w
  K := K
  mg := mg
  base := base
  A := A.deeper (envOfC qual scope s.heap.objs.size f cd)
  N := N
  s₀ := s
  H₀ := H
  env := envOfC qual scope s.heap.objs.size f cd
  outer := outer
  stack := envOfC qual scope s.heap.objs.size f cd :: outer
  ex := []
  calm := true
  fn := fun _ => true
  pn := []
  xe := fun e s' => wpAny (model P w) (A.deeper (envOfC qual scope s.heap.objs.size f cd)) (leaving (envOfC qual scope s.heap.objs.size f cd) e) (fun _ s'' => CX outer H s E e s'') (fun e' s'' => CX outer H s E e' s'') s'

theorem cell_has {sc : Scope} {n : Nat} {x : Str} (h : sc.names.lookup x = some .cell) : ∃ c, (cellsFrom n sc.names []).lookup x = some c := by
  have q := PySem.W.cellsFrom_some sc.names n [] (.inl h)
  exact Option.isSome_iff_exists.mp q

theorem inv_start {CX : CXT} {P : Program} {w : World} {K : PySem.W.Frag} {mg : Str → Option Value} {base : Heap} {N ps : List Str} {qual : Str} {scope : Scope} {f : Addr} {cd : Value} {A : Around} {outer : List Env} {s s1 : Shared} {H : Hp} {E : XK} {us : List Value} {vs : List V}
    (S : FnScope N ps scope) (hd : A.handled = none) (e0 : Env0 P w K mg base A outer s H) (hl : vs.length = ps.length) (r : Vals vs us)
    (x : InCallC s s.heap.objs.size (bindL (envOfC qual scope s.heap.objs.size f cd).kindOf (ps.zip us) fun _ => none) (cellsFrom (s.heap.objs.size + 1) scope.names []) (bindC (envOfC qual scope s.heap.objs.size f cd).kindOf (ps.zip us) fun _ => none) s1) :
    Inv (cxOf CX P w K mg base N qual scope f cd A outer s H E) [] (start N vs) H s1 := by
  have hpl : ps.length ≤ N.length := by have := congrArg List.length S.pre; rw [List.length_take] at this; omega
  obtain ⟨h1, tk, rfl, hk⟩ := x.done
  have noA : ∀ b : Addr, b ∉ (cxOf CX P w K mg base N qual scope f cd A outer s H E).ex := fun b z => absurd (show b ∈ ([] : List Addr) from z) (by simp)
  refine ⟨⟨e0.mod, S.kind, rfl, rfl, Nat.le_refl _, fun y z c h1 h2 => ?_, fun y hy => ?_, fun y c _ h => ?_, fun _ => hd, Around.frames_deeper e0.frames, .inr ⟨rfl, rfl⟩, fun b z => absurd z (noA b), e0.bs, e0.bsz, fun b _ _ => noA b, fun b z => absurd z (noA b), e0.funs, e0.frf⟩,
    rfl, e0.bare, Un.kept hk, ⟨_, x.toInCall.ns, fun i y v h1 h2 h3 => ?_⟩, fun y c h => ⟨_, x.cell y c h⟩, e0.hok.fresh (Nat.le_refl _), fun y c h => ?_, fun p hp => absurd (show p ∈ ([] : List (Addr × Obj)) from hp) (by simp), e0.hok.kept hk, ?_⟩
  · exact name_of_addr x.apart (PySem.mem_of_lookup h1) (PySem.mem_of_lookup h2)
  · have hy : scope.names.lookup y = some .cell ∨ scope.names.lookup y = some .free := hy
    rcases hy with hy | hy
    · exact cell_has hy
    · exact absurd rfl (S.nofree _ (PySem.mem_of_lookup hy))
  · exact Nat.le_of_lt (x.above y c (PySem.mem_of_lookup h))
  · have hi : i < vs.length := by
      unfold start at h2
      by_cases hi : i < vs.length
      · exact hi
      · rw [List.getElem?_append_right (by simpa using hi)] at h2
        rw [List.getElem?_replicate] at h2
        split at h2 <;> cases h2
    have ha : vs[i]? = some v := by
      unfold start at h2
      rw [List.getElem?_append_left (by simpa using hi), List.getElem?_map] at h2
      cases e : vs[i]? with
      | none => rw [e] at h2; cases h2
      | some a => rw [e] at h2; cases h2; rfl
    obtain ⟨u, hu, rv⟩ := r.get ha
    have hp : ps[i]? = some y := by
      rw [← S.pre, List.getElem?_take_of_lt (by omega)]; exact h1
    have ndP : ps.Nodup := by rw [← S.pre]; exact S.nd.sublist (List.take_sublist _ _)
    refine ⟨u, rv, ?_⟩
    rcases S.par y (List.mem_of_getElem? hp) with k | k
    · exact .inl ⟨k, bindL_get ndP hp hu k⟩
    · obtain ⟨c, e⟩ := cell_has (n := s.heap.objs.size + 1) k
      refine .inr ⟨.inl k, c, e, ?_⟩
      have q := x.cell y c e
      rw [bindC_get ndP hp hu (by show scope.names.lookup y ≠ _; rw [k]; decide)] at q
      exact q
  · exact e0.hok.fresh (Nat.le_of_lt (x.above y c (PySem.mem_of_lookup h)))
  · unfold start
    show _ = N.length
    rw [List.length_append, List.length_map, List.length_replicate]
    omega

theorem fn_of {CX : CXT} {P : Program} {w : World} {K : PySem.W.Frag} {mg : Str → Option Value} {base : Heap} {k : Nat} {f : Addr} {name qual : Str} {params : Arguments} {body : List Stmt} {scope : Scope} {dV kV doc pm cdv ct oc : Value} {an od : Option Addr}
    {osl : Array (Option Value)} {N ps : List Str} {sp : Sp} (lk : K.lookup f = some ⟨oc, od, .func (PySem.W.fnOf name qual params body scope dV kV doc pm an cdv ct), osl⟩) (hcd : PySem.W.codeIn K cdv qual = true) (S : FnScope N ps scope)
    (len : ∀ vs H Q E, sp vs H Q E → vs.length = ps.length)
    (hbody : ∀ (A : Around) (outer : List Env) (s : Shared) (H : Hp) (vs : List V) (Q : VK) (E : XK), Room k (A.deeper (envOfC qual scope s.heap.objs.size f cdv)) → sp vs H Q E →
      ∃ t, PSs (cxOf CX P w K mg base N qual scope f cdv A outer s H E) body t ∧ t { nx := fun _ H' => Q .non H', rt := Q } (start N vs) H) :
    FnOk P w K mg base CX (k + 1) f (PySem.W.fnOf name qual params body scope dV kV doc pm an cdv ct) ps sp := by
  refine ⟨len, fun A outer s H args us vs Q E hr e0 hb r hsp => ?_⟩
  have hl := len _ _ _ _ hsp
  have KX : K.In s.heap := e0.mod.kin.keeps fun b o e => (e0.bs b o e).1
  have lim : s.heap.NoLimit := e0.mod.nolimit.keeps fun b o e => (e0.bs b o e).1
  have hkind : ∀ y ∈ ps.zip us, scope.names.lookup y.1 = some .local ∨ (scope.names.lookup y.1 = some .cell ∧ ((cellsFrom (s.heap.objs.size + 1) scope.names []).lookup y.1).isSome = true) := fun ⟨n, v⟩ hy => by
    rcases S.par n (List.of_mem_zip hy).1 with q | q
    · exact .inl q
    · exact .inr ⟨q, PySem.W.cellsFrom_some _ _ _ (.inl q)⟩
  refine codeAny_call_function hr.depth (KX _ _ lk) rfl S.co S.gen rfl (PySem.W.codeRec_of KX hcd) (hb _ _ _ _ ?_)
  refine wpAny_newFunctionEnv_cells S.kind hkind fun env he s1 x => ?_
  subst he
  refine ⟨lim.keeps x.toInCall.keep, codeAny_func ?_⟩
  obtain ⟨t, ht, hq⟩ := hbody A outer s H vs Q E (hr.deeper _) hsp
  have I : Inv (cxOf CX P w K mg base N qual scope f cdv A outer s H E) [] (start N vs) H s1 := inv_start S hr.hd e0 hl r x
  refine wpAny_mono (ht [] s1 (start N vs) H _ I hq) (fun fl s' hs => ?_) fun e s' hs => hs
  have fin : ∀ {σ' : St} {H' : Hp} {v : V} {u : Value}, Inv (cxOf CX P w K mg base N qual scope f cdv A outer s H E) [] σ' H' s' → RelV v u → Q v H' → CE outer P w H s Q u s' :=
    fun {σ' H' v u} J rv q => ⟨v, H', J.os, J.bare, J.base, J.hok, rv, q⟩
  cases fl with
  | ret u =>
    obtain ⟨v, σ', H', J, rv, q⟩ := hs
    exact fin J rv q
  | next =>
    obtain ⟨σ', H', J, q⟩ := hs
    exact fin (v := V.non) (u := Value.none) J rfl q
  | brk =>
    obtain ⟨_, _, _, q⟩ := hs
    exact False.elim q
  | cont =>
    obtain ⟨_, _, _, q⟩ := hs
    exact False.elim q
end L2

namespace L2
open PySem PySem.Spec PyProof.Rows
section
variable {X : Cx} {x : Str} {p pos : Pos} {e : Expr} {es : List Expr} {t : TA} {id T : String} {r : List V → Hp → VK → Prop}

noncomputable def tCB (r : List V → Hp → VK → Prop) (t : TA) : TE := fun σ H Q => t σ H fun vs H1 => r vs H1 Q
theorem pe_callB (hc : CallR X (.builtin id) r) (hg : Gl X x) (hm : X.mg x = none) (hv : bootBuiltins x = some (.builtin id)) (ha : PA X (e :: es) t) (hn : x ≠ "__name__" := by decide) (hdb : (x == ("__debug__" : Str)) = false := by decide)
    (he : starEach (e :: es) X.env = (false, eval e X.env) :: starEach es X.env := by rfl) (hpl : (backTo pos (starEach es X.env)).any (·.1) = false := by rfl) : PE X (.Call (.Name x p) (e :: es) [] pos) (tCB r t) := by
  intro pins s σ H Q I h
  refine wpAny_Call_Name_kw (ld_blt I hg hm hv ?_ hn hdb)
  exact PyProof.Rows.callWith_builtin1 (thn (ha pos pins s σ H _ I h) fun us s1 ⟨vs, H1, I1, r1, q1⟩ => hc pins s1 σ H1 vs us Q I1 r1 q1) he hpl
theorem pe_callTy (hc : CallR X (.type T) r) (hg : Gl X x) (hm : X.mg x = none) (hv : bootBuiltins x = some (.type T)) (ha : PA X (e :: es) t) (hn : x ≠ "__name__" := by decide) (hdb : (x == ("__debug__" : Str)) = false := by decide)
    (he : starEach (e :: es) X.env = (false, eval e X.env) :: starEach es X.env := by rfl) (hpl : (backTo pos (starEach es X.env)).any (·.1) = false := by rfl) : PE X (.Call (.Name x p) (e :: es) [] pos) (tCB r t) := by
  intro pins s σ H Q I h
  refine wpAny_Call_Name_kw (ld_blt I hg hm hv ?_ hn hdb)
  exact PyProof.Rows.callWith_type1 (thn (ha pos pins s σ H _ I h) fun us s1 ⟨vs, H1, I1, r1, q1⟩ => hc pins s1 σ H1 vs us Q I1 r1 q1) he hpl
end
end L2

namespace HT
open PySem PyProof.Rows

section
open PySem.SeqAt
open PySem.AutoSeq1 (wpAny_loadPart')
open PySem.MeetsSeq PySem.MeetsSeq2 PySem.MeetsSeq3

end

section
variable {prog : Program} {w : World} {A : Around} {E : Value → Shared → Prop} {s : Shared}

noncomputable def sIx (n d : Nat) : Option Int → Nat
  | none => d
  | some v => if v < 0 then (v + (n : Int)).toNat else min v.toNat n
theorem sIx_none (n d : Nat) : sIx n d none = d := rfl
theorem sIx_nat (n d k : Nat) : sIx n d (some (k : Int)) = min k n := by
  show (if (k : Int) < 0 then ((k : Int) + (n : Int)).toNat else min (k : Int).toNat n) = min k n
  rw [if_neg (by omega), Int.toNat_natCast]
end
end HT

namespace L2
open PySem PySem.Spec PyProof.Rows

noncomputable abbrev TO := St → Hp → (Option Int → Hp → Prop) → Prop
noncomputable def PO (X : Cx) (e : Option Expr) (t : TO) : Prop :=
  ∀ (pins : List (Addr × Obj)) (s : Shared) (σ : St) (H : Hp) (Q : Option Int → Hp → Prop), Inv X pins σ H s → t σ H Q →
    wpAny (model X.prog X.w) X.A (evalPart e X.env) (fun u s' => ∃ o H', Inv X pins σ H' s' ∧ IsPart u o ∧ Q o H') X.xe s
noncomputable def tNoPart : TO := fun _ H Q => Q none H
noncomputable def tPart (t : TE) : TO := fun σ H Q => t σ H fun x H1 => ∃ i, x = .int i ∧ Q (some i) H1

section
variable {X : Cx} {e : Expr} {te : TE} {lo hi : Option Expr} {tl th : TO} {pos p2 : Pos}

theorem po_none : PO X none tNoPart := by
  intro pins s σ H Q I h
  rw [evalPart_none]
  exact wpAny_pure ⟨none, H, I, .none, h⟩
theorem po_some (h : PE X e te) : PO X (some e) (tPart te) := by
  intro pins s σ H Q I hw
  rw [evalPart_some]
  refine thn (h pins s σ H _ I hw) fun u s1 ⟨x, H1, I1, r1, q1⟩ => ?_
  obtain ⟨i, rfl, q⟩ := q1
  obtain ⟨t, rfl⟩ := r1
  exact ⟨some i, H1, I1, .int i t, q⟩

noncomputable def SlR (X : Cx) (r : V → Option Int → Option Int → Hp → VK → Prop) : Prop :=
  ∀ (pins : List (Addr × Obj)) (s : Shared) (σ : St) (H : Hp) (x : V) (v vl vu : Value) (lo hi : Option Int) (sl : Addr) (Q : VK), Inv X pins σ H s → RelV x v → s.heap.IsSliceOf sl vl vu .none → IsPart vl lo → IsPart vu hi → r x lo hi H Q →
    ∃ T id, typeLookup (.type T) "__getitem__" = pure (some (.builtin id)) ∧ s.TypeIs v T ∧ wpAny (model X.prog X.w) X.A (getItem v (.ref sl)) (EP X pins σ Q) X.xe s
noncomputable def tSl (r : V → Option Int → Option Int → Hp → VK → Prop) (te : TE) (tl th : TO) : TE := fun σ H Q => te σ H fun x H1 => tl σ H1 fun l H2 => th σ H2 fun u H3 => r x l u H3 Q
theorem pe_slice {r : V → Option Int → Option Int → Hp → VK → Prop} (hr : SlR X r) (he : PE X e te) (hl : PO X lo tl) (hu : PO X hi th) : PE X (.Subscript e (.Slice lo hi none p2) pos) (tSl r te tl th) := by
  intro pins s σ H Q I h
  refine Subscript_ (thn (he pins s σ H _ I h) fun v s1 ⟨x, H1, I1, r1, q1⟩ => ?_)
  refine wpAny_Slice (thn (hl pins s1 σ H1 _ I1 q1) fun vl s2 ⟨l, H2, I2, pl, q2⟩ => thn (hu pins s2 σ H2 _ I2 q2) fun vu s3 ⟨u, H3, I3, pu, q3⟩ => ?_)
  rw [evalPart_none]
  refine wpAny_pure ?_
  have I4 : Inv X pins σ H3 { s3 with heap := s3.heap.push { cls := .type "slice", data := .fields #[vl, vu, .none] } } := I3.kept (t' := s3.toks) fun b ob q => Heap.get?_push_of_some _ q
  obtain ⟨T, id, hT, ht, hg⟩ := hr pins { s3 with heap := s3.heap.push { cls := .type "slice", data := .fields #[vl, vu, .none] } } σ H3 x v vl vu l u s3.heap.objs.size Q I4 r1 (Heap.IsSliceOf.new ..) pl pu q3
  show wpAny (model X.prog X.w) X.A (subscriptTail e (.Slice lo hi none p2) v (.ref s3.heap.objs.size)) (EP X pins σ Q) X.xe { s3 with heap := s3.heap.push { cls := .type "slice", data := .fields #[vl, vu, .none] } }
  exact tail_any (ops := [.ref s3.heap.objs.size, v]) ht hT hg (by with_unfolding_all rfl)

noncomputable def cutV (xs : List V) (lo hi : Option Int) : List V := (xs.drop (HT.sIx xs.length 0 lo)).take (HT.sIx xs.length xs.length hi - HT.sIx xs.length 0 lo)
theorem cutV_length (xs : List V) (lo hi : Option Int) : (cutV xs lo hi).length ≤ xs.length := by
  unfold cutV
  rw [List.length_take, List.length_drop]
  omega
end
end L2

namespace L2
open PySem PySem.Spec PyProof.Rows

noncomputable def ixN (n : Nat) (i : Int) : Option Nat := if 0 ≤ i then (if i < n then some i.toNat else none) else if -(n : Int) ≤ i then some (i + n).toNat else none
noncomputable def atI {α : Type} (xs : List α) (i : Int) : Option α := (ixN xs.length i).bind fun j => xs[j]?
theorem ixN_seq {n : Nat} {i : Int} {j : Nat} (h : ixN n i = some j) : seqIndex? i n = some j ∧ j < n ∧ -(n : Int) ≤ i ∧ i < n := by
  unfold ixN at h
  by_cases h0 : 0 ≤ i
  · rw [if_pos h0] at h
    by_cases h1 : i < n
    · rw [if_pos h1] at h
      have e : i.toNat = j := Option.some.inj h
      exact ⟨by rw [seqIndex_of h0 h1, e], by omega, by omega, h1⟩
    · rw [if_neg h1] at h; cases h
  · rw [if_neg h0] at h
    by_cases h1 : -(n : Int) ≤ i
    · rw [if_pos h1] at h
      have e : (i + n).toNat = j := Option.some.inj h
      exact ⟨by rw [seqIndex_neg (by omega) h1, e], by omega, h1, by omega⟩
    · rw [if_neg h1] at h; cases h
theorem atI_get {α : Type} {xs : List α} {i : Int} {v : α} (h : atI xs i = some v) : ∃ j, seqIndex? i xs.length = some j ∧ xs[j]? = some v ∧ j < xs.length ∧ -(xs.length : Int) ≤ i ∧ i < xs.length := by
  unfold atI at h
  cases e : ixN xs.length i with
  | none => rw [e] at h; cases h
  | some j =>
    rw [e] at h
    obtain ⟨h1, h2, h3, h4⟩ := ixN_seq e
    exact ⟨j, h1, h, h2, h3, h4⟩
theorem atI_nat {α : Type} {xs : List α} {j : Nat} {v : α} (h : xs[j]? = some v) : atI xs (j : Int) = some v := by
  have hj : j < xs.length := (List.getElem?_eq_some_iff.mp h).1
  have e : ixN xs.length (j : Int) = some j := by
    unfold ixN
    rw [if_pos (by omega), if_pos (by omega)]; simp
  unfold atI; rw [e]; exact h
noncomputable def PlainIx (b : Expr) : Prop := ∀ o i, subscripted b false o i = operate [o, i] (getItem o i)
noncomputable def IxR (X : Cx) (r : R2) : Prop :=
  ∀ (value slice : Expr) (pins : List (Addr × Obj)) (s : Shared) (σ : St) (H : Hp) (x y : V) (v u : Value) (Q : VK), Inv X pins σ H s → RelV x v → RelV y u → r x y H Q →
    subscripted slice false v u = operate [v, u] (getItem v u) → wpAny (model X.prog X.w) X.A (subscriptTail value slice v u) (EP X pins σ Q) X.xe s
noncomputable def MtR (X : Cx) (id : String) (r : V → List V → Hp → VK → Prop) : Prop :=
  ∀ (pins : List (Addr × Obj)) (s : Shared) (σ : St) (H : Hp) (x : V) (xs : List V) (v : Value) (us : List Value) (Q : VK), Inv X pins σ H s → RelV x v → Vals xs us → r x xs H Q →
    wpAny (model X.prog X.w) X.A (call (.builtin id) (v :: us)) (EP X pins σ Q) X.xe s
section
variable {X : Cx} {a b : Expr} {ta tb : TE} {pos : Pos}
theorem pe_ix {r : R2} (hr : IxR X r) (ha : PE X a ta) (hb : PE X b tb) (hs : PlainIx b) : PE X (.Subscript a b pos) (tOp r ta tb) := by
  intro pins s σ H Q I h
  exact Subscript_ (binT ha hb I h fun v u s2 x y H2 I2 rx ry q => hr a b pins s2 σ H2 x y v u Q I2 rx ry q (hs _ _))

noncomputable def rIxL (K : PySem.W.Frag) : R2 := fun x y H Q => ∃ p xs i v, x = .ref p ∧ y = .int i ∧ SqL K H p xs ∧ atI xs i = some v ∧ Q v H
noncomputable def rIxT (K : PySem.W.Frag) : R2 := fun x y H Q => ∃ p xs i v, x = .ref p ∧ y = .int i ∧ SqT K H p xs ∧ atI xs i = some v ∧ Q v H
theorem ix_list : IxR X (rIxL X.K) := by
  intro value slice pins s σ H x y v u Q I rx ry h hs
  obtain ⟨p, xs, i, z, rfl, rfl, hq, he, q⟩ := h
  cases rx
  obtain ⟨t, rfl⟩ := ry
  obtain ⟨its, r, pl, hz⟩ := I.list hq
  obtain ⟨j, h1, h2, h3, h4, h5⟩ := atI_get he
  obtain ⟨w, ew, rw'⟩ := r.get h2
  have hl := r.length
  have hn := line63
  have fin : EP X pins σ Q w s := ⟨z, H, I, rw', q⟩
  by_cases h0 : 0 ≤ i
  · have hj : i.toNat = j := by
      rw [seqIndex_of h0 h5] at h1
      exact Option.some.inj h1
    exact item_listR pl.isList h0 (by omega) (by rw [hj]; simpa using ew) fin hs
  · have hj : (i + (its.toArray.size : Int)).toNat = j := by
      rw [seqIndex_neg (by omega) h4] at h1
      rw [List.size_toArray, ← hl]
      exact Option.some.inj h1
    exact subscriptTail_builtinR (x := w) pl.isList.typeIs slot_list_getitem.lookup
      (wpAny_getItem_list_neg (Q := fun r s' => r = w ∧ EP X pins σ Q r s') pl.isList (by omega) (by rw [List.size_toArray] <;> omega) (by omega) (by rw [hj]; simpa using ew) ⟨rfl, fin⟩) hs
theorem ix_tup : IxR X (rIxT X.K) := by
  intro value slice pins s σ H x y v u Q I rx ry h hs
  obtain ⟨p, xs, i, z, rfl, rfl, hq, he, q⟩ := h
  cases rx
  obtain ⟨t, rfl⟩ := ry
  obtain ⟨its, r, pl, hz⟩ := I.tuple hq
  obtain ⟨j, h1, h2, h3, h4, h5⟩ := atI_get he
  obtain ⟨w, ew, rw'⟩ := r.get h2
  have hl := r.length
  have hn := line63
  have fin : EP X pins σ Q w s := ⟨z, H, I, rw', q⟩
  exact subscriptTail_builtinR (x := w) pl.typeIs slot_tuple_getitem.lookup
    (getItem_tuple (j := j) (Q := fun r s' => r = w ∧ EP X pins σ Q r s') pl (by omega) (by omega) (by rw [List.size_toArray, ← hl]; exact h1) (by simpa using ew) ⟨rfl, fin⟩) hs
theorem mapSeq_set (its : List Value) (n j : Nat) (u : Value) : Obj.mapSeq (·.setIfInBounds j u) { cls := .type "list", data := .seq its.toArray n } = { cls := .type "list", data := .seq (its.set j u).toArray n } := by
  simp [Obj.mapSeq]
theorem Inv.lst {pins : List (Addr × Obj)} {σ : St} {H : Hp} {s : Shared} {p : Addr} {xs : List V} (I : Inv X pins σ H s) (h : H p = some (.lst xs)) :
    ∃ (its : List Value) (n : Nat), Vals xs its ∧ s.heap.get? p = some { cls := .type "list", data := .seq its.toArray n } ∧ xs.length ≤ sizeLine := by
  obtain ⟨z, its, n, r, e⟩ := I.hok p _ h
  exact ⟨its, n, r, e, z⟩
theorem Inv.lstUpd {pins : List (Addr × Obj)} {σ : St} {H : Hp} {s : Shared} {p : Addr} {xs ys : List V} {its its' : List Value} {n n' : Nat} {f : Obj → Obj} (I : Inv X pins σ H s) (h : H p = some (.lst xs))
    (ho : s.heap.get? p = some { cls := .type "list", data := .seq its.toArray n }) (hf : f { cls := .type "list", data := .seq its.toArray n } = { cls := .type "list", data := .seq its'.toArray n' }) (r : Vals ys its') (hz : ys.length ≤ sizeLine) (t : Nat) :
    Inv X pins σ (upd H p (.lst ys)) { s with heap := s.heap.update p f, toks := t } := by
  have e : (s.heap.update p f).get? p = some { cls := .type "list", data := .seq its'.toArray n' } := by
    rw [Heap.get?_update_self f ho (by rw [hf] <;> rfl), hf]
  refine I.write (x := p) (e := p) (by rw [h]; trivial) (.inl rfl) (fun b u hb q => (Heap.get?_update_other _ _ (Ne.symm hb)).trans q) ⟨_, e⟩ ?_
  exact ⟨hz, its', n', r, e⟩
noncomputable def rSetL : V → V → V → Hp → (Hp → Prop) → Prop := fun o i v H Q => ∃ p xs k j, o = .ref p ∧ i = .int k ∧ H p = some (.lst xs) ∧ ixN xs.length k = some j ∧ Q (upd H p (.lst (xs.set j v)))
theorem set_list : PSet X rSetL := by
  intro pins s σ H o i v ov iv u Q I ro ri rv h
  obtain ⟨p, xs, k, j, rfl, rfl, hp, hj, q⟩ := h
  cases ro
  obtain ⟨t, rfl⟩ := ri
  obtain ⟨its, n, r, ho, hz⟩ := I.lst hp
  obtain ⟨h1, h2, h3, h4⟩ := ixN_seq hj
  have hl := r.length
  have hn := line63
  have I' : Inv X pins σ (upd H p (.lst (xs.set j v))) { s with heap := s.heap.update p (Obj.mapSeq (·.setIfInBounds j u)) } :=
    I.lstUpd hp ho (mapSeq_set its n j u) (r.set rv j) (by rw [List.length_set]; exact hz) s.toks
  by_cases h0 : 0 ≤ k
  · have hk : k.toNat = j := by
      rw [seqIndex_of h0 h4] at h1
      exact Option.some.inj h1
    exact PySem.W.ki_setAt ho h0 (by omega) (by rw [List.size_toArray, ← hl]; exact h4) (by rw [hk]; exact ⟨_, I', q⟩)
  · have hk : (k + (its.toArray.size : Int)).toNat = j := by
      rw [seqIndex_neg (by omega) h3] at h1
      rw [List.size_toArray, ← hl]
      exact Option.some.inj h1
    exact PySem.W.ki_setBack ho (by omega) (by rw [List.size_toArray, ← hl]; exact h3) (by omega) (by rw [hk]; exact ⟨_, I', q⟩)

theorem slice_bounds (lo hi : Option Int) (n : Nat) : (sliceBounds lo hi none n).1 = ((HT.sIx n 0 lo : Nat) : Int) ∧ (sliceBounds lo hi none n).2.1 = ((HT.sIx n n hi : Nat) : Int) ∧ (sliceBounds lo hi none n).2.2 = 1 := by
  refine ⟨?_, ?_, rfl⟩
  · cases lo with
    | none => simp [sliceBounds, HT.sIx]
    | some i =>
      simp only [sliceBounds, HT.sIx, Option.getD_none, show (1 : Int) > 0 by decide, if_true]
      by_cases h : i < 0
      · simp only [h, if_true] <;> omega
      · simp only [h, if_false] <;> omega
  · cases hi with
    | none => simp [sliceBounds, HT.sIx]
    | some i =>
      simp only [sliceBounds, HT.sIx, Option.getD_none, show (1 : Int) > 0 by decide, if_true]
      by_cases h : i < 0
      · simp only [h, if_true] <;> omega
      · simp only [h, if_false] <;> omega
theorem slicePick_cut (its : List Value) (lo hi : Option Int) : slicePick its.toArray lo hi none = ((its.drop (HT.sIx its.length 0 lo)).take (HT.sIx its.length its.length hi - HT.sIx its.length 0 lo)).toArray := by
  obtain ⟨h1, h2, h3⟩ := slice_bounds lo hi its.toArray.size
  unfold slicePick
  rw [h1, h2, h3]
  simp only [sliceRange_one, pick_run, List.size_toArray] <;> rfl
noncomputable def rSlL (K : PySem.W.Frag) : V → Option Int → Option Int → Hp → VK → Prop := fun x lo hi H Q => ∃ a xs, x = .ref a ∧ SqL K H a xs ∧ ∀ p, H p = none → Q (.ref p) (upd H p (.lst (cutV xs lo hi)))
theorem sl_list : SlR X (rSlL X.K) := by
  intro pins s σ H x v vl vu lo hi sl Q I rx hs pl pu h
  obtain ⟨a, xs, rfl, hx, q⟩ := h
  cases rx
  obtain ⟨its, r, ht, hz⟩ := I.list hx
  have hlen := r.length
  refine ⟨"list", _, slot_list_getitem.lookup, ht.isList.typeIs, ?_⟩
  refine wpAny_getItem_list_slice ht.isList hs pl pu .none (by simp) ?_ (by rw [List.size_toArray] <;> omega)
  rw [slicePick_cut, ← hlen]
  refine ⟨.ref s.heap.objs.size, _, I.laid (t' := s.toks) (o := .lst (cutV xs lo hi)) (fun b ob q => Heap.get?_push_of_some _ q) (Nat.le_refl _) ?_, rfl, q _ (I.hok.fresh (Nat.le_refl _))⟩
  exact ⟨Nat.le_trans (cutV_length xs lo hi) hz, _, 0, (r.drop (HT.sIx xs.length 0 lo)).take (HT.sIx xs.length xs.length hi - HT.sIx xs.length 0 lo), Heap.get?_push_size _ rfl⟩

noncomputable def flatV : V → Bool
  | .non => true
  | .bl _ => true
  | .int _ => true
  | .str _ => true
  | _ => false
noncomputable def eqV : V → V → Bool
  | .non, .non => true
  | .bl a, .bl b => a == b
  | .bl a, .int b => (if a then 1 else 0) == b
  | .int a, .bl b => a == (if b then 1 else 0)
  | .int a, .int b => a == b
  | .str a, .str b => a == b
  | _, _ => false
theorem eqAt_V {A : Around} {s : Shared} {y x : V} {u v : Value} (ry : RelV y u) (rx : RelV x v) (fy : flatV y = true) (fx : flatV x = true) : SeqAt.EqAt A s u v (eqV y x) := by
  cases y with
  | non =>
    cases ry
    cases x with
    | non => cases rx; exact SeqAt.EqAt.same _
    | bl b => cases rx; exact SeqAt.EqAt.none_bool b
    | int b => obtain ⟨t, rfl⟩ := rx; exact SeqAt.EqAt.none_int b t
    | str b => obtain ⟨t, rfl⟩ := rx; exact SeqAt.EqAt.none_str b t
    | _ => exact absurd (show false = true from fx) Bool.false_ne_true
  | bl a =>
    cases ry
    cases x with
    | non => cases rx; exact SeqAt.EqAt.bool_none a
    | bl b => cases rx; exact SeqAt.EqAt.bool_bool a b
    | int b => obtain ⟨t, rfl⟩ := rx; exact SeqAt.EqAt.bool_int a b t
    | str b => obtain ⟨t, rfl⟩ := rx; exact SeqAt.EqAt.bool_str a b t
    | _ => exact absurd (show false = true from fx) Bool.false_ne_true
  | int a =>
    obtain ⟨t', rfl⟩ := ry
    cases x with
    | non => cases rx; exact SeqAt.EqAt.int_none a t'
    | bl b => cases rx; exact SeqAt.EqAt.int_bool a t' b
    | int b => obtain ⟨t, rfl⟩ := rx; exact SeqAt.EqAt.int_int a t' b t
    | str b => obtain ⟨t, rfl⟩ := rx; exact SeqAt.EqAt.int_str a t' b t
    | _ => exact absurd (show false = true from fx) Bool.false_ne_true
  | str a =>
    obtain ⟨t', rfl⟩ := ry
    cases x with
    | non => cases rx; exact SeqAt.EqAt.str_none a t'
    | bl b => cases rx; exact SeqAt.EqAt.str_bool a t' b
    | int b => obtain ⟨t, rfl⟩ := rx; exact SeqAt.EqAt.str_int a t' b t
    | str b => obtain ⟨t, rfl⟩ := rx; exact SeqAt.EqAt.str_str a t' b t
    | _ => exact absurd (show false = true from fx) Bool.false_ne_true
  | _ => exact absurd (show false = true from fy) Bool.false_ne_true
noncomputable def eqU (x : V) (u : Value) : Bool := match u with
  | .none => eqV .non x
  | .bool b => eqV (.bl b) x
  | .int i _ => eqV (.int i) x
  | .str z _ => eqV (.str z) x
  | _ => false
theorem eqU_of {x y : V} {u : Value} (r : RelV y u) (f : flatV y = true) : eqU x u = eqV y x := by
  cases y with
  | non => cases r; rfl
  | bl b => cases r; rfl
  | int i => obtain ⟨t, rfl⟩ := r; rfl
  | str z => obtain ⟨t, rfl⟩ := r; rfl
  | _ => exact absurd (show false = true from f) Bool.false_ne_true
theorem any_eqU {x : V} : ∀ {xs : List V} {us : List Value}, Vals xs us → xs.all flatV = true → us.any (eqU x) = xs.any fun y => eqV y x
  | _, _, .nil, _ => rfl
  | y :: xs, u :: us, .cons r t, f => by
    rw [List.all_cons, Bool.and_eq_true] at f
    rw [List.any_cons, List.any_cons, eqU_of r f.1, any_eqU t f.2]
theorem mem_eqAt {A : Around} {s : Shared} {x : V} {v : Value} (rx : RelV x v) (fx : flatV x = true) : ∀ {xs : List V} {us : List Value}, Vals xs us → xs.all flatV = true → ∀ u ∈ us, SeqAt.EqAt A s u v (eqU x u)
  | _, _, .nil, _ => fun u hu => by cases hu
  | y :: xs, u :: us, .cons r t, f => fun u' hu => by
    rw [List.all_cons, Bool.and_eq_true] at f
    rcases List.mem_cons.mp hu with rfl | hu
    · rw [eqU_of r f.1]; exact eqAt_V r rx f.1 fx
    · exact mem_eqAt rx fx t f.2 u' hu
noncomputable def inV (x : V) (xs : List V) : Bool := xs.any fun y => eqV y x
noncomputable def rIn (K : PySem.W.Frag) (neg : Bool) : R2 := fun x y H Q => ∃ p xs, y = .ref p ∧ (SqL K H p xs ∨ SqT K H p xs) ∧ flatV x = true ∧ xs.all flatV = true ∧ Q (.bl (if neg then !inV x xs else inV x xs)) H
theorem op_notIn_seq : OpR X (compareOp .NotIn) (rIn X.K true) := by
  intro pins s σ H x y v u Q I rx ry h
  obtain ⟨p, xs, rfl, hq, fx, fs, q⟩ := h
  cases ry
  rcases hq with hq | hq
  · obtain ⟨its, r, pl, hz⟩ := I.list hq
    refine SeqAt.notIn_listAt (eqU x) pl.isList (fun w hw => mem_eqAt rx fx r fs w (by simpa using hw)) ⟨.bl _, H, I, rfl, ?_⟩
    rw [show its.toArray.any (eqU x) = its.any (eqU x) by simp, any_eqU r fs]
    exact q
  · obtain ⟨its, r, pl, hz⟩ := I.tuple hq
    refine SeqAt.notIn_tupleAt (eqU x) pl (fun w hw => mem_eqAt rx fx r fs w (by simpa using hw)) ⟨.bl _, H, I, rfl, ?_⟩
    rw [show its.toArray.any (eqU x) = its.any (eqU x) by simp, any_eqU r fs]
    exact q
theorem call_len_seq : CallR X (.builtin "len") (fun xs H Q => ∃ p ys, xs = [.ref p] ∧ (SqL X.K H p ys ∨ SqT X.K H p ys) ∧ Q (.int ys.length) H) := by
  intro pins s σ H xs us Q I r h
  obtain ⟨p, ys, rfl, hq, q⟩ := h
  obtain ⟨u, rfl, rx⟩ := vals1 r
  cases rx
  have hn := line63
  rcases hq with hq | hq
  · obtain ⟨its, r', pl, hz⟩ := I.list hq
    have hlen := r'.length
    exact Calls.call_len_list pl.isList (by simp only [List.size_toArray] <;> omega) ⟨.int ys.length, H, I.tok _, ⟨s.toks + 1, by rw [List.size_toArray, hlen]⟩, q⟩
  · obtain ⟨its, r', pl, hz⟩ := I.tuple hq
    have hlen := r'.length
    exact len_tuple pl (by simp only [List.size_toArray] <;> omega) ⟨.int ys.length, H, I.tok _, ⟨s.toks + 1, by rw [List.size_toArray, hlen]⟩, q⟩
theorem call_list_of : CallR X (.type "list") (fun xs H Q => ∃ p ys, xs = [.ref p] ∧ (SqL X.K H p ys ∨ SqT X.K H p ys) ∧ ∀ l, H l = none → Q (.ref l) (upd H l (.lst ys))) := by
  intro pins s σ H xs us Q I r h
  obtain ⟨p, ys, rfl, hq, q⟩ := h
  obtain ⟨u, rfl, rx⟩ := vals1 r
  cases rx
  have fin : ∀ (its : List Value), Vals ys its → ys.length ≤ sizeLine → ∀ (h' : Heap) (c' : Nat), (∀ b o', s.heap.get? b = some o' → h'.get? b = some o') →
      h'.get? s.heap.objs.size = some { cls := .type "list", dict := none, data := .seq its.toArray c', slots := #[] } → EP X pins σ Q (.ref s.heap.objs.size) { s with heap := h' } := fun its r' hz h' c' kp e =>
    ⟨.ref s.heap.objs.size, _, I.laid (t' := s.toks) kp (Nat.le_refl _) (show ObjOk X.prog X.w _ h' _ (.lst ys) from ⟨hz, its, c', r', e⟩), rfl, q _ (I.hok.fresh (Nat.le_refl _))⟩
  rcases hq with hq | hq
  · obtain ⟨its, r', pl, hz⟩ := I.list hq
    have hlen := r'.length
    obtain ⟨o, ho, hc, n, hd⟩ := pl.isList
    exact call_list_seq p (.inl rfl) ho hc hd (fun h' c' kp e => fin its r' hz h' c' kp e) (by simp only [List.size_toArray] <;> omega)
  · obtain ⟨its, r', pl, hz⟩ := I.tuple hq
    have hlen := r'.length
    obtain ⟨o, ho, hc, n, hd⟩ := pl
    exact call_list_seq p (.inr rfl) ho hc hd (fun h' c' kp e => fin its r' hz h' c' kp e) (by simp only [List.size_toArray] <;> omega)
noncomputable def tyV (K : PySem.W.Frag) (T : String) (x : V) (H : Hp) : Prop := match x with
  | .str _ => T = "str"
  | .int _ => T = "int"
  | .ref p => (T = "list" ∧ ∃ xs, SqL K H p xs) ∨ (T = "tuple" ∧ ∃ o, K.lookup p = some o ∧ o.cls = .type "tuple" ∧ o.dict = none) ∨
      (T = "dict" ∧ ((∃ kvs, H p = some (.dK kvs)) ∨ ∃ kvs, H p = some (.dT kvs))) ∨ (T = "set" ∧ ∃ S n, H p = some (.set S n))
  | _ => False
theorem tyV_is {pins : List (Addr × Obj)} {σ : St} {H : Hp} {s : Shared} {T : String} {x : V} {v : Value} (I : Inv X pins σ H s) (r : RelV x v) (ty : tyV X.K T x H) :
    s.TypeIs v T ∧ ∀ a, v = .ref a → ∃ ob, s.heap.get? a = some ob ∧ ob.dict = none := by
  cases x with
  | str z =>
    obtain ⟨t, rfl⟩ := r
    cases (show T = "str" from ty)
    exact ⟨typeIs_str s z t, fun _ e => nomatch e⟩
  | int i =>
    obtain ⟨t, rfl⟩ := r
    cases (show T = "int" from ty)
    exact ⟨typeIs_int s i t, fun _ e => nomatch e⟩
  | ref p =>
    cases r
    rcases ty with ⟨rfl, xs, hq⟩ | ⟨rfl, o, hk, hc, hd⟩ | ⟨rfl, hk⟩ | ⟨rfl, S, n, hk⟩
    · obtain ⟨its, _, pl, _⟩ := I.list hq
      refine ⟨pl.isList.typeIs, fun a e => ?_⟩
      cases e
      obtain ⟨o, n, e, c, hd, _⟩ := pl
      exact ⟨o, e, hd⟩
    · refine ⟨⟨o, I.kIn p o hk, hc⟩, fun a e => ?_⟩
      cases e
      exact ⟨o, I.kIn _ o hk, hd⟩
    · have z : ∃ o, s.heap.get? p = some o ∧ o.ExactDict := by
        rcases hk with ⟨kvs, hk⟩ | ⟨kvs, hk⟩
        · obtain ⟨_, _, _, _, o, _, _, e, ex, _⟩ := I.hok p _ hk
          exact ⟨o, e, ex⟩
        · obtain ⟨_, _, _, _, o, _, _, e, ex, _⟩ := I.hok p _ hk
          exact ⟨o, e, ex⟩
      obtain ⟨o, e, ex⟩ := z
      refine ⟨⟨o, e, ex.1⟩, fun a e2 => ?_⟩
      cases e2
      exact ⟨o, e, ex.2.1⟩
    · obtain ⟨o, _, _, _, e, ex, _⟩ := I.hok p _ hk
      refine ⟨⟨o, e, ex.1⟩, fun a e2 => ?_⟩
      cases e2
      exact ⟨o, e, ex.2.1⟩
  | _ => exact False.elim ty
noncomputable def tBM (K : PySem.W.Frag) (T : String) (r : V → List V → Hp → VK → Prop) (to : TE) (t : TA) : TE := fun σ H Q => to σ H fun x H1 => tyV K T x H1 ∧ t σ H1 fun xs H2 => r x xs H2 Q
variable {o e : Expr} {es : List Expr} {to : TE} {t : TA} {name : Str} {apos cpos : Pos} {T id : String} {r : V → List V → Hp → VK → Prop}
theorem pe_bm (pa : PlainAttrs T) (slot : Slot T name id) (hty : typeOf (.builtin id) = pure (.type "method_descriptor")) (hm : MtR X id r) (ho : PE X o to) (ha : PA X (e :: es) t)
    (hbase : attributeBase o name X.env (eval o X.env) = eval o X.env := by rfl)
    (hfew : ((backTo cpos (starEach (e :: es) X.env)).all (fun x => !x.1) && (backToKw cpos (keywordEach [] X.env)).all (fun x => x.1.isSome)
      && decide ((e :: es).length + ([] : List Keyword).length + (if ([] : List Keyword).isEmpty then 0 else 1) < 30)) = true := by rfl)
    (hline : (apos.endLine == cpos.line) = true := by rfl) (hs : starEach (e :: es) X.env = (false, eval e X.env) :: starEach es X.env := by rfl) (hplain : (backTo cpos (starEach es X.env)).any (·.1) = false := by rfl) :
    PE X (.Call (.Attribute o name apos) (e :: es) [] cpos) (tBM X.K T r to t) := by
  intro pins s σ H Q I h
  refine wpAny_Call_method_late hbase hfew hline rfl (thn (ho pins s σ H _ I h) fun v s1 ⟨x, H1, I1, r1, ty, q1⟩ => ?_)
  obtain ⟨h1, h2⟩ := tyV_is I1 r1 ty
  refine ⟨T, id, pa, slot, hty, h1, h2, ?_⟩
  have hA := ha cpos pins s1 σ H1 _ I1 q1
  rw [hs] at hA ⊢
  refine Calls.callWith_builtin (by show (false || (backTo cpos (starEach es X.env)).any (·.1)) = false; rw [hplain] <;> rfl) (Calls.evalArgs_plain ?_)
  exact thn hA fun us s2 ⟨vs, H2, I2, r2, q2⟩ => hm pins s2 σ H2 x vs v us Q I2 r1 r2 q2
/- xs.append(e), list.index on a module's tuple .. are MtR facts of 06m -/
end
end L2

namespace L2
open PySem PySem.Spec PyProof.Rows

noncomputable def MtM (X : Cx) (id : String) (r : V → List V → Hp → VK → Prop) : Prop :=
  ∀ (pins : List (Addr × Obj)) (s : Shared) (σ : St) (H : Hp) (x : V) (xs : List V) (v : Value) (us : List Value) (Q : VK), Inv X pins σ H s → RelV x v → Vals xs us → r x xs H Q →
    wpAny (model X.prog X.w) X.A (call (.builtin id) (v :: us)) (EP X pins σ Q) X.xe s

theorem Vals.one : ∀ {x : V} {us : List Value}, Vals [x] us → ∃ u, us = [u] ∧ RelV x u
  | _, _, .cons r .nil => ⟨_, rfl, r⟩
theorem Vals.two {x y : V} {us : List Value} (h : Vals [x, y] us) : ∃ u v, us = [u, v] ∧ RelV x u ∧ RelV y v := by
  cases h with
  | cons r t => cases t with
    | cons q t => cases t with
      | nil => exact ⟨_, _, rfl, r, q⟩
section
variable {X : Cx} {pins : List (Addr × Obj)} {σ : St} {H : Hp} {s : Shared} {l b : Addr} {xs ys zs : List V}

theorem Inv.lset {its its' : List Value} {n : Nat} {f : Array Value → Array Value} {t' : Nat} (I : Inv X pins σ H s) (hH : H l = some (.lst xs))
    (e : s.heap.get? l = some { cls := .type "list", data := .seq its.toArray n }) (hf : f its.toArray = its'.toArray) (hv : Vals ys its') (hz : ys.length ≤ sizeLine) :
    Inv X pins σ (upd H l (.lst ys)) { s with heap := s.heap.update l (Obj.mapSeq f), toks := t' } := by
  have q := PySem.IsL.update e f
  rw [hf] at q
  refine I.write (x := l) (e := l) (by rw [hH]; exact trivial) (.inl rfl) (fun b' u hb hu => (Heap.get?_update_other s.heap (Obj.mapSeq f) (Ne.symm hb)).trans hu) ⟨_, q⟩ ?_
  exact ⟨hz, its', _, hv, q⟩
theorem Inv.lnew {its : List Value} {t' : Nat} (I : Inv X pins σ H s) (hv : Vals ys its) (hz : ys.length ≤ sizeLine) :
    Inv X pins σ (upd H s.heap.objs.size (.lst ys)) { s with heap := s.heap.push { cls := .type "list", data := .seq its.toArray }, toks := t' } :=
  I.laid (fun _ _ q => Heap.get?_push_of_some _ q) (Nat.le_refl _) ⟨hz, its, 0, hv, Heap.get?_push_size _ rfl⟩
theorem Inv.fresh (I : Inv X pins σ H s) : H s.heap.objs.size = none := I.hok.fresh (Nat.le_refl _)
theorem Inv.lstM (I : Inv X pins σ H s) (hH : H l = some (.lst xs)) : xs.length ≤ sizeLine ∧ ∃ (its : List Value) (n : Nat), Vals xs its ∧ xs.length = its.length ∧ s.heap.get? l = some { cls := .type "list", data := .seq its.toArray n } := by
  obtain ⟨z, its, n, r, e⟩ := I.hok l _ hH
  exact ⟨z, its, n, r, r.length, e⟩

end

section
variable {X : Cx}

noncomputable def rAppend : V → List V → Hp → VK → Prop := fun x vs H Q => ∃ l xs y, x = .ref l ∧ vs = [y] ∧ H l = some (.lst xs) ∧ xs.length < sizeLine ∧ Q .non (upd H l (.lst (xs ++ [y])))
theorem mt_append : MtM X "list.append" rAppend := by
  intro pins s σ H x vs v us Q I rx rv h
  obtain ⟨l, xs, y, rfl, rfl, hH, hz, q⟩ := h
  cases rx
  obtain ⟨u, rfl, ru⟩ := rv.one
  obtain ⟨z, its, n, r, hl, e⟩ := I.lstM hH
  refine call_meets F.slot_list_append ⟨_, e, rfl⟩ F.entry_list_append (F.args_list_append_2 _ _) (PySem.list_append l its.toArray n u (by rw [List.size_toArray]; omega)) ⟨e, ?_⟩
  refine ⟨.non, _, I.lset (its' := its ++ [u]) hH e (by simp) (r.append (.cons ru .nil)) ?_, rfl, q⟩
  rw [List.length_append, List.length_singleton]
  omega

noncomputable def rCat : R2 := fun x y H Q => ∃ l b xs zs, x = .ref l ∧ y = .ref b ∧ H l = some (.lst xs) ∧ H b = some (.lst zs) ∧ xs.length + zs.length ≤ sizeLine ∧ ∀ p, H p = none → Q (.ref p) (upd H p (.lst (xs ++ zs)))
theorem op_cat : OpR X (binaryOp .Add) rCat := by
  intro pins s σ H x y v u Q I rx ry h
  obtain ⟨l, b, xs, zs, rfl, rfl, hH, hB, hz, q⟩ := h
  cases rx
  cases ry
  obtain ⟨z, its, n, r, hl, e⟩ := I.lstM hH
  obtain ⟨z2, its2, n2, r2, hl2, e2⟩ := I.lstM hB
  refine PySem.P.add_list e e2 ?_ (by rw [List.size_toArray, List.size_toArray]; omega)
  have ea : its.toArray ++ its2.toArray = (its ++ its2).toArray := by simp
  rw [ea]
  exact ⟨.ref _, _, I.lnew (t' := s.toks) (r.append r2) (by rw [List.length_append]; omega), rfl, q _ I.fresh⟩
end

section
variable {prog : Program} {w : World} {A : Around} {E : Value → Shared → Prop} {s : Shared}
end

section
variable {X : Cx}
end
end L2

namespace Att
open PySem PySem.W PySem.Calls PyProof.Rows

theorem ints_of_wellAll {P : Params} {h : Heap} : ∀ (ns : List Int) (vs : List Value), WellAll P h vs (ns.map WData.int) → IntsAre vs ns := by
  intro ns
  induction ns with
  | nil =>
    intro vs w
    rw [List.map_nil] at w
    cases w
    exact .nil
  | cons n ns ih =>
    intro vs w
    rw [List.map_cons] at w
    cases w with
    | cons a b =>
      cases a
      exact .cons _ _ (ih _ b)

theorem script_of {l : OpenLaw} {n : Nat} (hn : l.most = some n) {P : Params} {h : Heap} {args : List WData} {vals : List Value}
    (hpre : l.row.toRowW.claim.pre args = true) (hwl : WellAll P h vals args) :
    ∃ a vs ns, vals = [Value.ref a] ∧ args = [WData.list (ns.map WData.int)] ∧ h.get? a = some { cls := .type "list", data := .seq vs.toArray } ∧ IntsAre vs ns ∧ ns.length ≤ n := by
  have hsh : WShape.hasAll [] args [.list .int] = true := (pre_splitW hpre).1
  have hc : l.pre.holds [] { args := args } = true := (pre_splitW hpre).2
  obtain ⟨d, r, rfl, h1, h2⟩ := hasAllW_cons hsh
  obtain rfl := hasAllW_nil h2
  obtain ⟨xs, rfl, h3⟩ := hasW_list h1
  obtain ⟨ns, rfl⟩ := items_int h3
  have hlen : ns.length ≤ n := by
    unfold OpenLaw.pre at hc
    have h4 : (WTm.not (.lt (.lit (.int (n : Int))) (.len (.arg 0)))).holds [] { args := [.list (ns.map .int)] } = true := by
      have h4 := (holds_andW hc).1
      rw [hn] at h4
      exact h4
    have h5 := condW_of h4 (w_not (w_lt w_lit (w_len_list (w_arg rfl))))
    rw [List.length_map] at h5
    refine Nat.le_of_not_lt fun q => ?_
    have q' : (n : Int) < ((ns.length : Nat) : Int) := by omega
    first
      | (rw [decide_eq_true q'] at h5; exact absurd h5 (by decide))
      | (simp at h5; omega)
  cases hwl with
  | cons w1 w2 =>
    cases w2
    cases w1 with
    | list ho hall => exact ⟨_, _, ns, rfl, rfl, ho, ints_of_wellAll ns _ hall, hlen⟩

theorem post_true (l : OpenLaw) (args : List WData) : l.row.toRowW.claim.post args (.bool true) args = true :=
  postW_of (r := l.row.toRowW) (X := (true == true))
    (show WShape.has [] (.bool true) .bool = true by first | rfl | decide | simp [WShape.has, WShape.arms, WShape.armsAll])
    (show (WTm.eq .res (.lit (.bool true))).value [] { args := args, res := some (.bool true), after := args } = some (.bool (true == true)) from w_eq_bool (w_res rfl) w_lit) rfl

theorem attach_call {l : OpenLaw} {n : Nat} {q : Program} {loose : List Str} {XP : (Str → Option Value) → Heap → Prop} {YP : World → Heap → Prop} {d : DefRec}
    (hn : l.most = some n) (hdf : d.params.defaults = [])
    (call : ∀ (w : World) (s₀ s₁ : Shared) (mg mb : Str → Option Value) (fa : Addr) (o : Obj) (pm cd doc : Value) (a : Addr) (vs : List Value) (ns : List Int),
      Ground q loose [] XP w s₀ mg mb s₁.heap → YP w s₁.heap →
      s₁.heap.get? fa = some o → o.data = .func (docDef d.name d.params d.body d.scope pm cd doc) → s₁.heap.CodeRec cd d.name → mg d.name = some (.ref fa) →
      s₁.heap.get? a = some { cls := .type "list", data := .seq vs.toArray } → IntsAre vs ns → ns.length ≤ n → s₁.gens = #[] →
      codeAny (model l.prog w) callerA (.call (.ref fa) ⟨[.ref a], []⟩) (fun r s' => r = .ok (.ret (.bool true)) ∧ OldK s₁.heap s'.heap ∧ s'.os = s₁.os ∧ AllBare s'.gens) s₁) :
    WalkO q loose XP YP l.row.toRowW d [] (fun f vs => PySem.call f vs) := by
  intro w s₀ s₁ mg mb G Y fa o pm cd doc dV kV ho hd hcd hD hmg hg args vals as hpre hlay hrd hwl hlo
  obtain rfl : dV = .none := Dflts.none hD hdf
  obtain rfl : kV = .none := Dflts.noKw hD
  obtain ⟨a, vs, ns, rfl, rfl, hobj, hints, hlen⟩ := script_of hn hpre hwl
  refine enter_call (codeAny_mono (call w s₀ s₁ mg mb fa o pm cd doc a vs ns G Y ho (fd_plain hd) hcd hmg hobj hints hlen hg) fun r s' hq => ?_)
  obtain ⟨rfl, h2, h3, h4⟩ := hq
  exact ⟨.inl ⟨.bool true, .bool true, [], rfl, fun _ => rfl, .bool true, post_true l _, fun _ => ⟨List.Pairwise.nil, fun _ hm => (nomatch hm)⟩⟩, h2, h3, h4⟩

section
variable {prog : Program} {w : World} {A : Around} {E : Value → Shared → Prop} {s : Shared} {K : Frag}

end
end Att

namespace L2
open PySem PySem.Spec PyProof.Rows

theorem vals_ints : ∀ {vs : List Value} {ns : List Int}, IntsAre vs ns → Vals (ns.map V.int) vs
  | _, _, .nil => .nil
  | _, _, .cons n t h => .cons ⟨t, rfl⟩ (vals_ints h)

noncomputable def Only (H : Hp) : Prop := ∀ b, H b = none ∨ ∃ o xs, H b = some (.frz o (.lst xs))

theorem law_call {P : Program} {w : World} {K : PySem.W.Frag} {mg mb : Str → Option Value} {CX : CXT} {k : Nat} {fa a : Addr} {fd : FuncData} {x : Str} {sp : Sp} {s₁ : Shared} {vs : List Value} {ns : List Int}
    (KX : K.In s₁.heap) (hns : s₁.heap.Ns mainGlobals mg) (hb : s₁.heap.Ns builtinsNs mb) (hbb : ∀ x : Str, x ≠ "__name__" → mb x = bootBuiltins x) (hlim : s₁.heap.NoLimit) (hg : s₁.gens = #[])
    (ha : s₁.heap.get? a = some { cls := .type "list", data := .seq vs.toArray }) (hi : IntsAre vs ns) (hl : ns.length ≤ sizeLine) (hr : Room k callerA)
    (F : ∀ base : Heap, K.In base → base.Ns mainGlobals mg → FnOk P w K mg base CX k fa fd [x] sp) (hbind : ∀ (s : Shared) (u : Value), BindsTo s fd ⟨[u], []⟩ [(x, u)])
    (hsp : ∀ H : Hp, Only H → SqL K H a (ns.map V.int) → sp [.ref a] H (fun v _ => v = .bl true) fun _ _ _ => False)
    (hCX : ∀ H e s', CX [] H s₁ (fun _ _ _ => False) e s' → False) :
    codeAny (model P w) callerA (.call (.ref fa) ⟨[.ref a], []⟩) (fun r s' => r = .ok (.ret (.bool true)) ∧ OldK s₁.heap s'.heap ∧ s'.os = s₁.os ∧ AllBare s'.gens) s₁ := by
  have rv := vals_ints hi
  have lenV := hi.length
  -- from an abstract heap in which nothing but the script may be tracked
  have core : ∀ H : Hp, Only H → SqL K H a (ns.map V.int) → HOk P w H s₁.heap → (∀ b, H b ≠ none → b = a) → (H a ≠ none → K.lookup a = none) →
      codeAny (model P w) callerA (.call (.ref fa) ⟨[.ref a], []⟩) (fun r s' => r = .ok (.ret (.bool true)) ∧ OldK s₁.heap s'.heap ∧ s'.os = s₁.os ∧ AllBare s'.gens) s₁ := by
    intro H hO hS hok hA hK
    have base_of : ∀ {b : Addr} {o : Obj}, s₁.heap.get? b = some o → H b = none → (hidT s₁.heap H).get? b = some o := fun e n => hidT_get e n
    have noA : ∀ {b : Addr} {o : Obj} {es : Array DictEntry} {ep : Nat}, s₁.heap.get? b = some o → o.data = .dict es ep → H b = none := fun {b o es ep} e d => by
      cases q : H b with
      | none => rfl
      | some u =>
        have e' : b = a := hA b (by rw [q]; simp)
        subst e'
        rw [ha] at e; cases e
        have d' : Data.seq vs.toArray _ = Data.dict es ep := d
        cases d'
    have nsK : ∀ {b : Addr} {m : Str → Option Value}, s₁.heap.Ns b m → (hidT s₁.heap H).Ns b m := fun {b m} ⟨o, es, ep, e, d, r⟩ => ⟨o, es, ep, base_of e (noA e d), d, r⟩
    have hKb : K.In (hidT s₁.heap H) := fun b o e => base_of (KX b o e) (by
      cases q : H b with
      | none => rfl
      | some u =>
        have e' : b = a := hA b (by rw [q]; simp)
        subst e'
        rw [hK (by rw [q]; simp)] at e; cases e)
    have hM : Mod K mg (hidT s₁.heap H) := ⟨hKb, nsK hns, ⟨mb, nsK hb, hbb⟩, let ⟨mc, h1, h2⟩ := hlim; ⟨mc, nsK h1, h2⟩⟩
    have e0 : Env0 P w K mg (hidT s₁.heap H) callerA [] s₁ H := ⟨rfl, hM, fun b o e => of_hidT e, Nat.le_of_eq (hidT_size _ _), trivial, fun b hb => absurd (show b ∈ ([] : List Addr) from hb) (by simp), hok, .of_eq hg⟩
    refine codeAny_mono ((F _ hKb (nsK hns)).run callerA [] s₁ H ⟨[.ref a], []⟩ [.ref a] [.ref a] _ _ hr e0 (hbind s₁ (.ref a)) (.cons rfl .nil) (hsp H hO hS)) fun r s' h => ?_
    cases r with
    | error e => exact (hCX H e s' h).elim
    | ok fl =>
      cases fl with
      | next => exact False.elim h
      | brk => exact False.elim h
      | cont => exact False.elim h
      | ret u =>
        obtain ⟨v, H', os, bare, un, hok', r', q⟩ := h
        have q' : v = .bl true := q
        subst q'
        obtain rfl : u = Value.bool true := r'
        refine ⟨rfl, OldK.of_keep fun b o e => ?_, os, bare⟩
        cases q : H b with
        | none => exact un.keep b o e q (by intro z; exact absurd (show b ∈ ([] : List Addr) from z) (by simp)) (by simp)
        | some u =>
          rcases hO b with z | ⟨ob, xs, z⟩
          · rw [q] at z; cases z
          · have z2 := un.frzs b ob _ z
            obtain ⟨e1, _⟩ := hok b _ z
            obtain ⟨e2, _⟩ := hok' b _ z2
            rw [e] at e1; cases e1
            exact e2
  cases hk : K.lookup a with
  | some o =>
    -- the script is one of the module's own objects
    have e := KX a o hk
    rw [ha] at e
    cases e
    refine core (fun _ => none) (fun _ => .inl rfl) (.inr ⟨_, vs.toArray, _, hk, rfl, rfl, rfl, by rw [List.size_toArray, lenV]; exact hl, by simpa using rv⟩) (fun b u z => by have z' : (none : Option HO) = some u := z; cases z') (fun b z => absurd rfl z) fun z => absurd rfl z
  | none =>
    refine core (fun b => if b = a then some (.frz { cls := .type "list", data := .seq vs.toArray } (.lst (ns.map V.int))) else none) (fun b => ?_) (.inl (.inr ⟨{ cls := .type "list", data := .seq vs.toArray }, if_pos rfl⟩)) (fun b u z => ?_) (fun b z => ?_) fun _ => hk
    · by_cases hb : b = a
      · exact .inr ⟨_, _, if_pos hb⟩
      · exact .inl (if_neg hb)
    · by_cases hb : b = a
      · have z' := (if_pos hb).symm.trans z
        cases z'
        subst hb
        exact ⟨ha, by rw [List.length_map]; exact hl, vs, _, rv, ha⟩
      · have z' := (if_neg hb).symm.trans z
        cases z'
    · by_cases hb : b = a
      · exact hb
      · exact absurd (if_neg hb) z
end L2

namespace L2
open PySem PySem.Spec PyProof.Rows

noncomputable abbrev KOf {K : PySem.W.Frag} {h : Heap} (_ : K.In h) : PySem.W.Frag := K

theorem walk_of {l : PySem.W.OpenLaw} {n k : Nat} {q : Program} {loose : List Str} {XP : (Str → Option Value) → Heap → Prop} {YP : World → Heap → Prop} {d : DefRec} {K : Params → PySem.W.Frag} {CX : World → CXT} {sp : World → Sp} {x : Str}
    (hn : l.most = some n) (hn2 : n ≤ sizeLine) (hdf : d.params.defaults = []) (hr : Room k callerA)
    (hY : ∀ (w : World) (h : Heap), YP w h → (K w.params).In h)
    (F : ∀ (w : World) (mg : Str → Option Value) (fa : Addr) (h : Heap), (K w.params).In h → h.Ns mainGlobals mg → mg d.name = some (.ref fa) →
      ∃ fd : FuncData, (∀ (s : Shared) (u : Value), BindsTo s fd ⟨[u], []⟩ [(x, u)]) ∧
        ∀ base : Heap, (K w.params).In base → base.Ns mainGlobals mg → FnOk l.prog w (K w.params) mg base (CX w) k fa fd [x] (sp w))
    (hsp : ∀ (w : World) (H : Hp) (a : Addr) (ns : List Int), ns.length ≤ n → Only H → SqL (K w.params) H a (ns.map V.int) → sp w [.ref a] H (fun v _ => v = .bl true) fun _ _ _ => False)
    (hCX : ∀ (w : World) (H : Hp) (s : Shared) (e : Value) (s' : Shared), CX w [] H s (fun _ _ _ => False) e s' → False) :
    PySem.W.WalkO q loose XP YP l.row.toRowW d [] (fun f vs => PySem.call f vs) := by
  refine Att.attach_call hn hdf fun w s₀ s₁ mg mb fa o pm cd doc a vs ns G Y ho hd hcd hmg hobj hints hlen hg => ?_
  have KX := hY w _ Y
  obtain ⟨fd, hb, hF⟩ := F w mg fa _ KX G.T.g hmg
  exact law_call KX G.T.g G.T.b G.T.builtins G.T.nolimit hg hobj hints (Nat.le_trans hlen hn2) hr hF hb (fun H hO hS => hsp w H a ns hlen hO hS) fun H e s' => hCX w H s₁ e s'
end L2

/- THE LAST THEOREM (shape; LID, My.* are yours):
   My.Adr: a structure of the addresses that your layer names (classes, functions); My.Txt K t: a structure (Prop) of the equations over K;
   My.txt_mk : {K} {implicit addresses ..} (e1 : nsIn K mainGlobals "law" = some (some (.ref f))) (e2 : K.lookup f = some ⟨oc, od, .func (fnOf "law" "law" params body scope dV kV doc pm an cdv ct), sl⟩) (e3 : codeIn K cdv "law" = true) .. : ∃ t, My.Txt K t

set_option maxRecDepth 100000 in
set_option maxHeartbeats 0 in
theorem PySem.Challenge.cw_LID_holds : PySem.Challenge.rw_LID.Holds := by
  w_on; o_law; k_head; (case hw => w_witness2)
  k_fill
  refine L2.walk_of (l := PySem.Challenge.rw_LID) (n := 63) (k := 40) (x := "script") (CX := fun w => ..) (sp := fun _ => My.sp_law) rfl (by decide) rfl ⟨rfl, by decide, by decide⟩ (fun w h Y => PySem.W.kIn_of Y) ?F ?S ?C
  case F =>
    intro w mg fa h KX G hmg
    have T : ∃ t, My.Txt (L2.KOf KX) t := by
      dsimp only [L2.KOf]                          -- K must stand as «<heap const> w.params» for k_is
      refine' My.txt_mk ?e1 ?e2 ?e3 ..
      (case e1 => PySem.W.k_is)                    -- in the order: a name -> its address -> its object -> its parts
      (case e2 => PySem.W.k_is)
      ..
    obtain ⟨t, T⟩ := T
    have e0 := hmg.symm.trans (PySem.W.mg_of KX G T.law)
    cases e0                                       -- fa is the law's own address
    exact ⟨_, fun s u => .of_eq rfl, fun base kb nb => My.law_fn T kb nb⟩     -- if «.of_eq rfl» comes too early: refine' ⟨_, ?b, fun base kb nb => My.law_fn T kb nb⟩; exact fun s u => .of_eq rfl
  case S => exact fun w H a ns hl hO hS => ..
  case C => exact ..
(the tactic k_is has no namespace: write k_is) -/

namespace L2
open PySem PySem.Spec PyProof.Rows

noncomputable def defArgs (s : Stmt) : Arguments := match s with
  | .FunctionDef _ a _ _ _ _ _ _ _ _ => a
  | _ => { posonlyargs := [], args := [], vararg := none, kwonlyargs := [], kw_defaults := [], kwarg := none, defaults := [] }
noncomputable def defBody (s : Stmt) : List Stmt := match s with
  | .FunctionDef _ _ b _ _ _ _ _ _ _ => b
  | _ => []
noncomputable def defScope (s : Stmt) : Scope := match s with
  | .FunctionDef _ _ _ _ _ _ sc _ _ _ => sc
  | _ => { kind := .function, names := [], isGenerator := false, isCoroutine := false }

noncomputable abbrev E0 : XK := fun _ _ _ => False
structure Fun (K : PySem.W.Frag) (x qual : Str) (st : Stmt) (f : Addr) (fd : FuncData) : Prop where
  ex : ∃ (oc : Value) (od : Option Addr) (kV doc pm : Value) (an : Option Addr) (cdv ct : Value) (osl : Array (Option Value)),
    fd = PySem.W.fnOf x qual (defArgs st) (defBody st) (defScope st) .none kV doc pm an cdv ct ∧ K.lookup f = some ⟨oc, od, .func fd, osl⟩ ∧ PySem.W.codeIn K cdv qual = true
  kp : PySem.W.keepIn K (.ref f) = true
section
variable {P : Program} {w : World} {K : PySem.W.Frag} {mg : Str → Option Value} {base : Heap}
theorem fun_mk {x qual : Str} {st : Stmt} {f : Addr} {oc : Value} {od an : Option Addr} {osl : Array (Option Value)} {kV doc pm cdv ct : Value} (l : K.lookup f = some ⟨oc, od, .func (PySem.W.fnOf x qual (defArgs st) (defBody st) (defScope st) .none kV doc pm an cdv ct), osl⟩)
    (c : PySem.W.codeIn K cdv qual = true) (k : PySem.W.keepIn K (.ref f) = true) : Fun K x qual st f (PySem.W.fnOf x qual (defArgs st) (defBody st) (defScope st) .none kV doc pm an cdv ct) := ⟨⟨oc, od, kV, doc, pm, an, cdv, ct, osl, rfl, l, c⟩, k⟩
end
theorem hu_of {A : Around} {k : Nat} (hr : Room k A) : A.units + 1 < cLine := Nat.lt_of_le_of_lt (Nat.add_le_add_left (by decide : 1 ≤ 64) _) hr.units
theorem small1000 {n : Nat} (h : n ≤ 1000) : n < sizeLine := Nat.lt_of_le_of_lt h (by decide)

section
variable {X : Cx}
end

theorem iteT {A B : Prop} (h : A) : if true = true then A else B := by
  rw [if_pos rfl]
  exact h
theorem ite2 {c A B : Prop} [Decidable c] (h1 : c → A) (h2 : ¬ c → B) : if c then A else B := by
  by_cases h : c
  · rw [if_pos h]
    exact h1 h
  · rw [if_neg h]
    exact h2 h
noncomputable def Same (H H' : Hp) : Prop := ∀ b o, H b = some o → H' b = some o
theorem Same.refl (H : Hp) : Same H H := fun _ _ h => h
theorem Same.trans {H H1 H2 : Hp} (a : Same H H1) (b : Same H1 H2) : Same H H2 := fun c o h => b c o (a c o h)
theorem Same.free {H H' : Hp} (e : Same H H') {l : Addr} (h : H' l = Option.none) : H l = Option.none := by
  cases q : H l with
  | none => rfl
  | some o =>
    rw [e l o q] at h
    cases h
theorem Same.seq {K : PySem.W.Frag} {H H' : Hp} {a : Addr} {xs : List V} (e : Same H H') (h : SqL K H a xs) : SqL K H' a xs := by
  rcases h with (h | ⟨o, h⟩) | h
  · exact .inl (.inl (e _ _ h))
  · exact .inl (.inr ⟨o, e _ _ h⟩)
  · exact .inr h

end L2
set_option maxHeartbeats 4000000
namespace Lm
theorem gcd_turn (a b : Int) : Int.gcd b (a % b) = Int.gcd a b := by
  have e : a % b = a + (-(a / b)) * b := by
    have := Int.emod_add_mul_ediv a b
    rw [Int.neg_mul, Int.mul_comm (a / b) b]; omega
  rw [Int.gcd_comm b (a % b), e]
  exact Int.gcd_add_mul_right_left b a (-(a / b))
theorem dvd_of_gcd {k m n : Int} (h : Int.gcd k m = 1) (d : k ∣ m * n) : k ∣ n := by
  have d' : k.natAbs ∣ m.natAbs * n.natAbs := by
    rw [← Int.natAbs_mul]; exact Int.natAbs_dvd_natAbs.mpr d
  have c : Nat.Coprime k.natAbs m.natAbs := h
  exact Int.natAbs_dvd_natAbs.mp (c.dvd_of_dvd_mul_left d')
noncomputable def dv (a b : Int) : Int := if b < 0 then -(Int.gcd a b : Int) else (Int.gcd a b : Int)
noncomputable def mk1 (a b : Int) : Int := a.fdiv (dv a b)
noncomputable def mk2 (a b : Int) : Int := b.fdiv (dv a b)
theorem gcd_pos {a b : Int} (hb : b ≠ 0) : 0 < (Int.gcd a b : Int) := by
  have : 0 < Int.gcd a b := Int.gcd_pos_of_ne_zero_right a hb
  omega
theorem dv_ne {a b : Int} (hb : b ≠ 0) : dv a b ≠ 0 := by
  have := gcd_pos (a := a) hb
  unfold dv; split <;> omega
theorem dv_dvd_left (a b : Int) : dv a b ∣ a := by
  unfold dv; split
  · exact Int.neg_dvd.mpr (Int.gcd_dvd_left a b)
  · exact Int.gcd_dvd_left a b
theorem dv_dvd_right (a b : Int) : dv a b ∣ b := by
  unfold dv; split
  · exact Int.neg_dvd.mpr (Int.gcd_dvd_right a b)
  · exact Int.gcd_dvd_right a b
theorem mk1_mul (a b : Int) : mk1 a b * dv a b = a := Int.fdiv_mul_cancel (dv_dvd_left a b)
theorem mk2_mul (a b : Int) : mk2 a b * dv a b = b := Int.fdiv_mul_cancel (dv_dvd_right a b)
theorem mk2_pos {a b : Int} (hb : b ≠ 0) : 0 < mk2 a b := by
  have h := mk2_mul a b
  have g := gcd_pos (a := a) hb
  have hd : (b < 0 ∧ dv a b < 0) ∨ (0 < b ∧ 0 < dv a b) := by
    unfold dv; split <;> omega
  rcases hd with ⟨h1, h2⟩ | ⟨h1, h2⟩
  · rcases Int.lt_trichotomy (mk2 a b) 0 with q | q | q
    · have := Int.mul_pos_of_neg_of_neg q h2; omega
    · rw [q, Int.zero_mul] at h; omega
    · exact q
  · rcases Int.lt_trichotomy (mk2 a b) 0 with q | q | q
    · have := Int.mul_neg_of_neg_of_pos q h2; omega
    · rw [q, Int.zero_mul] at h; omega
    · exact q
theorem mk_cross (a b : Int) : mk1 a b * b = a * mk2 a b := by
  have h1 := mk1_mul a b
  have h2 := mk2_mul a b
  calc mk1 a b * b = mk1 a b * (mk2 a b * dv a b) := by rw [h2]
    _ = (mk1 a b * dv a b) * mk2 a b := by rw [Int.mul_comm (mk2 a b), ← Int.mul_assoc]
    _ = a * mk2 a b := by rw [h1]
theorem natAbs_dv (a b : Int) : (dv a b).natAbs = Int.gcd a b := by
  unfold dv; split <;> omega
theorem mk_gcd {a b : Int} (hb : b ≠ 0) : Int.gcd (mk1 a b) (mk2 a b) = 1 := by
  have h1 := mk1_mul a b
  have h2 := mk2_mul a b
  have h3 : Int.gcd (mk1 a b * dv a b) (mk2 a b * dv a b) = Int.gcd (mk1 a b) (mk2 a b) * (dv a b).natAbs := Int.gcd_mul_right _ _ _
  rw [h1, h2, natAbs_dv] at h3
  have h4 : 0 < Int.gcd a b := Int.gcd_pos_of_ne_zero_right a hb
  exact Nat.eq_of_mul_eq_mul_right h4 (by rw [Nat.one_mul]; exact h3.symm)
theorem mk1_le (a b : Int) (hb : b ≠ 0) : (mk1 a b).natAbs ≤ a.natAbs := by
  have h1 := congrArg Int.natAbs (mk1_mul a b)
  rw [Int.natAbs_mul, natAbs_dv] at h1
  have h4 : 0 < Int.gcd a b := Int.gcd_pos_of_ne_zero_right a hb
  rw [← h1]
  exact Nat.le_mul_of_pos_right _ h4
theorem mk2_le (a b : Int) (hb : b ≠ 0) : (mk2 a b).natAbs ≤ b.natAbs := by
  have h1 := congrArg Int.natAbs (mk2_mul a b)
  rw [Int.natAbs_mul, natAbs_dv] at h1
  have h4 : 0 < Int.gcd a b := Int.gcd_pos_of_ne_zero_right a hb
  rw [← h1]
  exact Nat.le_mul_of_pos_right _ h4
theorem lowest_unique {p q r s : Int} (hq : 0 < q) (hs : 0 < s) (h1 : Int.gcd p q = 1) (h2 : Int.gcd r s = 1) (h : p * s = r * q) : p = r ∧ q = s := by
  have d1 : q ∣ s := by
    have : q ∣ p * s := ⟨r, by rw [h, Int.mul_comm]⟩
    exact dvd_of_gcd (by rw [Int.gcd_comm]; exact h1) this
  have d2 : s ∣ q := by
    have : s ∣ r * q := ⟨p, by rw [← h, Int.mul_comm]⟩
    exact dvd_of_gcd (by rw [Int.gcd_comm]; exact h2) this
  have e : q = s := by
    have l1 := Int.le_of_dvd hs d1
    have l2 := Int.le_of_dvd hq d2
    omega
  refine ⟨?_, e⟩
  subst e
  exact Int.eq_of_mul_eq_mul_right (by omega) h
theorem mk_unique {a b p q : Int} (hb : b ≠ 0) (hq : 0 < q) (h1 : Int.gcd p q = 1) (h : p * b = a * q) : mk1 a b = p ∧ mk2 a b = q := by
  have hc := mk_cross a b
  refine lowest_unique (mk2_pos hb) hq (mk_gcd hb) h1 ?_
  -- mk1 * q * b = a * mk2 * q = p * b * mk2
  refine Int.eq_of_mul_eq_mul_right hb ?_
  calc mk1 a b * q * b = (mk1 a b * b) * q := by rw [Int.mul_right_comm]
    _ = (a * mk2 a b) * q := by rw [hc]
    _ = (a * q) * mk2 a b := by rw [Int.mul_right_comm]
    _ = (p * b) * mk2 a b := by rw [h]
    _ = p * mk2 a b * b := by rw [Int.mul_right_comm]
end Lm
namespace Lt
noncomputable def AllD (l : List Nat) : Prop := ∀ c ∈ l, 48 ≤ c ∧ c ≤ 57
instance (l : List Nat) : Decidable (AllD l) := inferInstanceAs (Decidable (∀ c ∈ l, 48 ≤ c ∧ c ≤ 57))
noncomputable def val (l : List Nat) : Nat := l.foldl (fun acc c => acc * 10 + (c - 48)) 0
noncomputable def fg (n : Nat) : List Nat := (Nat.toDigits 10 n).map Char.toNat
noncomputable def sg (p : Int) : List Nat := if p < 0 then [45] else []
noncomputable def wr (p q : Int) : List Nat := sg p ++ fg p.natAbs ++ (if q = 1 then [] else 47 :: fg q.natAbs)
end Lt
namespace Lt
noncomputable def fin (l : List Nat) (t b : Int) : Option (Int × Int) := if b = 0 then none else if wr (Lm.mk1 t b) (Lm.mk2 t b) = l then some (Lm.mk1 t b, Lm.mk2 t b) else none
noncomputable def bare (l : List Nat) : List Nat := if l.head? = some 45 then l.tail else l
end Lt
namespace L2
open PySem PySem.Spec PyProof.Rows
structure Has (K : PySem.W.Frag) (mg : Str → Option Value) (x : Str) (st : Stmt) (ps : List Str) (f : Addr) (fd : FuncData) : Prop where
  fn : Fun K x x st f fd
  bd : ∀ us : List Value, us.length = ps.length → bindArgs fd ⟨us, []⟩ = pure (ps.zip us)
  at_ : mg x = some (.ref f)
theorem has_mk {K : PySem.W.Frag} {h : Heap} {mg : Str → Option Value} {x : Str} {st : Stmt} {ps : List Str} {f : Addr} {oc : Value} {od an : Option Addr} {osl : Array (Option Value)} {kV doc pm cdv ct : Value} (X : K.In h) (G : h.Ns mainGlobals mg)
    (a : PySem.W.nsIn K mainGlobals x = some (some (.ref f))) (l : K.lookup f = some ⟨oc, od, .func (PySem.W.fnOf x x (defArgs st) (defBody st) (defScope st) .none kV doc pm an cdv ct), osl⟩)
    (c : PySem.W.codeIn K cdv x = true) (k : PySem.W.keepIn K (.ref f) = true)
    (h : ∀ (kV doc pm : Value) (an : Option Addr) (cdv ct : Value) (us : List Value), us.length = ps.length → bindArgs (PySem.W.fnOf x x (defArgs st) (defBody st) (defScope st) .none kV doc pm an cdv ct) ⟨us, []⟩ = pure (ps.zip us)) :
    Has K mg x st ps f (PySem.W.fnOf x x (defArgs st) (defBody st) (defScope st) .none kV doc pm an cdv ct) :=
  ⟨fun_mk (st := st) l c k, h kV doc pm an cdv ct, PySem.W.mg_of X G a⟩
section
variable {X : Cx} {j k : Nat} {x : Str} {ps : List Str} {sp : Sp} {e : Expr} {es : List Expr} {t : TA} {p pos : Pos}
end

noncomputable abbrev Bd (n : Nat) (x : Int) : Prop := Builtin.Int.intBits x ≤ n
theorem Bd.mono {m n : Nat} {x : Int} (h : Bd m x) (l : m ≤ n) : Bd n x := Nat.le_trans h l
theorem Bd.of_lt {n : Nat} {x : Int} (h : x.natAbs < 2 ^ n) : Bd n x := intBits_le_iff.mpr h
theorem Bd.of_le {n : Nat} {x y : Int} (h : Bd n y) (l : x.natAbs ≤ y.natAbs) : Bd n x := intBits_le_of_natAbs l h
theorem Bd.mul {m n k : Nat} {x y : Int} (hx : Bd m x) (hy : Bd n y) (l : m + n ≤ k) : Bd k (x * y) := Nat.le_trans (intBits_mul_le hx hy) l
theorem Bd.add {m k : Nat} {x y : Int} (hx : Bd m x) (hy : Bd m y) (l : m + 1 ≤ k) : Bd k (x + y) := Nat.le_trans (intBits_add_le hx hy) (by rw [Nat.max_self]; exact l)
theorem Bd.sub {m k : Nat} {x y : Int} (hx : Bd m x) (hy : Bd m y) (l : m + 1 ≤ k) : Bd k (x - y) := Nat.le_trans (intBits_sub_le hx hy) (by rw [Nat.max_self]; exact l)
theorem Bd.fdiv {n : Nat} {x y : Int} (h : Bd n x) : Bd n (x.fdiv y) := intBits_fdiv_le h
noncomputable def CMulB (i j : Int) : Prop := ∃ m, Bd m i ∧ Bd m j ∧ m ≤ 60000000
theorem CMulB.of {m : Nat} {i j : Int} (h1 : Bd m i) (h2 : Bd m j) (h : m ≤ 60000000) : CMulB i j := ⟨m, h1, h2, h⟩
noncomputable def CDivB (_ j : Int) : Prop := j ≠ 0 ∧ Bd 9000 j
noncomputable def CPowB (i j : Int) : Prop := 0 ≤ j ∧ (Builtin.Int.intBits i : Int) * j ≤ 2 ^ 27
theorem log2_of_bd {j : Int} (h0 : j ≠ 0) {n : Nat} (h : Bd n j) : j.natAbs.log2 < n := (Nat.log2_lt (by omega)).mpr (intBits_le_iff.mp h)
section
variable {X : Cx}
theorem op_mulB : OpR X (binaryOp .Mult) (rI CMulB fun i j => .int (i * j)) := opI fun _ _ _ _ _ _ _ hc q =>
  let ⟨_, h1, h2, h3⟩ := hc; PyProof.Rows.mul_int q (IntMulOk.of_le h1 h2 (by omega))
theorem op_fdivB : OpR X (binaryOp .FloorDiv) (rI CDivB fun i j => .int (i.fdiv j)) := opI fun _ _ _ _ _ _ _ hc q => floordiv_int hc.1 q (.inl (PyProof.noPylong_of_log2 (log2_of_bd hc.1 hc.2)))
theorem op_powB : OpR X (binaryOp .Pow) (rI CPowB fun i j => .int (i ^ j.toNat)) := opI fun _ _ _ _ _ _ _ hc q => pow_int hc.1 hc.2 q
end

section
variable {X : Cx} {tg : Expr}
end
section
variable {X : Cx}
structure Kt (K : PySem.W.Frag) : Prop where
  ii : PySem.W.kitOne K (.type "int") (.type "int") = some true
  ib : PySem.W.kitOne K (.type "int") (.type "bool") = some false
  bb : PySem.W.kitOne K (.type "bool") (.type "bool") = some true
  tt : PySem.W.kitOne K (.type "tuple") (.type "tuple") = some true
  ss : PySem.W.kitOne K (.type "str") (.type "str") = some true
  ll : PySem.W.kitOne K (.type "list") (.type "list") = some true
  tl : PySem.W.kitOne K (.type "tuple") (.type "list") = some false
theorem eqTup {A : Around} {s : Shared} {a b c d : Int} {t u v x : Tok} : ∀ j (h1 : j < (#[Value.int a t, Value.int b u] : Array Value).size) (h2 : j < (#[Value.int c v, Value.int d x] : Array Value).size),
    SeqAt.EqAt A s (#[Value.int a t, Value.int b u] : Array Value)[j] (#[Value.int c v, Value.int d x] : Array Value)[j] (if j = 0 then decide (a = c) else decide (b = d)) := by
  intro j h1 h2
  match j, h1 with
  | 0, _ => exact eqAt_V (y := .int a) (x := .int c) ⟨t, rfl⟩ ⟨v, rfl⟩ rfl rfl
  | 1, _ => exact eqAt_V (y := .int b) (x := .int d) ⟨u, rfl⟩ ⟨x, rfl⟩ rfl rfl
theorem vals_pair {a b : Int} {its : List Value} (h : Vals [.int a, .int b] its) : ∃ t u, its = [.int a t, .int b u] := by
  obtain ⟨x, y, rfl, ⟨t, rfl⟩, ⟨u, rfl⟩⟩ := Vals.two h
  exact ⟨t, u, rfl⟩
noncomputable def rEqT (K : PySem.W.Frag) : R2 := fun x y H Q => ∃ l m a b c d, x = .ref l ∧ y = .ref m ∧ SqT K H l [.int a, .int b] ∧ SqT K H m [.int c, .int d] ∧ Q (.bl (decide (a = c) && decide (b = d))) H
theorem range2 {p q : Bool} : (((List.range (min 2 2)).all fun j => if j = 0 then p else q) && (2 == 2)) = (p && q) := by cases p <;> cases q <;> rfl
theorem op_eqT (hu : X.A.units < cLine) : OpR X (compareOp .Eq) (rEqT X.K) := by
  intro pins s σ H x y v u Q I rx ry h
  obtain ⟨l, m, a, b, c, d, rfl, rfl, h1, h2, q⟩ := h
  cases rx
  cases ry
  obtain ⟨its, r1, p1, _⟩ := I.tuple h1
  obtain ⟨jts, r2, p2, _⟩ := I.tuple h2
  obtain ⟨t1, t2, rfl⟩ := vals_pair r1
  obtain ⟨t3, t4, rfl⟩ := vals_pair r2
  refine SeqAt.eq_tupleAt (e := fun j => if j = 0 then decide (a = c) else decide (b = d)) p1 p2 hu eqTup ?_
  exact ⟨.bl _, H, I, congrArg Value.bool range2, q⟩
end
end L2
namespace L2
open PySem PySem.Spec PyProof.Rows
section
variable {P : Program} {w : World} {H H' : Hp} {h h' : Heap} {a : Addr} {o : HO}
theorem ObjOk.has (x : ObjOk P w H h a o) : ∃ ob, h.get? a = some ob := by
  cases o with
  | lst xs => obtain ⟨_, _, _, _, e⟩ := x; exact ⟨_, e⟩
  | tup xs => obtain ⟨_, _, _, ob, e, _⟩ := x; exact ⟨ob, e⟩
  | dK kvs => obtain ⟨_, _, _, _, ob, _, _, e, _⟩ := x; exact ⟨ob, e⟩
  | dT kvs => obtain ⟨_, _, _, _, ob, _, _, e, _⟩ := x; exact ⟨ob, e⟩
  | set S n => obtain ⟨ob, _, _, _, e, _⟩ := x; exact ⟨ob, e⟩
  | ins C dx fs => obtain ⟨_, _, _, e, _⟩ := x; exact ⟨_, e⟩
  | own y => exact x
  | xd fs => obtain ⟨_, ⟨ob, _, _, e, _⟩, _⟩ := x; exact ⟨ob, e⟩
  | rng lo hi => obtain ⟨_, _, _, e⟩ := x; exact ⟨_, e⟩
  | frz ob u => obtain ⟨e, _⟩ := x; exact ⟨_, e⟩
  | tbl ps => exact ⟨_, (show h.get? a = some _ from x)⟩
  | met f y => exact ⟨_, (show h.get? a = some _ from x)⟩
  | ext φ => obtain ⟨_, e, _⟩ := x; exact e
theorem HOk.has (x : HOk P w H h) (e : H a = some o) : ∃ ob, h.get? a = some ob := (x a o e).has
theorem HOk.none_of (x : HOk P w H h) (e : h.get? a = none) : H a = none := by
  cases q : H a with
  | none => rfl
  | some u =>
    obtain ⟨ob, z⟩ := x.has q
    rw [e] at z
    cases z
theorem HOk.stays (x : HOk P w H h) (k : ∀ a o ob, H a = some o → h.get? a = some ob → h'.get? a = some ob) : HOk P w H h' := fun a o e =>
  (x a o e).stay (fun b u hb q => by
    rcases hb with rfl | hb
    · exact k _ _ _ e q
    · exact k _ _ _ hb q) (fun _ q => q) fun _ _ q => q
end
set_option genInjectivity false in
structure Flies (P : Program) (w : World) (outer : List Env) (H : Hp) (s : Shared) (e : Addr) (cls : Value) (H' : Hp) (s' : Shared) : Prop where
  os : s'.os = s.os
  bare : AllBare s'.gens
  un : Un (frs outer) [] H H' s.heap s'.heap
  hok : HOk P w H' s'.heap
  fl : ∃ B a0, Heap.FlyingW B outer e cls a0 s'.heap ∧ (∀ b o u, H' b = some u → s'.heap.get? b = some o → B.get? b = some o) ∧ (∀ b o o', s.heap.get? b = some o' → b ∉ frs outer → s'.heap.get? b = some o → B.get? b = some o)
  nw : s.heap.get? e = none
  fr : H' e = none
noncomputable def CXE (P : Program) (w : World) : CXT := fun outer H s E e s' => ∃ (ea : Addr) (cls : Value) (H' : Hp), e = .ref ea ∧ Flies P w outer H s ea cls H' s' ∧ E cls none H'
section
variable {P : Program} {w : World} {K : PySem.W.Frag} {mg : Str → Option Value} {base : Heap} {N : List Str} {qual : Str} {scope : Scope} {f : Addr} {cd : Value} {A : Around} {outer : List Env} {s₀ s s' : Shared} {H₀ H H' : Hp} {E E1 : XK}
  {pins : List (Addr × Obj)} {σ : St} {h' : Heap} {e : Addr} {cls : Value} {vs : List Value}
theorem frs_in {l : List Env} : ∀ env ∈ l, ∀ b, env.frame = some b → b ∈ frs l := fun env he b hb => List.mem_filterMap.mpr ⟨env, he, hb⟩
theorem made_leaves (I : Inv (cxOf (CXE P w) P w K mg base N qual scope f cd A outer s₀ H₀ E) pins σ H s) (hx : Heap.MadeExcOf s.heap h' e cls vs) (q : E cls none H) :
    (cxOf (CXE P w) P w K mg base N qual scope f cd A outer s₀ H₀ E).xe (.ref e) { s with heap := h' } := by
  have fr := I.ok.frames
  have ff := I.stack
  have sub := I.stkSub
  have free := I.stkFree
  have above := I.ok.above
  have un := I.base
  generalize hX : cxOf (CXE P w) P w K mg base N qual scope f cd A outer s₀ H₀ E = X at *
  have st : X.stack = X.env :: X.outer := by subst hX; rfl
  have ex0 : X.ex = [] := by subst hX; rfl
  have goal : wpAny (model P w) X.A (leaving X.env (.ref e)) (fun _ s'' => CXE P w X.outer X.H₀ X.s₀ E (.ref e) s'') (fun e' s'' => CXE P w X.outer X.H₀ X.s₀ E e' s'') { s with heap := h' } := by
    refine wpAny_leaves_madeW (base := PySem.W.hideAll s.heap (frs X.stack)) (h := s.heap) (env := X.env) (outer := X.outer) (L := X.env.locals) (by rw [fr, st]) (by subst hX; rfl) (fun b o z => PySem.W.of_hideAll _ z)
      (by rw [← st]; exact PySem.W.funFrames_hide ff frs_in) hx fun h2 t x1 x2 x3 x4 => ?_
    have stay : ∀ b o, s.heap.get? b = some o → b ∉ frs X.stack → h2.get? b = some o := fun b o z n => x1.1 b o (PySem.W.hideAll_get _ z n)
    have slots : ∀ b o, s.heap.get? b = some o → b ∈ frs X.stack → ∃ sl, h2.get? b = some { o with slots := sl } := fun b o z hb => by
      obtain ⟨_, o', ho', hnf⟩ := ff.mem hb
      rw [z] at ho'
      cases ho'
      exact x4 b o (hx.keeps b o z) hnf
    have trk : ∀ b u, H b = some u → b ∉ frs X.stack := fun b u z hb => by
      rw [free b hb] at z
      cases z
    have neL : ∀ b o, X.s₀.heap.get? b = some o → b ∉ frs X.outer → b ∉ frs X.stack := fun b o z n hb => by
      rcases List.mem_cons.mp (sub b hb) with y | y
      · exact absurd (Nat.lt_of_lt_of_le (Heap.lt_size z) above) (by rw [y]; exact Nat.lt_irrefl _)
      · exact n y
    have inS : ∀ b, b ∈ frs X.outer → b ∈ frs X.stack := fun b hb => by
      obtain ⟨env, he, hf⟩ := List.mem_filterMap.mp hb
      exact frs_in env (by rw [st]; exact List.mem_cons_of_mem _ he) b hf
    have nex : ∀ b : Addr, b ∉ X.ex := fun b z => by
      rw [ex0] at z
      exact absurd z (by simp)
    refine ⟨e, cls, H, rfl, ⟨I.os, I.bare, ⟨fun b o z n hb _ => ?_, fun b o z n hb _ => ?_, fun b o z n _ => un.free b o z n (nex b), fun b o z _ => ?_, un.tups, un.frzs, un.tbls⟩, ?_, ⟨_, _, x1, fun b o u z y => ?_, fun b o o' z n y => ?_⟩, ?_, ?_⟩, q⟩
    · exact stay b o (un.keep b o z n hb (nex b)) (neL b o z hb)
    · obtain ⟨sl, z1⟩ := un.slot b o z n hb (nex b)
      obtain ⟨sl', z2⟩ := slots b _ z1 (inS b hb)
      exact ⟨sl', z2⟩
    · obtain ⟨o', z1⟩ := un.there b o z (nex b)
      by_cases hb : b ∈ frs X.stack
      · obtain ⟨sl, z2⟩ := slots b o' z1 hb
        exact ⟨_, z2⟩
      · exact ⟨o', stay b o' z1 hb⟩
    · have hok : HOk P w H s.heap := by have := I.hok; subst hX; exact this
      exact hok.stays fun a u ob z y => stay a ob y (trk a u z)
    · have hok : HOk P w H s.heap := by have := I.hok; subst hX; exact this
      obtain ⟨ob, y1⟩ := hok.has z
      have y2 := stay b ob y1 (trk b u z)
      rw [y2] at y
      cases y
      exact PySem.W.hideAll_get _ y1 (trk b u z)
    · obtain ⟨o1, y1⟩ := un.there b o' z (nex b)
      have y2 := stay b o1 y1 (neL b o' z n)
      rw [y2] at y
      cases y
      exact PySem.W.hideAll_get _ y1 (neL b o' z n)
    · cases z : X.s₀.heap.get? e with
      | none => rfl
      | some o =>
        obtain ⟨o1, y1⟩ := un.there e o z (nex e)
        rw [hx.new] at y1
        cases y1
    · have hok : HOk P w H s.heap := by have := I.hok; subst hX; exact this
      exact hok.none_of hx.new
  subst hX
  exact goal
theorem passE (hE : ∀ cls H, E1 cls none H → E cls none H) : Passes (CXE P w) (cxOf (CXE P w) P w K mg base N qual scope f cd A outer s₀ H₀ E) E1 := by
  intro pins σ H s ex s' I hc
  obtain ⟨ea, cls, H', rfl, F, q⟩ := hc
  have fr := I.ok.frames
  have ff := I.stack
  have sub := I.stkSub
  have above := I.ok.above
  have un := I.base
  have os := I.os
  generalize hX : cxOf (CXE P w) P w K mg base N qual scope f cd A outer s₀ H₀ E = X at *
  have st : X.stack = X.env :: X.outer := by subst hX; rfl
  have ex0 : X.ex = [] := by subst hX; rfl
  obtain ⟨B, a0, fl, b1, b2⟩ := F.fl
  have goal : wpAny (model P w) X.A (leaving X.env (.ref ea)) (fun _ s'' => CXE P w X.outer X.H₀ X.s₀ E (.ref ea) s'') (fun e' s'' => CXE P w X.outer X.H₀ X.s₀ E e' s'') s' := by
    refine wpAny_leaves_onW (base := B) (env := X.env) (outer := X.outer) (L := X.env.locals) (by rw [fr, st]) (by subst hX; rfl) (by rw [← st]; exact fl) fun h2 x1 x4 => ?_
    have neL : ∀ b o, X.s₀.heap.get? b = some o → b ∉ frs X.outer → b ∉ frs X.stack := fun b o z n hb => by
      rcases List.mem_cons.mp (sub b hb) with y | y
      · exact absurd (Nat.lt_of_lt_of_le (Heap.lt_size z) above) (by rw [y]; exact Nat.lt_irrefl _)
      · exact n y
    have inS : ∀ b, b ∈ frs X.outer → b ∈ frs X.stack := fun b hb => by
      obtain ⟨env, he, hf⟩ := List.mem_filterMap.mp hb
      exact frs_in env (by rw [st]; exact List.mem_cons_of_mem _ he) b hf
    have nex : ∀ b : Addr, b ∉ X.ex := fun b z => by
      rw [ex0] at z
      exact absurd z (by simp)
    have ff' : s'.heap.FunFrames B X.stack := fl.2.2.1
    have slots : ∀ b o, s'.heap.get? b = some o → b ∈ frs X.stack → ∃ sl, h2.get? b = some { o with slots := sl } := fun b o z hb => by
      obtain ⟨_, o', ho', hnf⟩ := ff'.mem hb
      rw [z] at ho'
      cases ho'
      exact x4 b o z hnf
    have keep2 : ∀ b o o', s.heap.get? b = some o' → b ∉ frs X.stack → s'.heap.get? b = some o → h2.get? b = some o := fun b o o' z n y => x1.1 b o (b2 b o o' z n y)
    refine ⟨ea, cls, H', rfl, ⟨F.os.trans os, F.bare, ⟨fun b o z n hb _ => ?_, fun b o z n hb _ => ?_, fun b o z n _ => ?_, fun b o z _ => ?_, fun b xs z => F.un.tups b xs (un.tups b xs z), fun b o u z => F.un.frzs b o u (un.frzs b o u z), fun b ps z => ?_⟩, ?_, ⟨B, a0, x1, fun b o u z y => ?_, fun b o o' z n y => ?_⟩, ?_, F.fr⟩, hE _ _ q⟩
    · have z1 := un.keep b o z n hb (nex b)
      have z2 := F.un.keep b o z1 (un.free b o z n (nex b)) (neL b o z hb) (by simp)
      exact keep2 b o o z1 (neL b o z hb) z2
    · obtain ⟨sl, z1⟩ := un.slot b o z n hb (nex b)
      obtain ⟨sl', z2⟩ := F.un.slot b _ z1 (un.free b o z n (nex b)) (inS b hb) (by simp)
      obtain ⟨sl'', z3⟩ := slots b _ z2 (inS b hb)
      exact ⟨sl'', z3⟩
    · obtain ⟨o1, z1⟩ := un.there b o z (nex b)
      exact F.un.free b o1 z1 (un.free b o z n (nex b)) (by simp)
    · obtain ⟨o1, z1⟩ := un.there b o z (nex b)
      obtain ⟨o2, z2⟩ := F.un.there b o1 z1 (by simp)
      by_cases hb : b ∈ frs X.stack
      · obtain ⟨sl, z3⟩ := slots b o2 z2 hb
        exact ⟨_, z3⟩
      · exact ⟨o2, keep2 b o2 o1 z1 hb z2⟩
    · obtain ⟨m1, e1⟩ := un.tbls b ps z
      obtain ⟨m2, e2⟩ := F.un.tbls b _ e1
      exact ⟨m1 ++ m2, by rw [e2, Array.append_assoc]⟩
    · exact F.hok.stays fun a u ob z y => x1.1 a ob (b1 a ob u z y)
    · obtain ⟨ob, y1⟩ := F.hok.has z
      have y2 := x1.1 b ob (b1 b ob u z y1)
      rw [y2] at y
      rw [← Option.some.inj y]
      exact b1 b ob u z y1
    · obtain ⟨o1, y1⟩ := un.there b o' z (nex b)
      obtain ⟨o2, y2⟩ := F.un.there b o1 y1 (by simp)
      have y3 := keep2 b o2 o1 y1 (neL b o' z n) y2
      rw [y3] at y
      rw [← Option.some.inj y]
      exact b2 b o2 o1 y1 (neL b o' z n) y2
    · cases z : X.s₀.heap.get? ea with
      | none => rfl
      | some o =>
        obtain ⟨o1, y1⟩ := un.there ea o z (nex ea)
        rw [F.nw] at y1
        cases y1
  subst hX
  exact goal
end
end L2
namespace L2
open PySem PySem.Spec PyProof.Rows
abbrev veMro : List Value := [.type "ValueError", .type "Exception", .type "BaseException", .type "object"]
structure ECls (K : PySem.W.Frag) (mg : Str → Option Value) (x : Str) (C : Addr) : Prop where
  at_ : mg x = some (.ref C)
  ok : PySem.W.excIn K C veMro "ValueError.__new__" = true
theorem own_obj {K : PySem.W.Frag} {h : Heap} {C : Addr} {bmB : List Value} {newId : String} (X : K.In h) (q : PySem.W.excIn K C bmB newId = true) :
    ∃ bm N nm qn bs hdct sn sub ab col dd k0 k1 k2 k3 k5 mN, h.get? C = some (excClassObj nm qn C N bs bm hdct sn sub ab col dd k0 k1 k2 k3 k5 newId) ∧ h.Ns N mN ∧ mN "__init__" = none ∧ OwnTail h bmB bm := by
  unfold PySem.W.excIn at q
  split at q
  · rename_i dd cd sl ho
    split at q
    · rename_i C' bm k0 k1 k2 k3 n k5 hm hs
      simp only [Bool.and_eq_true, beq_iff_eq, Bool.not_eq_true'] at q
      obtain ⟨⟨⟨⟨⟨rfl, rfl⟩, hdel⟩, ht⟩, hok⟩, hni⟩ := q
      obtain ⟨nm, bs, mro, ns, qn, hd, sn, sub, ab, col, del⟩ := cd
      dsimp only at hm hdel hok hni
      subst hm hdel
      have hsl : sl = #[k0, k1, k2, k3, some (.builtin n), k5] := by
        obtain ⟨l⟩ := sl
        simp only at hs
        rw [hs]
      subst hsl
      exact ⟨bm, ns, nm, qn, bs, hd, sn, sub, ab, col, dd, k0, k1, k2, k3, k5, _, X _ _ ho, .of_isNs (PySem.W.isNs_of_in X hok), PySem.W.nsMap_none_of_in X hok hni, PySem.W.tail_of_in X ht⟩
    · cases q
  · cases q
noncomputable def CalE (P : Program) (w : World) (K : PySem.W.Frag) (mg : Str → Option Value) (base : Heap) (x : Str) (k : Nat) (ps : List Str) (sp : Sp) : Prop :=
  ∃ (f : Addr) (fd : FuncData), FnOk P w K mg base (CXE P w) k f fd ps sp ∧ mg x = some (.ref f) ∧ PySem.W.keepIn K (.ref f) = true ∧ Binds K fd ps []
theorem Has.calE {P : Program} {w : World} {K : PySem.W.Frag} {mg : Str → Option Value} {base : Heap} {x : Str} {st : Stmt} {ps : List Str} {f : Addr} {fd : FuncData} {k : Nat} {sp : Sp} (h : Has K mg x st ps f fd)
    (ok : FnOk P w K mg base (CXE P w) k f fd ps sp) : CalE P w K mg base x k ps sp := ⟨f, fd, ok, h.at_, h.fn.kp, .all h.bd⟩
section
variable {P : Program} {w : World} {K : PySem.W.Frag} {mg : Str → Option Value} {base : Heap}
theorem Fun.okE {x qual : Str} {st : Stmt} {f : Addr} {fd : FuncData} {N ps : List Str} {k : Nat} {sp : Sp} (F : Fun K x qual st f fd) (S : FnScope N ps (defScope st)) (len : ∀ vs H Q E, sp vs H Q E → vs.length = ps.length)
    (hbody : ∀ (cdv : Value) (A : Around) (outer : List Env) (s : Shared) (H : Hp) (vs : List V) (Q : VK) (E : XK), Room k (A.deeper (envOfC qual (defScope st) s.heap.objs.size f cdv)) → sp vs H Q E →
      ∃ t, PSs (cxOf (CXE P w) P w K mg base N qual (defScope st) f cdv A outer s H E) (defBody st) t ∧ t { nx := fun _ H' => Q .non H', rt := Q } (start N vs) H) : FnOk P w K mg base (CXE P w) (k + 1) f fd ps sp := by
  obtain ⟨oc, od, kV, doc, pm, an, cdv, ct, osl, rfl, lk, hcd⟩ := F.ex
  exact fn_of lk hcd S len fun A outer s H vs Q E hr hsp => hbody cdv A outer s H vs Q E hr hsp
end
section
variable {P : Program} {w : World} {K : PySem.W.Frag} {mg : Str → Option Value} {base : Heap} {N : List Str} {qual : Str} {scope : Scope} {f : Addr} {cd : Value} {A : Around} {outer : List Env} {s₀ : Shared} {H₀ : Hp} {E : XK}
  {x : Str} {C : Addr} {e₀ : Expr} {rest : List Expr} {t : TA} {np cpos pos : Pos}
noncomputable def tRaise (E : XK) (C : Addr) (t : TA) : TS := fun _ σ H => t σ H fun vs H1 => vs.length ≤ 1000 ∧ E (.ref C) none H1
theorem ps_raise (EC : ECls K mg x C) (hg : Gl (cxOf (CXE P w) P w K mg base N qual scope f cd A outer s₀ H₀ E) x) (ha : PA (cxOf (CXE P w) P w K mg base N qual scope f cd A outer s₀ H₀ E) (e₀ :: rest) t)
    (hd : (x == ("__debug__" : Str)) = false := by decide)
    (hs : starEach (e₀ :: rest) (cxOf (CXE P w) P w K mg base N qual scope f cd A outer s₀ H₀ E).env = (false, eval e₀ (cxOf (CXE P w) P w K mg base N qual scope f cd A outer s₀ H₀ E).env) :: starEach rest (cxOf (CXE P w) P w K mg base N qual scope f cd A outer s₀ H₀ E).env := by rfl)
    (hpl : (backTo cpos (starEach rest (cxOf (CXE P w) P w K mg base N qual scope f cd A outer s₀ H₀ E).env)).any (·.1) = false := by rfl) :
    PS (cxOf (CXE P w) P w K mg base N qual scope f cd A outer s₀ H₀ E) (.Raise (some (.Call (.Name x np) (e₀ :: rest) [] cpos)) none pos) (tRaise E C t) := by
  intro pins s σ H D I h
  obtain ⟨bm, M, nm, qn, bs, hdct, sn, sub, ab, col, dd, k0, k1, k2, k3, k5, mN, hC, hN, hni, T⟩ := own_obj I.ok.mod.kin EC.ok
  refine wpAny_Raise_call_subT (C := C) (nm := nm) (q := qn) (N := M) (bs := bs) (bm := bm) (hdct := hdct) (sn := sn) (sub := sub) (ab := ab) (col := col) (dd := dd) (k0 := k0) (k1 := k1) (k2 := k2) (k3 := k3) (k5 := k5)
    PySem.F.excBase_ValueError (mN := mN) (T.hasType (by decide)) (I.ok.hd rfl) (by rw [hs]; show (false || (backTo cpos (starEach rest _)).any (·.1)) = false; rw [hpl]; rfl) hni (ld_glob I hg EC.at_ ⟨rfl, ?_⟩ hd)
  have h' := ha cpos pins s σ H _ I h
  rw [hs] at h' ⊢
  refine Calls.evalArgs_plain (thn h' fun us s1 ⟨vs, H1, I1, r, l, q⟩ => ⟨rfl, ?_, I1.bk _ _ hC, hN.keeps I1.bk, T.keeps I1.bk, fun h2 e hm => made_leaves I1 hm q⟩)
  have hl := r.length
  exact Nat.le_trans (Nat.le_of_eq hl.symm) (Nat.le_of_lt (small1000 l))
end
section
variable {P : Program} {w : World} {K : PySem.W.Frag} {mg : Str → Option Value} {base : Heap} {N : List Str} {qual : Str} {scope : Scope} {f : Addr} {cd : Value} {A : Around} {outer : List Env} {s₀ : Shared} {H₀ : Hp} {E : XK}
  {j k : Nat} {x : Str} {ps : List Str} {sp : Sp} {e : Expr} {es : List Expr} {t : TA} {p pos : Pos}
theorem pe_callP (C : CalE P w K mg base x j ps sp) (hr : Room k (cxOf (CXE P w) P w K mg base N qual scope f cd A outer s₀ H₀ E).A) (hj : j ≤ k) (hg : Gl (cxOf (CXE P w) P w K mg base N qual scope f cd A outer s₀ H₀ E) x)
    (ha : PA (cxOf (CXE P w) P w K mg base N qual scope f cd A outer s₀ H₀ E) (e :: es) t) (hdb : (x == ("__debug__" : Str)) = false := by decide)
    (he : starEach (e :: es) (cxOf (CXE P w) P w K mg base N qual scope f cd A outer s₀ H₀ E).env = (false, eval e (cxOf (CXE P w) P w K mg base N qual scope f cd A outer s₀ H₀ E).env) :: starEach es (cxOf (CXE P w) P w K mg base N qual scope f cd A outer s₀ H₀ E).env := by rfl)
    (hpl : (backTo pos (starEach es (cxOf (CXE P w) P w K mg base N qual scope f cd A outer s₀ H₀ E).env)).any (·.1) = false := by rfl) :
    PE (cxOf (CXE P w) P w K mg base N qual scope f cd A outer s₀ H₀ E) (.Call (.Name x p) (e :: es) [] pos) (tCall sp [] E t) := by
  obtain ⟨g, gd, F, m, kp, b⟩ := C
  exact pe_call F (hr.mono hj) hg m kp b .nil (passE fun _ _ q => q) ha hdb he hpl
end
noncomputable abbrev Cx.inH (X : Cx) (ea : Addr) : Cx := { X with A := X.A.mark (some (.ref ea)), calm := false, xe := fun _ _ => False }
noncomputable def IsExc (ea C : Addr) (h : Heap) : Prop := ∃ o vs, h.get? ea = some o ∧ o.cls = .ref C ∧ o.data = .fields vs
section
variable {X : Cx} {pins : List (Addr × Obj)} {σ : St} {H H' : Hp} {s s' : Shared} {ea : Addr}
theorem Inv.inH (I : Inv X pins σ H s) (ea : Addr) : Inv (X.inH ea) pins σ H s :=
  ⟨⟨I.ok.mod, I.ok.kind, I.ok.glob, I.ok.blt, I.ok.above, I.ok.inj, I.ok.has, I.ok.cab, (fun z => Bool.noConfusion z), I.ok.frames, I.ok.stk, I.ok.exf, I.ok.bs, I.ok.bsz, I.ok.noex, I.ok.exfs, I.ok.funs, I.ok.frf⟩, I.os, I.bare, I.base, I.loc, I.cell, I.free, I.freeC, I.pin, I.hok, I.len⟩
theorem Inv.outH (I : Inv (X.inH ea) pins σ H s) (ok : X.Ok) : Inv X pins σ H s := ⟨ok, I.os, I.bare, I.base, I.loc, I.cell, I.free, I.freeC, I.pin, I.hok, I.len⟩
theorem Inv.dropName {i : Nat} {n : Str} {m : Str → Option Value} {h' : Heap} {v : Option Value} {tk : Nat} (I : Inv X pins σ H s) (hN : X.N.Nodup) (hi : X.N[i]? = some n)
    (hm : ∀ (j : Nat) (x : Str) (v : V), X.N[j]? = some x → σ[j]? = some (some v) → Vis X.env.scope x → ∃ u, RelV v u ∧ Look X.env s.heap m x u)
    (hn : h'.Ns X.env.locals (fun x => if x = n then v else m x)) (hs : Heap.SameBut X.env.locals s.heap h') : Inv X pins (σ.set i none) H { s with heap := h', toks := tk } := by
  obtain ⟨_, hn0, _⟩ := id I.loc
  obtain ⟨oL, _, _, hoL, _⟩ := id hn0
  have cne := I.cne
  have hiσ : i < σ.length := by rw [I.len]; exact (List.getElem?_eq_some_iff.mp hi).1
  have neL : ∀ b o, X.s₀.heap.get? b = some o → b ≠ X.env.locals := fun b o e => Nat.ne_of_lt (Nat.lt_of_lt_of_le (Heap.lt_size e) I.ok.above)
  refine ⟨I.ok, I.os, I.bare, ⟨fun b o e n hb hx => ?_, fun b o e n hb hx => ?_, I.base.free, fun b o e hx => ?_, I.base.tups, I.base.frzs, I.base.tbls⟩, ⟨_, hn, fun j y v' e1 e2 e3 => ?_⟩, fun y c e => ?_, I.free, I.freeC, fun p hp => ?_, ?_, by simpa using I.len⟩
  · exact (hs.2 b (neL b o e)).trans (I.base.keep b o e n hb hx)
  · obtain ⟨sl, e1⟩ := I.base.slot b o e n hb hx
    exact ⟨sl, (hs.2 b (neL b o e)).trans e1⟩
  · obtain ⟨o', e1⟩ := I.base.there b o e hx
    exact ⟨o', (hs.2 b (neL b o e)).trans e1⟩
  · by_cases hj : j = i
    · subst hj
      rw [List.getElem?_set_self hiσ] at e2
      cases e2
    · rw [List.getElem?_set_ne (Ne.symm hj)] at e2
      obtain ⟨u', r', q⟩ := hm j y v' e1 e2 e3
      refine ⟨u', r', ?_⟩
      rcases q with ⟨k, e⟩ | ⟨k, c, e, z⟩
      · refine .inl ⟨k, ?_⟩
        have : y ≠ n := fun e => hj (nodup_ix hN e1 (e ▸ hi))
        simp [this, e]
      · exact .inr ⟨k, c, e, z.sameBut hs (cne y c e)⟩
  · obtain ⟨w', z⟩ := I.cell y c e
    exact ⟨w', z.sameBut hs (cne y c e)⟩
  · obtain ⟨e, n, ne, nf, d⟩ := I.pin p hp
    exact ⟨(hs.2 p.1 ne).trans e, n, ne, nf, d⟩
  · refine I.hok.stays fun a o ob e q => (hs.2 a ?_).trans q
    rintro rfl
    rw [I.free] at e
    cases e
theorem Flies.land {P : Program} {w : World} {l : List Env} {cls : Value} {B : Heap} {h : Heap} (F : Flies P w l H s ea cls H' s') (ff : s'.heap.FunFrames B l) (b1 : ∀ b o u, H' b = some u → s'.heap.get? b = some o → B.get? b = some o)
    (b2 : ∀ b o o', s.heap.get? b = some o' → b ∉ frs l → s'.heap.get? b = some o → B.get? b = some o) (st : B.StaysIn h) (sm : s'.heap.UpToSlots h) : Un (frs l) [] H H' s.heap h ∧ HOk P w H' h := by
  have slots : ∀ b o, s'.heap.get? b = some o → b ∈ frs l → ∃ sl, h.get? b = some { o with slots := sl } := fun b o z hb => by
    obtain ⟨_, o', ho', hnf⟩ := ff.mem hb
    rw [z] at ho'
    cases ho'
    exact sm b o z hnf
  refine ⟨⟨fun b o z n hb hx => ?_, fun b o z n hb hx => ?_, F.un.free, fun b o z hx => ?_, F.un.tups, F.un.frzs, F.un.tbls⟩, F.hok.stays fun a u ob z y => st a ob (b1 a ob u z y)⟩
  · exact st b o (b2 b o o z hb (F.un.keep b o z n hb hx))
  · obtain ⟨sl, z1⟩ := F.un.slot b o z n hb hx
    obtain ⟨sl', z2⟩ := slots b _ z1 hb
    exact ⟨sl', z2⟩
  · obtain ⟨o1, z1⟩ := F.un.there b o z hx
    by_cases hb : b ∈ frs l
    · obtain ⟨sl, z2⟩ := slots b o1 z1 hb
      exact ⟨_, z2⟩
    · exact ⟨o1, st b o1 (b2 b o1 o z hb z1)⟩
end
end L2
namespace L2
open PySem PySem.Spec PyProof.Rows
section
variable {X : Cx} {pins : List (Addr × Obj)} {σ : St} {H H' : Hp} {s s' : Shared} {ea : Addr}
theorem Flies.held {l : List Env} {C : Addr} {h : Heap} (F : Flies X.prog X.w l H s ea (.ref C) H' s') (hl : l = X.stack) (I : Inv X pins σ H s) (un : Un (frs l) [] H H' s.heap h) (hok : HOk X.prog X.w H' h) (ex : IsExc ea C h) :
    Inv X pins σ (upd H' ea (.ext (IsExc ea C))) { s' with heap := h } := by
  have ne : ∀ b o, s.heap.get? b = some o → b ≠ ea := fun b o z q => by
    subst q
    rw [F.nw] at z
    cases z
  have nt : ∀ b u, H' b = some u → b ≠ ea := fun b u z q => by
    subst q
    rw [F.fr] at z
    cases z
  subst hl
  refine I.call' F.os ⟨un.keep, un.slot, fun b o z n hx => ?_, un.there, fun b xs z => ?_, fun b o u z => ?_, fun b ps z => ?_⟩ (fun b u z => ?_) F.bare (fun b z => absurd z (by simp))
  · rw [upd_ne (ne b o z)]
    exact un.free b o z n hx
  · have y := un.tups b xs z
    rw [upd_ne (nt b _ y)]
    exact y
  · have y := un.frzs b o u z
    rw [upd_ne (nt b _ y)]
    exact y
  · obtain ⟨more, y⟩ := un.tbls b ps z
    exact ⟨more, by rw [upd_ne (nt b _ y)]; exact y⟩
  · by_cases q : b = ea
    · subst q
      rw [upd_same] at z
      cases z
      obtain ⟨o, vs, e1, e2, e3⟩ := id ex
      exact ⟨ex, ⟨o, e1⟩, fun h1 h2 p k => by
        obtain ⟨o', vs', f1, f2, f3⟩ := p
        exact ⟨o', vs', k o' f1, f2, f3⟩⟩
    · rw [upd_ne q] at z
      exact (hok b u z).stay (fun c v _ y => y) (fun c y => by rw [upd_ne (nt c _ y)]; exact y) fun c xs y => by rw [upd_ne (nt c _ y)]; exact y
end
section
variable {X : Cx}
noncomputable def tTryC (K : PySem.W.Frag) (L : Addr) (sp : Sp) (i : Nat) (t : TA) (th : Addr → TS) : TS := fun D σ H => t σ H fun vs H1 => sp (vs ++ []) H1 (fun _ H2 => D.nx σ H2) fun cls _ H2 =>
  ∃ C, cls = .ref C ∧ PySem.W.exmOne K (.ref C) (.ref L) = some true ∧ ∀ ea, H2 ea = none → th ea { nx := fun σ' H' => D.nx (σ'.set i none) H', rt := D.rt } (σ.set i (some (.ref ea))) (upd H2 ea (.ext (IsExc ea C)))
end
structure EKit (K : PySem.W.Frag) (C : Addr) : Prop where
  kc : (PySem.W.clsIn K C).isSome = true
  ga : PySem.W.findIn K (.ref C) "__getattribute__" = some (some (.builtin "BaseException.__getattribute__"))
  gt : PySem.W.findIn K (.ref C) "__getattr__" = some none
  cl : PySem.W.findIn K (.ref C) "__class__" = some (some (.builtin "object.__class__"))
  sg : PySem.W.specialIn K (.builtin "object.__class__") "__get__" = some (some (.builtin "getset_descriptor.__get__"))
  tk : PySem.W.takesIn K (.builtin "object.__class__") = some true
  mo : PySem.W.mroIn K C (.type "object") = some true
  mb : PySem.W.mroIn K C (.type "BaseException") = some true
end L2
namespace Exk
open PySem PySem.Calls PyProof.Rows PySem.Builtin PySem.Builtin.ObjectAttr PySem.Builtin.Getset_descriptor
open L2 (IsExc EKit)
section
variable {prog : Program} {w : World} {K : PySem.W.Frag} {ea C : Addr}
theorem ty {M : Model} {h : Heap} (p : IsExc ea C h) : PySem.W.Looks M h (typeOf (.ref ea)) (.ref C) := by
  obtain ⟨o, vs, e, c, _⟩ := p
  exact c ▸ (PySem.W.Looks.ld e).andThen .now
theorem exc_get {A : Around} {R : Result → Shared → Prop} {s : Shared} {tp : Value} (X : K.In s.heap) (p : IsExc ea C s.heap) (hm : PySem.W.mroIn K C (.type "object") = some true) (h : R (.ok (.ret (.ref C))) s) :
    codeAny (model prog w) A (.call (.builtin "getset_descriptor.__get__") ⟨[.builtin "object.__class__", .ref ea, tp], []⟩) R s := by
  have L0 := ty (M := model prog w) p
  have L1 := PySem.W.looks_mroIn (M := model prog w) X hm
  obtain ⟨hh, g, dr, t, os⟩ := s
  refine codeAny_call_builtin PySem.W.KF.slot_gs.plain PySem.W.KF.entry_gs (PySem.W.KF.slot_gs.check _ _ _ _ _ _ _ _ PySem.W.KF.type_class (PySem.W.KF.args_gs _ _ _) ?_)
  unfold Builtin.«getset_descriptor.__get__» descrGet
  rw [PySem.W.dga_obj]
  refine wpAny_bind (wpAny_pure ?_)
  unfold descrGetter descrCheckInstance descrNameAndClass isInstance
  simp only [PySem.W.KF.owner_class]
  repeat lk
  refine ⟨Code.quiet_builtin _ (by decide +kernel), codeAny_builtin PySem.W.KF.entry_class ?_⟩
  unfold Builtin.«object.__class__» shownTypeOf
  repeat lk
  exact h
theorem exc_find {M : Model} {h : Heap} (X : K.In h) (ek : EKit K C) : PySem.W.Looks M h (find (.ref ea) (.ref C) "__class__") (.bind (.builtin "getset_descriptor.__get__") (.builtin "object.__class__")) := by
  have L1 := PySem.W.looks_findIn (M := M) X ek.cl
  have L2 : PySem.W.Looks M h (getOf (some (.builtin "object.__class__"))) (some (.builtin "getset_descriptor.__get__")) := PySem.W.looks_specialIn X ek.sg
  have L3 := PySem.W.looks_takesIn (M := M) X ek.tk
  refine L1.andThen (L2.andThen ?_)
  exact (show PySem.W.Looks M h (dataDescriptor? (some (.builtin "object.__class__")) (some (.builtin "getset_descriptor.__get__"))) (some (.builtin "getset_descriptor.__get__", .builtin "object.__class__")) from L3.andThen .now).andThen (PySem.W.Looks.tag .now)
theorem exc_entry {A : Around} {E : Value → Shared → Prop} {s : Shared} {tk : Tok} {Q : Fin → Shared → Prop} (X : K.In s.heap) (ek : EKit K C) (p : IsExc ea C s.heap) (h : Q (.done (.ret (.ref C))) s) :
    wpAny (model prog w) A (Builtin.«object.__getattribute__» ⟨[.ref ea, .str "__class__" tk], []⟩) Q E s := by
  have L0 := ty (M := model prog w) p
  have L1 := exc_find (ea := ea) (M := model prog w) X ek
  obtain ⟨hh, g, dr, t, os⟩ := s
  unfold Builtin.«object.__getattribute__»
  iterate 12 lk
  refine wpAny_pure ?_
  refine wpAny_bind (L0.at (wpAny_bind (L1.at ?_)))
  dsimp only
  unfold bindTo
  refine wpAny_bind (wpAny_call (exc_get X p ek.mo (wpAny_pure h)))
theorem exc_check {M : Model} {A : Around} {E : Value → Shared → Prop} {s : Shared} {nameV : Value} {Q : Unit → Shared → Prop} (X : K.In s.heap) (ek : EKit K C) (p : IsExc ea C s.heap) (h : Q () s) :
    wpAny M A (checkBuiltinCall "BaseException.__getattribute__" ⟨[.ref ea, nameV], []⟩) Q E s := by
  have hk : builtinKind "BaseException.__getattribute__" = some .slot := by decide +kernel
  have hsplit : splitId "BaseException.__getattribute__" = some ("BaseException", "__getattribute__") := by decide +kernel
  have ha := PySem.F.args_bexc_ga (.ref ea) nameV
  have L0 := ty (M := M) p
  have LI : PySem.W.Looks M s.heap (isInstance (.ref ea) (.type "BaseException")) true := L0.andThen (PySem.W.looks_mroIn X ek.mb)
  obtain ⟨hh, g, dr, t, os⟩ := s
  simp only [checkBuiltinCall, hk, hsplit]
  refine wpAny_bind (LI.at ?_)
  repeat wp_step
  exact h
theorem exc_class {A : Around} {E : Value → Shared → Prop} {s : Shared} {Q : Option Value → Shared → Prop} (X : K.In s.heap) (ek : EKit K C) (p : IsExc ea C s.heap) (h : Q (some (.ref C)) { s with toks := s.toks + 1 }) :
    wpAny (model prog w) A (getAttr? (.ref ea) "__class__") Q E s := by
  have L0 := ty (M := model prog w) p
  have L1 := PySem.W.looks_findIn (M := model prog w) X ek.ga
  have L2 := PySem.W.looks_findIn (M := model prog w) X ek.gt
  have hb := PySem.F.attr_ValueError.ga.bind (.ref ea)
  obtain ⟨hh, g, d, t, os⟩ := s
  unfold getAttr? getAttrBy? getAttrBy
  refine wpAny_bind (wpAny_mkText (wpAny_bind (wpAny_attempt (wpAny_holding (wpAny_bind (L0.at (wpAny_bind (L1.at ?_))))))))
  show wpAny _ _ (getAttrByItsOwn _ _ _ _ _ _) _ _ _
  unfold getAttrByItsOwn
  refine wpAny_bind (L2.at ?_)
  refine wpAny_bind (wpAny_attempt (wpAny_holding ?_))
  show wpAny _ _ (boundAndCalled _ _ _) _ _ _
  unfold boundAndCalled
  rw [hb]
  refine wpAny_bind (wpAny_pure ?_)
  refine wpAny_call (codeAny_call_builtin PySem.F.attr_ValueError.ga.plain PySem.F.entry_bexc_ga (exc_check X ek p (exc_entry X ek p ?_)))
  exact wpAny_pure (wpAny_pure h)
end
end Exk
namespace L2
open PySem PySem.Spec PyProof.Rows
theorem kitx_exc {K : PySem.W.Frag} {ea C : Addr} (ek : EKit K C) : PySem.W.KitX K (.ref ea) (.ref C) (IsExc ea C) where
  ty := fun _ _ _ p => Exk.ty p
  it := fun _ _ X _ => by
    obtain ⟨cd, hc⟩ := Option.isSome_iff_exists.mp ek.kc
    unfold PySem.W.clsIn at hc
    split at hc
    · rename_i c' d' cd' sl' ho
      intro A' Q' E' s' k q
      unfold isType loadHead
      exact wpAny_bind (wpAny_loadPart (k _ _ (X _ _ ho)) (wpAny_pure q))
    · cases hc
  ne := fun h tp dd its n sl X htp => by
    obtain ⟨cd, hc⟩ := Option.isSome_iff_exists.mp ek.kc
    refine Bool.eq_false_iff.mpr fun q => ?_
    have e : C = tp := Value.ref.inj (beq_iff_eq.mp q)
    subst e
    unfold PySem.W.clsIn at hc
    split at hc
    · rename_i c' d' cd' sl' ho
      have z := (X _ _ ho).symm.trans htp
      cases z
    · cases hc
  ca := fun X p k => Exk.exc_class X ek p k
end L2
namespace L2
open PySem PySem.Spec PyProof.Rows
section
variable {X : Cx}
theorem boot_ValueError : bootBuiltins "ValueError" = some (.type "ValueError") := by decide +kernel
theorem pe_cls {x : Str} {C : Addr} {pos : Pos} (hg : Gl X x) (hm : X.mg x = some (.ref C)) (hd : (x == ("__debug__" : Str)) = false := by decide) : PE X (.Name x pos) (tC (.ref C)) := pe_glob (v := .ref C) hg hm rfl hd
theorem pe_append {o e : Expr} {to : TE} {t : TA} {apos cpos : Pos} (ho : PE X o to) (ha : PA X [e] t) (hbase : attributeBase o "append" X.env (eval o X.env) = eval o X.env := by rfl)
    (hfew : ((backTo cpos (starEach [e] X.env)).all (fun x => !x.1) && (backToKw cpos (keywordEach [] X.env)).all (fun x => x.1.isSome) && decide ([e].length + ([] : List Keyword).length + (if ([] : List Keyword).isEmpty then 0 else 1) < 30)) = true := by rfl)
    (hline : (apos.endLine == cpos.line) = true := by rfl) (hs : starEach [e] X.env = (false, eval e X.env) :: starEach [] X.env := by rfl) (hplain : (backTo cpos (starEach [] X.env)).any (·.1) = false := by rfl) :
    PE X (.Call (.Attribute o "append" apos) [e] [] cpos) (tBM X.K "list" rAppend to t) :=
  pe_bm PySem.F.plainAttrs_list PySem.F.slot_list_append PySem.F.type_list_append mt_append ho ha hbase hfew hline hs hplain
noncomputable def rIsiO (K : PySem.W.Frag) : List V → Hp → VK → Prop := fun xs H Q => ∃ ea C D b, xs = [.ref ea, .ref D] ∧ H ea = some (.ext (IsExc ea C)) ∧ EKit K C ∧ PySem.W.kitOne K (.ref C) (.ref D) = some b ∧ Q (.bl b) H
noncomputable def rIsiT (K : PySem.W.Frag) : List V → Hp → VK → Prop := fun xs H Q => ∃ ea C T b, xs = [.ref ea, .ty T] ∧ H ea = some (.ext (IsExc ea C)) ∧ EKit K C ∧ PySem.W.kitOne K (.ref C) (.type T) = some b ∧ Q (.bl b) H
noncomputable def rIsiA (K : PySem.W.Frag) : List V → Hp → VK → Prop := fun xs H Q => ∃ (ea C tp : Addr) (ds : List Addr) (b : Bool), xs = [.ref ea, .ref tp] ∧ H ea = some (.ext (IsExc ea C)) ∧ EKit K C ∧ H tp = some (.tup (ds.map V.ref)) ∧ PySem.W.kitAny K (.ref C) (ds.map Value.ref) = some b ∧ Q (.bl b) H
theorem vals_refs : ∀ {ds : List Addr} {its : List Value}, Vals (ds.map V.ref) its → its = ds.map Value.ref
  | [], _, .nil => rfl
  | d :: ds, _, .cons r t => by
    cases r
    rw [vals_refs t]
    rfl
theorem call_isiO : CallR X (.builtin "isinstance") (rIsiO X.K) := by
  intro pins s σ H xs us Q I r h
  obtain ⟨ea, C, D, b, rfl, hE, ek, e, q⟩ := h
  obtain ⟨u, z, rfl, rx, rz⟩ := vals2 r
  cases (show u = Value.ref ea from rx)
  cases (show z = Value.ref D from rz)
  obtain ⟨ex, _, _⟩ := (show ObjOk X.prog X.w H s.heap ea (.ext (IsExc ea C)) from I.hok ea _ hE)
  exact PySem.W.kia_one (kitx_exc ek) I.kIn ex e (fun z => nomatch z) fun tk => ⟨.bl b, H, I.tok tk, rfl, q⟩
theorem call_isiT : CallR X (.builtin "isinstance") (rIsiT X.K) := by
  intro pins s σ H xs us Q I r h
  obtain ⟨ea, C, T, b, rfl, hE, ek, e, q⟩ := h
  obtain ⟨u, z, rfl, rx, rz⟩ := vals2 r
  cases (show u = Value.ref ea from rx)
  cases (show z = Value.type T from rz)
  obtain ⟨ex, _, _⟩ := (show ObjOk X.prog X.w H s.heap ea (.ext (IsExc ea C)) from I.hok ea _ hE)
  exact PySem.W.kia_one (kitx_exc ek) I.kIn ex e (fun z => nomatch z) fun tk => ⟨.bl b, H, I.tok tk, rfl, q⟩
theorem call_isiA : CallR X (.builtin "isinstance") (rIsiA X.K) := by
  intro pins s σ H xs us Q I r h
  obtain ⟨ea, C, tp, ds, b, rfl, hE, ek, hT, e, q⟩ := h
  obtain ⟨u, z, rfl, rx, rz⟩ := vals2 r
  cases (show u = Value.ref ea from rx)
  cases (show z = Value.ref tp from rz)
  obtain ⟨ex, _, _⟩ := (show ObjOk X.prog X.w H s.heap ea (.ext (IsExc ea C)) from I.hok ea _ hE)
  obtain ⟨_, its, rv, ⟨oc, od, oda, osl⟩, h1, h2, n, h3⟩ := (show ObjOk X.prog X.w H s.heap tp (.tup (ds.map V.ref)) from I.hok tp _ hT)
  have ei := vals_refs rv
  subst ei
  dsimp only at h2 h3
  subst h2 h3
  exact PySem.W.kia_tup (kitx_exc ek) I.kIn ex h1 e (fun z => nomatch z) fun tk => ⟨.bl b, H, I.tok tk, rfl, q⟩
noncomputable def rEqB (K : PySem.W.Frag) : R2 := fun x y H Q => ∃ (l m : Addr) (bs : List Bool), x = .ref l ∧ y = .ref m ∧ SqL K H l (bs.map V.bl) ∧ SqL K H m (bs.map V.bl) ∧ Q (.bl true) H
theorem vals_bools : ∀ {bs : List Bool} {its : List Value}, Vals (bs.map V.bl) its → its = bs.map Value.bool
  | [], _, .nil => rfl
  | d :: ds, _, .cons r t => by
    cases r
    rw [vals_bools t]
    rfl
theorem op_eqB (hu : X.A.units < cLine) : OpR X (compareOp .Eq) (rEqB X.K) := by
  intro pins s σ H x y v u Q I rx ry h
  obtain ⟨l, m, bs, rfl, rfl, h1, h2, q⟩ := h
  cases rx
  cases ry
  obtain ⟨its, r1, p1, _⟩ := I.list h1
  obtain ⟨jts, r2, p2, _⟩ := I.list h2
  have e1 := vals_bools r1
  have e2 := vals_bools r2
  subst e1 e2
  refine SeqAt.eq_listAt (e := fun _ => true) p1.isList p2.isList rfl hu (fun j a b => ?_) ?_
  · exact SeqAt.EqAt.same _
  · have e : ((List.range ((bs.map Value.bool).toArray).size).all fun _ => true) = true := by simp
    rw [e]
    exact ⟨.bl true, H, I, rfl, q⟩
end
theorem exm_mk {K : PySem.W.Frag} {C L : Addr} (hs : PySem.W.subIn K (.ref L) (.type "BaseException") = some true) (hk : PySem.W.kitOne K (.ref C) (.ref L) = some true) (hne : (Value.ref C == Value.ref L) = false) : PySem.W.exmOne K (.ref C) (.ref L) = some true := by
  unfold PySem.W.exmOne
  rw [hs, if_pos (by decide)]
  unfold PySem.W.kitOne at hk
  rw [hne] at hk
  exact hk
theorem ekit_mk {K : PySem.W.Frag} {C : Addr} (ga : PySem.W.findIn K (.ref C) "__getattribute__" = some (some (.builtin "BaseException.__getattribute__"))) (gt : PySem.W.findIn K (.ref C) "__getattr__" = some none)
    (cl : PySem.W.findIn K (.ref C) "__class__" = some (some (.builtin "object.__class__"))) (sg : PySem.W.specialIn K (.builtin "object.__class__") "__get__" = some (some (.builtin "getset_descriptor.__get__")))
    (tk : PySem.W.takesIn K (.builtin "object.__class__") = some true) (mo : PySem.W.mroIn K C (.type "object") = some true) (mb : PySem.W.mroIn K C (.type "BaseException") = some true) : EKit K C := by
  refine ⟨?_, ga, gt, cl, sg, tk, mo, mb⟩
  obtain ⟨cd, h, _⟩ := Option.bind_eq_some_iff.mp mo
  rw [h]
  rfl
end L2
namespace L2
open PySem PySem.Spec PyProof.Rows
noncomputable def tx (l : List Nat) : Str := ⟨l.toArray⟩
section
variable {X : Cx}
end
end L2
namespace L2
open PySem PySem.Spec PyProof.Rows
section
variable {X : Cx} {a b c e : Expr} {ta tb te : TE} {pos : Pos}
noncomputable def nth : St → Nat → Option V
  | [], _ => none
  | v :: _, 0 => v
  | _ :: r, n + 1 => nth r n
theorem nth_iff : ∀ {σ : St} {i : Nat} {v : V}, σ[i]? = some (some v) ↔ nth σ i = some v
  | [], i, v => by simp [nth]
  | x :: r, 0, v => by simp [nth]
  | x :: r, i + 1, v => by
    rw [List.getElem?_cons_succ]
    exact nth_iff (σ := r) (i := i)
noncomputable def dVar (i : Nat) : TE := fun σ H Q => match nth σ i with | some v => Q v H | none => False
theorem tVar_eq (i : Nat) : tVar i = dVar i := by
  funext σ H Q
  apply propext
  unfold tVar dVar
  constructor
  · rintro ⟨v, e, q⟩
    rw [nth_iff.mp e]
    exact q
  · intro h
    split at h
    · rename_i v e
      exact ⟨v, nth_iff.mpr e, h⟩
    · exact h.elim
theorem dv (i : Nat) {x : Str} {pos : Pos} (hN : X.N[i]? = some x := by rfl) (hv : Vis X.env.scope x := by first | exact Or.inl rfl | exact Or.inr (Or.inl rfl) | exact Or.inr (Or.inr rfl)) (hd : (x == ("__debug__" : Str)) = false := by decide)
    (hcd : (x == ("__classdict__" : Str)) = false := by decide) : PE X (.Name x pos) (dVar i) := tVar_eq i ▸ pe_var hN hv hd hcd
@[elab_as_elim] theorem byLen0 {α : Type} {P : List α → Prop} (us : List α) (h : us.length = 0) (k : P []) : P us := by
  cases us with
  | nil => exact k
  | cons a r => cases h
@[elab_as_elim] theorem byLen1 {α : Type} {P : List α → Prop} (us : List α) (h : us.length = 1) (k : ∀ a, P [a]) : P us := by
  cases us with
  | nil => cases h
  | cons a r => exact byLen0 r (Nat.succ.inj h) (k a)
@[elab_as_elim] theorem byLen2 {α : Type} {P : List α → Prop} (us : List α) (h : us.length = 2) (k : ∀ a b, P [a, b]) : P us := by
  cases us with
  | nil => cases h
  | cons a r => exact byLen1 r (Nat.succ.inj h) (k a)
@[elab_as_elim] theorem byLen3 {α : Type} {P : List α → Prop} (us : List α) (h : us.length = 3) (k : ∀ a b c, P [a, b, c]) : P us := by
  cases us with
  | nil => cases h
  | cons a r => exact byLen2 r (Nat.succ.inj h) (k a)
@[elab_as_elim] theorem byLen4 {α : Type} {P : List α → Prop} (us : List α) (h : us.length = 4) (k : ∀ a b c d, P [a, b, c, d]) : P us := by
  cases us with
  | nil => cases h
  | cons a r => exact byLen3 r (Nat.succ.inj h) (k a)
@[elab_as_elim] theorem byLen5 {α : Type} {P : List α → Prop} (us : List α) (h : us.length = 5) (k : ∀ a b c d e, P [a, b, c, d, e]) : P us := by
  cases us with
  | nil => cases h
  | cons a r => exact byLen4 r (Nat.succ.inj h) (k a)
theorem OpR.imp {f : Value → Value → Sem Value} {r r' : R2} (h : OpR X f r) (i : ∀ x y H Q, r' x y H Q → r x y H Q) : OpR X f r' := fun pins s σ H x y v u Q I rx ry z => h pins s σ H x y v u Q I rx ry (i _ _ _ _ z)
noncomputable def mI (g : Int → Int → VK → Hp → Prop) : R2 := fun x y H Q => match x, y with | .int i, .int j => g i j Q H | _, _ => False
theorem mI_out {g : Int → Int → VK → Hp → Prop} {x y : V} {H : Hp} {Q : VK} (h : mI g x y H Q) : ∃ i j, x = .int i ∧ y = .int j ∧ g i j Q H := by
  unfold mI at h
  split at h
  · exact ⟨_, _, rfl, rfl, h⟩
  · exact h.elim
noncomputable def dAdd : R2 := fun x y H Q => match x, y with | .int i, .int j => Q (.int (i + j)) H | _, _ => False
theorem d_add : OpR X (binaryOp .Add) dAdd := op_add.imp fun _ _ _ _ h => mI_out (g := fun i j Q H => Q (.int (i + j)) H) h
noncomputable def dSub : R2 := fun x y H Q => match x, y with | .int i, .int j => Q (.int (i - j)) H | _, _ => False
theorem d_sub : OpR X (binaryOp .Sub) dSub := op_sub.imp fun _ _ _ _ h => mI_out (g := fun i j Q H => Q (.int (i - j)) H) h
noncomputable def dLt : R2 := fun x y H Q => match x, y with | .int i, .int j => Q (.bl (decide (i < j))) H | _, _ => False
theorem d_lt : OpR X (compareOp .Lt) dLt := op_lt.imp fun _ _ _ _ h => mI_out (g := fun i j Q H => Q (.bl (decide (i < j))) H) h
noncomputable def dLe : R2 := fun x y H Q => match x, y with | .int i, .int j => Q (.bl (decide (i ≤ j))) H | _, _ => False
theorem d_le : OpR X (compareOp .LtE) dLe := op_le.imp fun _ _ _ _ h => mI_out (g := fun i j Q H => Q (.bl (decide (i ≤ j))) H) h
noncomputable def dGt : R2 := fun x y H Q => match x, y with | .int i, .int j => Q (.bl (decide (j < i))) H | _, _ => False
theorem d_gt : OpR X (compareOp .Gt) dGt := op_gt.imp fun _ _ _ _ h => mI_out (g := fun i j Q H => Q (.bl (decide (j < i))) H) h
noncomputable def dGe : R2 := fun x y H Q => match x, y with | .int i, .int j => Q (.bl (decide (j ≤ i))) H | _, _ => False
theorem d_ge : OpR X (compareOp .GtE) dGe := op_ge.imp fun _ _ _ _ h => mI_out (g := fun i j Q H => Q (.bl (decide (j ≤ i))) H) h
noncomputable def dMul : R2 := fun x y H Q => match x, y with | .int i, .int j => CMulB i j ∧ Q (.int (i * j)) H | _, _ => False
theorem d_mul : OpR X (binaryOp .Mult) dMul := op_mulB.imp fun _ _ _ _ h => mI_out (g := fun i j Q H => CMulB i j ∧ Q (.int (i * j)) H) h
noncomputable def dFdiv : R2 := fun x y H Q => match x, y with | .int i, .int j => CDivB i j ∧ Q (.int (i.fdiv j)) H | _, _ => False
theorem d_fdiv : OpR X (binaryOp .FloorDiv) dFdiv := op_fdivB.imp fun _ _ _ _ h => mI_out (g := fun i j Q H => CDivB i j ∧ Q (.int (i.fdiv j)) H) h
noncomputable def dPow : R2 := fun x y H Q => match x, y with | .int i, .int j => CPowB i j ∧ Q (.int (i ^ j.toNat)) H | _, _ => False
theorem d_pow : OpR X (binaryOp .Pow) dPow := op_powB.imp fun _ _ _ _ h => mI_out (g := fun i j Q H => CPowB i j ∧ Q (.int (i ^ j.toNat)) H) h
noncomputable def dNeg : V → Hp → VK → Prop := fun x H Q => match x with | .int i => Q (.int (-i)) H | _ => False
theorem d_neg : UnR X (unaryOp .USub) dNeg := by
  have e : (rU fun i => .int (-i)) = dNeg := by
    funext x H Q
    apply propext
    cases x <;> simp [rU, dNeg]
  exact e ▸ un_neg
noncomputable def dMod : R2 := fun x y H Q => match x, y with | .int i, .int j => 0 < j ∧ Q (.int (i % j)) H | _, _ => False
theorem d_mod : OpR X (binaryOp .Mod) dMod := op_mod.imp fun _ _ _ _ h => mI_out (g := fun i j Q H => 0 < j ∧ Q (.int (i % j)) H) h
theorem CallR.imp {f : Value} {r r' : List V → Hp → VK → Prop} (h : CallR X f r) (i : ∀ xs H Q, r' xs H Q → r xs H Q) : CallR X f r' := fun pins s σ H xs us Q I rx z => h pins s σ H xs us Q I rx (i _ _ _ z)
theorem IxR.imp {r r' : R2} (h : IxR X r) (i : ∀ x y H Q, r' x y H Q → r x y H Q) : IxR X r' := fun va sl pins s σ H x y v u Q I rx ry z hs => h va sl pins s σ H x y v u Q I rx ry (i _ _ _ _ z) hs
theorem PE.imp {t t' : TE} (h : PE X e t) (i : ∀ σ H Q, t' σ H Q → t σ H Q) : PE X e t' := fun pins s σ H Q I z => h pins s σ H Q I (i _ _ _ z)
noncomputable def eqS : V → V → Option Bool
  | .int i, .int j => some (decide (i = j))
  | .str x, .str y => some (decide (x = y))
  | .bl x, .bl y => some (decide (x = y))
  | .non, .non => some true
  | .non, .int _ => some false
  | .int _, .non => some false
  | .str _, .non => some false
  | .non, .str _ => some false
  | _, _ => none
theorem eqS_ok {x y : V} {k : Bool} (h : eqS x y = some k) : scal x y = true ∧ decide (x = y) = k := by
  unfold eqS at h
  split at h <;> first | (cases h; exact ⟨rfl, by simp⟩) | cases h
noncomputable def dEq : R2 := fun x y H Q => match eqS x y with | some k => Q (.bl k) H | none => False
noncomputable def dNe : R2 := fun x y H Q => match eqS x y with | some k => Q (.bl (!k)) H | none => False
theorem d_eq : OpR X (compareOp .Eq) dEq := op_eq.imp fun x y H Q h => by
  unfold dEq at h
  split at h
  · rename_i k e
    obtain ⟨h1, h2⟩ := eqS_ok e
    exact ⟨h1, by rw [h2]; exact h⟩
  · exact h.elim
theorem d_ne : OpR X (compareOp .NotEq) dNe := op_ne.imp fun x y H Q h => by
  unfold dNe at h
  split at h
  · rename_i k e
    obtain ⟨h1, h2⟩ := eqS_ok e
    exact ⟨h1, by rw [h2]; exact h⟩
  · exact h.elim
noncomputable def asB (Q : Bool → Hp → Prop) : VK := fun x H => match x with | .bl k => Q k H | _ => False
theorem asB_eq (Q : Bool → Hp → Prop) : (fun x H => ∃ k, x = V.bl k ∧ Q k H) = asB Q := by
  funext x H
  apply propext
  cases x <;> simp [asB]
noncomputable def dTest (t : TE) : TT := fun σ H Q => t σ H (asB Q)
theorem tB_eq (t : TE) : tB t = dTest t := by
  funext σ H Q
  unfold tB dTest
  rw [asB_eq]
theorem tTest_eq (t : TE) : tTest t = dTest t := by
  funext σ H Q
  unfold tTest dTest
  rw [asB_eq]
theorem dt_val {e : Expr} {t : TE} (h : PE X e t) (he : ∀ whole, isTrue e X.env whole = (do let v ← whole; standAt e.pos; holding [v] (truthy v)) := by intro _; rfl) : PT X e (dTest t) := tB_eq t ▸ pt_val h he
theorem dt_cmp {op : CmpOp} {r : R2} (ho : OpR X (compareOp op) r) (ha : PE X a ta) (hb : PE X b tb) (hm : behindInMarks op b = false) : PT X (.Compare a [op] [b] pos) (dTest (tOp r ta tb)) := tTest_eq (tOp r ta tb) ▸ pt_cmpR ho ha hb hm
noncomputable def dAndV (ta tb : TE) : TE := fun σ H Q => ta σ H (asB fun c H1 => if c = true then tb σ H1 Q else Q (.bl false) H1)
noncomputable def dOrV (ta tb : TE) : TE := fun σ H Q => ta σ H (asB fun c H1 => if c = true then Q (.bl true) H1 else tb σ H1 Q)
noncomputable def dNotV (ta : TE) : TE := fun σ H Q => ta σ H (asB fun c H1 => Q (.bl (!c)) H1)
theorem tAndV_eq : tAndV ta tb = dAndV ta tb := by
  funext σ H Q
  unfold tAndV dAndV
  rw [← asB_eq]
theorem tOrV_eq : tOrV ta tb = dOrV ta tb := by
  funext σ H Q
  unfold tOrV dOrV
  rw [← asB_eq]
theorem tNotV_eq : tNotV ta = dNotV ta := by
  funext σ H Q
  unfold tNotV dNotV
  rw [← asB_eq]
theorem d_and {rest : List Expr} (ha : PE X a ta) (hb : PE X (.BoolOp .And (b :: rest) pos) tb) : PE X (.BoolOp .And (a :: b :: rest) pos) (dAndV ta tb) := tAndV_eq ▸ pe_and ha hb
theorem d_or {rest : List Expr} (ha : PE X a ta) (hb : PE X (.BoolOp .Or (b :: rest) pos) tb) : PE X (.BoolOp .Or (a :: b :: rest) pos) (dOrV ta tb) := tOrV_eq ▸ pe_or ha hb
theorem d_not (ha : PE X a ta) : PE X (.UnaryOp .Not a pos) (dNotV ta) := tNotV_eq ▸ pe_not ha
structure New (H : Hp) (p : Addr) (o : HO) (H' : Hp) : Prop where
  fr : H p = none
  at_ : H' p = some o
  oth : ∀ b, b ≠ p → H' b = H b
theorem New.mk' {H : Hp} {p : Addr} {o : HO} (h : H p = none) : New H p o (upd H p o) := ⟨h, upd_same, fun _ h => upd_ne h⟩
theorem New.same {H H' : Hp} {p : Addr} {o : HO} (h : New H p o H') : Same H H' := fun b u e => by rw [h.oth b (ne_of_none e h.fr)]; exact e
structure Chg (H : Hp) (l : Addr) (o : HO) (H' : Hp) : Prop where
  at_ : H' l = some o
  oth : ∀ b, b ≠ l → H' b = H b
theorem Chg.mk' {H : Hp} {l : Addr} {o : HO} : Chg H l o (upd H l o) := ⟨upd_same, fun _ h => upd_ne h⟩
theorem Chg.same {H0 H H' : Hp} {l : Addr} {o : HO} (h : Chg H l o H') (s : Same H0 H) (f : H0 l = none) : Same H0 H' := fun b u e => by rw [h.oth b (ne_of_none e f)]; exact s b u e
noncomputable def dOk (n : Nat) (A : Prop) : Prop := match Nat.ble n sizeLine with | true => A | false => False
theorem dOk_iff {n : Nat} {A : Prop} : dOk n A ↔ n ≤ sizeLine ∧ A := by
  unfold dOk
  cases h : Nat.ble n sizeLine with
  | true => exact ⟨fun z => ⟨Nat.le_of_ble_eq_true h, z⟩, fun z => z.2⟩
  | false => exact ⟨fun z => z.elim, fun z => by rw [Nat.ble_eq_true_of_le z.1] at h; cases h⟩
noncomputable def dTup (t : TA) : TE := fun σ H Q => t σ H fun xs H1 => dOk xs.length (∀ p H', New H1 p (.tup xs) H' → Q (.ref p) H')
noncomputable def dLst (t : TA) : TE := fun σ H Q => t σ H fun xs H1 => dOk xs.length (∀ p H', New H1 p (.lst xs) H' → Q (.ref p) H')
theorem new_iff {H : Hp} {o : HO} {Q : VK} : (∀ p, H p = none → Q (.ref p) (upd H p o)) ↔ ∀ p H', New H p o H' → Q (.ref p) H' := by
  constructor
  · intro h p H' n
    have e : H' = upd H p o := by
      funext b
      by_cases q : b = p
      · subst q; rw [n.at_, upd_same]
      · rw [n.oth b q, upd_ne q]
    rw [e]
    exact h p n.fr
  · exact fun h p f => h p _ (.mk' f)
theorem tTup_eq (t : TA) : tTup t = dTup t := by
  funext σ H Q
  unfold tTup dTup
  congr 1
  funext xs H1
  apply propext
  rw [dOk_iff, new_iff]
theorem tLst_eq (t : TA) : tLst t = dLst t := by
  funext σ H Q
  unfold tLst dLst
  congr 1
  funext xs H1
  apply propext
  rw [dOk_iff, new_iff]
theorem d_tup {es : List Expr} {t : TA} {x1} (h : PA X es t) : PE X (.Tuple es x1 pos) (dTup t) := tTup_eq t ▸ pe_tup h
theorem d_lst {es : List Expr} {t : TA} (h : PA X es t) : PE X (.List es pos) (dLst t) := tLst_eq t ▸ pe_lst h
noncomputable def dIxL (K : PySem.W.Frag) : R2 := fun x y H Q => match x, y with | .ref p, .int i => ∃ xs v, SqL K H p xs ∧ atI xs i = some v ∧ Q v H | _, _ => False
noncomputable def dIxT (K : PySem.W.Frag) : R2 := fun x y H Q => match x, y with | .ref p, .int i => ∃ xs v, SqT K H p xs ∧ atI xs i = some v ∧ Q v H | _, _ => False
theorem d_ixL : IxR X (dIxL X.K) := ix_list.imp fun x y H Q h => by
  unfold dIxL at h
  split at h
  rotate_left
  · exact h.elim
  obtain ⟨xs, v, h1, h2, q⟩ := h
  exact ⟨_, xs, _, v, rfl, rfl, h1, h2, q⟩
theorem d_ixT : IxR X (dIxT X.K) := ix_tup.imp fun x y H Q h => by
  unfold dIxT at h
  split at h
  rotate_left
  · exact h.elim
  obtain ⟨xs, v, h1, h2, q⟩ := h
  exact ⟨_, xs, _, v, rfl, rfl, h1, h2, q⟩
noncomputable def dAbs : List V → Hp → VK → Prop := fun xs H Q => match xs with | [.int i] => Q (.int (if i < 0 then -i else i)) H | _ => False
theorem d_abs : CallR X (.builtin "abs") dAbs := call_abs.imp fun xs H Q h => by
  unfold dAbs at h
  split at h
  · exact ⟨_, rfl, h⟩
  · exact h.elim
noncomputable def dLen (K : PySem.W.Frag) : List V → Hp → VK → Prop := fun xs H Q => match xs with | [.ref p] => ∃ ys, (SqL K H p ys ∨ SqT K H p ys) ∧ Q (.int ys.length) H | _ => False
theorem d_len : CallR X (.builtin "len") (dLen X.K) := call_len_seq.imp fun xs H Q h => by
  unfold dLen at h
  split at h
  · obtain ⟨ys, h1, q⟩ := h
    exact ⟨_, ys, rfl, h1, q⟩
  · exact h.elim
inductive TyK (K : PySem.W.Frag) (H : Hp) : V → Value → Prop where
  | of {x : V} {t : Value} (h : TyOf K H x t) : TyK K H x t
  | non : TyK K H .non (.type "NoneType")
  | bl (x : Bool) : TyK K H (.bl x) (.type "bool")
  | int (i : Int) : TyK K H (.int i) (.type "int")
  | str (x : Str) : TyK K H (.str x) (.type "str")
  | lst {a : Addr} {xs : List V} (e : H a = some (.lst xs)) : TyK K H (.ref a) (.type "list")
  | tup {a : Addr} {xs : List V} (e : H a = some (.tup xs)) : TyK K H (.ref a) (.type "tuple")
  | kt {a : Addr} {o : Obj} (h : K.lookup a = some o) (hc : o.cls = .type "tuple") : TyK K H (.ref a) (.type "tuple")
theorem isinst_okK {X : Cx} {pins : List (Addr × Obj)} {σ : St} {H : Hp} {s : Shared} {A : Around} {E : Value → Shared → Prop} {Q : Value → Shared → Prop} {b : Bool} {c : Value} {x : V} {u t : Value} (I : Inv X pins σ H s) (rx : RelV x u) (ty : TyK X.K H x t) (e : PySem.W.kitOne X.K t c = some b) (h : ∀ tk, Q (.bool b) { s with toks := tk }) :
    wpAny (model X.prog X.w) A (call (.builtin "isinstance") [u, c]) Q E s := by
  cases ty with
  | of z => exact isinst_ok I rx z e h
  | non => exact isinst_ok I rx .non e h
  | bl y => exact isinst_ok I rx (.bl y) e h
  | int y => exact isinst_ok I rx (.int y) e h
  | str y => exact isinst_ok I rx (.str y) e h
  | lst y => exact isinst_ok I rx (.lst y) e h
  | tup y => exact isinst_ok I rx (.tup y) e h
  | @kt a o h1 h2 =>
    cases (show u = Value.ref a from rx)
    exact PySem.W.kia_one PySem.W.kitx_tuple I.kIn ⟨o, I.kIn a o h1, h2⟩ e (fun z => nomatch z) h
noncomputable def dIsi (K : PySem.W.Frag) : List V → Hp → VK → Prop := fun xs H Q => match xs with | [x, .ty c] => ∃ t b, TyK K H x t ∧ PySem.W.kitOne K t (.type c) = some b ∧ Q (.bl b) H | _ => False
theorem d_isi : CallR X (.builtin "isinstance") (dIsi X.K) := by
  intro pins s σ H xs us Q I r h
  unfold dIsi at h
  split at h
  · rename_i x c
    obtain ⟨t, b, ty, e, q⟩ := h
    obtain ⟨u, z, rfl, rx, rz⟩ := vals2 r
    cases (show z = Value.type c from rz)
    exact isinst_okK I rx ty e fun tk => ⟨.bl b, H, I.tok tk, rfl, q⟩
  · exact h.elim
noncomputable def dApp (to : TE) (t : TA) : TE := fun σ H Q => to σ H fun x H1 => match x with
  | .ref l => (∃ xs, H1 l = some (.lst xs)) ∧ t σ H1 fun vs H2 => match vs with
    | [y] => ∃ xs, H2 l = some (.lst xs) ∧ xs.length < 16000000 ∧ ∀ H', Chg H2 l (.lst (xs ++ [y])) H' → Q .non H'
    | _ => False
  | _ => False
end
section
variable {X : Cx} {o e : Expr} {es : List Expr} {t : TA} {to te : TE} {pos : Pos}
noncomputable def upT (t : TE) : TE := fun σ H Q => ∃ Q' : VK, t σ H Q' ∧ ∀ v H', Q' v H' → Q v H'
theorem PE.up (h : PE X e te) : PE X e (upT te) := fun pins s σ H Q I ⟨Q', z, i⟩ => thn (h pins s σ H Q' I z) fun u s' ⟨v, H', I', r, q⟩ => ⟨v, H', I', r, i _ _ q⟩
noncomputable def upA (t : TA) : TA := fun σ H Q => ∃ Q' : List V → Hp → Prop, t σ H Q' ∧ ∀ v H', Q' v H' → Q v H'
theorem PA.up (h : PA X es t) : PA X es (upA t) := fun p pins s σ H Q I ⟨Q', z, i⟩ => thn (h p pins s σ H Q' I z) fun u s' ⟨v, H', I', r, q⟩ => ⟨v, H', I', r, i _ _ q⟩
theorem d_append {apos cpos : Pos} (ho : PE X o to) (ha : PA X [e] t) (hbase : attributeBase o "append" X.env (eval o X.env) = eval o X.env := by rfl)
    (hfew : ((backTo cpos (starEach [e] X.env)).all (fun x => !x.1) && (backToKw cpos (keywordEach [] X.env)).all (fun x => x.1.isSome) && decide ([e].length + ([] : List Keyword).length + (if ([] : List Keyword).isEmpty then 0 else 1) < 30)) = true := by rfl)
    (hline : (apos.endLine == cpos.line) = true := by rfl) (hs : starEach [e] X.env = (false, eval e X.env) :: starEach [] X.env := by rfl) (hplain : (backTo cpos (starEach [] X.env)).any (·.1) = false := by rfl) :
    PE X (.Call (.Attribute o "append" apos) [e] [] cpos) (dApp to t) :=
  (pe_append ho.up ha.up hbase hfew hline hs hplain).imp fun σ H Q h => by
    refine ⟨_, h, fun v H1 q => ?_⟩
    cases v <;> first | exact q.elim | skip
    obtain ⟨⟨xs, h1⟩, q⟩ := q
    refine ⟨.inl ⟨rfl, xs, SqL.of h1⟩, _, q, fun vs H2 q2 => ?_⟩
    split at q2
    · obtain ⟨ys, h2, hl, q3⟩ := q2
      exact ⟨_, ys, _, rfl, rfl, h2, Nat.lt_of_lt_of_le hl (by decide), q3 _ .mk'⟩
    · exact q2.elim
end
theorem br {p A B : Prop} [Decidable p] (h1 : p → A) (h2 : ¬ p → B) : if decide p = true then A else B := ite2 (fun c => h1 (of_decide_eq_true c)) fun c => h2 (of_decide_eq_false (Bool.eq_false_iff.mpr c))
theorem brN {p A B : Prop} [Decidable p] (h1 : ¬ p → A) (h2 : p → B) : if (!decide p) = true then A else B := ite2 (fun c => h1 (of_decide_eq_false (by simpa using c))) fun c => h2 (of_decide_eq_true (by simpa using c))
end L2
namespace L2
open PySem PySem.Spec PyProof.Rows
section
variable {X : Cx}
theorem d_str {x : Str} {l : List Nat} {j pos} (h : x = tx l) : PE X (.Constant (.str x) j pos) (tC (.str (tx l))) := h ▸ pe_str
noncomputable def Cn (mg : Str → Option Value) (x : Str) (v : V) : Prop := ∃ u, mg x = some u ∧ RelV v u
theorem Cn.pe {x : Str} {v : V} {pos : Pos} (h : Cn X.mg x v) (hg : Gl X x) (hd : (x == ("__debug__" : Str)) = false := by decide) : PE X (.Name x pos) (tC v) := by
  obtain ⟨u, m, r⟩ := h
  exact pe_glob hg m r hd
theorem cn_int {K : PySem.W.Frag} {mg : Str → Option Value} {h : Heap} {x : Str} {i j : Int} {t : Tok} (KX : K.In h) (G : h.Ns mainGlobals mg) (a : PySem.W.nsIn K mainGlobals x = some (some (.int i t))) (e : i = j) : Cn mg x (.int j) := ⟨_, PySem.W.mg_of KX G a, ⟨t, by rw [e]⟩⟩
end
section
variable {P : Program} {w : World} {K : PySem.W.Frag} {mg : Str → Option Value} {base : Heap} {N : List Str} {qual : Str} {scope : Scope} {f : Addr} {cd : Value} {A : Around} {outer : List Env} {s₀ : Shared} {H₀ : Hp} {E : XK}
  {j k : Nat} {x : Str} {ps : List Str} {sp : Sp} {p pos : Pos}
end
noncomputable def sp_law (K : PySem.W.Frag) : Sp := fun vs H Q _ => ∃ (a : Addr) (ns : List Int), vs = [.ref a] ∧ SqL K H a (ns.map V.int) ∧ ns.length ≤ 63 ∧ ∀ H', Q (.bl true) H'
theorem walkE {k : Nat} {l : PySem.W.OpenLaw} {q : Program} {loose : List Str} {XP : (Str → Option Value) → Heap → Prop} {YP : World → Heap → Prop} {d : DefRec} {K : Params → PySem.W.Frag} (hk : k ≤ 40) (hn : l.most = some 63) (hdf : d.params.defaults = [])
    (hY : ∀ (w : World) (h : Heap), YP w h → (K w.params).In h)
    (F : ∀ (w : World) (mg : Str → Option Value) (fa : Addr) (h : Heap), (K w.params).In h → h.Ns mainGlobals mg → mg d.name = some (.ref fa) →
      ∃ fd : FuncData, (∀ (s : Shared) (u : Value), BindsTo s fd ⟨[u], []⟩ [("_law_script", u)]) ∧ ∀ base : Heap, (K w.params).In base → base.Ns mainGlobals mg → FnOk l.prog w (K w.params) mg base (CXE l.prog w) k fa fd ["_law_script"] (sp_law (K w.params))) :
    PySem.W.WalkO q loose XP YP l.row.toRowW d [] (fun f vs => PySem.call f vs) :=
  walk_of (n := 63) (k := k) (x := "_law_script") (CX := fun w => CXE l.prog w) (sp := fun w => sp_law (K w.params)) hn (by decide) hdf ((show Room 40 callerA from ⟨rfl, by decide, by decide⟩).mono hk) hY F (fun _ _ a ns hl _ hS => ⟨a, ns, rfl, hS, hl, fun _ => rfl⟩) fun _ _ _ _ _ ⟨_, _, _, _, _, z⟩ => z
end L2
namespace L2
noncomputable abbrev Wn (W : Nat → St → Hp → Prop) (m : Nat) : St → Hp → Prop := fun σ' H' => ∃ m', m' < m ∧ W m' σ' H'
theorem whl_in {W : Nat → St → Hp → Prop} {m : Nat} {tb : TS} {D : Ends} {σ : St} {H1 : Hp} (h : tb { D with nx := Wn W m, ct := Wn W m, bk := D.nx } σ H1) :
    ∃ N : St → Hp → Prop, (∀ σ' H', N σ' H' → ∃ m', m' < m ∧ W m' σ' H') ∧ tb { D with nx := N, ct := N, bk := D.nx } σ H1 := ⟨_, fun _ _ h => h, h⟩
theorem whl {c : TT} {tb : TS} {D : Ends} {σ : St} {H : Hp} (W : Nat → St → Hp → Prop) (m0 : Nat) (h0 : W m0 σ H)
    (hs : ∀ m σ H, W m σ H → c σ H fun b H1 => if b = true then ∃ N : St → Hp → Prop, (∀ σ' H', N σ' H' → ∃ m', m' < m ∧ W m' σ' H') ∧ tb { D with nx := N, ct := N, bk := D.nx } σ H1 else D.nx σ H1) : tWhile c tb D σ H := ⟨W, ⟨m0, h0⟩, hs⟩
end L2
namespace L2
open PySem PySem.Spec PyProof.Rows
section
variable {X : Cx} {e : Expr} {te : TE}
noncomputable def dPart (t : TE) : TO := fun σ H Q => t σ H fun x H1 => match x with | .int i => Q (some i) H1 | _ => False
theorem tPart_eq (t : TE) : tPart t = dPart t := by
  funext σ H Q
  unfold tPart dPart
  congr 1
  funext x H1
  apply propext
  cases x <;> simp
theorem d_some (h : PE X e te) : PO X (some e) (dPart te) := tPart_eq te ▸ po_some h
theorem SlR.imp {r r' : V → Option Int → Option Int → Hp → VK → Prop} (h : SlR X r) (i : ∀ x lo hi H Q, r' x lo hi H Q → r x lo hi H Q) : SlR X r' := by
  intro pins s σ H x v vl vu lo hi sl Q I rx hs pl pu z
  exact h pins s σ H x v vl vu lo hi sl Q I rx hs pl pu (i _ _ _ _ _ z)
noncomputable def dSlL (K : PySem.W.Frag) : V → Option Int → Option Int → Hp → VK → Prop := fun x lo hi H Q => match x with | .ref a => ∃ xs, SqL K H a xs ∧ ∀ p H', New H p (.lst (cutV xs lo hi)) H' → Q (.ref p) H' | _ => False
theorem d_slL : SlR X (dSlL X.K) := sl_list.imp fun x lo hi H Q h => by
  cases x <;> first | exact h.elim | skip
  obtain ⟨xs, h1, q⟩ := h
  exact ⟨_, xs, rfl, h1, new_iff.mpr q⟩
noncomputable def dListOf (K : PySem.W.Frag) : List V → Hp → VK → Prop := fun xs H Q => match xs with | [.ref p] => ∃ ys, (SqL K H p ys ∨ SqT K H p ys) ∧ ∀ l H', New H l (.lst ys) H' → Q (.ref l) H' | _ => False
theorem d_list : CallR X (.type "list") (dListOf X.K) := call_list_of.imp fun xs H Q h => by
  unfold dListOf at h
  split at h
  · obtain ⟨ys, h1, q⟩ := h
    exact ⟨_, ys, rfl, h1, new_iff.mpr q⟩
  · exact h.elim
noncomputable def dCat : R2 := fun x y H Q => match x, y with | .ref l, .ref b => ∃ xs zs, H l = some (.lst xs) ∧ H b = some (.lst zs) ∧ xs.length + zs.length ≤ 10000000 ∧ ∀ p H', New H p (.lst (xs ++ zs)) H' → Q (.ref p) H' | _, _ => False
theorem d_cat : OpR X (binaryOp .Add) dCat := op_cat.imp fun x y H Q h => by
  unfold dCat at h
  split at h
  rotate_left
  · exact h.elim
  obtain ⟨xs, zs, h1, h2, h3, q⟩ := h
  exact ⟨_, _, xs, zs, rfl, rfl, h1, h2, Nat.le_trans h3 (by decide), new_iff.mpr q⟩
end
end L2
namespace L2
open PySem PySem.Spec PyProof.Rows
theorem closure_aux (env : Env) : ∀ (l : List (Str × NameKind)) (acc : List (Str × Addr)), (∀ y ∈ l, y.2 = .free → ∃ c, env.cells.lookup y.1 = some c) → (∀ y c, acc.lookup y = some c → env.cells.lookup y = some c) →
    ∃ cl, (forIn l acc fun x (r : List (Str × Addr)) => match x with
      | (name, kind) => if (kind == NameKind.free) = true then do
          let c ← cellOf env name
          pure (ForInStep.yield ((name, c) :: r))
        else pure (ForInStep.yield r) : Sem (List (Str × Addr))) = pure cl ∧ (∀ y c, cl.lookup y = some c → env.cells.lookup y = some c) ∧ (∀ y, (y, NameKind.free) ∈ l ∨ (∃ c, acc.lookup y = some c) → ∃ c, cl.lookup y = some c)
  | [], acc, _, ha => ⟨acc, rfl, ha, fun y h => h.elim (fun z => by simp at z) id⟩
  | (n, k) :: l, acc, hl, ha => by
    by_cases hk : (k == NameKind.free) = true
    · have hk' : k = .free := by simpa using hk
      subst hk'
      obtain ⟨c, hc⟩ := hl (n, .free) List.mem_cons_self rfl
      have ha' : ∀ y c', ((n, c) :: acc).lookup y = some c' → env.cells.lookup y = some c' := fun y c' h => by
        rw [List.lookup_cons] at h
        split at h
        · rename_i z
          rw [show y = n from by simpa using z]
          rw [← h]
          exact hc
        · exact ha y c' h
      obtain ⟨cl, e, h1, h2⟩ := closure_aux env l ((n, c) :: acc) (fun y hy => hl y (List.mem_cons_of_mem _ hy)) ha'
      refine ⟨cl, ?_, h1, fun y h => h2 y ?_⟩
      · rw [List.forIn_cons]
        show (cellOf env n >>= fun c => pure (ForInStep.yield ((n, c) :: acc))) >>= _ = _
        rw [show cellOf env n = pure c by unfold cellOf; rw [hc]]
        exact e
      · rcases h with h | ⟨c', h⟩
        · rcases List.mem_cons.mp h with z | z
          · cases z
            exact .inr ⟨c, by rw [List.lookup_cons]; simp⟩
          · exact .inl z
        · refine .inr ?_
          rw [List.lookup_cons]
          split
          · exact ⟨c, rfl⟩
          · exact ⟨c', h⟩
    · obtain ⟨cl, e, h1, h2⟩ := closure_aux env l acc (fun y hy => hl y (List.mem_cons_of_mem _ hy)) ha
      refine ⟨cl, ?_, h1, fun y h => h2 y ?_⟩
      · rw [List.forIn_cons]
        show (if (k == NameKind.free) = true then _ else pure (ForInStep.yield acc)) >>= _ = _
        rw [if_neg hk]
        exact e
      · rcases h with h | h
        · rcases List.mem_cons.mp h with z | z
          · cases z
            exact absurd rfl hk
          · exact .inl z
        · exact .inr h
theorem closure_ok {scope : Scope} {env : Env} (h : ∀ y ∈ scope.names, y.2 = .free → ∃ c, env.cells.lookup y.1 = some c) :
    ∃ cl, closureFor scope env = pure cl ∧ (∀ y c, cl.lookup y = some c → env.cells.lookup y = some c) ∧ (∀ y, (y, NameKind.free) ∈ scope.names → ∃ c, cl.lookup y = some c) := by
  obtain ⟨cl, e, h1, h2⟩ := closure_aux env scope.names [] h (fun y c z => by simp at z)
  refine ⟨cl, ?_, h1, fun y z => h2 y (.inl z)⟩
  unfold closureFor
  show (forIn scope.names [] _ >>= fun s => pure s) = _
  have e' : (forIn scope.names ([] : List (Str × Addr)) fun x (r : List (Str × Addr)) => match x with
      | (name, kind) => if (kind == NameKind.free) = true then do
          let c ← cellOf env name
          pure (ForInStep.yield ((name, c) :: r))
        else pure (ForInStep.yield r) : Sem (List (Str × Addr))) >>= (fun s => pure s) = pure cl := by rw [e]; rfl
  exact e'
theorem lookup_relabel_free {env : Env} : ∀ {names : List (Str × NameKind)} {x : Str}, names.lookup x = some .free →
    (names.map fun (n, k) => if (k == NameKind.free && env.scope.kind == .function && env.kindOf n == some .cell) then (n, NameKind.cell) else (n, k)).lookup x = some .cell ∨
    (names.map fun (n, k) => if (k == NameKind.free && env.scope.kind == .function && env.kindOf n == some .cell) then (n, NameKind.cell) else (n, k)).lookup x = some .free
  | [], _, h => by simp at h
  | (n, k) :: r, x, h => by
    have ih := @lookup_relabel_free env r x
    show List.lookup x ((if (k == NameKind.free && env.scope.kind == .function && env.kindOf n == some .cell) = true then (n, NameKind.cell) else (n, k)) :: _) = _ ∨ List.lookup x ((if (k == NameKind.free && env.scope.kind == .function && env.kindOf n == some .cell) = true then (n, NameKind.cell) else (n, k)) :: _) = _
    cases hx : x == n with
    | true =>
      simp only [List.lookup_cons, hx] at h
      cases h
      split
      · left; simp [List.lookup_cons, hx]
      · right; simp [List.lookup_cons, hx]
    | false =>
      simp only [List.lookup_cons, hx] at h
      split
      · simp only [List.lookup_cons, hx]; exact ih h
      · simp only [List.lookup_cons, hx]; exact ih h
theorem relabel_back {env : Env} : ∀ {names : List (Str × NameKind)} {x : Str}, (∀ y ∈ names, y.2 ≠ .cell) →
    ((names.map fun (n, k) => if (k == NameKind.free && env.scope.kind == .function && env.kindOf n == some .cell) then (n, NameKind.cell) else (n, k)).lookup x = some .cell ∨
    (names.map fun (n, k) => if (k == NameKind.free && env.scope.kind == .function && env.kindOf n == some .cell) then (n, NameKind.cell) else (n, k)).lookup x = some .free) → (x, NameKind.free) ∈ names
  | [], _, _, h => by simp at h
  | (n, k) :: r, x, hc, h => by
    have ih := @relabel_back env r x (fun y hy => hc y (List.mem_cons_of_mem _ hy))
    have h' : List.lookup x ((if (k == NameKind.free && env.scope.kind == .function && env.kindOf n == some .cell) = true then (n, NameKind.cell) else (n, k)) :: (r.map fun (n, k) => if (k == NameKind.free && env.scope.kind == .function && env.kindOf n == some .cell) then (n, NameKind.cell) else (n, k))) = some .cell ∨
      List.lookup x ((if (k == NameKind.free && env.scope.kind == .function && env.kindOf n == some .cell) = true then (n, NameKind.cell) else (n, k)) :: (r.map fun (n, k) => if (k == NameKind.free && env.scope.kind == .function && env.kindOf n == some .cell) then (n, NameKind.cell) else (n, k))) = some .free := h
    have nk := hc (n, k) List.mem_cons_self
    cases hx : x == n with
    | true =>
      have e : x = n := by simpa using hx
      subst e
      split at h'
      · rename_i z
        have : k = .free := by
          have := (Bool.and_eq_true_iff.mp (Bool.and_eq_true_iff.mp z).1).1
          simpa using this
        rw [this]
        exact List.mem_cons_self
      · simp only [List.lookup_cons, hx] at h'
        rcases h' with z | z
        · exact absurd (Option.some.inj z) nk
        · rw [Option.some.inj z]
          exact List.mem_cons_self
    | false =>
      refine List.mem_cons_of_mem _ (ih ?_)
      split at h' <;> (simp only [List.lookup_cons, hx] at h'; exact h')
theorem mem_of_lookup : ∀ {l : List (Str × NameKind)} {y : Str} {k : NameKind}, l.lookup y = some k → (y, k) ∈ l
  | [], _, _, h => by simp at h
  | (n, k') :: r, y, k, h => by
    rw [List.lookup_cons] at h
    split at h
    · rename_i z
      rw [show y = n from by simpa using z, ← Option.some.inj h]
      exact List.mem_cons_self
    · exact List.mem_cons_of_mem _ (mem_of_lookup h)
set_option genInjectivity false in
structure CB where
  cl : List (Str × Addr)
  C : Addr
  s : Shared
  H : Hp
  fp : List Addr
noncomputable def capsOf (ix : List Nat) (σ : St) : St := ix.map (nth σ)
noncomputable abbrev Cx.comp (X : Cx) (scope : Scope) (cl : List (Str × Addr)) (C : Addr) (ns : List Str) (s : Shared) (H : Hp) (fp : List Addr) : Cx :=
  { X with N := ns, s₀ := s, H₀ := H, env := compEnvC scope cl C X.env, outer := X.stack, stack := X.stack, ex := fp, fn := fun _ => false, pn := [], xe := fun _ _ => False }
section
variable {X : Cx} {pins : List (Addr × Obj)} {σ : St} {H : Hp} {s : Shared} {scope : Scope} {cl : List (Str × Addr)} {C : Addr} {ns : List Str} {fp : List Addr}
theorem Inv.compOk (I : Inv X pins σ H s) (hkind : scope.kind = .function) (hcell : ∀ y ∈ scope.names, y.2 ≠ .cell) (hC : s.heap.objs.size ≤ C)
    (h1 : ∀ y c, cl.lookup y = some c → X.env.cells.lookup y = some c) (h2 : ∀ y, (y, NameKind.free) ∈ scope.names → ∃ c, cl.lookup y = some c)
    (hf : ∀ b ∈ fp, FpOk X pins H b) (hfs : ∀ b ∈ fp, b < s.heap.objs.size) : (X.comp scope cl C ns s H fp).Ok where
  mod := I.ok.mod
  kind := hkind
  glob := I.ok.glob
  blt := I.ok.blt
  above := hC
  inj := fun x y c a b => I.ok.inj x y c (h1 x c a) (h1 y c b)
  has := fun x h => h2 x (relabel_back (env := X.env) hcell h)
  cab := fun _ _ h => nomatch h
  hd := I.ok.hd
  frames := I.ok.frames
  stk := .inl rfl
  exf := fun b hb => ⟨Nat.ne_of_lt (Nat.lt_of_lt_of_le (hfs b hb) hC), fun x c e => (hf b hb).2.2.2.2.1 x c (h1 x c e)⟩
  bs := I.bs
  bsz := Nat.le_trans I.ok.bsz I.sz
  noex := fun b o e hb => by
    rcases (hf b hb).2.2.2.1 with z | z
    · exact I.ok.noex b o e z
    · exact absurd (Nat.lt_of_lt_of_le (Heap.lt_size e) (Nat.le_trans I.ok.bsz z)) (Nat.lt_irrefl _)
  exfs := fun b hb z => by
    rcases List.mem_cons.mp (I.stkSub b z) with y | y
    · exact (hf b hb).2.1 y
    · exact (hf b hb).2.2.1 y
  funs := I.stack
  frf := I.stkFree
theorem Inv.comp {h₁ : Heap} {tk : Nat} {m₁ : Str → Option Value} {x : Str} {cs : List Str} {ix : List Nat} (I : Inv X pins σ H s) (ok : (X.comp scope cl C (x :: cs) s H fp).Ok)
    (h1 : ∀ y c, cl.lookup y = some c → X.env.cells.lookup y = some c) (h2 : ∀ y, (y, NameKind.free) ∈ scope.names → ∃ c, cl.lookup y = some c)
    (hC : s.heap.objs.size ≤ C) (hn : h₁.Ns C m₁) (keep : ∀ b o, s.heap.get? b = some o → h₁.get? b = some o)
    (hix : ix.map (fun i => X.N[i]?) = cs.map some) (hfr : ∀ y ∈ cs, scope.names.lookup y = some .free) (hout : ∀ y ∈ cs, X.env.scope.names.lookup y = some .cell ∨ X.env.scope.names.lookup y = some .free) :
    Inv (X.comp scope cl C (x :: cs) s H fp) [] (none :: capsOf ix σ) H { s with heap := h₁, toks := tk } where
  ok := ok
  os := rfl
  bare := I.bare
  base := Un.kept keep
  loc := by
    refine ⟨m₁, hn, fun i y v e1 e2 _ => ?_⟩
    cases i with
    | zero => cases e2
    | succ j =>
      have e1' : cs[j]? = some y := e1
      have e2' : (ix.map (nth σ))[j]? = some (some v) := e2
      rw [List.getElem?_map] at e2'
      obtain ⟨k, hk, hv⟩ := Option.map_eq_some_iff.mp e2'
      have e3 : X.N[k]? = some y := by
        have z := congrArg (fun l => l[j]?) hix
        simp only [List.getElem?_map] at z
        rw [hk, e1'] at z
        simpa using z
      have hy := List.mem_of_getElem? e1'
      obtain ⟨m, hm, hl⟩ := I.loc
      obtain ⟨u, r, l⟩ := hl k y v e3 (nth_iff.mpr hv) (by rcases hout y hy with z | z; exact .inr (.inl z); exact .inr (.inr z))
      refine ⟨u, r, .inr ⟨lookup_relabel_free (env := X.env) (hfr y hy), ?_⟩⟩
      rcases l with ⟨k1, _⟩ | ⟨_, c, hc, z⟩
      · have k1' : X.env.scope.names.lookup y = some .local := k1
        rcases hout y hy with w | w <;> (rw [k1'] at w; cases w)
      · have hmem : (y, NameKind.free) ∈ scope.names := mem_of_lookup (hfr y hy)
        obtain ⟨c', hc'⟩ := h2 y hmem
        have := h1 y c' hc'
        rw [hc] at this
        cases this
        obtain ⟨o, ho, hd⟩ := z
        exact ⟨c, hc', o, keep _ _ ho, hd⟩
  cell := fun y c e => by
    obtain ⟨v, o, ho, hd⟩ := I.cell y c (h1 y c e)
    exact ⟨v, o, keep _ _ ho, hd⟩
  free := I.hok.fresh hC
  freeC := fun y c e => I.freeC y c (h1 y c e)
  pin := fun p hp => by simp at hp
  hok := I.hok.kept keep
  len := by
    show (none :: capsOf ix σ).length = (x :: cs).length
    have := congrArg List.length hix
    rw [List.length_map, List.length_map] at this
    simp [capsOf, this]
theorem Inv.uncomp {pins' : List (Addr × Obj)} {σ' : St} {H' : Hp} {s' : Shared} {h' : Heap} (I : Inv X pins σ H s) (I' : Inv (X.comp scope cl C ns s H fp) pins' σ' H' s') (hf : ∀ b ∈ fp, FpOk X pins H b) (hs : Heap.SameBut C s'.heap h') :
    Inv X pins σ H' { s' with heap := h' } := by
  have ne : ∀ b o, s.heap.get? b = some o → b ≠ C := fun b o e => Nat.ne_of_lt (Nat.lt_of_lt_of_le (Heap.lt_size e) I'.ok.above)
  have un := I'.base
  refine I.call' (ch := fp) I'.os ⟨fun b o e n hb hx => ?_, fun b o e n hb hx => ?_, un.free, fun b o e hx => ?_, un.tups, un.frzs, un.tbls⟩ ?_ I'.bare fun b hb => ?_
  · exact (hs.2 b (ne b o e)).trans (un.keep b o e n hb hx)
  · obtain ⟨sl, e1⟩ := un.slot b o e n hb hx
    exact ⟨sl, (hs.2 b (ne b o e)).trans e1⟩
  · obtain ⟨o', e1⟩ := un.there b o e hx
    exact ⟨o', (hs.2 b (ne b o e)).trans e1⟩
  · refine I'.hok.stays fun a o ob e q => (hs.2 a ?_).trans q
    intro z
    have f : H' C = none := I'.free
    rw [z, f] at e
    cases e
  · obtain ⟨_, f1, _, f3, f4, f5⟩ := hf b hb
    exact ⟨f3, f1, f4, f5⟩
end
noncomputable def CompGo (J : It) (D : Addr) (caps : St) (te : CB → TE) (Q : VK) (H2 : Hp) : Prop := ∃ W : Nat → Nat → List V → Hp → Prop, (∃ m, W 0 m [] H2) ∧ ∀ i m ys H, W i m ys H →
  (J.stop i H ∧ Q (.ref D) H) ∨ (J.go i H ∧ ∀ x H', J.yld i H x H' → ∀ z, te z (some x :: caps) H' fun y H3 => H3 D = some (.lst ys) ∧ ys.length < 16000000 ∧ ∀ H4, Chg H3 D (.lst (ys ++ [y])) H4 → ∃ m', m' < m ∧ W (i + 1) m' (ys ++ [y]) H4)
noncomputable def tComp (wi : TI) (ix : List Nat) (te : CB → TE) : TE := fun σ H Q => wi σ H fun J H1 => ∀ D H2, New H1 D (.lst []) H2 → CompGo J D (capsOf ix σ) te Q H2
section
variable {X : Cx}
theorem comp_core {elt iter : Expr} {ifs : List Expr} {x : Str} {px : Pos} {scope : Scope} {pos : Pos} {cs : List Str} {ix : List Nat} {te : CB → TE} {tc : CB → TT} {pins : List (Addr × Obj)} {σ : St} {H : Hp} {s : Shared} {J : It} {it : Addr} {fp : List Addr} {tn : Nat → Heap → Prop}
    {cl : List (Str × Addr)} {E : Value → Shared → Prop} {Q : V → Hp → Prop} {RR : Value → Addr → Result → Shared → Prop}
    (hc : X.calm = true) (hkind : scope.kind = .function) (hcell : ∀ y ∈ scope.names, y.2 ≠ .cell) (hx : scope.names.lookup x = some .local) (hN : (x :: cs).Nodup)
    (hix : ix.map (fun i => X.N[i]?) = cs.map some) (hfr : ∀ y ∈ cs, scope.names.lookup y = some .free) (hout : ∀ y ∈ cs, X.env.scope.names.lookup y = some .cell ∨ X.env.scope.names.lookup y = some .free)
    (h1 : ∀ y c, cl.lookup y = some c → X.env.cells.lookup y = some c) (h2 : ∀ y, (y, NameKind.free) ∈ scope.names → ∃ c, cl.lookup y = some c)
    (htest : (ifs = [] ∧ tc = fun _ _ H Q => Q true H) ∨ ∃ c, ifs = [c] ∧ ∀ z : CB, PT (X.comp scope z.cl z.C (x :: cs) z.s z.H z.fp) c (tc z))
    (helt : ∀ z : CB, PE (X.comp scope z.cl z.C (x :: cs) z.s z.H z.fp) elt (te z))
    (I : Inv X pins σ H s) (T : Turn X.prog X.w X.K (.Name x px) J fp it tn) (st0 : tn 0 s.heap) (hf : ∀ b ∈ fp, FpOk X pins H b)
    (h : ∀ D H2, New H D (.lst []) H2 → ∃ W : Nat → Nat → List V → Hp → Prop, (∃ m, W 0 m [] H2) ∧ ∀ i m ys H, W i m ys H →
      (J.stop i H ∧ Q (.ref D) H) ∨ (J.go i H ∧ ∀ x H', J.yld i H x H' → ∀ z, tc z (some x :: capsOf ix σ) H' fun b H5 => if b = true then te z (some x :: capsOf ix σ) H5 fun y H3 => H3 D = some (.lst ys) ∧ ys.length < 16000000 ∧ ∀ H4, Chg H3 D (.lst (ys ++ [y])) H4 → ∃ m', m' < m ∧ W (i + 1) m' (ys ++ [y]) H4
        else ∃ m', m' < m ∧ W (i + 1) m' ys H5))
    (hRR : ∀ D C s1 H', (∃ m, s1.heap.Ns C m) → (∀ h', Heap.SameBut C s1.heap h' → Inv X pins σ H' { s1 with heap := h' }) → FpOk X pins H' C → Q (.ref D) H' → RR (.ref D) C (.ok .next) s1) :
    wpAny (model X.prog X.w) X.A (newList []) (fun acc s₃ => wpAny (model X.prog X.w) X.A (newFunctionEnv scope X.env.globals cl [] X.env.qual none .none (some X.env)) (fun cenv s₄ =>
      codeAny (model X.prog X.w) X.A (.compStart (.ListComp elt [⟨.Name x px, iter, ifs, 0⟩] scope pos) 0 (.ref it) acc { cenv with scope := relabel scope X.env }) (RR acc cenv.locals) s₄) E s₃) E s := by
  refine wpAny_newObj_type ?_
  have fD : H s.heap.objs.size = none := I.hok.fresh (Nat.le_refl _)
  have I3 : Inv X pins σ (upd H s.heap.objs.size (.lst [])) { s with heap := s.heap.push { cls := .type "list", data := .seq ([] : List Value).toArray } } := by
    refine I.laid (t' := s.toks) (fun b u e => Heap.get?_push_of_some _ e) (Nat.le_refl _) ?_
    exact ⟨Nat.zero_le _, [], _, .nil, Heap.get?_push_size _ rfl⟩
  have n3 : New H s.heap.objs.size (.lst []) (upd H s.heap.objs.size (.lst [])) := .mk' fD
  generalize hD : s.heap.objs.size = D at *
  obtain ⟨W, ⟨m0, w0⟩, turn⟩ := h D _ n3
  have st3 : tn 0 (s.heap.push { cls := .type "list", data := .seq ([] : List Value).toArray }) := T.keep 0 _ _ st0 fun b _ o e => Heap.get?_push_of_some _ e
  have fpD : ∀ b ∈ fp, b ≠ D := fun b hb z => by
    obtain ⟨o, e, _⟩ := T.obj 0 _ st0 b hb
    exact absurd (Heap.lt_size e) (by rw [z, hD]; exact Nat.lt_irrefl _)
  have hf3 : ∀ b ∈ fp, FpOk X pins (upd H D (.lst [])) b := fun b hb => by
    obtain ⟨f0, r⟩ := hf b hb
    exact ⟨by rw [upd_ne (fpD b hb)]; exact f0, r⟩
  generalize hs3 : ({ s with heap := s.heap.push { cls := .type "list", data := .seq ([] : List Value).toArray } } : Shared) = s3 at *
  have st3' : tn 0 s3.heap := by rw [← hs3]; exact st3
  generalize upd H D (.lst []) = H3 at *
  refine wpAny_newFunctionEnv hcell (by intro y hy; simp at hy) (fun h₁ hns₁ hsb₁ => ?_) hkind
  have keep : ∀ b o, s3.heap.get? b = some o → h₁.get? b = some o := fun b o e => hsb₁.extBut b o (Nat.ne_of_lt (Heap.lt_size e)) (Heap.get?_push_of_some _ e)
  have hfs : ∀ b ∈ fp, b < s3.heap.objs.size := fun b hb => by
    obtain ⟨o, e, _⟩ := T.obj 0 _ st3' b hb
    exact Heap.lt_size e
  have ok := I3.compOk (ns := x :: cs) hkind hcell (Nat.le_refl _) h1 h2 hf3 hfs
  have I4 := I3.comp (tk := s3.toks + ([] : List (Str × Value)).length) ok h1 h2 (Nat.le_refl _) hns₁ keep hix hfr hout
  have st4 : tn 0 h₁ := T.keep 0 _ _ st3' fun b _ o e => keep b o e
  generalize hC : s3.heap.objs.size = C at *
  have stat : ∀ {H' : Hp} {pins'}, pins' = [] → (∀ b ∈ fp, H' b = none) → ∀ b ∈ fp, FpOk (X.comp scope cl C (x :: cs) s3 H3 fp) pins' H' b := fun hp hn b hb => by
    subst hp
    exact ⟨hn b hb, (ok.exf b hb).1, ok.exfs b hb, .inl hb, (ok.exf b hb).2, fun p hp => by simp at hp⟩
  have hPG : PG (X.comp scope cl C (x :: cs) s3 H3 fp) (.Name x px) (gName 0) := pg_name (X := X.comp scope cl C (x :: cs) s3 H3 fp) (i := 0) hN rfl (.inl (lookup_relabel_local hx)) (.inr (lookup_relabel_local hx))
  have loop : ∀ s5 : Shared, s5 = { s3 with heap := h₁, toks := s3.toks + ([] : List (Str × Value)).length } →
      codeAny (model X.prog X.w) X.A (.compLoop (.ListComp elt [⟨.Name x px, iter, ifs, 0⟩] scope pos) 0 (.ref it) (.ref D) (compEnvC scope cl C X.env)) (RR (.ref D) C) s5 := by
    rintro s5 rfl
    refine codeAny_compLoop_tests (fun n s' => ∃ i v0 H' ys, Inv (X.comp scope cl C (x :: cs) s3 H3 fp) [] (v0 :: capsOf ix σ) H' s' ∧ tn i s'.heap ∧ (∀ b ∈ fp, H' b = none) ∧ W i n ys H') ?_ m0 ⟨0, none, H3, [], I4, st4, fun b hb => (hf3 b hb).1, w0⟩
    rintro n s6 ⟨i, v0, H6, ys, I6, st6, fr6, w6⟩
    rcases turn i n ys H6 w6 with ⟨stop, qn⟩ | ⟨go, step⟩
    · refine wpAny_mono (T.done (X.comp scope cl C (x :: cs) s3 H3 fp) rfl rfl rfl hc i [] s6 _ H6 (fun _ _ => False) I6 (stat rfl fr6) st6 stop) (fun r s7 ⟨hr, I7⟩ => ?_) fun _ _ z => z.elim
      subst hr
      exact hRR D C s7 H6 (by obtain ⟨m, hm, _⟩ := I7.loc; exact ⟨m, hm⟩) (fun h' hs => I3.uncomp I7 hf3 hs) (I3.fpOk (Nat.le_of_eq hC) I7.free) qn
    · refine wpAny_mono (T.item (X.comp scope cl C (x :: cs) s3 H3 fp) rfl rfl rfl hc i [] s6 _ H6 (fun _ _ => False) I6 (stat rfl fr6) st6 go) (fun r s7 ⟨u, hr, h7⟩ => ?_) fun _ _ z => z.elim
      subst hr
      show wpAny (model X.prog X.w) X.A (letOwnedTupleGo (.Name x px) (.ref it) u >>= fun _ => assign (.Name x px) (compEnvC scope cl C X.env) u) _ _ s7
      refine wpAny_bind (wpAny_mono h7 (fun _ s8 ⟨xv, H8, I8, r8, y8, st8, fr8⟩ => ?_) fun _ _ z => z.elim)
      have I8' := I8.pinned (stat rfl fr8) (T.obj _ _ st8)
      refine wpAny_mono (hPG _ s8 _ H8 xv u (fun σ9 H9 => σ9 = some xv :: capsOf ix σ ∧ H9 = H8) I8' r8 ⟨rfl, rfl⟩) (fun _ s9 ⟨σ9, H9, I9, e1, e2⟩ => ?_) fun _ _ z => z.elim
      subst e1 e2
      have stp := step xv H9 y8 ⟨cl, C, s3, H3, fp⟩
      have again : ∀ {H7 : Hp} {s7 : Shared} {zs : List V} {m' : Nat}, Inv (X.comp scope cl C (x :: cs) s3 H3 fp) ([] ++ pinsAt fp s8.heap) (some xv :: capsOf ix σ) H7 s7 → m' < n → W (i + 1) m' zs H7 →
          ∃ m, m < n ∧ ∃ i v0 H' ys, Inv (X.comp scope cl C (x :: cs) s3 H3 fp) [] (v0 :: capsOf ix σ) H' s7 ∧ tn i s7.heap ∧ (∀ b ∈ fp, H' b = none) ∧ W i m ys H' := fun {H7 s7 zs m'} I7 hm w7 => by
        refine ⟨m', hm, i + 1, _, H7, zs, I7.unpinned, T.keep _ _ _ st8 fun b hb o e => (I7.pin (b, o) (List.mem_append_right _ (List.mem_append_right _ (mem_pinsAt hb e)))).1, fun b hb => ?_, w7⟩
        obtain ⟨o, e, d⟩ := T.obj _ _ st8 b hb
        exact (I7.pin (b, o) (List.mem_append_right _ (List.mem_append_right _ (mem_pinsAt hb e)))).2.1
      have body : ∀ {H5 : Hp} {s5 : Shared}, Inv (X.comp scope cl C (x :: cs) s3 H3 fp) ([] ++ pinsAt fp s8.heap) (some xv :: capsOf ix σ) H5 s5 →
          (te ⟨cl, C, s3, H3, fp⟩ (some xv :: capsOf ix σ) H5 fun y H3 => H3 D = some (.lst ys) ∧ ys.length < 16000000 ∧ ∀ H4, Chg H3 D (.lst (ys ++ [y])) H4 → ∃ m', m' < n ∧ W (i + 1) m' (ys ++ [y]) H4) →
          ∀ E' : Value → Shared → Prop, wpAny (model X.prog X.w) X.A (eval elt (compEnvC scope cl C X.env)) (fun y s4 => wpAny (model X.prog X.w) X.A (call (.builtin "list.append") [.ref D, y]) (fun _ s5 => ∃ m, m < n ∧ ∃ i v0 H' ys, Inv (X.comp scope cl C (x :: cs) s3 H3 fp) [] (v0 :: capsOf ix σ) H' s5 ∧ tn i s5.heap ∧ (∀ b ∈ fp, H' b = none) ∧ W i m ys H') E' s4) E' s5 := fun {H5 s5} I5 q5 E' => by
        refine wpAny_mono (helt ⟨cl, C, s3, H3, fp⟩ _ s5 _ H5 _ I5 q5) (fun y s10 ⟨yv, H10, I10, r10, hDy, hl, q10⟩ => ?_) fun _ _ z => z.elim
        refine wpAny_mono (mt_append (X := X.comp scope cl C (x :: cs) s3 H3 fp) _ s10 _ H10 (.ref D) [yv] (.ref D) [y] (fun _ H11 => ∃ m', m' < n ∧ W (i + 1) m' (ys ++ [yv]) H11) I10 rfl (.cons r10 .nil) ⟨D, ys, yv, rfl, rfl, hDy, Nat.lt_of_lt_of_le hl (by decide), q10 _ .mk'⟩) (fun _ s11 ⟨_, H11, I11, _, m', hm, w11⟩ => ?_) fun _ _ z => z.elim
        exact again I11 hm w11
      rcases htest with ⟨e0, e1⟩ | ⟨c, e0, hpt⟩
      · subst e0 e1
        refine wpAny_tests_nil ?_
        rw [if_pos rfl]
        have stp' := (show (if true = true then _ else _) from stp)
        rw [if_pos rfl] at stp'
        exact body I9 stp' _
      · subst e0
        refine wpAny_tests_one (wpAny_mono (hpt ⟨cl, C, s3, H3, fp⟩ _ s9 _ H9 _ I9 stp) (fun b s10 ⟨H10, I10, q10⟩ => ?_) fun _ _ z => z.elim)
        cases b with
        | true =>
          rw [if_pos rfl] at q10 ⊢
          exact body I10 q10 _
        | false =>
          rw [if_neg Bool.false_ne_true] at q10 ⊢
          obtain ⟨m', hm, w10⟩ := q10
          exact again I10 hm w10
  exact codeAny_compStart_list (loop _ rfl) (T.self X.A 0 _ _ _ st4 (loop _ rfl))
theorem pe_comp {elt iter : Expr} {x : Str} {px : Pos} {scope : Scope} {pos : Pos} {wi : TI} {te : CB → TE} (sc0 : Scope) (cs : List Str) (ix : List Nat) (hc : X.calm = true) (hi : PI X (.Name x px) iter wi)
    (helt : ∀ z : CB, PE (X.comp scope z.cl z.C (x :: cs) z.s z.H z.fp) elt (te z)) (hN : (x :: cs).Nodup := by decide +kernel) (hkind : scope.kind = .function := by rfl) (hcell : ∀ y ∈ scope.names, y.2 ≠ .cell := by decide +kernel)
    (hx : scope.names.lookup x = some .local := by rfl) (hnames : ∀ y ∈ scope.names, y.2 = .local → scope.names.lookup y.1 = some .local := by decide +kernel)
    (hix : ix.map (fun i => X.N[i]?) = cs.map some := by rfl) (hfr : ∀ y ∈ cs, scope.names.lookup y = some .free := by decide +kernel) (hout' : ∀ y ∈ cs, sc0.names.lookup y = some .cell ∨ sc0.names.lookup y = some .free := by decide +kernel)
    (hfree' : ∀ y ∈ scope.names, y.2 = .free → sc0.names.lookup y.1 = some .cell ∨ sc0.names.lookup y.1 = some .free := by decide +kernel) (hsc : X.env.scope = sc0 := by rfl)
    (hs : ∀ x, foldedSetIterable iter X.env x = pure x := by intro _; rfl) :
    PE X (.ListComp elt [⟨.Name x px, iter, [], 0⟩] scope pos) (tComp wi ix te) := by
  have hout : ∀ y ∈ cs, X.env.scope.names.lookup y = some .cell ∨ X.env.scope.names.lookup y = some .free := by rw [hsc]; exact hout'
  have hfree : ∀ y ∈ scope.names, y.2 = .free → X.env.scope.names.lookup y.1 = some .cell ∨ X.env.scope.names.lookup y.1 = some .free := by rw [hsc]; exact hfree'
  intro pins s σ H Q I h
  obtain ⟨cl, hcl, h1, h2⟩ := closure_ok (scope := scope) (env := X.env) fun y hy hk => I.ok.has y.1 (hfree y hy hk)
  rw [eval_ListComp]
  refine wpAny_comprehension_free (use := none) rfl hs hcl hkind hnames (wpAny_mono (hi pins s σ H _ I h) (fun v s1 h3 => wpAny_mono h3 (fun itv s2 h4 => ?_) fun _ _ z => z) fun _ _ z => z)
  obtain ⟨it, fp, tn, J, H2, rfl, I2, T, st, hf, q⟩ := h4
  refine comp_core (Q := Q) (tc := fun _ _ H Q => Q true H) hc hkind hcell hx hN hix hfr hout h1 h2 (.inl ⟨rfl, rfl⟩) helt I2 T st hf (fun D H3 n3 => ?_) fun D C s3 H3 hm hI hCf hq => ?_
  · obtain ⟨W, w0, turn⟩ := q D H3 n3
    refine ⟨W, w0, fun i m ys H w => ?_⟩
    rcases turn i m ys H w with z | ⟨go, step⟩
    · exact .inl z
    · refine .inr ⟨go, fun x H' y z => ?_⟩
      exact iteT (step x H' y z)
  · obtain ⟨m, hm⟩ := hm
    exact ⟨m, hm, fun h' hs' => ⟨.ref D, H3, hI h' hs', rfl, hq⟩⟩
theorem ps_setComp {elt iter : Expr} {x y : Str} {px py : Pos} {scope : Scope} {pos spos : Pos} {wi : TI} {te : CB → TE} {k : Nat} (sc0 : Scope) (cs : List Str) (ix : List Nat) (hNy : X.N.Nodup) (hk : X.N[k]? = some y) (hy : Loc X.env.scope y) (hc : X.calm = true) (hi : PI X (.Name x px) iter wi)
    (helt : ∀ z : CB, PE (X.comp scope z.cl z.C (x :: cs) z.s z.H z.fp) elt (te z)) (hN : (x :: cs).Nodup := by decide +kernel) (hkind : scope.kind = .function := by rfl) (hcell : ∀ y ∈ scope.names, y.2 ≠ .cell := by decide +kernel)
    (hx : scope.names.lookup x = some .local := by rfl) (hnames : ∀ y ∈ scope.names, y.2 = .local → scope.names.lookup y.1 = some .local := by decide +kernel)
    (hix : ix.map (fun i => X.N[i]?) = cs.map some := by rfl) (hfr : ∀ y ∈ cs, scope.names.lookup y = some .free := by decide +kernel) (hout' : ∀ y ∈ cs, sc0.names.lookup y = some .cell ∨ sc0.names.lookup y = some .free := by decide +kernel)
    (hfree' : ∀ y ∈ scope.names, y.2 = .free → sc0.names.lookup y.1 = some .cell ∨ sc0.names.lookup y.1 = some .free := by decide +kernel) (hsc : X.env.scope = sc0 := by rfl)
    (hs : ∀ x, foldedSetIterable iter X.env x = pure x := by intro _; rfl) (hsw : swapsWith (.ListComp elt [⟨.Name x px, iter, [], 0⟩] scope pos) (some (.Name y py)) spos.line X.env = pure true := by with_unfolding_all rfl)
    (hf : X.fn y = true ∨ X.env.scope.names.lookup y = some .local := by first | exact .inl rfl | exact .inr rfl | assumption) :
    PS X (.Assign [.Name y py] (.ListComp elt [⟨.Name x px, iter, [], 0⟩] scope pos) spos) (tAsg (tComp wi ix te) (gName k)) := by
  have hout : ∀ y ∈ cs, X.env.scope.names.lookup y = some .cell ∨ X.env.scope.names.lookup y = some .free := by rw [hsc]; exact hout'
  have hfree : ∀ y ∈ scope.names, y.2 = .free → X.env.scope.names.lookup y.1 = some .cell ∨ X.env.scope.names.lookup y.1 = some .free := by rw [hsc]; exact hfree'
  intro pins s σ H D0 I h
  obtain ⟨cl, hcl, h1, h2⟩ := closure_ok (scope := scope) (env := X.env) fun y hy hk => I.ok.has y.1 (hfree y hy hk)
  rw [exec_Assign_Name_used _ _ _ _ hsw]
  refine wpAny_bind (wpAny_standAt (wpAny_bind ?_))
  show wpAny _ X.A (do let _ ← comprehension (.ListComp elt [⟨.Name x px, iter, [], 0⟩] scope pos) scope X.env _ (newList []) false (eval iter X.env) (some (assign (.Name y py) X.env))) _ _ s
  refine wpAny_bind (wpAny_mono (wpAny_comprehension_free (use := some (assign (.Name y py) X.env)) (Q := fun _ s' => SP X pins D0 .next s') rfl hs hcl hkind hnames
    (wpAny_mono (hi pins s σ H _ I h) (fun v s1 h3 => wpAny_mono h3 (fun itv s2 h4 => ?_) fun _ _ z => z) fun _ _ z => z)) (fun _ s' hq => wpAny_pure (wpAny_pure hq)) fun _ _ e => e)
  obtain ⟨it, fp, tn, J, H2, rfl, I2, T, st, hf2, q⟩ := h4
  refine comp_core (Q := fun v H' => gName k v σ H' D0.nx) (tc := fun _ _ H Q => Q true H) hc hkind hcell hx hN hix hfr hout h1 h2 (.inl ⟨rfl, rfl⟩) helt I2 T st hf2 (fun D H3 n3 => ?_) fun D C s3 H3 hm hI hCf hq => ?_
  · obtain ⟨W, w0, turn⟩ := q D H3 n3
    refine ⟨W, w0, fun i m ys H w => ?_⟩
    rcases turn i m ys H w with z | ⟨go, step⟩
    · exact .inl z
    · refine .inr ⟨go, fun x H' y z => ?_⟩
      exact iteT (step x H' y z)
  · obtain ⟨m, hm⟩ := hm
    have I3 : Inv X pins σ H3 s3 := by
      have := hI s3.heap ⟨rfl, fun _ _ => rfl⟩
      exact this
    show wpAny _ X.A (assign (.Name y py) X.env (.ref D)) _ _ s3
    refine wpAny_assign_Name (store_ok2 I3 hNy hk hy (v := .ref D) rfl (fun s4 I4 ⟨a, hsa, ha⟩ => ?_) hf)
    obtain ⟨g0, g1, _, g3, g4, g5⟩ := hCf
    have aC : C ≠ a := fun z => by
      rcases ha with ha | ha
      · exact g1 (z.trans ha)
      · exact g4 y a ha z.symm
    refine ⟨m, hm.sameBut hsa aC, fun h' hs' => ?_⟩
    exact ⟨_, H3, I4.turned (t' := s4.toks) (fun b o hb e => (hs'.2 b hb).trans e) g0 g1 g3 g4 g5, hq⟩
end
end L2
namespace L2
open PySem PySem.Spec PyProof.Rows
section
variable {X : Cx}
theorem passN {P : Program} {w : World} : Passes (CXE P w) X E0 := fun _ _ _ _ _ _ _ ⟨_, _, _, _, _, z⟩ => z.elim
theorem pe_callN {j k : Nat} {x : Str} {ps : List Str} {sp : Sp} {e : Expr} {es : List Expr} {t : TA} {p pos : Pos} (C : CalE X.prog X.w X.K X.mg X.base x j ps sp) (hr : Room k X.A) (hj : j ≤ k) (hg : Gl X x) (ha : PA X (e :: es) t) (hdb : (x == ("__debug__" : Str)) = false := by decide)
    (he : starEach (e :: es) X.env = (false, eval e X.env) :: starEach es X.env := by rfl) (hpl : (backTo pos (starEach es X.env)).any (·.1) = false := by rfl) :
    PE X (.Call (.Name x p) (e :: es) [] pos) (tCall sp [] E0 t) := by
  obtain ⟨f, fd, F, m, kp, b⟩ := C
  exact pe_call F (hr.mono hj) hg m kp b .nil passN ha hdb he hpl
theorem vals_intsT : ∀ {ns : List Int} {its : List Value}, Vals (ns.map V.int) its → ∃ ts : List (Int × Tok), its = ts.map (fun p => Value.int p.1 p.2) ∧ ts.map (·.1) = ns
  | [], _, .nil => ⟨[], rfl, rfl⟩
  | n :: ns, _, .cons r t => by
    obtain ⟨k, rfl⟩ := r
    obtain ⟨ts, e, h⟩ := vals_intsT t
    exact ⟨(n, k) :: ts, by rw [e]; rfl, by rw [List.map_cons, h]⟩
noncomputable def dSum (K : PySem.W.Frag) : List V → Hp → VK → Prop := fun xs H Q => match xs with | [.ref p] => ∃ ns : List Int, SqL K H p (ns.map V.int) ∧ Q (.int ns.sum) H | _ => False
theorem d_sum (hc : X.calm = true) : CallR X (.builtin "sum") (dSum X.K) := by
  intro pins s σ H xs us Q I r h
  unfold dSum at h
  split at h
  · rename_i p
    obtain ⟨ns, hs, q⟩ := h
    obtain ⟨u, rfl, ru⟩ := vals1 r
    cases (show u = Value.ref p from ru)
    obtain ⟨its, rv, pl, _⟩ := I.list hs
    obtain ⟨ts, e, hn⟩ := vals_intsT rv
    have e2 : its.toArray = intItems ts.toArray := by rw [e]; simp [intItems]
    refine sum_intListG (xs := ts.toArray) (I.ok.hd hc) (by rw [← e2]; exact pl.isList) fun h' tk t' hk => ?_
    refine ⟨.int ns.sum, H, I.kept (t' := tk) hk, ⟨t', ?_⟩, q⟩
    rw [preSum_eq, List.take_of_length_le (by simp), ← hn]
  · exact h.elim
noncomputable def dMin : List V → Hp → VK → Prop := fun xs H Q => match xs with | [.int i, .int j] => Q (.int (min i j)) H | _ => False
noncomputable def dMax : List V → Hp → VK → Prop := fun xs H Q => match xs with | [.int i, .int j] => Q (.int (max i j)) H | _ => False
theorem d_min (hc : X.calm = true) : CallR X (.builtin "min") dMin := (call_min2 hc).imp fun xs H Q h => by
  unfold dMin at h
  split at h
  · rename_i i j
    refine ⟨i, j, rfl, ?_⟩
    have e : (if j < i then j else i) = min i j := by split <;> omega
    rw [e]
    exact h
  · exact h.elim
theorem d_max (hc : X.calm = true) : CallR X (.builtin "max") dMax := (call_max2 hc).imp fun xs H Q h => by
  unfold dMax at h
  split at h
  · rename_i i j
    refine ⟨i, j, rfl, ?_⟩
    have e : (if j > i then j else i) = max i j := by split <;> omega
    rw [e]
    exact h
  · exact h.elim
theorem eqPair {pins : List (Addr × Obj)} {σ : St} {H : Hp} {s : Shared} (I : Inv X pins σ H s) {a b : Addr} {p q : Int × Int} (hu : X.A.units + 1 < cLine) (h1 : SqT X.K H a [.int p.1, .int p.2]) (h2 : SqT X.K H b [.int q.1, .int q.2]) : SeqAt.EqAt X.A.in1 s (.ref a) (.ref b) (decide (p = q)) := by
  obtain ⟨its, r1, p1, _⟩ := I.tuple h1
  obtain ⟨jts, r2, p2, _⟩ := I.tuple h2
  obtain ⟨t1, t2, rfl⟩ := vals_pair r1
  obtain ⟨t3, t4, rfl⟩ := vals_pair r2
  by_cases e : a = b
  · subst e
    obtain ⟨o, ho, _, n, hd⟩ := id p1
    obtain ⟨o', ho', _, n', hd'⟩ := id p2
    rw [ho] at ho'
    cases ho'
    rw [hd] at hd'
    have z : #[Value.int p.1 t1, Value.int p.2 t2] = #[Value.int q.1 t3, Value.int q.2 t4] := by
      injection hd'
    have z' : [Value.int p.1 t1, Value.int p.2 t2] = [Value.int q.1 t3, Value.int q.2 t4] := congrArg Array.toList z
    have e1 : p.1 = q.1 := by
      have := (List.cons.inj z').1
      injection this
    have e2 : p.2 = q.2 := by
      have := (List.cons.inj (List.cons.inj z').2).1
      injection this
    have e3 : p = q := Prod.ext e1 e2
    rw [decide_eq_true e3]
    exact SeqAt.EqAt.same _
  · have z := SeqAt.RcAt.tuples (A := X.A.in1) (s := s) (e := fun j => if j = 0 then decide (p.1 = q.1) else decide (p.2 = q.2)) p1 p2 (by show X.A.units + 1 < cLine; exact hu) eqTup
    have e2 : decide (p = q) = (((List.range (min 2 2)).all fun j => if j = 0 then decide (p.1 = q.1) else decide (p.2 = q.2)) && (2 == 2)) := by
      rw [range2]
      by_cases z : p = q
      · subst z; simp
      · rw [decide_eq_false z]
        by_cases z1 : p.1 = q.1
        · by_cases z2 : p.2 = q.2
          · exact absurd (Prod.ext z1 z2) z
          · simp [z2]
        · simp [z1]
    rw [e2]
    exact SeqAt.EqAt.of_refs e z
theorem all_eq {α : Type} [DecidableEq α] {ps qs : List α} (h : ps.length = qs.length) : ((List.range ps.length).all fun j => decide (ps[j]? = qs[j]?)) = decide (ps = qs) := by
  by_cases e : ps = qs
  · subst e
    simp
  · rw [decide_eq_false e, List.all_eq_false]
    by_cases ex : ∃ j, j < ps.length ∧ ps[j]? ≠ qs[j]?
    · obtain ⟨j, hj, hn⟩ := ex
      exact ⟨j, List.mem_range.mpr hj, by simpa using hn⟩
    · exfalso
      refine e (List.ext_getElem? fun j => ?_)
      by_cases hj : j < ps.length
      · by_cases z : ps[j]? = qs[j]?
        · exact z
        · exact absurd ⟨j, hj, z⟩ ex
      · rw [List.getElem?_eq_none (by omega), List.getElem?_eq_none (by omega)]
theorem vals_at {vs : List V} {its : List Value} (r : Vals vs its) {j : Nat} (h : j < its.toArray.size) : ∃ v, vs[j]? = some v ∧ RelV v its.toArray[j] := by
  have hl := r.length
  have hj : j < its.length := by simpa using h
  have hj' : j < vs.length := by omega
  obtain ⟨u, h1, h2⟩ := r.get (List.getElem?_eq_getElem hj')
  refine ⟨_, List.getElem?_eq_getElem hj', ?_⟩
  have : u = its.toArray[j] := by
    rw [List.getElem?_eq_getElem hj] at h1
    simpa using (Option.some.inj h1).symm
  rw [← this]
  exact h2
noncomputable def dEqX {α : Type} [DecidableEq α] (At : Hp → V → α → Prop) (K : PySem.W.Frag) (neg : Bool) : R2 := fun x y H Q => match x, y with
  | .ref l, .ref m => ∃ (vs ws : List V) (ps qs : List α), SqL K H l vs ∧ SqL K H m ws ∧ vs.length = ps.length ∧ ws.length = qs.length ∧ (∀ (j : Nat) v p, vs[j]? = some v → ps[j]? = some p → At H v p) ∧ (∀ (j : Nat) v p, ws[j]? = some v → qs[j]? = some p → At H v p) ∧
      Q (.bl (if neg then !decide (ps = qs) else decide (ps = qs))) H
  | _, _ => False
theorem d_eqX {α : Type} [DecidableEq α] {At : Hp → V → α → Prop} (hu : X.A.units + 1 < cLine)
    (he : ∀ {pins : List (Addr × Obj)} {σ : St} {H : Hp} {s : Shared} (_ : Inv X pins σ H s) {x y : V} {u v : Value} {p q : α}, RelV x u → RelV y v → At H x p → At H y q → SeqAt.EqAt X.A.in1 s u v (decide (p = q))) :
    OpR X (compareOp .Eq) (dEqX At X.K false) ∧ OpR X (compareOp .NotEq) (dEqX At X.K true) := by
  have hu0 : X.A.units < cLine := by omega
  constructor
  · intro pins s σ H x y v u Q I rx ry h
    unfold dEqX at h
    split at h
    rotate_left
    · exact h.elim
    obtain ⟨vs, ws, ps, qs, h1, h2, l1, l2, a1, a2, q⟩ := h
    cases rx
    cases ry
    obtain ⟨its, r1, p1, _⟩ := I.list h1
    obtain ⟨jts, r2, p2, _⟩ := I.list h2
    have z1 := r1.length
    have z2 := r2.length
    have s1 : its.toArray.size = ps.length := by rw [List.size_toArray, ← z1, l1]
    have s2 : jts.toArray.size = qs.length := by rw [List.size_toArray, ← z2, l2]
    by_cases hl : ps.length = qs.length
    · refine SeqAt.eq_listAt (e := fun j => decide (ps[j]? = qs[j]?)) p1.isList p2.isList (by rw [s1, s2]; exact hl) hu0 (fun j b1 b2 => ?_) ?_
      · obtain ⟨v, hv, rv⟩ := vals_at r1 b1
        obtain ⟨w, hw, rw'⟩ := vals_at r2 b2
        rw [s1] at b1
        rw [s2] at b2
        rw [List.getElem?_eq_getElem b1, List.getElem?_eq_getElem b2]
        have := he I rv rw' (a1 j v _ hv (List.getElem?_eq_getElem b1)) (a2 j w _ hw (List.getElem?_eq_getElem b2))
        rw [show decide (some ps[j] = some qs[j]) = decide (ps[j] = qs[j]) from by simp]
        exact this
      · rw [s1, all_eq hl]
        exact ⟨.bl _, H, I, rfl, q⟩
    · refine SeqAt.eq_list_lengthsAt p1.isList p2.isList (by rw [s1, s2]; simpa using hl) hu0 ?_
      rw [decide_eq_false (fun z => hl (by rw [z]))] at q
      exact ⟨.bl _, H, I, rfl, q⟩
  · intro pins s σ H x y v u Q I rx ry h
    unfold dEqX at h
    split at h
    rotate_left
    · exact h.elim
    obtain ⟨vs, ws, ps, qs, h1, h2, l1, l2, a1, a2, q⟩ := h
    cases rx
    cases ry
    obtain ⟨its, r1, p1, _⟩ := I.list h1
    obtain ⟨jts, r2, p2, _⟩ := I.list h2
    have z1 := r1.length
    have z2 := r2.length
    have s1 : its.toArray.size = ps.length := by rw [List.size_toArray, ← z1, l1]
    have s2 : jts.toArray.size = qs.length := by rw [List.size_toArray, ← z2, l2]
    by_cases hl : ps.length = qs.length
    · have z := SeqAt.RcNeAt.lists (A := X.A) (s := s) (e := fun j => decide (ps[j]? = qs[j]?)) p1.isList p2.isList (by rw [s1, s2]; exact hl) hu0 (fun j b1 b2 => ?_) X.prog X.w X.xe
      · refine z _ ?_
        rw [s1, all_eq hl]
        exact ⟨.bl _, H, I, rfl, q⟩
      · obtain ⟨v, hv, rv⟩ := vals_at r1 b1
        obtain ⟨w, hw, rw'⟩ := vals_at r2 b2
        rw [s1] at b1
        rw [s2] at b2
        rw [List.getElem?_eq_getElem b1, List.getElem?_eq_getElem b2]
        have := he I rv rw' (a1 j v _ hv (List.getElem?_eq_getElem b1)) (a2 j w _ hw (List.getElem?_eq_getElem b2))
        rw [show decide (some ps[j] = some qs[j]) = decide (ps[j] = qs[j]) from by simp]
        exact this
    · refine SeqAt.RcNeAt.lists_lengths p1.isList p2.isList (by rw [s1, s2]; simpa using hl) hu0 X.prog X.w X.xe _ ?_
      rw [decide_eq_false (fun z => hl (by rw [z]))] at q
      exact ⟨.bl _, H, I, rfl, q⟩
end
theorem nx_eq {n i : Nat} (h : i < n) (P : Prop) : (∃ m', m' < n - i ∧ m' = n - (i + 1) ∧ i + 1 ≤ n ∧ P) = P := by
  apply propext
  exact ⟨fun ⟨_, _, _, _, p⟩ => p, fun p => ⟨n - (i + 1), by omega, rfl, h, p⟩⟩
noncomputable abbrev Onto (D : Addr) (ys : List V) (P : List V → Hp → Prop) : VK := fun y H3 => H3 D = some (.lst ys) ∧ ys.length < 16000000 ∧ ∀ H4, Chg H3 D (.lst (ys ++ [y])) H4 → P (ys ++ [y]) H4
theorem onto_eq {D : Addr} {ys : List V} {n i : Nat} (h : i < n) (Pv : Nat → List V → Hp → Prop) :
    (fun (y : V) (H3 : Hp) => H3 D = some (.lst ys) ∧ ys.length < 16000000 ∧ ∀ H4, Chg H3 D (.lst (ys ++ [y])) H4 → ∃ m', m' < n - i ∧ m' = n - (i + 1) ∧ i + 1 ≤ n ∧ Pv (i + 1) (ys ++ [y]) H4) = Onto D ys (Pv (i + 1)) := by
  funext y H3
  apply propext
  simp only [nx_eq h]
theorem comp_by {J : It} {D : Addr} {caps : St} {te : CB → TE} {Q : VK} {H2 : Hp} (n : Nat) (Pv : Nat → List V → Hp → Prop) (h0 : Pv 0 [] H2)
    (hgo : ∀ i ys H, i < n → Pv i ys H → J.go i H) (hst : ∀ ys H, Pv n ys H → J.stop n H)
    (hs : ∀ i ys H x H' z, i < n → Pv i ys H → J.yld i H x H' → te z (some x :: caps) H' (Onto D ys (Pv (i + 1)))) (hd : ∀ ys H, Pv n ys H → Q (.ref D) H) :
    CompGo J D caps te Q H2 := by
  refine ⟨fun i m ys H => m = n - i ∧ i ≤ n ∧ Pv i ys H, ⟨n, by simp, Nat.zero_le _, h0⟩, ?_⟩
  rintro i m ys H ⟨rfl, hi, p⟩
  by_cases hlt : i < n
  · refine .inr ⟨hgo i ys H hlt p, fun x H' y z => ?_⟩
    rw [onto_eq hlt Pv]
    exact hs i ys H x H' z hlt p y
  · obtain rfl : i = n := by omega
    exact .inl ⟨hst ys H p, hd ys H p⟩
theorem comp_list {K : PySem.W.Frag} {a D : Addr} {xs : List V} {caps : St} {te : CB → TE} {Q : VK} {H2 : Hp} (Pv : Nat → List V → Hp → Prop) (h0 : Pv 0 [] H2) (hl : ∀ i ys H, i ≤ xs.length → Pv i ys H → SqL K H a xs)
    (hs : ∀ i x ys H z, xs[i]? = some x → Pv i ys H → te z (some x :: caps) H (Onto D ys (Pv (i + 1)))) (hd : ∀ ys H, Pv xs.length ys H → Q (.ref D) H) :
    CompGo (Itl K a) D caps te Q H2 := by
  refine comp_by xs.length Pv h0 (fun i ys H hi p => ?_) (fun ys H p => ?_) (fun i ys H x H' z hi p y => ?_) hd
  · exact ⟨xs, xs[i], hl i ys H (Nat.le_of_lt hi) p, by simp [hi]⟩
  · exact ⟨xs, hl _ ys H (Nat.le_refl _) p, by simp⟩
  · obtain ⟨e, y⟩ := y
    subst e
    exact hs i x ys _ z (y xs (hl i ys _ (Nat.le_of_lt hi) p)) p
theorem comp_range {lo : Int} {n : Nat} {D : Addr} {caps : St} {te : CB → TE} {Q : VK} {H2 : Hp} (Pv : Nat → List V → Hp → Prop) (h0 : Pv 0 [] H2)
    (hs : ∀ i ys H z, i < n → Pv i ys H → te z (some (.int (lo + i)) :: caps) H (Onto D ys (Pv (i + 1)))) (hd : ∀ ys H, Pv n ys H → Q (.ref D) H) :
    CompGo (Itr lo n) D caps te Q H2 := by
  refine comp_by n Pv h0 (fun i ys H hi p => hi) (fun ys H p => Nat.le_refl _) (fun i ys H x H' z hi p y => ?_) hd
  obtain ⟨e, y⟩ := y
  subst e y
  exact hs i ys _ z hi p
end L2
namespace L2
open PySem PySem.Spec PyProof.Rows
section
variable {X : Cx} {a b c : Expr} {ta tb tc : TE} {pos : Pos}
noncomputable def dgNil : TGs := fun vs σ H Q => match vs with | [] => Q σ H | _ => False
noncomputable def dgCons (t : TG) (u : TGs) : TGs := fun vs σ H Q => match vs with | v :: r => t v σ H fun σ' H' => u r σ' H' Q | [] => False
noncomputable def dgTup (K : PySem.W.Frag) (n : Nat) (t : TGs) : TG := fun v σ H Q => match v with | .ref a => ∃ xs, SqT K H a xs ∧ xs.length = n ∧ t xs σ H Q | _ => False
theorem gNil_eq : gNil = dgNil := by
  funext vs σ H Q
  apply propext
  cases vs <;> simp [gNil, dgNil]
theorem gCons_eq {t : TG} {u : TGs} : gCons t u = dgCons t u := by
  funext vs σ H Q
  apply propext
  cases vs with
  | nil => simp [gCons, dgCons]
  | cons v r => exact ⟨fun ⟨_, _, e, h⟩ => by cases e; exact h, fun h => ⟨v, r, rfl, h⟩⟩
theorem gTup_eq {K : PySem.W.Frag} {n : Nat} {t : TGs} : gTup K n t = dgTup K n t := by
  funext v σ H Q
  apply propext
  cases v <;> simp [gTup, dgTup]
theorem dg_nil : PGs X [] dgNil := gNil_eq ▸ pgs_nil
theorem dg_cons {e : Expr} {es : List Expr} {t : TG} {u : TGs} (h1 : PG X e t) (h2 : PGs X es u)
    (hs : (assignEach (e :: es) X.env).map (·.2) = assign e X.env :: (assignEach es X.env).map (·.2) := by rfl) : PGs X (e :: es) (dgCons t u) := gCons_eq ▸ pgs_cons h1 h2 hs
theorem dg_tup {es : List Expr} {k : Nat} {t : TGs} {n : Nat} (hc : X.calm = true) (h : PGs X es t)
    (hn : (assignEach es X.env).length = n := by rfl) (hst : (assignEach es X.env).findIdx? (·.1) = none := by rfl) : PG X (.Tuple es k pos) (dgTup X.K n t) := gTup_eq ▸ pg_tup hc h hn hst
noncomputable def dSetL : V → V → V → Hp → (Hp → Prop) → Prop := fun o i v H Q => match o, i with | .ref p, .int k => ∃ xs j, H p = some (.lst xs) ∧ ixN xs.length k = some j ∧ ∀ H', Chg H p (.lst (xs.set j v)) H' → Q H' | _, _ => False
theorem d_setL : PSet X dSetL := by
  intro pins s σ H o i v ov iv u Q I ro ri rv h
  refine set_list pins s σ H o i v ov iv u Q I ro ri rv ?_
  unfold dSetL at h
  split at h
  rotate_left
  · exact h.elim
  obtain ⟨xs, j, h1, h2, q⟩ := h
  exact ⟨_, xs, _, j, rfl, rfl, h1, h2, q _ .mk'⟩
end
end L2
namespace Lr
noncomputable def rt (a b : Int) : Rat := Rat.divInt a b
theorem rt_mk {a b : Int} (hb : b ≠ 0) : Lm.mk1 a b = (rt a b).num ∧ Lm.mk2 a b = ((rt a b).den : Int) := by
  have h1 : Rat.divInt (rt a b).num ((rt a b).den : Int) = Rat.divInt a b := Rat.num_divInt_den _
  have hd : ((rt a b).den : Int) ≠ 0 := by have := (rt a b).den_nz; omega
  have hx : (rt a b).num * b = a * ((rt a b).den : Int) := (Rat.divInt_eq_divInt_iff hd hb).mp h1
  refine Lm.mk_unique hb (by have := (rt a b).den_pos; omega) ?_ hx
  have := (rt a b).reduced
  exact this
theorem rt_self (x : Rat) : rt x.num x.den = x := Rat.num_divInt_den x
theorem den_pos (x : Rat) : 0 < (x.den : Int) := by have := x.den_pos; omega
theorem rt_add {a b c d : Int} (hb : b ≠ 0) (hd : d ≠ 0) : rt a b + rt c d = rt (a * d + c * b) (b * d) := Rat.divInt_add_divInt a c hb hd
theorem rt_sub {a b c d : Int} (hb : b ≠ 0) (hd : d ≠ 0) : rt a b - rt c d = rt (a * d - c * b) (b * d) := Rat.divInt_sub_divInt a c hb hd
theorem rt_mul {a b c d : Int} (hb : b ≠ 0) (hd : d ≠ 0) : rt a b * rt c d = rt (a * c) (b * d) := Rat.divInt_mul_divInt a c
theorem rt_eq {a b : Int} : rt a b = (a : Rat) / (b : Rat) := by unfold rt; rw [Rat.divInt_eq_div]
theorem add_eq (x y : Rat) : x + y = rt (x.num * y.den + y.num * x.den) (x.den * y.den) := by
  conv => lhs; rw [← rt_self x, ← rt_self y]
  exact rt_add (by have := den_pos x; omega) (by have := den_pos y; omega)
theorem sub_eq (x y : Rat) : x - y = rt (x.num * y.den - y.num * x.den) (x.den * y.den) := by
  conv => lhs; rw [← rt_self x, ← rt_self y]
  exact rt_sub (by have := den_pos x; omega) (by have := den_pos y; omega)
theorem mul_eq (x y : Rat) : x * y = rt (x.num * y.num) (x.den * y.den) := by
  conv => lhs; rw [← rt_self x, ← rt_self y]
  exact rt_mul (by have := den_pos x; omega) (by have := den_pos y; omega)
theorem div_eq (x y : Rat) (hy : y ≠ 0) : x / y = rt (x.num * y.den) (x.den * y.num) := by
  have hn : y.num ≠ 0 := fun h => hy (Rat.num_eq_zero.mp h)
  have hx := den_pos x
  have hyd := den_pos y
  rw [rt_eq]
  have ex : x = (x.num : Rat) / ((x.den : Int) : Rat) := by rw [← rt_eq]; exact (rt_self x).symm
  have ey : y = (y.num : Rat) / ((y.den : Int) : Rat) := by rw [← rt_eq]; exact (rt_self y).symm
  have h1 : ((x.den : Int) : Rat) ≠ 0 := by exact_mod_cast (show (x.den : Int) ≠ 0 by omega)
  have h2 : ((y.den : Int) : Rat) ≠ 0 := by exact_mod_cast (show (y.den : Int) ≠ 0 by omega)
  have h3 : (y.num : Rat) ≠ 0 := by exact_mod_cast hn
  conv => lhs; rw [ex, ey]
  rw [Rat.intCast_mul, Rat.intCast_mul]
  grind
theorem lt_iff (x y : Rat) : x < y ↔ x.num * y.den < y.num * x.den := Rat.lt_iff x y
theorem ext_iff {x y : Rat} : x = y ↔ x.num = y.num ∧ (x.den : Int) = y.den := by
  constructor
  · rintro rfl; exact ⟨rfl, rfl⟩
  · rintro ⟨h1, h2⟩
    exact Rat.ext h1 (by omega)
end Lr
namespace L2
open PySem PySem.Spec PyProof.Rows
noncomputable abbrev pr (x : Rat) : HO := .tup [.int x.num, .int (x.den : Int)]
noncomputable def KT (K : PySem.W.Frag) (a : Addr) (xs : List V) : Prop := ∃ (o : Obj) (its : Array Value) (n : Nat), K.lookup a = some o ∧ o.cls = .type "tuple" ∧ o.data = .seq its n ∧ its.size ≤ sizeLine ∧ Vals xs its.toList
theorem kt_mk {K : PySem.W.Frag} {a : Addr} {o : Obj} {i j i' j' : Int} {t u : Tok} {n : Nat} (h : K.lookup a = some o) (hc : o.cls = .type "tuple") (hd : o.data = .seq #[.int i t, .int j u] n) (ei : i = i') (ej : j = j') : KT K a [.int i', .int j'] := by
  subst ei ej
  exact ⟨o, _, n, h, hc, hd, by show 2 ≤ sizeLine; decide, .cons ⟨_, rfl⟩ (.cons ⟨_, rfl⟩ .nil)⟩
noncomputable def RatV (K : PySem.W.Frag) (H : Hp) (v : V) (x : Rat) : Prop := ∃ a, v = .ref a ∧ (H a = some (pr x) ∨ KT K a [.int x.num, .int (x.den : Int)])
variable {K : PySem.W.Frag}
theorem RatV.sq {H : Hp} {v : V} {x : Rat} (h : RatV K H v x) : ∃ a, v = .ref a ∧ SqT K H a [.int x.num, .int (x.den : Int)] := by
  obtain ⟨a, e, h | h⟩ := h
  · exact ⟨a, e, SqT.of h⟩
  · exact ⟨a, e, .inr h⟩
theorem RatV.k {H : Hp} {a : Addr} {x : Rat} {i j : Int} (h : KT K a [.int i, .int j]) (e1 : x.num = i) (e2 : (x.den : Int) = j) : RatV K H (.ref a) x := ⟨a, rfl, .inr (by rw [e1, e2]; exact h)⟩
noncomputable def TpS (H H' : Hp) : Prop := ∀ a xs, H a = some (.tup xs) → H' a = some (.tup xs)
theorem Same.ts {H H' : Hp} (s : Same H H') : TpS H H' := fun a xs h => s a _ h
theorem New.ts {H H' : Hp} {p : Addr} {o : HO} (n : New H p o H') : TpS H H' := n.same.ts
theorem Chg.ts {H H' : Hp} {l : Addr} {ys : List V} {o : HO} (c : Chg H l o H') (h : H l = some (.lst ys)) : TpS H H' := fun a xs e => by rw [c.oth a (ne_of e h (by intro z; cases z))]; exact e
theorem RatV.ts {H H' : Hp} {v : V} {x : Rat} (s : TpS H H') (h : RatV K H v x) : RatV K H' v x := by
  obtain ⟨a, e, h | h⟩ := h
  · exact ⟨a, e, .inl (s a _ h)⟩
  · exact ⟨a, e, .inr h⟩
theorem RatV.same {H H' : Hp} {v : V} {x : Rat} (s : Same H H') (h : RatV K H v x) : RatV K H' v x := h.ts s.ts
theorem RatV.new {H H' : Hp} {p : Addr} {x : Rat} (n : New H p (pr x) H') : RatV K H' (.ref p) x := ⟨p, rfl, .inl n.at_⟩
structure RatsV (K : PySem.W.Frag) (H : Hp) (vs : List V) (xs : List Rat) : Prop where
  len : vs.length = xs.length
  at_ : ∀ (j : Nat) (v : V) (x : Rat), vs[j]? = some v → xs[j]? = some x → RatV K H v x
theorem RatsV.ts {H H' : Hp} {vs : List V} {xs : List Rat} (s : TpS H H') (h : RatsV K H vs xs) : RatsV K H' vs xs := ⟨h.len, fun j v x a b => (h.at_ j v x a b).ts s⟩
theorem RatsV.nil {H : Hp} : RatsV K H [] [] := ⟨rfl, fun j v x h => by simp at h⟩
theorem RatsV.snoc {H : Hp} {vs : List V} {xs : List Rat} {v : V} {x : Rat} (h : RatsV K H vs xs) (g : RatV K H v x) : RatsV K H (vs ++ [v]) (xs ++ [x]) := by
  refine ⟨by simp [h.len], fun j w y a b => ?_⟩
  by_cases hj : j < vs.length
  · rw [List.getElem?_append_left hj] at a
    rw [List.getElem?_append_left (by rw [← h.len]; exact hj)] at b
    exact h.at_ j w y a b
  · rw [List.getElem?_append_right (by omega)] at a
    rw [List.getElem?_append_right (by rw [← h.len]; omega)] at b
    have e : j - vs.length = 0 := by
      have := (List.getElem?_eq_some_iff.mp a).1
      simp at this
      omega
    have e' : j - xs.length = 0 := by rw [← h.len]; exact e
    rw [e] at a
    rw [e'] at b
    simp at a b
    subst a b
    exact g
theorem RatsV.app {H : Hp} {vs ws : List V} {xs ys : List Rat} (h : RatsV K H vs xs) (g : RatsV K H ws ys) : RatsV K H (vs ++ ws) (xs ++ ys) := by
  refine ⟨by simp [h.len, g.len], fun j w y a b => ?_⟩
  by_cases hj : j < vs.length
  · rw [List.getElem?_append_left hj] at a
    rw [List.getElem?_append_left (by rw [← h.len]; exact hj)] at b
    exact h.at_ j w y a b
  · rw [List.getElem?_append_right (by omega)] at a
    rw [List.getElem?_append_right (by rw [← h.len]; omega), ← h.len] at b
    exact g.at_ _ w y a b
theorem RatsV.get {H : Hp} {vs : List V} {xs : List Rat} {j : Nat} {v : V} (h : RatsV K H vs xs) (e : vs[j]? = some v) : ∃ x, xs[j]? = some x ∧ RatV K H v x := by
  have hj : j < xs.length := by rw [← h.len]; exact (List.getElem?_eq_some_iff.mp e).1
  exact ⟨_, List.getElem?_eq_getElem hj, h.at_ j v _ e (List.getElem?_eq_getElem hj)⟩
noncomputable def RatL (K : PySem.W.Frag) (H : Hp) (a : Addr) (xs : List Rat) : Prop := ∃ vs, H a = some (.lst vs) ∧ RatsV K H vs xs
theorem RatL.same {H H' : Hp} {a : Addr} {xs : List Rat} (s : Same H H') (h : RatL K H a xs) : RatL K H' a xs := let ⟨vs, e, r⟩ := h; ⟨vs, s _ _ e, r.ts s.ts⟩
structure Sz (k : Nat) (x : Rat) : Prop where
  n : Bd k x.num
  d : Bd k (x.den : Int)
theorem Sz.mono {m n : Nat} {x : Rat} (h : Sz m x) (l : m ≤ n) : Sz n x := ⟨h.n.mono l, h.d.mono l⟩
theorem Sz.rt {m n : Nat} {a b : Int} (hb : b ≠ 0) (h1 : Bd n a) (h2 : Bd n b) (l : n ≤ m) : Sz m (Lr.rt a b) := by
  have e := Lr.rt_mk (a := a) hb
  refine ⟨?_, ?_⟩
  · rw [← e.1]; exact (h1.of_le (Lm.mk1_le _ _ hb)).mono l
  · rw [← e.2]; exact (h2.of_le (Lm.mk2_le _ _ hb)).mono l
theorem den_ne (x : Rat) : (x.den : Int) ≠ 0 := by have := Lr.den_pos x; omega
theorem Sz.add {m n : Nat} {x y : Rat} (h1 : Sz m x) (h2 : Sz n y) : Sz (m + n + 1) (x + y) := by
  rw [Lr.add_eq]
  refine Sz.rt (n := m + n + 1) (Int.mul_ne_zero (den_ne x) (den_ne y)) ?_ ((h1.d.mul h2.d (Nat.le_refl _)).mono (by omega)) (Nat.le_refl _)
  exact Bd.add (m := m + n) (h1.n.mul h2.d (Nat.le_refl _)) ((h2.n.mul h1.d (Nat.le_refl _)).mono (by omega)) (Nat.le_refl _)
theorem Sz.sub {m n : Nat} {x y : Rat} (h1 : Sz m x) (h2 : Sz n y) : Sz (m + n + 1) (x - y) := by
  rw [Lr.sub_eq]
  refine Sz.rt (n := m + n + 1) (Int.mul_ne_zero (den_ne x) (den_ne y)) ?_ ((h1.d.mul h2.d (Nat.le_refl _)).mono (by omega)) (Nat.le_refl _)
  exact Bd.sub (m := m + n) (h1.n.mul h2.d (Nat.le_refl _)) ((h2.n.mul h1.d (Nat.le_refl _)).mono (by omega)) (Nat.le_refl _)
theorem Sz.mul {m n : Nat} {x y : Rat} (h1 : Sz m x) (h2 : Sz n y) : Sz (m + n) (x * y) := by
  rw [Lr.mul_eq]
  exact Sz.rt (n := m + n) (Int.mul_ne_zero (den_ne x) (den_ne y)) (h1.n.mul h2.n (Nat.le_refl _)) (h1.d.mul h2.d (Nat.le_refl _)) (Nat.le_refl _)
theorem Sz.div {m n : Nat} {x y : Rat} (h1 : Sz m x) (h2 : Sz n y) (hy : y ≠ 0) : Sz (m + n) (x / y) := by
  rw [Lr.div_eq x y hy]
  have hn : y.num ≠ 0 := fun h => hy (Rat.num_eq_zero.mp h)
  exact Sz.rt (n := m + n) (Int.mul_ne_zero (den_ne x) hn) (h1.n.mul h2.d (Nat.le_refl _)) (h1.d.mul h2.n (Nat.le_refl _)) (Nat.le_refl _)
theorem Sz.zero : Sz 1 (0 : Rat) := ⟨Bd.of_lt (by decide), Bd.of_lt (by decide)⟩
theorem Chg.new {H1 H3 H4 : Hp} {D : Addr} {o o' : HO} (n : New H1 D o H3) (c : Chg H3 D o' H4) : New H1 D o' H4 := ⟨n.fr, c.at_, fun b hb => by rw [c.oth b hb, n.oth b hb]⟩
theorem comp_ints {K : PySem.W.Frag} {a D : Addr} {ws : List Int} {caps : St} {te : CB → TE} {Q : VK} {H1 H2 : Hp} (f : Int → Int) (n : New H1 D (.lst []) H2) (hS : SqL K H1 a (ws.map V.int)) (hlen : ws.length ≤ 1000000)
    (hte : ∀ w ∈ ws, ∀ z H' (R : VK), R (.int (f w)) H' → te z (some (.int w) :: caps) H' R) (hq : ∀ H', New H1 D (.lst ((ws.map f).map V.int)) H' → Q (.ref D) H') :
    CompGo (Itl K a) D caps te Q H2 := by
  refine comp_list (xs := ws.map V.int) (fun i ys H' => ys = ((ws.take i).map f).map V.int ∧ New H1 D (.lst ys) H') ⟨rfl, n⟩ (fun i ys H' _ h => h.2.same.seq hS) ?_ ?_
  · rintro i x ys H' z hx ⟨rfl, hn⟩
    rw [List.getElem?_map] at hx
    obtain ⟨w, hw, rfl⟩ := Option.map_eq_some_iff.mp hx
    refine hte w (List.mem_of_getElem? hw) z H' _ ⟨hn.at_, ?_, fun H4 c => ⟨?_, Chg.new hn c⟩⟩
    · rw [List.length_map, List.length_map, List.length_take]
      omega
    · rw [List.take_add_one, hw, List.map_append, List.map_append]
      rfl
  · rintro ys H' ⟨rfl, hn⟩
    rw [List.length_map, List.take_length] at hn
    exact hq H' hn
theorem comp_rats {K : PySem.W.Frag} {a D : Addr} {us : List V} {xs : List Rat} {caps : St} {te : CB → TE} {Q : VK} {H1 H2 : Hp} (n : New H1 D (.lst []) H2) (hS : SqL K H1 a us) (hlen : us.length ≤ 1000000) (hx : us.length = xs.length)
    (hte : ∀ (j : Nat) u x, us[j]? = some u → xs[j]? = some x → ∀ z H', Same H1 H' → ∀ (R : VK), (∀ v H3, Same H' H3 → RatV K H3 v x → R v H3) → te z (some u :: caps) H' R)
    (hq : ∀ H', Same H1 H' → RatL K H' D xs → H1 D = none → Q (.ref D) H') :
    CompGo (Itl K a) D caps te Q H2 := by
  refine comp_list (xs := us) (fun i ys H' => Same H1 H' ∧ H' D = some (.lst ys) ∧ RatsV K H' ys (xs.take i)) ⟨n.same, n.at_, .nil⟩ (fun i ys H' _ h => h.1.seq hS) ?_ ?_
  · rintro i u ys H' z hu ⟨s, hD, hr⟩
    have hi : i < xs.length := by rw [← hx]; exact (List.getElem?_eq_some_iff.mp hu).1
    have hxi := List.getElem?_eq_getElem hi
    refine hte i u xs[i] hu hxi z H' s _ fun v H3 s3 r => ⟨s3 _ _ hD, ?_, fun H4 c => ⟨c.same (s.trans s3) n.fr, c.at_, ?_⟩⟩
    · rw [hr.len, List.length_take]
      omega
    · have t := c.ts (s3 _ _ hD)
      rw [List.take_add_one, hxi]
      exact ((hr.ts s3.ts).ts t).snoc (r.ts t)
  · rintro ys H' ⟨s, hD, hr⟩
    rw [hx, List.take_length] at hr
    exact hq H' s ⟨ys, hD, hr⟩ n.fr
theorem dec_rat {x y : Rat} : (decide (x.num = y.num) && decide ((x.den : Int) = (y.den : Int))) = decide (x = y) := by
  by_cases h : x = y
  · subst h; simp
  · rw [decide_eq_false h]
    by_cases h1 : x.num = y.num
    · by_cases h2 : (x.den : Int) = y.den
      · exact absurd (Lr.ext_iff.mpr ⟨h1, h2⟩) h
      · rw [decide_eq_false h2, Bool.and_false]
    · rw [decide_eq_false h1, Bool.false_and]
section
variable {X : Cx}
noncomputable def dEqR (K : PySem.W.Frag) : R2 := fun x y H Q => ∃ p q, RatV K H x p ∧ RatV K H y q ∧ Q (.bl (decide (p = q))) H
theorem d_eqR (hu : X.A.units < cLine) : OpR X (compareOp .Eq) (dEqR X.K) := (op_eqT hu).imp fun x y H Q ⟨p, q, r1, r2, k⟩ => let ⟨a, e1, h1⟩ := r1.sq; let ⟨b, e2, h2⟩ := r2.sq; ⟨a, b, _, _, _, _, e1, e2, h1, h2, by rw [dec_rat]; exact k⟩
theorem d_eqRL2 (hu : X.A.units + 1 < cLine) : OpR X (compareOp .Eq) (dEqX (RatV X.K) X.K false) ∧ OpR X (compareOp .NotEq) (dEqX (RatV X.K) X.K true) := by
  refine d_eqX (At := RatV X.K) hu ?_
  intro pins σ H s I x y u v p q rx ry h1 h2
  obtain ⟨a, rfl, g1⟩ := h1.sq
  obtain ⟨b, rfl, g2⟩ := h2.sq
  cases rx
  cases ry
  have := eqPair I (p := (p.num, (p.den : Int))) (q := (q.num, (q.den : Int))) hu g1 g2
  have e : decide ((p.num, (p.den : Int)) = (q.num, (q.den : Int))) = decide (p = q) := by
    rw [← dec_rat]
    by_cases z1 : p.num = q.num
    · by_cases z2 : (p.den : Int) = q.den
      · simp [z1, z2]
      · simp [z2]
    · simp [z1]
  rw [e] at this
  exact this
noncomputable def dEqRL (K : PySem.W.Frag) (neg : Bool) : R2 := fun x y H Q => match x, y with | .ref l, .ref m => ∃ xs ys, RatL K H l xs ∧ RatL K H m ys ∧ Q (.bl (if neg then !decide (xs = ys) else decide (xs = ys))) H | _, _ => False
theorem dEqRL_of {neg : Bool} {x y : V} {H : Hp} {Q : VK} (h : dEqRL X.K neg x y H Q) : dEqX (RatV X.K) X.K neg x y H Q := by
  unfold dEqRL at h
  split at h
  rotate_left
  · exact h.elim
  obtain ⟨xs, ys, ⟨vs, e1, r1⟩, ⟨ws, e2, r2⟩, k⟩ := h
  exact ⟨vs, ws, xs, ys, SqL.of e1, SqL.of e2, r1.len, r2.len, r1.at_, r2.at_, k⟩
theorem d_neRL (hu : X.A.units + 1 < cLine) : OpR X (compareOp .NotEq) (dEqRL X.K true) := (d_eqRL2 hu).2.imp fun _ _ _ _ h => dEqRL_of h
noncomputable def dIxR (K : PySem.W.Frag) : R2 := fun x y H Q => match y with | .int i => ∃ r, RatV K H x r ∧ (i = 0 ∧ Q (.int r.num) H ∨ i = 1 ∧ Q (.int (r.den : Int)) H) | _ => False
theorem d_ixR : IxR X (dIxR X.K) := ix_tup.imp fun x y H Q h => by
  cases y <;> first | exact h.elim | skip
  obtain ⟨r, ha, h⟩ := h
  obtain ⟨a, rfl, ga⟩ := ha.sq
  rcases h with ⟨rfl, q⟩ | ⟨rfl, q⟩
  · exact ⟨a, _, _, _, rfl, rfl, ga, rfl, q⟩
  · exact ⟨a, _, _, _, rfl, rfl, ga, rfl, q⟩
end
end L2
namespace L2
open PySem PySem.Spec PyProof.Rows
section
variable {X : Cx}
end
end L2
namespace L2
open PySem PySem.Spec PyProof.Rows
section
variable {X : Cx} {pins : List (Addr × Obj)} {σ : St} {H : Hp} {s : Shared} {scope : Scope} {cl : List (Str × Addr)} {C : Addr} {ns : List Str} {fp : List Addr}
theorem Inv.comp2 {h₁ : Heap} {tk : Nat} {m₁ : Str → Option Value} {x x2 : Str} {cs : List Str} {ix : List Nat} (I : Inv X pins σ H s) (ok : (X.comp scope cl C (x :: x2 :: cs) s H fp).Ok)
    (h1 : ∀ y c, cl.lookup y = some c → X.env.cells.lookup y = some c) (h2 : ∀ y, (y, NameKind.free) ∈ scope.names → ∃ c, cl.lookup y = some c)
    (hC : s.heap.objs.size ≤ C) (hn : h₁.Ns C m₁) (keep : ∀ b o, s.heap.get? b = some o → h₁.get? b = some o)
    (hix : ix.map (fun i => X.N[i]?) = cs.map some) (hfr : ∀ y ∈ cs, scope.names.lookup y = some .free) (hout : ∀ y ∈ cs, X.env.scope.names.lookup y = some .cell ∨ X.env.scope.names.lookup y = some .free) :
    Inv (X.comp scope cl C (x :: x2 :: cs) s H fp) [] (none :: none :: capsOf ix σ) H { s with heap := h₁, toks := tk } where
  ok := ok
  os := rfl
  bare := I.bare
  base := Un.kept keep
  loc := by
    refine ⟨m₁, hn, fun i y v e1 e2 _ => ?_⟩
    match i, e1, e2 with
    | 0, _, e2 => cases e2
    | 1, _, e2 => cases e2
    | j + 2, e1, e2 =>
      have e1' : cs[j]? = some y := e1
      have e2' : (ix.map (nth σ))[j]? = some (some v) := e2
      rw [List.getElem?_map] at e2'
      obtain ⟨k, hk, hv⟩ := Option.map_eq_some_iff.mp e2'
      have e3 : X.N[k]? = some y := by
        have z := congrArg (fun l => l[j]?) hix
        simp only [List.getElem?_map] at z
        rw [hk, e1'] at z
        simpa using z
      have hy := List.mem_of_getElem? e1'
      obtain ⟨m, hm, hl⟩ := I.loc
      obtain ⟨u, r, l⟩ := hl k y v e3 (nth_iff.mpr hv) (by rcases hout y hy with z | z; exact .inr (.inl z); exact .inr (.inr z))
      refine ⟨u, r, .inr ⟨lookup_relabel_free (env := X.env) (hfr y hy), ?_⟩⟩
      rcases l with ⟨k1, _⟩ | ⟨_, c, hc, z⟩
      · have k1' : X.env.scope.names.lookup y = some .local := k1
        rcases hout y hy with w | w <;> (rw [k1'] at w; cases w)
      · have hmem : (y, NameKind.free) ∈ scope.names := mem_of_lookup (hfr y hy)
        obtain ⟨c', hc'⟩ := h2 y hmem
        have := h1 y c' hc'
        rw [hc] at this
        cases this
        obtain ⟨o, ho, hd⟩ := z
        exact ⟨c, hc', o, keep _ _ ho, hd⟩
  cell := fun y c e => by
    obtain ⟨v, o, ho, hd⟩ := I.cell y c (h1 y c e)
    exact ⟨v, o, keep _ _ ho, hd⟩
  free := I.hok.fresh hC
  freeC := fun y c e => I.freeC y c (h1 y c e)
  pin := fun p hp => by simp at hp
  hok := I.hok.kept keep
  len := by
    show (none :: none :: capsOf ix σ).length = (x :: x2 :: cs).length
    have := congrArg List.length hix
    rw [List.length_map, List.length_map] at this
    simp [capsOf, this]
end
noncomputable def CompGo2 (K : PySem.W.Frag) (J : It) (D : Addr) (caps : St) (te : CB → TE) (Q : VK) (H2 : Hp) : Prop := ∃ W : Nat → Nat → List V → Hp → Prop, (∃ m, W 0 m [] H2) ∧ ∀ i m ys H, W i m ys H →
  (J.stop i H ∧ Q (.ref D) H) ∨ (J.go i H ∧ ∀ x H', J.yld i H x H' → ∀ z, ∃ a v1 v2, x = .ref a ∧ SqT K H' a [v1, v2] ∧ te z (some v1 :: some v2 :: caps) H' fun y H3 => H3 D = some (.lst ys) ∧ ys.length < 16000000 ∧ ∀ H4, Chg H3 D (.lst (ys ++ [y])) H4 → ∃ m', m' < m ∧ W (i + 1) m' (ys ++ [y]) H4)
noncomputable def tComp2 (K : PySem.W.Frag) (wi : TI) (ix : List Nat) (te : CB → TE) : TE := fun σ H Q => wi σ H fun J H1 => ∀ D H2, New H1 D (.lst []) H2 → CompGo2 K J D (capsOf ix σ) te Q H2
section
variable {X : Cx}
theorem comp_core2 {elt iter : Expr} {x x2 : Str} {px px2 : Pos} {kt : Nat} {pt : Pos} {scope : Scope} {pos : Pos} {cs : List Str} {ix : List Nat} {te : CB → TE} {pins : List (Addr × Obj)} {σ : St} {H : Hp} {s : Shared} {J : It} {it : Addr} {fp : List Addr} {tn : Nat → Heap → Prop}
    {cl : List (Str × Addr)} {E : Value → Shared → Prop} {Q : V → Hp → Prop} {RR : Value → Addr → Result → Shared → Prop}
    (hc : X.calm = true) (hkind : scope.kind = .function) (hcell : ∀ y ∈ scope.names, y.2 ≠ .cell) (hx : scope.names.lookup x = some .local) (hx2 : scope.names.lookup x2 = some .local) (hN : (x :: x2 :: cs).Nodup)
    (hix : ix.map (fun i => X.N[i]?) = cs.map some) (hfr : ∀ y ∈ cs, scope.names.lookup y = some .free) (hout : ∀ y ∈ cs, X.env.scope.names.lookup y = some .cell ∨ X.env.scope.names.lookup y = some .free)
    (h1 : ∀ y c, cl.lookup y = some c → X.env.cells.lookup y = some c) (h2 : ∀ y, (y, NameKind.free) ∈ scope.names → ∃ c, cl.lookup y = some c)
    (helt : ∀ z : CB, PE (X.comp scope z.cl z.C (x :: x2 :: cs) z.s z.H z.fp) elt (te z))
    (I : Inv X pins σ H s) (T : Turn X.prog X.w X.K (.Tuple [.Name x px, .Name x2 px2] kt pt) J fp it tn) (st0 : tn 0 s.heap) (hf : ∀ b ∈ fp, FpOk X pins H b)
    (h : ∀ D H2, New H D (.lst []) H2 → ∃ W : Nat → Nat → List V → Hp → Prop, (∃ m, W 0 m [] H2) ∧ ∀ i m ys H, W i m ys H →
      (J.stop i H ∧ Q (.ref D) H) ∨ (J.go i H ∧ ∀ x H', J.yld i H x H' → ∀ z, ∃ a v1 v2, x = .ref a ∧ SqT X.K H' a [v1, v2] ∧ te z (some v1 :: some v2 :: capsOf ix σ) H' fun y H3 => H3 D = some (.lst ys) ∧ ys.length < 16000000 ∧ ∀ H4, Chg H3 D (.lst (ys ++ [y])) H4 → ∃ m', m' < m ∧ W (i + 1) m' (ys ++ [y]) H4))
    (hRR : ∀ D C s1 H', (∃ m, s1.heap.Ns C m) → (∀ h', Heap.SameBut C s1.heap h' → Inv X pins σ H' { s1 with heap := h' }) → FpOk X pins H' C → Q (.ref D) H' → RR (.ref D) C (.ok .next) s1) :
    wpAny (model X.prog X.w) X.A (newList []) (fun acc s₃ => wpAny (model X.prog X.w) X.A (newFunctionEnv scope X.env.globals cl [] X.env.qual none .none (some X.env)) (fun cenv s₄ =>
      codeAny (model X.prog X.w) X.A (.compStart (.ListComp elt [⟨.Tuple [.Name x px, .Name x2 px2] kt pt, iter, [], 0⟩] scope pos) 0 (.ref it) acc { cenv with scope := relabel scope X.env }) (RR acc cenv.locals) s₄) E s₃) E s := by
  refine wpAny_newObj_type ?_
  have fD : H s.heap.objs.size = none := I.hok.fresh (Nat.le_refl _)
  have I3 : Inv X pins σ (upd H s.heap.objs.size (.lst [])) { s with heap := s.heap.push { cls := .type "list", data := .seq ([] : List Value).toArray } } := by
    refine I.laid (t' := s.toks) (fun b u e => Heap.get?_push_of_some _ e) (Nat.le_refl _) ?_
    exact ⟨Nat.zero_le _, [], _, .nil, Heap.get?_push_size _ rfl⟩
  have n3 : New H s.heap.objs.size (.lst []) (upd H s.heap.objs.size (.lst [])) := .mk' fD
  generalize hD : s.heap.objs.size = D at *
  obtain ⟨W, ⟨m0, w0⟩, turn⟩ := h D _ n3
  have st3 : tn 0 (s.heap.push { cls := .type "list", data := .seq ([] : List Value).toArray }) := T.keep 0 _ _ st0 fun b _ o e => Heap.get?_push_of_some _ e
  have fpD : ∀ b ∈ fp, b ≠ D := fun b hb z => by
    obtain ⟨o, e, _⟩ := T.obj 0 _ st0 b hb
    exact absurd (Heap.lt_size e) (by rw [z, hD]; exact Nat.lt_irrefl _)
  have hf3 : ∀ b ∈ fp, FpOk X pins (upd H D (.lst [])) b := fun b hb => by
    obtain ⟨f0, r⟩ := hf b hb
    exact ⟨by rw [upd_ne (fpD b hb)]; exact f0, r⟩
  generalize hs3 : ({ s with heap := s.heap.push { cls := .type "list", data := .seq ([] : List Value).toArray } } : Shared) = s3 at *
  have st3' : tn 0 s3.heap := by rw [← hs3]; exact st3
  generalize upd H D (.lst []) = H3 at *
  refine wpAny_newFunctionEnv hcell (by intro y hy; simp at hy) (fun h₁ hns₁ hsb₁ => ?_) hkind
  have keep : ∀ b o, s3.heap.get? b = some o → h₁.get? b = some o := fun b o e => hsb₁.extBut b o (Nat.ne_of_lt (Heap.lt_size e)) (Heap.get?_push_of_some _ e)
  have hfs : ∀ b ∈ fp, b < s3.heap.objs.size := fun b hb => by
    obtain ⟨o, e, _⟩ := T.obj 0 _ st3' b hb
    exact Heap.lt_size e
  have ok := I3.compOk (ns := x :: x2 :: cs) hkind hcell (Nat.le_refl _) h1 h2 hf3 hfs
  have I4 := I3.comp2 (tk := s3.toks + ([] : List (Str × Value)).length) ok h1 h2 (Nat.le_refl _) hns₁ keep hix hfr hout
  have st4 : tn 0 h₁ := T.keep 0 _ _ st3' fun b _ o e => keep b o e
  generalize hC : s3.heap.objs.size = C at *
  have stat : ∀ {H' : Hp} {pins'}, pins' = [] → (∀ b ∈ fp, H' b = none) → ∀ b ∈ fp, FpOk (X.comp scope cl C (x :: x2 :: cs) s3 H3 fp) pins' H' b := fun hp hn b hb => by
    subst hp
    exact ⟨hn b hb, (ok.exf b hb).1, ok.exfs b hb, .inl hb, (ok.exf b hb).2, fun p hp => by simp at hp⟩
  have hPG : PG (X.comp scope cl C (x :: x2 :: cs) s3 H3 fp) (.Tuple [.Name x px, .Name x2 px2] kt pt) (dgTup X.K 2 (dgCons (gName 0) (dgCons (gName 1) dgNil))) :=
    dg_tup (X := X.comp scope cl C (x :: x2 :: cs) s3 H3 fp) hc (dg_cons (pg_name (X := X.comp scope cl C (x :: x2 :: cs) s3 H3 fp) (i := 0) hN rfl (.inl (lookup_relabel_local hx)) (.inr (lookup_relabel_local hx))) (dg_cons (pg_name (X := X.comp scope cl C (x :: x2 :: cs) s3 H3 fp) (i := 1) hN rfl (.inl (lookup_relabel_local hx2)) (.inr (lookup_relabel_local hx2))) dg_nil))
  have loop : ∀ s5 : Shared, s5 = { s3 with heap := h₁, toks := s3.toks + ([] : List (Str × Value)).length } →
      codeAny (model X.prog X.w) X.A (.compLoop (.ListComp elt [⟨.Tuple [.Name x px, .Name x2 px2] kt pt, iter, [], 0⟩] scope pos) 0 (.ref it) (.ref D) (compEnvC scope cl C X.env)) (RR (.ref D) C) s5 := by
    rintro s5 rfl
    refine LCp.codeAny_compLoop_pair (fun n s' => ∃ i v0 v1 H' ys, Inv (X.comp scope cl C (x :: x2 :: cs) s3 H3 fp) [] (v0 :: v1 :: capsOf ix σ) H' s' ∧ tn i s'.heap ∧ (∀ b ∈ fp, H' b = none) ∧ W i n ys H') ?_ m0 ⟨0, none, none, H3, [], I4, st4, fun b hb => (hf3 b hb).1, w0⟩
    rintro n s6 ⟨i, v0, v1, H6, ys, I6, st6, fr6, w6⟩
    rcases turn i n ys H6 w6 with ⟨stop, qn⟩ | ⟨go, step⟩
    · refine wpAny_mono (T.done (X.comp scope cl C (x :: x2 :: cs) s3 H3 fp) rfl rfl rfl hc i [] s6 _ H6 (fun _ _ => False) I6 (stat rfl fr6) st6 stop) (fun r s7 ⟨hr, I7⟩ => ?_) fun _ _ z => z.elim
      subst hr
      exact hRR D C s7 H6 (by obtain ⟨m, hm, _⟩ := I7.loc; exact ⟨m, hm⟩) (fun h' hs => I3.uncomp I7 hf3 hs) (I3.fpOk (Nat.le_of_eq hC) I7.free) qn
    · refine wpAny_mono (T.item (X.comp scope cl C (x :: x2 :: cs) s3 H3 fp) rfl rfl rfl hc i [] s6 _ H6 (fun _ _ => False) I6 (stat rfl fr6) st6 go) (fun r s7 ⟨u, hr, h7⟩ => ?_) fun _ _ z => z.elim
      subst hr
      refine wpAny_mono h7 (fun _ s8 ⟨xv, H8, I8, r8, y8, st8, fr8⟩ => ?_) fun _ _ z => z.elim
      have I8' := I8.pinned (stat rfl fr8) (T.obj _ _ st8)
      obtain ⟨pa, w1, w2, ex, hsq, stp⟩ := step xv H8 y8 ⟨cl, C, s3, H3, fp⟩
      subst ex
      refine wpAny_mono (hPG _ s8 _ H8 (.ref pa) u (fun σ9 H9 => σ9 = some w1 :: some w2 :: capsOf ix σ ∧ H9 = H8) I8' r8 ⟨_, hsq, rfl, rfl, rfl⟩) (fun _ s9 ⟨σ9, H9, I9, e1, e2⟩ => ?_) fun _ _ z => z.elim
      subst e1 e2
      have again : ∀ {H7 : Hp} {s7 : Shared} {zs : List V} {m' : Nat}, Inv (X.comp scope cl C (x :: x2 :: cs) s3 H3 fp) ([] ++ pinsAt fp s8.heap) (some w1 :: some w2 :: capsOf ix σ) H7 s7 → m' < n → W (i + 1) m' zs H7 →
          ∃ m, m < n ∧ ∃ i v0 v1 H' ys, Inv (X.comp scope cl C (x :: x2 :: cs) s3 H3 fp) [] (v0 :: v1 :: capsOf ix σ) H' s7 ∧ tn i s7.heap ∧ (∀ b ∈ fp, H' b = none) ∧ W i m ys H' := fun {H7 s7 zs m'} I7 hm w7 => by
        refine ⟨m', hm, i + 1, _, _, H7, zs, I7.unpinned, T.keep _ _ _ st8 fun b hb o e => (I7.pin (b, o) (List.mem_append_right _ (List.mem_append_right _ (mem_pinsAt hb e)))).1, fun b hb => ?_, w7⟩
        obtain ⟨o, e, d⟩ := T.obj _ _ st8 b hb
        exact (I7.pin (b, o) (List.mem_append_right _ (List.mem_append_right _ (mem_pinsAt hb e)))).2.1
      have body : ∀ {H5 : Hp} {s5 : Shared}, Inv (X.comp scope cl C (x :: x2 :: cs) s3 H3 fp) ([] ++ pinsAt fp s8.heap) (some w1 :: some w2 :: capsOf ix σ) H5 s5 →
          (te ⟨cl, C, s3, H3, fp⟩ (some w1 :: some w2 :: capsOf ix σ) H5 fun y H3 => H3 D = some (.lst ys) ∧ ys.length < 16000000 ∧ ∀ H4, Chg H3 D (.lst (ys ++ [y])) H4 → ∃ m', m' < n ∧ W (i + 1) m' (ys ++ [y]) H4) →
          ∀ E' : Value → Shared → Prop, wpAny (model X.prog X.w) X.A (eval elt (compEnvC scope cl C X.env)) (fun y s4 => wpAny (model X.prog X.w) X.A (call (.builtin "list.append") [.ref D, y]) (fun _ s5 => ∃ m, m < n ∧ ∃ i v0 v1 H' ys, Inv (X.comp scope cl C (x :: x2 :: cs) s3 H3 fp) [] (v0 :: v1 :: capsOf ix σ) H' s5 ∧ tn i s5.heap ∧ (∀ b ∈ fp, H' b = none) ∧ W i m ys H') E' s4) E' s5 := fun {H5 s5} I5 q5 E' => by
        refine wpAny_mono (helt ⟨cl, C, s3, H3, fp⟩ _ s5 _ H5 _ I5 q5) (fun y s10 ⟨yv, H10, I10, r10, hDy, hl, q10⟩ => ?_) fun _ _ z => z.elim
        refine wpAny_mono (mt_append (X := X.comp scope cl C (x :: x2 :: cs) s3 H3 fp) _ s10 _ H10 (.ref D) [yv] (.ref D) [y] (fun _ H11 => ∃ m', m' < n ∧ W (i + 1) m' (ys ++ [yv]) H11) I10 rfl (.cons r10 .nil) ⟨D, ys, yv, rfl, rfl, hDy, Nat.lt_of_lt_of_le hl (by decide), q10 _ .mk'⟩) (fun _ s11 ⟨_, H11, I11, _, m', hm, w11⟩ => ?_) fun _ _ z => z.elim
        exact again I11 hm w11
      exact body I9 stp _
  exact codeAny_compStart_list (loop _ rfl) (T.self X.A 0 _ _ _ st4 (loop _ rfl))
theorem pe_comp2 {elt iter : Expr} {x x2 : Str} {px px2 : Pos} {kt : Nat} {pt : Pos} {scope : Scope} {pos : Pos} {wi : TI} {te : CB → TE} (sc0 : Scope) (cs : List Str) (ix : List Nat) (hc : X.calm = true) (hi : PI X (.Tuple [.Name x px, .Name x2 px2] kt pt) iter wi)
    (helt : ∀ z : CB, PE (X.comp scope z.cl z.C (x :: x2 :: cs) z.s z.H z.fp) elt (te z)) (hN : (x :: x2 :: cs).Nodup := by decide +kernel) (hkind : scope.kind = .function := by rfl) (hcell : ∀ y ∈ scope.names, y.2 ≠ .cell := by decide +kernel)
    (hx : scope.names.lookup x = some .local := by rfl) (hx2 : scope.names.lookup x2 = some .local := by rfl) (hnames : ∀ y ∈ scope.names, y.2 = .local → scope.names.lookup y.1 = some .local := by decide +kernel)
    (hix : ix.map (fun i => X.N[i]?) = cs.map some := by rfl) (hfr : ∀ y ∈ cs, scope.names.lookup y = some .free := by decide +kernel) (hout' : ∀ y ∈ cs, sc0.names.lookup y = some .cell ∨ sc0.names.lookup y = some .free := by decide +kernel)
    (hfree' : ∀ y ∈ scope.names, y.2 = .free → sc0.names.lookup y.1 = some .cell ∨ sc0.names.lookup y.1 = some .free := by decide +kernel) (hsc : X.env.scope = sc0 := by rfl)
    (hs : ∀ x, foldedSetIterable iter X.env x = pure x := by intro _; rfl) :
    PE X (.ListComp elt [⟨.Tuple [.Name x px, .Name x2 px2] kt pt, iter, [], 0⟩] scope pos) (tComp2 X.K wi ix te) := by
  have hout : ∀ y ∈ cs, X.env.scope.names.lookup y = some .cell ∨ X.env.scope.names.lookup y = some .free := by rw [hsc]; exact hout'
  have hfree : ∀ y ∈ scope.names, y.2 = .free → X.env.scope.names.lookup y.1 = some .cell ∨ X.env.scope.names.lookup y.1 = some .free := by rw [hsc]; exact hfree'
  intro pins s σ H Q I h
  obtain ⟨cl, hcl, h1, h2⟩ := closure_ok (scope := scope) (env := X.env) fun y hy hk => I.ok.has y.1 (hfree y hy hk)
  rw [eval_ListComp]
  refine wpAny_comprehension_free (use := none) rfl hs hcl hkind hnames (wpAny_mono (hi pins s σ H _ I h) (fun v s1 h3 => wpAny_mono h3 (fun itv s2 h4 => ?_) fun _ _ z => z) fun _ _ z => z)
  obtain ⟨it, fp, tn, J, H2, rfl, I2, T, st, hf, q⟩ := h4
  refine comp_core2 (Q := Q) hc hkind hcell hx hx2 hN hix hfr hout h1 h2 helt I2 T st hf (fun D H3 n3 => ?_) fun D C s3 H3 hm hI hCf hq => ?_
  · obtain ⟨W, w0, turn⟩ := q D H3 n3
    refine ⟨W, w0, fun i m ys H w => ?_⟩
    rcases turn i m ys H w with z | ⟨go, step⟩
    · exact .inl z
    · refine .inr ⟨go, fun x H' y z => ?_⟩
      obtain ⟨a, v1, v2, e, hq, st⟩ := step x H' y z
      exact ⟨a, v1, v2, e, hq, st⟩
  · obtain ⟨m, hm⟩ := hm
    exact ⟨m, hm, fun h' hs' => ⟨.ref D, H3, hI h' hs', rfl, hq⟩⟩
end
end L2
namespace L2
open PySem PySem.Spec PyProof.Rows
noncomputable def Itz (K : PySem.W.Frag) (a b : Addr) : It :=
  ⟨fun i H => ∃ xs x ys y, SqL K H a xs ∧ xs[i]? = some x ∧ SqL K H b ys ∧ ys[i]? = some y,
   fun i H x H' => ∃ p v w, x = .ref p ∧ New H p (.tup [v, w]) H' ∧ (∀ xs, SqL K H a xs → xs[i]? = some v) ∧ ∀ ys, SqL K H b ys → ys[i]? = some w,
   fun i H => ∃ xs ys, SqL K H a xs ∧ SqL K H b ys ∧ (xs.length ≤ i ∨ ys.length ≤ i)⟩
theorem ne_cls {h : Heap} {a b : Addr} {oa ob : Obj} {s t : String} (ha : h.get? a = some oa) (hb : h.get? b = some ob) (ca : oa.cls = .type s) (cb : ob.cls = .type t) (hn : s ≠ t) : a ≠ b := fun e => by
  subst e
  rw [ha] at hb
  cases hb
  rw [ca] at cb
  injection cb with e
  exact hn e
theorem zipApart {h : Heap} {z TI TO i1 i2 l1 l2 : Addr} {f0 a b c d : Value} {k1 k2 : Nat} {xs ys : Array Value} (hTT : TI ≠ TO) (hii : i1 ≠ i2) (hz : IsZip h z TI TO f0) (hTI : IsPair h TI a b) (hTO : IsPair h TO c d)
    (h1 : h.IsListIter i1 l1 k1) (h2 : h.IsListIter i2 l2 k2) (hl1 : h.IsList l1 xs) (hl2 : h.IsList l2 ys) : ZipApart z TI TO i1 i2 l1 l2 := by
  obtain ⟨o1, e1, c1, _⟩ := h1
  obtain ⟨o2, e2, c2, _⟩ := h2
  obtain ⟨p1, g1, b1, _⟩ := hl1
  obtain ⟨p2, g2, b2, _⟩ := hl2
  exact ⟨ne_cls hTI hz rfl rfl (by decide), ne_cls hTO hz rfl rfl (by decide), ne_cls e1 hz c1 rfl (by decide), ne_cls e2 hz c2 rfl (by decide), hTT,
    ne_cls hTI e1 rfl c1 (by decide), ne_cls hTI e2 rfl c2 (by decide), ne_cls hTO e1 rfl c1 (by decide), ne_cls hTO e2 rfl c2 (by decide), hii,
    ne_cls g1 hz b1 rfl (by decide), ne_cls g1 hTO b1 rfl (by decide), ne_cls g1 e1 b1 c1 (by decide), ne_cls g1 e2 b1 c2 (by decide),
    ne_cls g2 hz b2 rfl (by decide), ne_cls g2 hTO b2 rfl (by decide), ne_cls g2 e1 b2 c1 (by decide), ne_cls g2 e2 b2 c2 (by decide)⟩
theorem turn_zip {P : Program} {w : World} {K : PySem.W.Frag} {elts : List Expr} {x1 : Nat} {pos : Pos} (l1 l2 z TI TO i1 i2 : Addr) (hTT : TI ≠ TO) (hii : i1 ≠ i2) :
    Turn P w K (.Tuple elts x1 pos) (Itz K l1 l2) [z, TI, TO, i1, i2] z (fun i h => IsZip h z TI TO .none ∧ IsPair h TI (.ref i1) (.ref i2) ∧ (∃ a b, IsPair h TO a b) ∧ h.IsListIter i1 l1 i ∧ h.IsListIter i2 l2 i) where
  mem := by simp
  obj := fun i h st b hb => by
    obtain ⟨hz, hTI, ⟨a, c, hTO⟩, ⟨o1, e1, c1, d1⟩, ⟨o2, e2, c2, d2⟩⟩ := st
    simp only [List.mem_cons, List.not_mem_nil, or_false] at hb
    rcases hb with rfl | rfl | rfl | rfl | rfl
    · exact ⟨_, hz, fun v z => by cases z⟩
    · exact ⟨_, hTI, fun v z => by cases z⟩
    · exact ⟨_, hTO, fun v z => by cases z⟩
    · exact ⟨o1, e1, fun v z => by rw [d1] at z; cases z⟩
    · exact ⟨o2, e2, fun v z => by rw [d2] at z; cases z⟩
  keep := fun i h h' st k => by
    obtain ⟨hz, hTI, ⟨a, c, hTO⟩, h1, h2⟩ := st
    exact ⟨k z (by simp) _ hz, k TI (by simp) _ hTI, ⟨a, c, k TO (by simp) _ hTO⟩, h1.at fun o q => k i1 (by simp) o q, h2.at fun o q => k i2 (by simp) o q⟩
  item := by
    intro X hP hw hK hc i pins s σ H E I hf st hg
    subst hP hw hK
    obtain ⟨xs, x, ys, y, hq1, hx, hq2, hy⟩ := hg
    obtain ⟨hz, hTI, ⟨a0, b0, hTO⟩, h1, h2⟩ := st
    obtain ⟨its1, rv1, p1, _⟩ := I.list hq1
    obtain ⟨its2, rv2, p2, _⟩ := I.list hq2
    obtain ⟨u, hu, ru⟩ := rv1.get hx
    obtain ⟨v, hv, rv⟩ := rv2.get hy
    have D := zipApart hTT hii hz hTI hTO h1 h2 p1.isList p2.isList
    refine wpAny_pyNext_zip_item D hz hTI hTO h1 h2 p1.isList p2.isList (x := u) (y := v) (by simpa using hu) (by simpa using hv) fun h₁ hz₁ hTO₁ hi1 hi2 ht₁ hsz₁ hk₁ => ?_
    refine ⟨.ref s.heap.objs.size, rfl, wpAny_letOwnedTupleGo_zip hz₁ fun h₂ hz₂ hs₂ => ?_⟩
    have hs₂' : Heap.SameBut z h₁ h₂ := hs₂
    have fD : H s.heap.objs.size = none := I.hok.fresh (Nat.le_refl _)
    have hz_lt : z < s.heap.objs.size := Heap.lt_size hz
    have keep : ∀ b o, b ∉ [z, TI, TO, i1, i2] → s.heap.get? b = some o → h₂.get? b = some o := fun b o hb q => by
      simp only [List.mem_cons, List.not_mem_nil, or_false, not_or] at hb
      exact (hs₂'.2 b hb.1).trans (hk₁ b o hb.1 hb.2.2.1 hb.2.2.2.1 hb.2.2.2.2 q)
    have htup : h₂.get? s.heap.objs.size = some { cls := .type "tuple", data := .seq #[u, v] } := (hs₂'.2 _ (Nat.ne_of_gt hz_lt)).trans ht₁
    have nD : ∀ b o, s.heap.get? b = some o → b ≠ s.heap.objs.size := fun b o q => Nat.ne_of_lt (Heap.lt_size q)
    have nF : ∀ b u, H b = some u → b ∉ [z, TI, TO, i1, i2] := fun b u q hb => by
      have := (hf b hb).1
      rw [this] at q
      cases q
    have tD : ∀ b u, H b = some u → b ≠ s.heap.objs.size := fun b u q => ne_of_none q fD
    have I1 : Inv X pins σ (upd H s.heap.objs.size (.tup [x, y])) { s with heap := h₂ } := by
      refine I.call' (ch := [z, TI, TO, i1, i2]) rfl ⟨fun b o q n hb hx => keep b o hx q, fun b o q n hb hx => ⟨o.slots, keep b o hx q⟩, fun b o q n hx => by rw [upd_ne (nD b o q)]; exact n, fun b o q hx => ⟨o, keep b o hx q⟩,
        fun b ys q => by rw [upd_ne (tD b _ q)]; exact q, fun b o v q => by rw [upd_ne (tD b _ q)]; exact q, fun b ps q => ⟨#[], by rw [upd_ne (tD b _ q), q]; simp⟩⟩ ?_ I.bare ?_
      · intro b ob q
        by_cases zz : b = s.heap.objs.size
        · subst zz
          rw [upd_same] at q
          cases q
          exact ⟨by show 2 ≤ sizeLine; decide, [u, v], .cons ru (.cons rv .nil), ⟨_, htup, rfl, _, rfl⟩⟩
        · rw [upd_ne zz] at q
          refine (I.hok b ob q).stay (fun c v hc y => ?_) (fun c y => by rw [upd_ne (tD c _ y)]; exact y) fun c ys y => by rw [upd_ne (tD c _ y)]; exact y
          rcases hc with hc | hc
          · subst hc
            exact keep c v (nF c _ q) y
          · exact keep c v (nF c _ hc) y
      · intro b hb
        obtain ⟨f0, f1, f2, f3, f4, f5⟩ := hf b hb
        exact ⟨f3, f1, f4, f5⟩
    refine ⟨.ref s.heap.objs.size, _, I1, rfl, ⟨s.heap.objs.size, x, y, rfl, .mk' fD, fun zs hzs => by rw [I.list_inj hzs hq1]; exact hx, fun zs hzs => by rw [I.list_inj hzs hq2]; exact hy⟩, ⟨hz₂, ?_, ⟨_, _, (hs₂'.2 TO D.TOz).trans hTO₁⟩, ?_, ?_⟩, fun b hb => ?_⟩
    · exact (hs₂'.2 TI D.TIz).trans (hk₁ TI _ D.TIz D.TITO D.TIi1 D.TIi2 hTI)
    · exact hi1.at fun o q => (hs₂'.2 i1 D.i1z).trans q
    · exact hi2.at fun o q => (hs₂'.2 i2 D.i2z).trans q
    · have hbs : b ≠ s.heap.objs.size := by
        simp only [List.mem_cons, List.not_mem_nil, or_false] at hb
        obtain ⟨o1, e1, _⟩ := id h1
        obtain ⟨o2, e2, _⟩ := id h2
        rcases hb with rfl | rfl | rfl | rfl | rfl
        · exact Nat.ne_of_lt hz_lt
        · exact Nat.ne_of_lt (Heap.lt_size hTI)
        · exact Nat.ne_of_lt (Heap.lt_size hTO)
        · exact Nat.ne_of_lt (Heap.lt_size e1)
        · exact Nat.ne_of_lt (Heap.lt_size e2)
      rw [upd_ne hbs]
      exact (hf b hb).1
  done := by
    intro X hP hw hK hc i pins s σ H E I hf st hg
    subst hP hw hK
    obtain ⟨xs, ys, hq1, hq2, hx⟩ := hg
    obtain ⟨hz, hTI, ⟨a0, b0, hTO⟩, h1, h2⟩ := st
    obtain ⟨its1, rv1, p1, _⟩ := I.list hq1
    obtain ⟨its2, rv2, p2, _⟩ := I.list hq2
    have D := zipApart hTT hii hz hTI hTO h1 h2 p1.isList p2.isList
    have n1 := rv1.length
    have n2 := rv2.length
    refine wpAny_pyNext_zip_end (I.ok.hd hc) D hz hTI hTO h1 h2 p1.isList p2.isList (by simp; omega) fun h' hk => ⟨rfl, ?_⟩
    have keep : ∀ b o, b ∉ [z, TI, TO, i1, i2] → s.heap.get? b = some o → h'.get? b = some o := fun b o hb q => by
      simp only [List.mem_cons, List.not_mem_nil, or_false, not_or] at hb
      exact hk b o hb.1 hb.2.2.1 hb.2.2.2.1 hb.2.2.2.2 q
    have nF : ∀ b u, H b = some u → b ∉ [z, TI, TO, i1, i2] := fun b u q hb => by
      have := (hf b hb).1
      rw [this] at q
      cases q
    refine I.call' (ch := [z, TI, TO, i1, i2]) rfl ⟨fun b o q n hb hx => keep b o hx q, fun b o q n hb hx => ⟨o.slots, keep b o hx q⟩, fun b o q n hx => n, fun b o q hx => ⟨o, keep b o hx q⟩,
        fun b ys q => q, fun b o v q => q, fun b ps q => ⟨#[], by rw [q]; simp⟩⟩ ?_ I.bare ?_
    · intro b ob q
      refine (I.hok b ob q).stay (fun c v hc y => ?_) (fun c y => y) fun c ys y => y
      rcases hc with hc | hc
      · subst hc
        exact keep c v (nF c _ q) y
      · exact keep c v (nF c _ hc) y
    · intro b hb
      obtain ⟨f0, f1, f2, f3, f4, f5⟩ := hf b hb
      exact ⟨f3, f1, f4, f5⟩
  self := fun _ _ _ _ _ st h => wpAny_pyIter_zip st.1 h
section
variable {X : Cx}
noncomputable def iZip (K : PySem.W.Frag) (ta : TA) : TI := fun σ H R => ta σ H fun vs H1 => match vs with | [.ref a, .ref b] => (∃ xs, SqL K H1 a xs) ∧ (∃ ys, SqL K H1 b ys) ∧ R (Itz K a b) H1 | _ => False
theorem pi_zip {elts : List Expr} {x1 : Nat} {tp : Pos} {l m : Expr} {ta : TA} {p pos : Pos} (hg : Gl X "zip") (hm : X.mg "zip" = none) (ha : PA X [l, m] ta) (he : starEach [l, m] X.env = (false, eval l X.env) :: starEach [m] X.env := by rfl) (hpl : (backTo pos (starEach [m] X.env)).any (·.1) = false := by rfl) :
    PI X (.Tuple elts x1 tp) (.Call (.Name "zip" p) [l, m] [] pos) (iZip X.K ta) := by
  intro pins s σ H R I h
  refine Call_ (ld_blt I hg hm boot_zip (PyProof.Rows.callWith_type1 (thn (ha pos pins s σ H _ I h) fun us s1 ⟨vs, H1, I1, r1, q1⟩ => ?_) he hpl))
  dsimp only at q1
  split at q1
  · rename_i a b
    obtain ⟨⟨xs, hq1⟩, ⟨ys, hq2⟩, q⟩ := q1
    obtain ⟨u, v, rfl, ru, rv⟩ := vals2 r1
    cases (show u = Value.ref a from ru)
    cases (show v = Value.ref b from rv)
    obtain ⟨its1, _, p1, _⟩ := I1.list hq1
    obtain ⟨its2, _, p2, _⟩ := I1.list hq2
    refine call_zip_2 p1.isList p2.isList fun h' hz hTI hTO hi1 hi2 hsz hk => ?_
    refine wpAny_pyIter_zip hz ?_
    have I2 : Inv X pins σ H1 { s1 with heap := h' } := I1.kept (t' := s1.toks) hk
    refine ⟨s1.heap.objs.size + 4, [s1.heap.objs.size + 4, s1.heap.objs.size + 2, s1.heap.objs.size + 3, s1.heap.objs.size, s1.heap.objs.size + 1], _, Itz X.K a b, H1, rfl, I2,
      turn_zip a b _ _ _ _ _ (Nat.ne_of_lt (Nat.lt_succ_self _)) (Nat.ne_of_lt (Nat.lt_succ_self _)), ⟨hz, hTI, ⟨_, _, hTO⟩, hi1, hi2⟩, fun c hc => ?_, q⟩
    have hc' : s1.heap.objs.size ≤ c := by
      simp only [List.mem_cons, List.not_mem_nil, or_false] at hc
      rcases hc with rfl | rfl | rfl | rfl | rfl
      · exact Nat.le_add_right _ _
      · exact Nat.le_add_right _ _
      · exact Nat.le_add_right _ _
      · exact Nat.le_refl _
      · exact Nat.le_add_right _ _
    exact I1.fpOk hc' (I1.hok.fresh hc')
  · exact q1.elim
noncomputable def dSorted (K : PySem.W.Frag) : List V → Hp → VK → Prop := fun xs H Q => match xs with
  | [.ref p] => ∃ ns : List Int, SqL K H p (ns.map V.int) ∧ ns.length < 64 ∧ ∀ l (ms : List Int) H', ms.Perm ns → ms.Pairwise (· ≤ ·) → New H l (.lst (ms.map V.int)) H' → Q (.ref l) H'
  | _ => False
theorem intsOf : ∀ {ns : List Int} {its : List Value}, Vals (ns.map V.int) its → IntsAre its ns
  | [], _, .nil => .nil
  | n :: ns, _, .cons r t => by
    obtain ⟨k, rfl⟩ := r
    exact .cons _ _ (intsOf t)
theorem vals_of : ∀ {ns : List Int} {its : List Value}, IntsAre its ns → Vals (ns.map V.int) its
  | [], _, .nil => .nil
  | n :: ns, _, .cons _ _ t => .cons ⟨_, rfl⟩ (vals_of t)
theorem d_sorted : CallR X (.builtin "sorted") (dSorted X.K) := by
  intro pins s σ H xs us Q I r h
  unfold dSorted at h
  split at h
  · rename_i p
    obtain ⟨ns, hs, h64, q⟩ := h
    obtain ⟨u, rfl, ru⟩ := vals1 r
    cases (show u = Value.ref p from ru)
    obtain ⟨its, rv, pl, _⟩ := I.list hs
    have hl := rv.length
    rw [List.length_map] at hl
    refine sorted_ints pl.isList (intsOf rv) (by omega) fun out ns' hI hp hsrt => ?_
    have fD : H (s.heap.objs.size + 1) = none := I.hok.fresh (Nat.le_succ _)
    obtain ⟨e, he⟩ := sortedAll_at s.heap its out
    have hlen : out.size = ns.length := by
      have h1 := (vals_of hI).length
      rw [List.length_map] at h1
      have h2 := hp.length_eq
      simp at h1
      omega
    have I2 : Inv X pins σ (upd H (s.heap.objs.size + 1) (.lst (ns'.map V.int))) { s with heap := sortedAll s.heap its out } := by
      refine I.laid (t' := s.toks) (fun b o e => sortedAll_old e) (Nat.le_succ _) ?_
      refine ⟨?_, out.toList, e, vals_of hI, by simpa [seqObj] using he⟩
      rw [List.length_map, hp.length_eq]
      have : (64 : Nat) ≤ sizeLine := by decide
      omega
    exact ⟨.ref (s.heap.objs.size + 1), _, I2, rfl, q _ ns' _ hp hsrt (.mk' fD)⟩
  · exact h.elim
end
end L2
namespace Lr
noncomputable def sm : List Rat → Rat | [] => 0 | x :: r => x + sm r
theorem sm_app (a b : List Rat) : sm (a ++ b) = sm a + sm b := by
  induction a with
  | nil => show sm b = 0 + sm b; grind
  | cons x r ih => show x + sm (r ++ b) = x + sm r + sm b; rw [ih]; grind
theorem sm_one (x : Rat) : sm [x] = x := by show x + 0 = x; grind
theorem sm_snoc (a : List Rat) (x : Rat) : sm (a ++ [x]) = sm a + x := by rw [sm_app, sm_one]
theorem sm_take {xs : List Rat} {i : Nat} {x : Rat} (h : xs[i]? = some x) : sm (xs.take (i + 1)) = sm (xs.take i) + x := by
  rw [List.take_add_one, h]
  exact sm_snoc _ _
theorem sm_perm {a b : List Rat} (h : a.Perm b) : sm a = sm b := by
  induction h with
  | nil => rfl
  | cons x _ ih => show x + _ = x + _; rw [ih]
  | swap x y l => show y + (x + sm l) = x + (y + sm l); grind
  | trans _ _ h1 h2 => exact h1.trans h2
theorem sm_mul (c : Rat) (a : List Rat) : sm (a.map (· * c)) = sm a * c := by
  induction a with
  | nil => show (0 : Rat) = 0 * c; grind
  | cons x r ih => show x * c + sm (r.map (· * c)) = (x + sm r) * c; rw [ih]; grind
theorem sm_nonneg {a : List Rat} (h : ∀ x ∈ a, 0 ≤ x) : 0 ≤ sm a := by
  induction a with
  | nil => exact Rat.le_refl
  | cons x r ih =>
    have h1 := ih fun y hy => h y (List.mem_cons_of_mem _ hy)
    have h2 := h x List.mem_cons_self
    show 0 ≤ x + sm r
    grind
theorem sm_le {f g : Rat → Rat} {a : List Rat} (h : ∀ x ∈ a, f x ≤ g x) : sm (a.map f) ≤ sm (a.map g) := by
  induction a with
  | nil => exact Rat.le_refl
  | cons x r ih =>
    have h1 := ih fun y hy => h y (List.mem_cons_of_mem _ hy)
    have h2 := h x List.mem_cons_self
    show f x + sm (r.map f) ≤ g x + sm (r.map g)
    grind
theorem sm_sub {f g : Rat → Rat} {a : List Rat} : sm (a.map fun x => f x - g x) = sm (a.map f) - sm (a.map g) := by
  induction a with
  | nil => show (0 : Rat) = 0 - 0; grind
  | cons x r ih => show f x - g x + sm (r.map fun x => f x - g x) = f x + sm (r.map f) - (g x + sm (r.map g)); rw [ih]; grind
theorem sm_mem_le {a : List Rat} (h : ∀ x ∈ a, 0 ≤ x) {x : Rat} (hx : x ∈ a) : x ≤ sm a := by
  induction a with
  | nil => cases hx
  | cons y r ih =>
    have h2 := h y List.mem_cons_self
    have h3 := sm_nonneg fun y hy => h y (List.mem_cons_of_mem _ hy)
    show x ≤ y + sm r
    rcases List.mem_cons.mp hx with rfl | hx
    · grind
    · have := ih (fun y hy => h y (List.mem_cons_of_mem _ hy)) hx
      grind
noncomputable def mn (x y : Rat) : Rat := if y < x then y else x
theorem mn_le_l {x y : Rat} : mn x y ≤ x := by unfold mn; grind
theorem mn_le_r {x y : Rat} : mn x y ≤ y := by unfold mn; grind
theorem mn_l {x y : Rat} (h : x ≤ y) : mn x y = x := by unfold mn; grind
theorem mn_r {x y : Rat} (h : y ≤ x) : mn x y = y := by unfold mn; grind
theorem mn_or (x y : Rat) : mn x y = x ∨ mn x y = y := by unfold mn; grind
theorem mn_mono {x y z : Rat} (h : y ≤ z) : mn x y ≤ mn x z := by unfold mn; grind
theorem mn_mul {x y c : Rat} (hc : 0 < c) : mn (x * c) (y * c) = mn x y * c := by
  unfold mn
  by_cases h : y < x
  · rw [if_pos h, if_pos (Rat.mul_lt_mul_of_pos_right h hc)]
  · rw [if_neg h, if_neg]
    have : x ≤ y := by grind
    have := Rat.mul_le_mul_of_nonneg_right this (Rat.le_of_lt hc)
    grind
theorem rt_pos {b : Int} (hb : 0 < b) : (0 : Rat) < (b : Rat) := by exact_mod_cast hb
theorem rt_mul_self {n D : Int} (hD : 0 < D) : rt n D * (D : Rat) = (n : Rat) := by
  rw [rt_eq]
  have := rt_pos hD
  grind
theorem rt_of_mul {x : Rat} {n D : Int} (hD : 0 < D) (h : x * (D : Rat) = (n : Rat)) : x = rt n D := by
  rw [rt_eq, ← h]
  have := rt_pos hD
  grind
theorem rt_le {a b D : Int} (hD : 0 < D) (h : a ≤ b) : rt a D ≤ rt b D := by
  have h1 : (a : Rat) ≤ (b : Rat) := by exact_mod_cast h
  rw [rt_eq, rt_eq, Rat.div_def, Rat.div_def]
  refine Rat.mul_le_mul_of_nonneg_right h1 (Rat.le_of_lt ?_)
  exact Rat.inv_pos.mpr (rt_pos hD)
theorem rt_le_iff {a b D : Int} (hD : 0 < D) : rt a D ≤ rt b D ↔ a ≤ b := by
  refine ⟨fun h => ?_, rt_le hD⟩
  have := Rat.mul_le_mul_of_nonneg_right h (Rat.le_of_lt (rt_pos hD))
  rw [rt_mul_self hD, rt_mul_self hD] at this
  exact_mod_cast this
theorem rt_zero {D : Int} (hD : 0 < D) : rt 0 D = 0 := by
  rw [rt_eq, Rat.div_def]
  show (0 : Rat) * _ = 0
  grind
theorem rt_nonneg {a D : Int} (hD : 0 < D) : 0 ≤ rt a D ↔ 0 ≤ a := by
  have := rt_le_iff (a := 0) (b := a) hD
  rw [rt_zero hD] at this
  exact this
noncomputable def Ov (D : Int) (M : Nat) (x : Rat) : Prop := ∃ n : Int, x = rt n D ∧ n.natAbs ≤ M
theorem Ov.mono {D : Int} {M N : Nat} {x : Rat} (h : Ov D M x) (l : M ≤ N) : Ov D N x := let ⟨n, e, b⟩ := h; ⟨n, e, Nat.le_trans b l⟩
theorem Ov.zero {D : Int} (hD : 0 < D) {M : Nat} : Ov D M 0 := ⟨0, (rt_zero hD).symm, Nat.zero_le _⟩
theorem rt_add_same {a b D : Int} (hD : 0 < D) : rt a D + rt b D = rt (a + b) D := by
  refine rt_of_mul hD ?_
  rw [Rat.add_mul, rt_mul_self hD, rt_mul_self hD, Rat.intCast_add]
theorem rt_sub_same {a b D : Int} (hD : 0 < D) : rt a D - rt b D = rt (a - b) D := by
  refine rt_of_mul hD ?_
  have h1 := rt_mul_self (n := a) hD
  have h2 := rt_mul_self (n := b) hD
  rw [Rat.intCast_sub]
  grind
theorem Ov.add {D : Int} (hD : 0 < D) {M N : Nat} {x y : Rat} (h : Ov D M x) (g : Ov D N y) : Ov D (M + N) (x + y) := by
  obtain ⟨a, rfl, ha⟩ := h
  obtain ⟨b, rfl, hb⟩ := g
  exact ⟨a + b, rt_add_same hD, by omega⟩
theorem Ov.sub {D : Int} (hD : 0 < D) {M N : Nat} {x y : Rat} (h : Ov D M x) (g : Ov D N y) : Ov D (M + N) (x - y) := by
  obtain ⟨a, rfl, ha⟩ := h
  obtain ⟨b, rfl, hb⟩ := g
  exact ⟨a - b, rt_sub_same hD, by omega⟩
theorem Ov.mn {D : Int} {M : Nat} {x y : Rat} (h : Ov D M x) (g : Ov D M y) : Ov D M (mn x y) := by
  rcases mn_or x y with e | e <;> rw [e] <;> assumption
theorem Ov.sm {D : Int} (hD : 0 < D) {M : Nat} : ∀ {a : List Rat}, (∀ x ∈ a, Ov D M x) → Ov D (a.length * M) (sm a)
  | [], _ => Ov.zero hD
  | x :: r, h => by
    have h1 := Ov.sm hD fun y hy => h y (List.mem_cons_of_mem _ hy)
    have h2 := h x List.mem_cons_self
    refine (h2.add hD h1).mono ?_
    rw [List.length_cons, Nat.add_mul, Nat.one_mul, Nat.add_comm]
    exact Nat.le_refl _
theorem Ov.den {D : Int} (hD : 0 < D) {M : Nat} {x : Rat} (h : Ov D M x) : (x.den : Int) ∣ D := by
  obtain ⟨n, rfl, _⟩ := h
  have h1 : (rt n D).num * D = n * ((rt n D).den : Int) := by
    have := rt_mk (a := n) (b := D) (by omega)
    have h1 : Rat.divInt (rt n D).num ((rt n D).den : Int) = Rat.divInt n D := Rat.num_divInt_den _
    exact (Rat.divInt_eq_divInt_iff (by have := den_pos (rt n D); omega) (by omega)).mp h1
  have h2 : Nat.Coprime (rt n D).den (rt n D).num.natAbs := (rt n D).reduced.symm
  have h3 : (rt n D).den ∣ (rt n D).num.natAbs * D.natAbs := by
    rw [← Int.natAbs_mul, h1, Int.natAbs_mul]
    exact ⟨n.natAbs, by rw [Nat.mul_comm]; rfl⟩
  have h4 := h2.dvd_of_dvd_mul_left h3
  exact Int.ofNat_dvd_left.mpr h4
theorem lcm_step {b d : Int} (hb : 0 < b) (hd : 0 < d) : 0 < b * (d.fdiv (Int.gcd b d)) ∧ b ∣ b * (d.fdiv (Int.gcd b d)) ∧ d ∣ b * (d.fdiv (Int.gcd b d)) ∧ ∀ D, b ∣ D → d ∣ D → b * (d.fdiv (Int.gcd b d)) ∣ D := by
  have hg : 0 < (Int.gcd b d : Int) := by have := Int.gcd_pos_of_ne_zero_left d (show b ≠ 0 by omega); omega
  have e : d.fdiv (Int.gcd b d) = d / (Int.gcd b d) := Int.fdiv_eq_ediv_of_nonneg _ (by omega)
  rw [e]
  obtain ⟨b', eb⟩ := Int.gcd_dvd_left b d
  obtain ⟨d', ed⟩ := Int.gcd_dvd_right b d
  have e2 : d / (Int.gcd b d : Int) = d' := by
    conv => lhs; lhs; rw [ed]
    exact Int.mul_ediv_cancel_left _ (by omega)
  rw [e2]
  have hd' : 0 < d' := by
    rcases Int.lt_or_le 0 d' with h | h
    · exact h
    · have := Int.mul_nonpos_of_nonneg_of_nonpos (Int.le_of_lt hg) h
      omega
  refine ⟨Int.mul_pos hb hd', Int.dvd_mul_right _ _, ⟨b', ?_⟩, fun D h1 h2 => ?_⟩
  · conv => lhs; rw [eb]
    conv => rhs; rw [ed]
    rw [Int.mul_assoc, Int.mul_assoc, Int.mul_comm b' d']
  · have hl : (Int.lcm b d : Int) ∣ D := by
      have h3 : b ∣ ((D.natAbs : Nat) : Int) := by rw [Int.dvd_natAbs]; exact h1
      have h4 : d ∣ ((D.natAbs : Nat) : Int) := by rw [Int.dvd_natAbs]; exact h2
      have := Int.lcm_dvd h3 h4
      have : ((Int.lcm b d : Nat) : Int) ∣ ((D.natAbs : Nat) : Int) := Int.ofNat_dvd.mpr this
      rw [Int.dvd_natAbs] at this
      exact this
    have h5 := Int.gcd_mul_lcm b d
    have h6 : (Int.gcd b d : Int) * (Int.lcm b d : Int) = b * d := by
      have : ((Int.gcd b d * Int.lcm b d : Nat) : Int) = ((b.natAbs * d.natAbs : Nat) : Int) := by rw [h5]
      push_cast at this
      rw [this, Int.natAbs_of_nonneg (by omega), Int.natAbs_of_nonneg (by omega)]
    have h7 : (Int.gcd b d : Int) * (b * d') = (Int.gcd b d : Int) * (Int.lcm b d : Int) := by
      rw [h6]
      conv => rhs; rw [ed]
      rw [← Int.mul_assoc, Int.mul_comm _ b, Int.mul_assoc]
    have h8 := Int.eq_of_mul_eq_mul_left (by omega) h7
    rw [h8]
    exact hl
theorem top_eq {x : Rat} {B : Int} (hB : 0 < B) (h : (x.den : Int) ∣ B) : ((x.num * (B.fdiv x.den) : Int) : Rat) = x * (B : Rat) := by
  obtain ⟨k, rfl⟩ := h
  have hd := den_pos x
  rw [Int.fdiv_eq_ediv_of_nonneg _ (by omega), Int.mul_ediv_cancel_left _ (by omega), Rat.intCast_mul, Rat.intCast_mul]
  have e : x * ((x.den : Int) : Rat) = (x.num : Rat) := by
    have := rt_mul_self (n := x.num) hd
    rw [rt_self] at this
    exact this
  rw [← Rat.mul_assoc, e]
theorem top_bd {D B n : Int} {M : Nat} {x : Rat} (hB : 0 < B) (hD : 0 < D) (hBD : B ∣ D) (h : Ov D M x) (e : (n : Rat) = x * (B : Rat)) : n.natAbs ≤ M := by
  obtain ⟨m, rfl, hm⟩ := h
  obtain ⟨k, rfl⟩ := hBD
  have hk : 0 < k := by
    rcases Int.lt_or_le 0 k with h | h
    · exact h
    · have := Int.mul_nonpos_of_nonneg_of_nonpos (Int.le_of_lt hB) h
      omega
  have h1 : (n : Rat) * (k : Rat) = (m : Rat) := by
    rw [e, Rat.mul_assoc, ← Rat.intCast_mul]
    exact rt_mul_self hD
  have h2 : n * k = m := by exact_mod_cast h1
  rw [← h2, Int.natAbs_mul] at hm
  have : 1 ≤ k.natAbs := by omega
  exact Nat.le_trans (Nat.le_mul_of_pos_right _ this) hm
structure Gain (cs : List Rat) (e g : Rat) : Prop where
  g0 : 0 ≤ g
  sum : sm (cs.map (mn · g)) = e
  top : ∀ u, 0 ≤ u → (∀ c ∈ cs, c ≤ u) → g ≤ u
structure Lp (ts : List Int) (E : Int) (i : Nat) (rest : Int) : Prop where
  r : rest = E - (ts.take i).sum
  l : ∀ t ∈ ts.take i, t * (ts.length - i : Int) < rest
theorem Lp.init {ts : List Int} {E : Int} : Lp ts E 0 E := ⟨by simp, by simp⟩
theorem take_mem_le {ts : List Int} (hs : ts.Pairwise (· ≤ ·)) {i : Nat} {x : Int} (hx : ts[i]? = some x) : ∀ t ∈ ts.take i, t ≤ x := by
  intro t ht
  obtain ⟨j, hj⟩ := List.mem_iff_getElem?.mp ht
  rw [List.getElem?_take] at hj
  split at hj
  · rename_i hlt
    have h1 := (List.getElem?_eq_some_iff.mp hj)
    have h2 := (List.getElem?_eq_some_iff.mp hx)
    obtain ⟨l1, e1⟩ := h1
    obtain ⟨l2, e2⟩ := h2
    rw [← e1, ← e2]
    exact List.pairwise_iff_getElem.mp hs j i l1 l2 hlt
  · cases hj
theorem drop_mem_ge {ts : List Int} (hs : ts.Pairwise (· ≤ ·)) {i : Nat} {x : Int} (hx : ts[i]? = some x) : ∀ t ∈ ts.drop i, x ≤ t := by
  intro t ht
  obtain ⟨j, hj⟩ := List.mem_iff_getElem?.mp ht
  rw [List.getElem?_drop] at hj
  obtain ⟨l2, e2⟩ := List.getElem?_eq_some_iff.mp hx
  obtain ⟨l1, e1⟩ := List.getElem?_eq_some_iff.mp hj
  rw [← e1, ← e2]
  by_cases h0 : j = 0
  · subst h0; exact Int.le_refl _
  · exact List.pairwise_iff_getElem.mp hs i (i + j) l2 l1 (by omega)
theorem isum_snoc (a : List Int) (x : Int) : (a ++ [x]).sum = a.sum + x := by simp
theorem Lp.next {ts : List Int} {E : Int} {i : Nat} {rest x : Int} (hs : ts.Pairwise (· ≤ ·)) (h : Lp ts E i rest) (hx : ts[i]? = some x) (hn : ¬ rest ≤ x * (ts.length - i : Int)) : Lp ts E (i + 1) (rest - x) := by
  have hi := (List.getElem?_eq_some_iff.mp hx).1
  have e : (x : Int) * (ts.length - i : Int) = x * (ts.length - (i + 1 : Nat) : Int) + x := by
    push_cast
    rw [show (ts.length - i : Int) = (ts.length - (i + 1) : Int) + 1 by omega, Int.mul_add, Int.mul_one]
  constructor
  · rw [List.take_add_one, hx]
    show rest - x = E - ((ts.take i) ++ [x]).sum
    rw [isum_snoc, h.r]
    omega
  · intro t ht
    rw [List.take_add_one, hx] at ht
    have hle : t ≤ x := by
      rcases List.mem_append.mp ht with ht | ht
      · exact take_mem_le hs hx t ht
      · have : t = x := by simpa using ht
        omega
    have : t * (ts.length - (i + 1 : Nat) : Int) ≤ x * (ts.length - (i + 1 : Nat) : Int) := Int.mul_le_mul_of_nonneg_right hle (by omega)
    omega
theorem Lp.end_ {ts : List Int} {E rest : Int} (h : Lp ts E ts.length rest) (hE : E ≤ ts.sum) : ts = [] := by
  cases ts with
  | nil => rfl
  | cons x r =>
    have h1 := h.l x (by rw [List.take_length]; exact List.mem_cons_self)
    have h2 := h.r
    rw [List.take_length] at h2
    rw [Int.sub_self, Int.mul_zero] at h1
    omega
theorem sm_le_const {q : Rat} : ∀ {l : List Rat}, (∀ t ∈ l, t ≤ q) → sm (l.map (mn · q)) = sm l
  | [], _ => rfl
  | x :: r, h => by
    show mn x q + sm (r.map (mn · q)) = x + sm r
    rw [sm_le_const fun y hy => h y (List.mem_cons_of_mem _ hy), mn_l (h x List.mem_cons_self)]
theorem sm_ge_const {q : Rat} : ∀ {l : List Rat}, (∀ t ∈ l, q ≤ t) → sm (l.map (mn · q)) = q * (l.length : Nat)
  | [], _ => by show (0 : Rat) = q * (0 : Nat); grind
  | x :: r, h => by
    show mn x q + sm (r.map (mn · q)) = q * ((r.length + 1 : Nat) : Rat)
    rw [sm_ge_const fun y hy => h y (List.mem_cons_of_mem _ hy), mn_r (h x List.mem_cons_self), Rat.natCast_add]
    grind
theorem sm_int (l : List Int) : sm (l.map fun (t : Int) => (t : Rat)) = ((l.sum : Int) : Rat) := by
  induction l with
  | nil => rfl
  | cons x r ih => show (x : Rat) + sm _ = ((List.sum (x :: r) : Int) : Rat); rw [ih, List.sum_cons, Rat.intCast_add]
theorem Lp.out {ts : List Int} {E rest x : Int} {i : Nat} (hs : ts.Pairwise (· ≤ ·)) (h0 : ∀ t ∈ ts, 0 ≤ t) (hE0 : 0 ≤ E) (h : Lp ts E i rest) (hx : ts[i]? = some x) (hr : rest ≤ x * (ts.length - i : Int)) :
    0 ≤ rest ∧ (0 : Int) < ts.length - i ∧ sm (ts.map fun (t : Int) => mn (t : Rat) (rt rest (ts.length - i))) = (E : Rat) ∧ rt rest (ts.length - i) ≤ (x : Rat) := by
  have hi := (List.getElem?_eq_some_iff.mp hx).1
  have hN : (0 : Int) < ts.length - i := by omega
  have hr0 : 0 ≤ rest := by
    cases i with
    | zero => have := h.r; simp at this; omega
    | succ j =>
      have hm : ts[j]'(by omega) ∈ ts.take (j + 1) := by
        rw [List.mem_take_iff_getElem]
        exact ⟨j, by omega, rfl⟩
      have := h.l _ hm
      have h2 := h0 _ (List.mem_of_mem_take hm)
      have := Int.mul_nonneg h2 (Int.le_of_lt hN)
      omega
  generalize hq : rt rest (ts.length - i : Int) = q
  have hqm : q * ((ts.length - i : Int) : Rat) = (rest : Rat) := by rw [← hq]; exact rt_mul_self hN
  have up : q ≤ (x : Rat) := by
    have e : (x : Rat) = rt (x * (ts.length - i : Int)) (ts.length - i) := rt_of_mul hN (by rw [Rat.intCast_mul])
    rw [e, ← hq]
    exact rt_le hN hr
  refine ⟨hr0, hN, ?_, up⟩
  have lo : ∀ t ∈ (ts.take i).map (fun (t : Int) => (t : Rat)), t ≤ q := by
    intro t ht
    obtain ⟨m, hm, rfl⟩ := List.mem_map.mp ht
    have := h.l m hm
    have e : (m : Rat) = rt (m * (ts.length - i : Int)) (ts.length - i) := rt_of_mul hN (by rw [Rat.intCast_mul])
    rw [e, ← hq]
    exact rt_le hN (by omega)
  have hi2 : ∀ t ∈ (ts.drop i).map (fun (t : Int) => (t : Rat)), q ≤ t := by
    intro t ht
    obtain ⟨m, hm, rfl⟩ := List.mem_map.mp ht
    have : x ≤ m := drop_mem_ge hs hx m hm
    have : (x : Rat) ≤ (m : Rat) := by exact_mod_cast this
    grind
  have e1 : (ts.map fun (t : Int) => mn (t : Rat) q) = ((ts.take i).map (fun (t : Int) => (t : Rat))).map (mn · q) ++ ((ts.drop i).map (fun (t : Int) => (t : Rat))).map (mn · q) := by
    rw [List.map_map, List.map_map, ← List.map_append, List.take_append_drop]
    rfl
  rw [e1, sm_app, sm_le_const lo, sm_ge_const hi2, sm_int, List.length_map, List.length_drop]
  have e2 : (((ts.length - i : Nat) : Nat) : Rat) = ((ts.length - i : Int) : Rat) := by
    have : ((ts.length - i : Nat) : Int) = (ts.length - i : Int) := by omega
    rw [← this]
    rfl
  rw [e2, hqm, h.r, Rat.intCast_sub]
  grind
theorem Gain.of_tops {cs : List Rat} {ts tps : List Int} {B E rest x : Int} {e : Rat} {i : Nat} (hB : 0 < B) (hp : ts.Perm tps) (ht : tps.map (fun (t : Int) => (t : Rat)) = cs.map (· * (B : Rat))) (he : (E : Rat) = e * (B : Rat)) (hs : ts.Pairwise (· ≤ ·)) (h0 : ∀ c ∈ cs, 0 ≤ c) (hE0 : 0 ≤ e)
    (h : Lp ts E i rest) (hx : ts[i]? = some x) (hr : rest ≤ x * (ts.length - i : Int)) : 0 ≤ rest ∧ (0 : Int) < ts.length - i ∧ Gain cs e (rt rest (B * (ts.length - i))) := by
  have hBr := rt_pos hB
  have t0 : ∀ t ∈ tps, 0 ≤ t := by
    intro t htm
    have : (t : Rat) ∈ cs.map (· * (B : Rat)) := by rw [← ht]; exact List.mem_map_of_mem htm
    obtain ⟨c, hc, e1⟩ := List.mem_map.mp this
    have := Rat.mul_nonneg (h0 c hc) (Rat.le_of_lt hBr)
    rw [e1] at this
    exact_mod_cast this
  have E0 : 0 ≤ E := by
    have := Rat.mul_nonneg hE0 (Rat.le_of_lt hBr)
    rw [← he] at this
    exact_mod_cast this
  obtain ⟨r0, N0, s1, u1⟩ := h.out hs (fun t htm => t0 t (hp.mem_iff.mp htm)) E0 hx hr
  refine ⟨r0, N0, ?_⟩
  have hBN : 0 < B * (ts.length - i : Int) := Int.mul_pos hB N0
  have eq : rt rest (B * (ts.length - i)) * (B : Rat) = rt rest (ts.length - i) := by
    have h1 := rt_mul_self (n := rest) hBN
    rw [Rat.intCast_mul] at h1
    refine rt_of_mul N0 ?_
    rw [Rat.mul_assoc]
    exact h1
  generalize rt rest (B * (ts.length - i)) = g at eq
  generalize rt rest (ts.length - i : Int) = q at s1 u1 eq
  refine ⟨?_, ?_, ?_⟩
  · have q0 : 0 ≤ q * ((ts.length - i : Int) : Rat) ∨ True := .inr trivial
    by_cases hg : 0 ≤ g
    · exact hg
    · exfalso
      have hneg : g < 0 := by grind
      have h3 : q < 0 := by
        rw [← eq]
        have := Rat.mul_lt_mul_of_pos_right hneg hBr
        grind
      -- each part is below 0 then, so is the sum
      have : ∀ l : List Int, sm (l.map fun (t : Int) => mn (t : Rat) q) ≤ 0 ∧ (l ≠ [] → sm (l.map fun (t : Int) => mn (t : Rat) q) < 0) := fun l => by
        induction l with
        | nil => exact ⟨Rat.le_refl, fun z => absurd rfl z⟩
        | cons y r ih =>
          have := mn_le_r (x := (y : Rat)) (y := q)
          have e5 : sm ((y :: r).map fun (t : Int) => mn (t : Rat) q) = mn (y : Rat) q + sm (r.map fun (t : Int) => mn (t : Rat) q) := rfl
          rw [e5]
          exact ⟨by grind, fun _ => by grind⟩
      have h4 := (this ts).2 (by intro z; rw [z] at hx; cases hx)
      rw [s1] at h4
      have : (0 : Rat) ≤ (E : Rat) := by exact_mod_cast E0
      grind
  · have e1 : sm (tps.map fun (t : Int) => mn (t : Rat) q) = (E : Rat) := by
      rw [← s1]
      exact sm_perm ((hp.map _).symm)
    have e2 : (tps.map fun (t : Int) => mn (t : Rat) q) = (cs.map (mn · g)).map (· * (B : Rat)) := by
      have : (tps.map fun (t : Int) => mn (t : Rat) q) = (tps.map (fun (t : Int) => (t : Rat))).map (mn · q) := by rw [List.map_map]; rfl
      rw [this, ht, List.map_map, List.map_map]
      apply List.map_congr_left
      intro c _
      show mn (c * (B : Rat)) q = mn c g * (B : Rat)
      rw [← eq, mn_mul hBr]
    rw [e2, sm_mul, he] at e1
    have hb : (B : Rat) ≠ 0 := by grind
    grind
  · intro u hu hc
    have hxm : (x : Rat) ∈ cs.map (· * (B : Rat)) := by
      rw [← ht]
      exact List.mem_map_of_mem (hp.mem_iff.mp (List.mem_of_getElem? hx))
    obtain ⟨c, hcm, e3⟩ := List.mem_map.mp hxm
    have e3' : c * (B : Rat) = (x : Rat) := e3
    have h4 := hc c hcm
    rw [← eq, ← e3'] at u1
    have h5 : g ≤ c := by
      by_cases z : g ≤ c
      · exact z
      · have : c < g := by grind
        have := Rat.mul_lt_mul_of_pos_right this hBr
        grind
    grind
theorem lvl_int {rest B D N : Int} {g : Rat} (hB : 0 < B) (hD : 0 < D) (hBD : B ∣ D) (h1 : 1 ≤ N) (h8 : N ≤ 8) (hg : rt rest (B * N) = g) : ∃ m : Int, g * ((840 * D : Int) : Rat) = (m : Rat) := by
  obtain ⟨k, rfl⟩ := hBD
  obtain ⟨j, hj⟩ : ∃ j : Int, N * j = 840 := by
    rcases (show N = 1 ∨ N = 2 ∨ N = 3 ∨ N = 4 ∨ N = 5 ∨ N = 6 ∨ N = 7 ∨ N = 8 by omega) with rfl | rfl | rfl | rfl | rfl | rfl | rfl | rfl
    · exact ⟨840, rfl⟩
    · exact ⟨420, rfl⟩
    · exact ⟨280, rfl⟩
    · exact ⟨210, rfl⟩
    · exact ⟨168, rfl⟩
    · exact ⟨140, rfl⟩
    · exact ⟨120, rfl⟩
    · exact ⟨105, rfl⟩
  refine ⟨rest * k * j, ?_⟩
  have h := rt_mul_self (n := rest) (D := B * N) (Int.mul_pos hB (by omega))
  rw [hg] at h
  have e : (840 * (B * k) : Int) = (B * N) * (k * j) := by rw [← hj]; ac_rfl
  rw [e, Rat.intCast_mul, ← Rat.mul_assoc, h, Rat.intCast_mul, Rat.intCast_mul, Rat.intCast_mul]
  grind
theorem Gain.ov {cs : List Rat} {e g : Rat} {D : Int} {M : Nat} (h : Gain cs e g) (hD : 0 < D) (ho : ∀ c ∈ cs, Ov D M c) (hm : ∃ m : Int, g * ((840 * D : Int) : Rat) = (m : Rat)) : Ov (840 * D) (840 * M) g := by
  obtain ⟨m, hm⟩ := hm
  have h84 : (0 : Int) < 840 * D := by omega
  have e1 := rt_of_mul h84 hm
  refine ⟨m, e1, ?_⟩
  have up : g ≤ rt M D := h.top _ ((rt_nonneg hD).mpr (by omega)) fun c hc => by
    obtain ⟨n, rfl, hn⟩ := ho c hc
    exact rt_le hD (by omega)
  have e2 : rt M D = rt (840 * M) (840 * D) := by
    refine rt_of_mul h84 ?_
    have := rt_mul_self (n := M) hD
    rw [Rat.intCast_mul, Rat.intCast_mul]
    grind
  have h0 := h.g0
  rw [e1] at h0 up
  rw [e2] at up
  have a1 := (rt_nonneg h84).mp h0
  have a2 := (rt_le_iff h84).mp up
  omega
theorem Gain.none {e : Rat} (h : e = 0) : Gain [] e 0 := ⟨Rat.le_refl, h.symm, fun u hu _ => hu⟩
end Lr
namespace L2
open PySem PySem.Spec PyProof.Rows
variable {K : PySem.W.Frag}
theorem RatL.sq {H : Hp} {a : Addr} {xs : List Rat} (h : RatL K H a xs) : ∃ vs, SqL K H a vs ∧ RatsV K H vs xs ∧ H a = some (.lst vs) := let ⟨vs, e, r⟩ := h; ⟨vs, SqL.of e, r, e⟩
theorem RatL.new {H H' : Hp} {a : Addr} {vs : List V} {xs : List Rat} (n : New H a (.lst vs) H') (r : RatsV K H vs xs) : RatL K H' a xs := ⟨vs, n.at_, r.ts n.ts⟩
theorem comp_RI {a D : Addr} {vs : List V} {xs : List Rat} {caps : St} {te : CB → TE} {Q : VK} {H1 H2 : Hp} (f : Rat → Int) (n : New H1 D (.lst []) H2) (hL : H1 a = some (.lst vs)) (hr : RatsV K H1 vs xs) (hlen : xs.length ≤ 1000000)
    (hte : ∀ x ∈ xs, ∀ u z H', RatV K H' u x → ∀ R : VK, R (.int (f x)) H' → te z (some u :: caps) H' R) (hq : ∀ H', New H1 D (.lst ((xs.map f).map V.int)) H' → Q (.ref D) H') :
    CompGo (Itl K a) D caps te Q H2 := by
  refine comp_list (xs := vs) (fun i ys H' => ys = ((xs.take i).map f).map V.int ∧ New H1 D (.lst ys) H') ⟨rfl, n⟩ (fun i ys H' _ h => SqL.of (h.2.same _ _ hL)) ?_ ?_
  · rintro i u ys H' z hu ⟨rfl, hn⟩
    obtain ⟨x, hx, hv⟩ := hr.get hu
    refine hte x (List.mem_of_getElem? hx) u z H' (hv.same hn.same) _ ⟨hn.at_, ?_, fun H4 c => ⟨?_, Chg.new hn c⟩⟩
    · rw [List.length_map, List.length_map, List.length_take]
      omega
    · rw [List.take_add_one, hx, List.map_append, List.map_append]
      rfl
  · rintro ys H' ⟨rfl, hn⟩
    rw [hr.len, List.take_length] at hn
    exact hq H' hn
theorem comp_RR {a D : Addr} {xs : List Rat} {caps : St} {te : CB → TE} {Q : VK} {H1 H2 : Hp} (f : Rat → Rat) (n : New H1 D (.lst []) H2) (hL : RatL K H1 a xs) (hlen : xs.length ≤ 1000000)
    (hte : ∀ x ∈ xs, ∀ u z H', Same H1 H' → RatV K H' u x → ∀ R : VK, (∀ v H3, Same H' H3 → RatV K H3 v (f x) → R v H3) → te z (some u :: caps) H' R) (hq : ∀ H', Same H1 H' → RatL K H' D (xs.map f) → H1 D = none → Q (.ref D) H') :
    CompGo (Itl K a) D caps te Q H2 := by
  obtain ⟨vs, hs, hr, e⟩ := hL.sq
  refine comp_rats (xs := xs.map f) n hs (by rw [hr.len]; exact hlen) (by rw [List.length_map]; exact hr.len) (fun j u y hu hy z H' s R k => ?_) hq
  rw [List.getElem?_map] at hy
  obtain ⟨x, hx, rfl⟩ := Option.map_eq_some_iff.mp hy
  exact hte x (List.mem_of_getElem? hx) u z H' s ((hr.at_ j u x hu hx).same s) R k
theorem comp_by2 {J : It} {D : Addr} {caps : St} {te : CB → TE} {Q : VK} {H2 : Hp} (n : Nat) (Pv : Nat → List V → Hp → Prop) (h0 : Pv 0 [] H2)
    (hgo : ∀ i ys H, i < n → Pv i ys H → J.go i H) (hst : ∀ ys H, Pv n ys H → J.stop n H)
    (hs : ∀ i ys H x H' z, i < n → Pv i ys H → J.yld i H x H' → ∃ a v1 v2, x = .ref a ∧ SqT K H' a [v1, v2] ∧ te z (some v1 :: some v2 :: caps) H' (Onto D ys (Pv (i + 1)))) (hd : ∀ ys H, Pv n ys H → Q (.ref D) H) :
    CompGo2 K J D caps te Q H2 := by
  refine ⟨fun i m ys H => m = n - i ∧ i ≤ n ∧ Pv i ys H, ⟨n, by simp, Nat.zero_le _, h0⟩, ?_⟩
  rintro i m ys H ⟨rfl, hi, p⟩
  by_cases hlt : i < n
  · refine .inr ⟨hgo i ys H hlt p, fun x H' y z => ?_⟩
    obtain ⟨a, v1, v2, e, hq, h⟩ := hs i ys H x H' z hlt p y
    refine ⟨a, v1, v2, e, hq, ?_⟩
    rw [onto_eq hlt Pv]
    exact h
  · obtain rfl : i = n := by omega
    exact .inl ⟨hst ys H p, hd ys H p⟩
theorem comp_zipR {a b D : Addr} {xs ys : List Rat} {caps : St} {te : CB → TE} {Q : VK} {H1 H2 : Hp} (f : Rat → Rat → Rat) (n : New H1 D (.lst []) H2) (hA : RatL K H1 a xs) (hB : RatL K H1 b ys) (hlen : xs.length ≤ 1000000) (hl : ys.length = xs.length)
    (hte : ∀ x ∈ xs, ∀ y ∈ ys, ∀ u v z H', Same H1 H' → RatV K H' u x → RatV K H' v y → ∀ R : VK, (∀ v H3, Same H' H3 → RatV K H3 v (f x y) → R v H3) → te z (some u :: some v :: caps) H' R)
    (hq : ∀ H', Same H1 H' → RatL K H' D (List.zipWith f xs ys) → H1 D = none → Q (.ref D) H') :
    CompGo2 K (Itz K a b) D caps te Q H2 := by
  obtain ⟨vs, hs, hr, e⟩ := hA.sq
  obtain ⟨ws, hs', hr', e'⟩ := hB.sq
  refine comp_by2 xs.length (fun i zs H' => Same H1 H' ∧ H' D = some (.lst zs) ∧ RatsV K H' zs ((List.zipWith f xs ys).take i)) ⟨n.same, n.at_, .nil⟩ ?_ ?_ ?_ ?_
  · rintro i zs H' hi ⟨s, -, -⟩
    have h1 : i < vs.length := by rw [hr.len]; exact hi
    have h2 : i < ws.length := by rw [hr'.len]; omega
    exact ⟨vs, _, ws, _, s.seq hs, List.getElem?_eq_getElem h1, s.seq hs', List.getElem?_eq_getElem h2⟩
  · rintro zs H' ⟨s, -, -⟩
    exact ⟨vs, ws, s.seq hs, s.seq hs', .inl (by rw [hr.len]; exact Nat.le_refl _)⟩
  · rintro i zs H' x H3 z hi ⟨s, hD, hz⟩ ⟨p, v, w, rfl, np, hv, hw⟩
    have hv' := hv vs (s.seq hs)
    have hw' := hw ws (s.seq hs')
    obtain ⟨x1, hx1, rx⟩ := hr.get hv'
    obtain ⟨y1, hy1, ry⟩ := hr'.get hw'
    have s3 := s.trans np.same
    refine ⟨p, v, w, rfl, SqT.of np.at_, ?_⟩
    refine hte x1 (List.mem_of_getElem? hx1) y1 (List.mem_of_getElem? hy1) v w z H3 s3 (rx.same s3) (ry.same s3) _ fun u H4 s4 r4 => ⟨s4 _ _ (np.same _ _ hD), ?_, fun H5 c => ⟨c.same (s3.trans s4) n.fr, c.at_, ?_⟩⟩
    · rw [hz.len, List.length_take]
      omega
    · have t := c.ts (s4 _ _ (np.same _ _ hD))
      have hxy : (List.zipWith f xs ys)[i]? = some (f x1 y1) := by
        rw [List.getElem?_zipWith, hx1, hy1]
      rw [List.take_add_one, hxy]
      exact (((hz.ts np.same.ts).ts s4.ts).ts t).snoc (r4.ts t)
  · rintro zs H' ⟨s, hD, hz⟩
    rw [List.take_of_length_le (by rw [List.length_zipWith]; omega)] at hz
    exact hq H' s ⟨zs, hD, hz⟩ n.fr
end L2
namespace Lr
noncomputable def fact : Nat → Nat | 0 => 1 | n + 1 => (n + 1) * fact n
noncomputable def grpS (gs : List (Int × Nat)) (c : Int) : List (Int × Nat) := gs ++ gs.map fun p => (p.1 + c, p.2 + 1)
noncomputable def grp (ts : List Int) : List (Int × Nat) := ts.foldl grpS [(0, 0)]
noncomputable def tk (c e t : Int) : Int := min c (max (e - t) 0)
noncomputable def wt (n s : Nat) : Int := (fact s : Int) * (fact (n - s) : Int)
noncomputable def tv (c : Int) (ts : List Int) (e : Int) : Int := ((grp ts).map fun p => wt ts.length p.2 * tk c e p.1).sum
noncomputable def tn (ts : List Int) (e : Int) (i : Nat) : Int := tv (ts.getD i 0) (ts.eraseIdx i) e
structure TurnAt (cs : List Rat) (e : Rat) (i : Nat) (p : Rat) : Prop where
  ex : ∀ (D : Int) (ts : List Int) (E : Int), 0 < D → ts.map (fun t => rt t D) = cs → rt E D = e → p = rt (tn ts E i) (D * (fact cs.length : Int))
end Lr
namespace Lr
noncomputable def ins (x : Nat) : List Nat → List (List Nat)
  | [] => [[x]]
  | y :: r => (x :: y :: r) :: (ins x r).map (y :: ·)
section
variable (t : Nat → Int)
end
end Lr
namespace Lr
inductive Rl where
  | sh : Rl
  | ga : Rl
  | lo : Rl
  | ha : Rl
  | tu : Rl
noncomputable abbrev hv (c : Rat) : Rat := c * rt 1 2
theorem hv_eq : rt 1 2 = 1 / 2 := by rw [rt_eq]; rfl
noncomputable def Turns (cs : List Rat) (e : Rat) (ps : List Rat) : Prop := ps.length = cs.length ∧ ∀ (i : Nat) p, ps[i]? = some p → TurnAt cs e i p
noncomputable def RlR : Rl → List Rat → Rat → List Rat → Prop
  | .sh => fun cs e ps => ps = cs.map fun c => if sm cs = 0 then 0 else c * (e / sm cs)
  | .ga => fun cs e ps => ∃ g, Gain cs e g ∧ ps = cs.map (mn · g)
  | .lo => fun cs e ps => ∃ g, Gain cs (sm cs - e) g ∧ ps = cs.map fun c => c - mn c g
  | .ha => fun cs e ps => (e ≤ sm cs - e ∧ ∃ g, Gain (cs.map (· * rt 1 2)) e g ∧ ps = cs.map fun c => mn (c * rt 1 2) g) ∨ (sm cs - e < e ∧ ∃ g, Gain (cs.map (· * rt 1 2)) (sm cs - e) g ∧ ps = cs.map fun c => c - mn (c * rt 1 2) g)
  | .tu => Turns
structure Good (cs : List Rat) (e : Rat) : Prop where
  nn : ∀ c ∈ cs, 0 ≤ c
  e0 : 0 ≤ e
  le : e ≤ sm cs
  com : ∃ (D : Int) (ts : List Int) (E : Int), 0 < D ∧ ts.map (fun t => rt t D) = cs ∧ rt E D = e
structure Fam (F : Rat → Rat) : Prop where
  b0 : ∀ c, 0 ≤ c → 0 ≤ F c
  b1 : ∀ c, 0 ≤ c → F c ≤ c
  up : ∀ c c', 0 ≤ c → c ≤ c' → F c ≤ F c'
  lk : ∀ c c', 0 ≤ c → c ≤ c' → c - F c ≤ c' - F c'
noncomputable def AF : Rl → (Rat → Rat) → Prop
  | .sh => fun F => ∃ l : Rat, 0 ≤ l ∧ l ≤ 1 ∧ F = fun c => c * l
  | .ga => fun F => ∃ g : Rat, 0 ≤ g ∧ F = fun c => mn c g
  | .lo => fun F => ∃ g : Rat, 0 ≤ g ∧ F = fun c => c - mn c g
  | .ha => fun F => ∃ g : Rat, 0 ≤ g ∧ (F = (fun c => mn (c * rt 1 2) g) ∨ F = fun c => c - mn (c * rt 1 2) g)
  | .tu => fun _ => False
theorem mul_le_of_le_one {c l : Rat} (hc : 0 ≤ c) (h : l ≤ 1) : c * l ≤ c := by
  have := Rat.mul_le_mul_of_nonneg_left h hc
  grind
theorem AF.fam {ρ : Rl} {F : Rat → Rat} (h : AF ρ F) : Fam F := by
  cases ρ with
  | sh =>
    obtain ⟨l, l0, l1, rfl⟩ := h
    refine ⟨fun c hc => Rat.mul_nonneg hc l0, fun c hc => mul_le_of_le_one hc l1, fun c c' hc hl => Rat.mul_le_mul_of_nonneg_right hl l0, fun c c' hc hl => ?_⟩
    have h1 := mul_le_of_le_one (c := c' - c) (by grind) l1
    grind
  | ga =>
    obtain ⟨g, g0, rfl⟩ := h
    exact ⟨fun c hc => by simp only [mn]; grind, fun c hc => by simp only [mn]; grind, fun c c' hc hl => by simp only [mn]; grind, fun c c' hc hl => by simp only [mn]; grind⟩
  | lo =>
    obtain ⟨g, g0, rfl⟩ := h
    exact ⟨fun c hc => by simp only [mn]; grind, fun c hc => by simp only [mn]; grind, fun c c' hc hl => by simp only [mn]; grind, fun c c' hc hl => by simp only [mn]; grind⟩
  | ha =>
    obtain ⟨g, g0, rfl | rfl⟩ := h
    · simp only [hv_eq]
      exact ⟨fun c hc => by simp only [mn]; grind, fun c hc => by simp only [mn]; grind, fun c c' hc hl => by simp only [mn]; grind, fun c c' hc hl => by simp only [mn]; grind⟩
    · simp only [hv_eq]
      exact ⟨fun c hc => by simp only [mn]; grind, fun c hc => by simp only [mn]; grind, fun c c' hc hl => by simp only [mn]; grind, fun c c' hc hl => by simp only [mn]; grind⟩
  | tu => exact h.elim
theorem AF.cmp {ρ : Rl} {F G : Rat → Rat} (h : AF ρ F) (h' : AF ρ G) : (∀ c, 0 ≤ c → F c ≤ G c) ∨ ∀ c, 0 ≤ c → G c ≤ F c := by
  cases ρ with
  | sh =>
    obtain ⟨l, l0, l1, rfl⟩ := h
    obtain ⟨m, m0, m1, rfl⟩ := h'
    by_cases z : l ≤ m
    · exact .inl fun c hc => Rat.mul_le_mul_of_nonneg_left z hc
    · exact .inr fun c hc => Rat.mul_le_mul_of_nonneg_left (by grind) hc
  | ga =>
    obtain ⟨g, g0, rfl⟩ := h
    obtain ⟨k, k0, rfl⟩ := h'
    by_cases z : g ≤ k
    · exact .inl fun c hc => mn_mono z
    · exact .inr fun c hc => mn_mono (by grind)
  | lo =>
    obtain ⟨g, g0, rfl⟩ := h
    obtain ⟨k, k0, rfl⟩ := h'
    by_cases z : g ≤ k
    · exact .inr fun c hc => by have := mn_mono (x := c) z; grind
    · exact .inl fun c hc => by have := mn_mono (x := c) (show k ≤ g by grind); grind
  | ha =>
    obtain ⟨g, g0, rfl | rfl⟩ := h <;> obtain ⟨k, k0, rfl | rfl⟩ := h'
    · by_cases z : g ≤ k
      · exact .inl fun c hc => mn_mono z
      · exact .inr fun c hc => mn_mono (by grind)
    · refine .inl fun c hc => ?_
      have h1 := mn_le_l (x := c * rt 1 2) (y := g)
      have h2 := mn_le_l (x := c * rt 1 2) (y := k)
      rw [hv_eq] at h1 h2 ⊢
      grind
    · refine .inr fun c hc => ?_
      have h1 := mn_le_l (x := c * rt 1 2) (y := g)
      have h2 := mn_le_l (x := c * rt 1 2) (y := k)
      rw [hv_eq] at h1 h2 ⊢
      grind
    · by_cases z : g ≤ k
      · exact .inr fun c hc => by have := mn_mono (x := c * rt 1 2) z; grind
      · exact .inl fun c hc => by have := mn_mono (x := c * rt 1 2) (show k ≤ g by grind); grind
  | tu => exact h.elim
theorem all_eq {F G : Rat → Rat} : ∀ {cs : List Rat}, (∀ c ∈ cs, F c ≤ G c) → sm (cs.map G) ≤ sm (cs.map F) → ∀ c ∈ cs, F c = G c
  | [], _, _ => by simp
  | x :: r, h, l => by
    have h1 := h x List.mem_cons_self
    have h2 : sm (r.map F) ≤ sm (r.map G) := sm_le fun c hc => h c (List.mem_cons_of_mem _ hc)
    have l' : G x + sm (r.map G) ≤ F x + sm (r.map F) := l
    intro c hc
    rcases List.mem_cons.mp hc with rfl | hc
    · grind
    · exact all_eq (fun c hc => h c (List.mem_cons_of_mem _ hc)) (by grind) c hc
theorem AF.uniq {ρ : Rl} {F G : Rat → Rat} (h : AF ρ F) (h' : AF ρ G) {cs : List Rat} (nn : ∀ c ∈ cs, 0 ≤ c) (e : sm (cs.map F) = sm (cs.map G)) : ∀ c ∈ cs, F c = G c := by
  rcases h.cmp h' with z | z
  · exact all_eq (fun c hc => z c (nn c hc)) (by rw [e]; exact Rat.le_refl)
  · exact fun c hc => (all_eq (F := G) (G := F) (fun c hc => z c (nn c hc)) (by rw [e]; exact Rat.le_refl) c hc).symm
theorem sm_id_sub {F : Rat → Rat} {cs : List Rat} : sm (cs.map fun c => c - F c) = sm cs - sm (cs.map F) := by
  have := sm_sub (f := fun c => c) (g := F) (a := cs)
  rw [List.map_id'] at this
  exact this
theorem RlR.af {ρ : Rl} (hρ : ρ ≠ .tu) {cs : List Rat} {e : Rat} {ps : List Rat} (nn : ∀ c ∈ cs, 0 ≤ c) (e0 : 0 ≤ e) (le : e ≤ sm cs) (h : RlR ρ cs e ps) : ∃ F, AF ρ F ∧ ps = cs.map F ∧ sm (cs.map F) = e := by
  cases ρ with
  | sh =>
    by_cases z : sm cs = 0
    · refine ⟨fun c => c * 0, ⟨0, Rat.le_refl, by decide, rfl⟩, ?_, ?_⟩
      · rw [show ps = _ from h]
        apply List.map_congr_left
        intro c _
        rw [if_pos z]
        grind
      · rw [sm_mul]; grind
    · have hs : 0 < sm cs := by have := sm_nonneg nn; grind
      refine ⟨fun c => c * (e / sm cs), ⟨e / sm cs, ?_, ?_, rfl⟩, ?_, ?_⟩
      · rw [Rat.div_def]
        exact Rat.mul_nonneg e0 (Rat.le_of_lt (Rat.inv_pos.mpr hs))
      · have h1 : e / sm cs * sm cs = e := by grind
        refine Rat.not_lt.mp fun z1 => ?_
        have := Rat.mul_lt_mul_of_pos_right z1 hs
        grind
      · rw [show ps = _ from h]
        apply List.map_congr_left
        intro c _
        rw [if_neg z]
      · rw [sm_mul]; grind
  | ga =>
    obtain ⟨g, G, rfl⟩ := h
    exact ⟨_, ⟨g, G.g0, rfl⟩, rfl, G.sum⟩
  | lo =>
    obtain ⟨g, G, rfl⟩ := h
    refine ⟨_, ⟨g, G.g0, rfl⟩, rfl, ?_⟩
    rw [sm_id_sub, G.sum]
    grind
  | ha =>
    rcases h with ⟨l, g, G, rfl⟩ | ⟨l, g, G, rfl⟩
    · refine ⟨_, ⟨g, G.g0, .inl rfl⟩, rfl, ?_⟩
      have := G.sum
      rw [List.map_map] at this
      exact this
    · refine ⟨_, ⟨g, G.g0, .inr rfl⟩, rfl, ?_⟩
      have := G.sum
      rw [List.map_map] at this
      rw [sm_id_sub (F := fun c => mn (c * rt 1 2) g)]
      have e2 : sm (cs.map fun c => mn (c * rt 1 2) g) = sm cs - e := this
      rw [e2]
      grind
  | tu => exact absurd rfl hρ
theorem rt_wide' {t m ba : Int} (hb : 0 < ba) (hm : 0 < m) : rt t ba = rt (m * t) (ba * m) := by
  refine rt_of_mul (Int.mul_pos hb hm) ?_
  have := rt_mul_self (n := t) hb
  rw [Rat.intCast_mul, Rat.intCast_mul, ← this]
  grind
end Lr
namespace Lr
end Lr
namespace Lr
end Lr
namespace Lr
theorem rt_mn {a b D : Int} (hD : 0 < D) : mn (rt a D) (rt b D) = rt (min a b) D := by
  by_cases h : a ≤ b
  · rw [mn_l (rt_le hD h), Int.min_eq_left h]
  · rw [mn_r (rt_le hD (by omega)), Int.min_eq_right (by omega)]
end Lr
namespace PySem
open Sem (wp)
section
variable {prog : Program} {w : World} {A : Around} {Rs : Result → Shared → Prop} {ir : Addr} {fo wo : List Addr} {n : Nat} {P : Nat → Value → Prop} {St : Nat → Heap → Prop}
end
section
variable {prog : Program} {w : World} {A : Around} {E : Value → Shared → Prop} {sh : Shared}
end
end PySem
namespace L2
open PySem PySem.Spec PyProof.Rows
section
variable {X : Cx}
end
end L2
namespace PySem
open Sem (wp)
namespace F
end F
section
variable {prog : Program} {w : World} {A : Around} {E : Value → Shared → Prop} {s : Shared}
end
end PySem
namespace L2
open PySem PySem.Spec PyProof.Rows
section
variable {X : Cx}
end
end L2
namespace L2
open PySem PySem.Spec PyProof.Rows
variable {K : PySem.W.Frag}
end L2
namespace L2
open PySem PySem.Spec PyProof.Rows
section
variable {X : Cx}
end
end L2
namespace L2
open PySem PySem.Spec PyProof.Rows
section
variable {X : Cx}
end
end L2
namespace L2
open PySem PySem.Spec PyProof.Rows
section
variable {P : Program} {w : World} {K : PySem.W.Frag} {mg : Str → Option Value} {base : Heap}
end
section
variable {X : Cx}
end
end L2
namespace L2
open PySem PySem.Spec PyProof.Rows
section
variable {X : Cx}
end
end L2
namespace L2
open PySem PySem.Spec PyProof.Rows
section
variable {X : Cx}
end
end L2
namespace Lr
noncomputable def gp (x y : Rat) : Rat := if x < y then 0 else x - y
noncomputable def gd (c d m : Rat) : Rat := if gp m d ≤ hv m then mn c (hv m) else mn c (gp m d)
end Lr
namespace L2
open PySem PySem.Spec PyProof.Rows
section
variable {X : Cx}
end
end L2
namespace L2
open PySem PySem.Spec PyProof.Rows
section
variable {X : Cx}
end
end L2
namespace L2
open PySem PySem.Spec PyProof.Rows
section
variable {X : Cx}
end
end L2
namespace Lr
noncomputable def oth (g : Nat) : Nat → List Rat → List Rat
  | _, [] => []
  | i, c :: r => if g.testBit i = true then oth g (i + 1) r else c :: oth g (i + 1) r
end Lr
namespace Lr
end Lr
namespace L2
open PySem PySem.Spec PyProof.Rows
section
variable {X : Cx}
end
end L2
namespace Lr
theorem sm_ints {B : Int} (hB : 0 < B) : ∀ (ts : List Int), sm (ts.map fun t => rt t B) = rt ts.sum B
  | [] => (rt_zero hB).symm
  | t :: ts => by
    show rt t B + sm (ts.map fun t => rt t B) = _
    rw [sm_ints hB ts, rt_add_same hB, List.sum_cons]
end Lr
set_option Elab.async false
set_option linter.all false
set_option maxRecDepth 100000
set_option maxHeartbeats 4000000
namespace Lt
open PySem
noncomputable def Up (xs : Array Nat) : Prop := xs.toList.Pairwise (· < ·)
theorem Up.lt {xs : Array Nat} (h : Up xs) {i j a b : Nat} (hi : xs[i]? = some a) (hj : xs[j]? = some b) (hij : i < j) : a < b := by
  rw [← Array.getElem?_toList] at hi hj
  obtain ⟨i1, e1⟩ := List.getElem?_eq_some_iff.mp hi
  obtain ⟨j1, e2⟩ := List.getElem?_eq_some_iff.mp hj
  rw [← e1, ← e2]
  exact List.pairwise_iff_getElem.mp h i j i1 j1 hij
structure At (xs : Array Nat) (j p : Nat) : Prop where
  le : p ≤ xs.size
  lo : ∀ i a, i < p → xs[i]? = some a → a < j
  hi : ∀ i a, p ≤ i → xs[i]? = some a → j ≤ a
theorem go_at {xs : Array Nat} {j : Nat} (h : Up xs) : ∀ (fuel lo hi : Nat), hi - lo ≤ fuel → lo ≤ hi → hi ≤ xs.size → (∀ i a, i < lo → xs[i]? = some a → a < j) → (∀ i a, hi ≤ i → xs[i]? = some a → j ≤ a) → At xs j (SetTable.below.go xs j fuel lo hi)
  | 0, lo, hi, h1, h2, h3, h4, h5 => by
    obtain rfl : lo = hi := by omega
    exact ⟨h3, h4, h5⟩
  | fuel + 1, lo, hi, h1, h2, h3, h4, h5 => by
    unfold SetTable.below.go
    by_cases c : lo < hi
    · rw [if_pos c]
      dsimp only
      have hm : (lo + hi) / 2 < xs.size := by omega
      have hx : xs[(lo + hi) / 2]? = some (xs[(lo + hi) / 2]'hm) := Array.getElem?_eq_getElem hm
      have hg : xs.getD ((lo + hi) / 2) j = xs[(lo + hi) / 2]'hm := by rw [Array.getD_eq_getD_getElem?, hx]; rfl
      rw [hg]
      by_cases d : xs[(lo + hi) / 2]'hm < j
      · rw [if_pos d]
        refine go_at h fuel _ _ (by omega) (by omega) h3 (fun i a hi' ha => ?_) h5
        by_cases e : i = (lo + hi) / 2
        · subst e
          rw [hx] at ha
          cases ha
          exact d
        · exact Nat.lt_trans (h.lt ha hx (by omega)) d
      · rw [if_neg d]
        refine go_at h fuel _ _ (by omega) (by omega) (by omega) h4 fun i a hi' ha => ?_
        by_cases e : i = (lo + hi) / 2
        · subst e
          rw [hx] at ha
          cases ha
          omega
        · have := h.lt hx ha (by omega)
          omega
    · rw [if_neg c]
      obtain rfl : lo = hi := by omega
      exact ⟨h3, h4, h5⟩
theorem below_at {xs : Array Nat} (h : Up xs) (j : Nat) : At xs j (SetTable.below xs j) :=
  go_at h _ _ _ (by omega) (by omega) (by omega) (fun i a hi => absurd hi (by omega)) fun i a hi ha => by
    rw [Array.getElem?_eq_none hi] at ha
    cases ha
theorem below_next {xs : Array Nat} (h : Up xs) {i a : Nat} (ha : xs[i]? = some a) : SetTable.below xs (a + 1) = i + 1 := by
  have A := below_at h (a + 1)
  have hi : i < xs.size := by
    obtain ⟨z, _⟩ := Array.getElem?_eq_some_iff.mp ha
    exact z
  have h1 : i < SetTable.below xs (a + 1) := by
    refine Classical.byContradiction fun z => ?_
    have := A.hi i a (by omega) ha
    omega
  refine Classical.byContradiction fun z => ?_
  have h2 : i + 1 < SetTable.below xs (a + 1) := by omega
  have h3 := A.le
  have hx : xs[i + 1]? = some (xs[i + 1]'(by omega)) := Array.getElem?_eq_getElem (by omega)
  have := A.lo (i + 1) _ h2 hx
  have := h.lt ha hx (by omega)
  omega
theorem below_first {xs : Array Nat} (h : Up xs) : SetTable.below xs 0 = 0 := by
  have A := below_at h 0
  refine Classical.byContradiction fun z => ?_
  have h3 := A.le
  have hx : xs[0]? = some (xs[0]'(by omega)) := Array.getElem?_eq_getElem (by omega)
  have := A.lo 0 _ (by omega) hx
  omega
theorem up_nil : Up #[] := List.Pairwise.nil
theorem up_put {xs : Array Nat} (h : Up xs) {j : Nat} (hn : xs[SetTable.below xs j]? ≠ some j) : Up (SetTable.insertAt xs (SetTable.below xs j) j) := by
  have A := below_at h j
  generalize SetTable.below xs j = p at A hn
  unfold Up
  rw [SetTable.toList_insertAt]
  refine List.pairwise_append.mpr ⟨h.take, List.pairwise_cons.mpr ⟨fun b hb => ?_, h.drop⟩, fun a ha b hb => ?_⟩
  · obtain ⟨k, hk⟩ := List.mem_iff_getElem?.mp hb
    rw [List.getElem?_drop, Array.getElem?_toList] at hk
    have h1 := A.hi (p + k) b (by omega) hk
    by_cases e : b = j
    · subst e
      refine absurd ?_ hn
      by_cases hk0 : k = 0
      · subst hk0; exact hk
      · have hp : p < xs.size := by
          obtain ⟨z, _⟩ := Array.getElem?_eq_some_iff.mp hk
          omega
        have hx : xs[p]? = some (xs[p]'hp) := Array.getElem?_eq_getElem hp
        have := A.hi p _ (Nat.le_refl _) hx
        have := h.lt hx hk (by omega)
        omega
    · omega
  · obtain ⟨k, hk⟩ := List.mem_iff_getElem?.mp ha
    rw [List.getElem?_take] at hk
    split at hk
    · rename_i hlt
      rw [Array.getElem?_toList] at hk
      have h1 := A.lo k a hlt hk
      rcases List.mem_cons.mp hb with rfl | hb
      · exact h1
      · obtain ⟨m, hm⟩ := List.mem_iff_getElem?.mp hb
        rw [List.getElem?_drop, Array.getElem?_toList] at hm
        exact h.lt hk hm (by omega)
    · cases hk
structure Tb (led : Bool) (t : SetTable) : Prop where
  led : t.led = led
  up : t.plain = true → Up t.place ∧ t.dummies = #[]
theorem Tb.fresh (led : Bool) : Tb led (SetTable.fresh 0 0 led) := ⟨rfl, fun _ => ⟨up_nil, rfl⟩⟩
theorem Tb.standIn {led : Bool} {t : SetTable} (h : Tb led t) (n : Nat) : Tb led (t.standIn n) := ⟨h.led, fun z => by cases z⟩
theorem Tb.off {led : Bool} {t : SetTable} (h : Tb led t) : Tb led { t with plain := false } := ⟨h.led, fun z => by cases z⟩
theorem has_nil (j : Nat) : SetTable.has #[] j = false := rfl
theorem slot_empty {t : SetTable} {j : Nat} (h : t.slot j = .empty) : t.place[SetTable.below t.place j]? ≠ some j := by
  unfold SetTable.slot at h
  dsimp only at h
  intro e
  rw [if_pos (by rw [e]; simp)] at h
  cases h
theorem probe_empty {t : SetTable} {f : Nat → Int} {h : Int} (hd : t.dummies = #[]) : ∀ (fuel : Nat) (p : SetTable.Probe) {j : Nat} {d : Option Nat}, p.dummy = none → SetTable.probe.go t f h fuel p = some (.empty j d) → d = none ∧ t.slot j = .empty
  | 0, _, _, _, _, e => by cases e
  | fuel + 1, p, j, d, hp, e => by
    unfold SetTable.probe.go at e
    cases hs : t.slot p.j with
    | empty =>
      rw [hs] at e
      cases e
      exact ⟨hp, hs⟩
    | dummy =>
      unfold SetTable.slot at hs
      dsimp only at hs
      split at hs
      · cases hs
      · rw [hd, has_nil] at hs
        cases hs
    | live i =>
      rw [hs] at e
      dsimp only at e
      split at e
      · cases e
      · refine probe_empty hd fuel _ ?_ e
        unfold SetTable.advance
        split <;> exact hp
theorem Tb.put {led : Bool} {t : SetTable} (h : Tb led t) {k : Int} {j : Nat} {d : Bool} (hf : t.freeSlot k = some (j, d)) : Tb led (t.put j).1 := by
  refine ⟨h.led, fun hp => ?_⟩
  obtain ⟨u, hd⟩ := h.up hp
  have he : t.slot j = .empty := by
    unfold SetTable.freeSlot at hf
    split at hf
    · rename_i j' d' e
      have := probe_empty hd _ _ rfl e
      obtain ⟨rfl, hs⟩ := this
      cases hf
      exact hs
    · cases hf
  refine ⟨up_put u (slot_empty he), ?_⟩
  show (if SetTable.has t.dummies j = true then _ else t.dummies) = #[]
  rw [hd, has_nil]
  rfl
theorem Tb.lay {led : Bool} {t : SetTable} (h : Tb led t) (es : Array (Int × Value)) (k : Int) (x : Value) : Tb led (layNew t es k x).2.1 := by
  unfold layNew
  split
  · rename_i j d e
    have hp := h.put e
    show Tb led (SetTable.orStandIn (t.put j).1 _)
    unfold SetTable.orStandIn
    split
    · exact hp
    · exact hp.standIn _
  · exact h.standIn _
theorem up_live (owner : Array (Option Nat)) (m : Nat) : Up (((List.range m).filterMap fun j => (owner.getD j none).map (j, ·)).map (·.1)).toArray := by
  unfold Up
  show List.Pairwise _ (((List.range m).filterMap fun j => (owner.getD j none).map (j, ·)).map (·.1))
  rw [List.pairwise_map, List.pairwise_filterMap]
  refine List.pairwise_lt_range.imp fun {a b} hab x hx y hy => ?_
  obtain ⟨z, _, rfl⟩ := Option.map_eq_some_iff.mp hx
  obtain ⟨w, _, rfl⟩ := Option.map_eq_some_iff.mp hy
  exact hab
theorem Tb.relay {led : Bool} {t : SetTable} (h : Tb led t) (es : Array (Int × Value)) (n : Nat) : Tb led (relayAll t es n).2.1 := by
  unfold relayAll
  split
  · rename_i t' order e
    dsimp only
    split
    · unfold SetTable.relaid SetTable.laid at e
      cases ho : SetTable.layClean (SetTable.sizeAbove n - 1) (es.map (·.1)) with
      | none => rw [ho] at e; cases e
      | some owner =>
        rw [ho] at e
        cases e
        exact ⟨h.led, fun _ => ⟨up_live _ _, rfl⟩⟩
    · exact h.standIn _
  · exact h.standIn _
end Lt
set_option Elab.async false
set_option linter.all false
set_option maxRecDepth 100000
set_option maxHeartbeats 4000000
namespace Lt
open PySem PySem.Spec PyProof.Rows
noncomputable def keyOf (e : Int × Value) : Int := match e.2 with
  | .int k _ => k
  | _ => 0
noncomputable def Ents (l : List (Int × Value)) : Prop := ∀ e ∈ l, ∃ (k : Int) (t : Tok), e = (hashInt k, .int k t)
noncomputable def SetT (h : Heap) (a : Addr) (ks : List Int) (led : Bool) : Prop :=
  ∃ o es ep t, h.get? a = some o ∧ o.ExactSet ∧ o.data = .set es ep t ∧ Ents es.toList ∧ (es.toList.map keyOf).Perm ks ∧ es.size < scanBound ∧ t.fits es.size = true ∧ Tb led t
theorem Ents.elems {prog : Program} {w : World} {l : List (Int × Value)} (h : Ents l) : ElemsOf (intKind prog w) l := fun e he => by
  obtain ⟨k, t, rfl⟩ := h e he
  exact ⟨⟨k, intKind_is _ _ _ _, rfl⟩, rfl⟩
theorem Ents.perm {l m : List (Int × Value)} (h : Ents l) (p : m.Perm l) : Ents m := fun e he => h e (p.mem_iff.mp he)
theorem Ents.snoc {l : List (Int × Value)} (h : Ents l) (k : Int) (t : Tok) : Ents (l ++ [(hashInt k, .int k t)]) := fun e he => by
  rcases List.mem_append.mp he with he | he
  · exact h e he
  · exact ⟨k, t, List.mem_singleton.mp he⟩
theorem is_iff {prog : Program} {w : World} {k k' : Int} {t : Tok} : (intKind prog w).is k (.int k' t) = true ↔ k' = k := by simp [intKind, Value.isInt]
theorem Ents.has {prog : Program} {w : World} {l : List (Int × Value)} (h : Ents l) (k : Int) : k ∈ l.map keyOf ↔ ∃ e ∈ l, (intKind prog w).is k e.2 = true := by
  constructor
  · intro hk
    obtain ⟨e, he, hk⟩ := List.mem_map.mp hk
    obtain ⟨k', t, rfl⟩ := h e he
    exact ⟨_, he, is_iff.mpr hk⟩
  · rintro ⟨e, he, hk⟩
    obtain ⟨k', t, rfl⟩ := h e he
    exact List.mem_map.mpr ⟨_, he, is_iff.mp hk⟩
theorem size_lt {es fs : Array (Int × Value)} (p : fs.toList.Perm es.toList) : fs.size = es.size := by
  have := p.length_eq
  rw [Array.length_toList, Array.length_toList] at this
  exact this
section
variable {prog : Program} {w : World} {A : Around} {E : Value → Shared → Prop} {s : Shared}
theorem put_at {h : Heap} {a : Addr} {o : Obj} {es fs : Array (Int × Value)} {ep : Nat} {t u : SetTable} (g1 : h.get? a = some o) (g2 : o.ExactSet) (g3 : o.data = .set es ep t) :
    ∃ o', (h.update a (Obj.putSet fs u)).get? a = some o' ∧ o'.ExactSet ∧ o'.data = .set fs (ep + 1) u := by
  refine ⟨_, Heap.get?_update_self (Obj.putSet fs u) g1 (by rw [putSet_of fs u g3]; rfl), ?_, ?_⟩
  · rw [putSet_of fs u g3]; exact g2
  · rw [putSet_of fs u g3]
theorem add_int {a : Addr} {k : Int} {tk : Tok} {ks : List Int} {led : Bool} {Q : Bool → Shared → Prop} (hS : SetT s.heap a ks led) (hroom : ks.length + 1 < scanBound)
    (h : ∀ h', Heap.SameBut a s.heap h' → SetT h' a (if k ∈ ks then ks else ks ++ [k]) led → Q (!decide (k ∈ ks)) { s with heap := h' }) :
    wpAny (model prog w) A (setAddHashed a (.int k tk) (hashInt k)) Q E s := by
  obtain ⟨o, es, ep, t, g1, g2, g3, g4, g5, g6, g7, g8⟩ := hS
  have hlen : es.size = ks.length := by rw [← g5.length_eq, List.length_map, Array.length_toList]
  have kk := intKind_is prog w k tk
  have hel := g4.elems (prog := prog) (w := w)
  have hmem : k ∈ ks ↔ ∃ e ∈ es.toList, (intKind prog w).is k e.2 = true := by rw [← g5.mem_iff]; exact g4.has k
  unfold setAddHashed setAddHashedIn
  refine wpAny_holding (wpAny_bind (wpAny_setState_of g1 g3 g7 ?_))
  dsimp only
  rw [byScan_of (x := .int k tk) rfl g6 hel]
  simp only [↓reduceIte]
  unfold setAddByScan
  refine wpAny_bind (wpAny_bind (wpAny_rule (wpAny_bind (wpAny_setScan_of (knd := intKind prog w) kk g1 g3 g7 hel ?_))))
  cases hr : List.findIdx? (fun e => (intKind prog w).is k e.2) es.toList with
  | some j =>
    dsimp only
    obtain ⟨hj, hpj, _⟩ := List.findIdx?_eq_some_iff_getElem.mp hr
    have hin : k ∈ ks := hmem.mpr ⟨es.toList[j], List.getElem_mem hj, hpj⟩
    have z := h s.heap (Heap.SameBut.refl a s.heap) (by rw [if_pos hin]; exact ⟨o, es, ep, t, g1, g2, g3, g4, g5, g6, g7, g8⟩)
    rw [decide_eq_true hin] at z
    exact wpAny_pure (wpAny_pure z)
  | none =>
    dsimp only
    have hin : ¬ k ∈ ks := fun z => by
      obtain ⟨e, he, hp⟩ := hmem.mp z
      have := List.findIdx?_eq_none_iff.mp hr e he
      rw [hp] at this
      cases this
    have quiet : ∀ (b : Bool) {s₁ : Shared} {Q' : Unit → Shared → Prop}, Q' () s₁ → wpAny (model prog w) A (match b with | true => rule "set.scan.the-table-gave-way" | false => pure ()) Q' E s₁ := fun b s₁ Q' q => by
      cases b
      · exact wpAny_pure q
      · exact wpAny_rule q
    have p1 := layNew_perm t es (hashInt k) (.int k tk)
    have f1 := layNew_fits t es (hashInt k) (.int k tk)
    have b1 := g8.lay es (hashInt k) (.int k tk)
    generalize layNew t es (hashInt k) (.int k tk) = L at p1 f1 b1 ⊢
    obtain ⟨es1, t1, was, gave⟩ := L
    dsimp only at p1 f1 b1 ⊢
    rw [Array.toList_push] at p1
    have e1 : Ents es1.toList := (g4.snoc k tk).perm p1
    have n1 : es1.size = ks.length + 1 := by
      have := p1.length_eq
      rw [List.length_append, Array.length_toList, Array.length_toList, hlen] at this
      exact this
    have k1 : (es1.toList.map keyOf).Perm (ks ++ [k]) := by
      refine (p1.map keyOf).trans ?_
      rw [List.map_append]
      exact g5.append_right _
    have sc : es1.size < scanBound := by omega
    have fin : ∀ h' fs u ev, Heap.SameBut a s.heap h' → (∃ o', h'.get? a = some o' ∧ o'.ExactSet ∧ o'.data = .set fs ev u) → fs.toList.Perm es1.toList → u.fits fs.size = true → Tb led u → Q true { s with heap := h' } := fun h' fs u ev sb ⟨o', q1, q2, q3⟩ pf ff tf => by
      have z := h h' sb (by
        rw [if_neg hin]
        exact ⟨o', fs, ev, u, q1, q2, q3, e1.perm pf, (pf.map keyOf).trans k1, by rw [size_lt pf]; exact sc, ff, tf⟩)
      rw [decide_eq_false hin] at z
      exact z
    have tail : ∀ t2 : SetTable, t2.fits es1.size = true → Tb led t2 → wpAny (model prog w) A (do
        storeSet a es1 t2
        if (!was && t2.tooFull) = true then do
            (match (relayAll t2 es1 (SetTable.grown es1.size)).2.2 with | true => rule "set.scan.the-table-gave-way" | false => pure ())
            storeSet a (relayAll t2 es1 (SetTable.grown es1.size)).1 (relayAll t2 es1 (SetTable.grown es1.size)).2.1
            pure (some true)
          else pure (some true)) (fun r s' => wpAny (model prog w) A (match r with | some added => pure added | none => setAddHashedIn a (.int k tk) (hashInt k) 99999) Q E s') E s := fun t2 f2 b2 => by
      refine wpAny_bind (wpAny_storeSet_of g1 g3 ?_ (fits_of_scanBound sc))
      have y1 := put_at (fs := es1) (u := t2) g1 g2 g3
      have sb1 := Heap.SameBut.update s.heap a (Obj.putSet es1 t2)
      split
      · have p3 := relayAll_perm t2 es1 (SetTable.grown es1.size)
        have f3 := relayAll_fits t2 es1 (SetTable.grown es1.size)
        have b3 := b2.relay es1 (SetTable.grown es1.size)
        generalize relayAll t2 es1 (SetTable.grown es1.size) = R3 at p3 f3 b3 ⊢
        obtain ⟨es2, t3, gave2⟩ := R3
        dsimp only at p3 f3 b3 ⊢
        obtain ⟨o', q1, q2, q3⟩ := y1
        refine wpAny_bind (quiet _ (wpAny_bind (wpAny_storeSet_of q1 q3 ?_ (fits_of_scanBound (by rw [size_lt p3]; exact sc)))))
        exact wpAny_pure (wpAny_pure (fin _ es2 t3 _ (sb1.trans (Heap.SameBut.update _ a _)) (put_at q1 q2 q3) p3 f3 b3))
      · exact wpAny_pure (wpAny_pure (fin _ es1 t2 _ sb1 y1 (List.Perm.refl _) f2 b2))
    refine wpAny_bind (quiet _ ?_)
    split
    · refine wpAny_bind ?_
      rw [hashByValue_scannable 8 (x := .int k tk) rfl]
      refine wpAny_pure ?_
      refine tail _ ?_ ?_
      · split
        · exact f1
        · exact SetTable.fits_plain_off f1
      · split
        · exact b1
        · exact b1.off
    · refine wpAny_bind (wpAny_pure ?_)
      simp only [↓reduceIte]
      exact tail _ f1 b1
end
end Lt
set_option Elab.async false
set_option linter.all false
set_option maxRecDepth 100000
set_option maxHeartbeats 4000000
namespace Lt
open PySem PySem.Spec PyProof.Rows
noncomputable abbrev ledOf (w : World) : Bool := !w.params.followText "set-order"
noncomputable def ddS (ks : List Int) (k : Int) : List Int := if k ∈ ks then ks else ks ++ [k]
noncomputable def dd (ns : List Int) : List Int := ns.foldl ddS []
theorem dd_snoc (ns : List Int) (k : Int) : dd (ns ++ [k]) = ddS (dd ns) k := by unfold dd; rw [List.foldl_append]; rfl
theorem ddS_len (ks : List Int) (k : Int) : (ddS ks k).length ≤ ks.length + 1 := by unfold ddS; split <;> simp
theorem dd_take {ns : List Int} {i : Nat} (h : i < ns.length) : dd (ns.take (i + 1)) = ddS (dd (ns.take i)) (ns.getD i 0) := by
  rw [List.take_add_one, List.getElem?_eq_getElem h, Option.toList_some, dd_snoc, List.getD_eq_getElem?_getD, List.getElem?_eq_getElem h]
  rfl
theorem dd_len : ∀ (ns : List Int) (i : Nat), i ≤ ns.length → (dd (ns.take i)).length ≤ i
  | ns, 0, _ => by simp [dd]
  | ns, i + 1, h => by
    rw [dd_take (by omega)]
    have := dd_len ns i (by omega)
    have := ddS_len (dd (ns.take i)) (ns.getD i 0)
    omega
theorem ddS_mem (ks : List Int) (k x : Int) : x ∈ ddS ks k ↔ x ∈ ks ∨ x = k := by
  unfold ddS
  split
  · exact ⟨.inl, fun h => h.elim id fun e => e ▸ ‹_›⟩
  · rw [List.mem_append, List.mem_singleton]
theorem ddS_nd {ks : List Int} (h : ks.Nodup) (k : Int) : (ddS ks k).Nodup := by
  unfold ddS
  split
  · exact h
  · rename_i hk
    refine List.nodup_append.mpr ⟨h, List.nodup_cons.mpr ⟨by simp, List.nodup_nil⟩, fun a ha b hb e => ?_⟩
    rw [List.mem_singleton] at hb
    subst e hb
    exact hk ha
theorem dd_mem_nd (ns : List Int) : (∀ x, x ∈ dd ns ↔ x ∈ ns) ∧ (dd ns).Nodup := by
  have key : ∀ (l : List Int) (ks : List Int), ks.Nodup → (∀ x, x ∈ l.foldl ddS ks ↔ x ∈ ks ∨ x ∈ l) ∧ (l.foldl ddS ks).Nodup := fun l => by
    induction l with
    | nil => exact fun ks h => ⟨fun x => by simp, h⟩
    | cons k l ih =>
      intro ks h
      obtain ⟨a, b⟩ := ih (ddS ks k) (ddS_nd h k)
      refine ⟨fun x => ?_, b⟩
      rw [List.foldl_cons, a x, ddS_mem, List.mem_cons, or_assoc]
  have := key ns [] List.nodup_nil
  exact ⟨fun x => by rw [show dd ns = ns.foldl ddS [] from rfl, this.1 x]; simp, this.2⟩
theorem SetT.keep {h h' : Heap} {a : Addr} {ks : List Int} {led : Bool} (x : SetT h a ks led) (e : ∀ o, h.get? a = some o → h'.get? a = some o) : SetT h' a ks led :=
  let ⟨o, es, ep, t, g1, r⟩ := x
  ⟨o, es, ep, t, e o g1, r⟩
theorem SetT.fresh {h : Heap} {a : Addr} {led : Bool} (e : h.get? a = some { cls := .type "set", dict := none, data := .set #[] 0 (.fresh 0 0 led) }) : SetT h a [] led :=
  ⟨_, #[], 0, _, e, ⟨rfl, rfl, rfl⟩, rfl, fun e he => by simp at he, List.Perm.nil, by decide, by rfl, Tb.fresh led⟩
section
variable {prog : Program} {w : World} {A : Around} {R : Result → Shared → Prop} {I : Addr} {fp wr : List Addr} {G : Array GenState → Array GenState → Prop} {P : Nat → Value → Prop} {St : Nat → Shared → Prop}
theorem upd_loop {ns : List Int} {led : Bool} (W : WalksS prog w A.in1 I fp wr G ns.length P St) (S : Addr) (hSf : S ∉ fp) (hval : ∀ i v, P i v → ∃ t, v = .int (ns.getD i 0) t) (hb : ns.length + 1 < scanBound) :
    ∀ (k i : Nat) (s : Shared), ns.length - i = k → i ≤ ns.length → St i s → SetT s.heap S (dd (ns.take i)) led →
      (∀ s', Moved (S :: wr) G s s' → SetT s'.heap S (dd ns) led → R (.ok (.ret .none)) s') →
      codeAny (model prog w) A (.builtin "set.update.loop" ⟨[.ref S, .ref I], []⟩) R s := by
  have offw : S ∉ wr := fun z => hSf (W.sub _ z)
  have wide : ∀ b ∈ wr, b ∈ S :: wr := fun b z => List.mem_cons_of_mem _ z
  intro k
  induction k with
  | zero =>
    intro i s e1 e2 st hS hR
    obtain rfl : i = ns.length := by omega
    refine codeAny_builtin F.entry_set_update_loop ?_
    rw [Around.under_plainId F.plain_set_update_loop _]
    show wpAny _ A.in1 (pyNext (.ref I) >>= _) _ _ s
    refine wpAny_bind (W.done s _ _ st fun s' mv => ?_)
    show wpAny _ A.in1 (ret Value.none) _ _ s'
    rw [List.take_length] at hS
    exact wpAny_pure (hR s' (mv.mono wide) (hS.keep fun o e => mv.heap S _ offw e))
  | succ k ih =>
    intro i s e1 e2 st hS hR
    have lt : i < ns.length := by omega
    refine codeAny_builtin F.entry_set_update_loop ?_
    rw [Around.under_plainId F.plain_set_update_loop _]
    show wpAny _ A.in1 (pyNext (.ref I) >>= _) _ _ s
    refine wpAny_bind (W.item i s _ _ lt st fun v s' hP st' mv => ?_)
    obtain ⟨t, rfl⟩ := hval i v hP
    have hS' := hS.keep (h' := s'.heap) fun o e => mv.heap S _ offw e
    show wpAny _ A.in1 (holding [Value.int (ns.getD i 0) t] (setAdd S (.int (ns.getD i 0) t)) >>= _) _ _ s'
    refine wpAny_bind (wpAny_holding ?_)
    unfold setAdd
    refine wpAny_holding (wpAny_bind ((intKind prog w).pyHash (k := ns.getD i 0) (intKind_is _ _ _ _) ?_))
    have room : (dd (ns.take i)).length + 1 < scanBound := by
      have := dd_len ns i e2
      omega
    refine add_int (s := { s' with toks := s'.toks + 1 }) hS' room fun h' sb hS2 => ?_
    have hSi : SetT h' S (dd (ns.take (i + 1))) led := by rw [dd_take lt]; exact hS2
    refine wpAny_pure ⟨plainId_quiet F.plain_set_update_loop _, ih (i + 1) _ (by omega) lt (W.frame _ s' _ _ st' (Nat.le_succ _) fun b z o e => ?_) hSi fun s'' mv'' hS'' => ?_⟩
    · rw [sb.2 b (fun q : b = S => hSf (by rw [← q]; exact z))]; exact e
    · refine hR s'' (Moved.trans W.gtrans ((mv.mono wide).then_heap (Nat.le_succ _) fun b o z e => ?_) mv'') hS''
      rw [sb.2 b (fun q : b = S => z (by rw [q]; exact List.mem_cons_self))]; exact e
end
section
variable {prog : Program} {w : World} {A : Around} {E : Value → Shared → Prop} {s : Shared}
noncomputable abbrev newSetObj (led : Bool) : Obj := { cls := .type "set", dict := none, data := .set #[] 0 (.fresh 0 0 led) }
theorem new_led (a : Value) {Q₁ : Value → Shared → Prop} (h : Q₁ (.ref s.heap.objs.size) { s with heap := s.heap.push (newSetObj (ledOf w)) }) :
    codeAny (model prog w) A (.call (.builtin "set.__new__") ⟨[.type "set", a], []⟩) (wants Q₁ E) s := by
  refine codeAny_of_tree ?_
  show wpAny _ A.in1 (do checkBuiltinCall "set.__new__" ⟨[.type "set", a], []⟩; again (.builtin "set.__new__" ⟨[.type "set", a], []⟩)) _ _ s
  refine wpAny_bind (wpAny_of_eq (F.newCall_set_1 a) (wpAny_pure ⟨plainId_quiet F.plain_set_new _, codeAny_builtin F.entry_set_new ?_⟩))
  rw [Around.under_plainId F.plain_set_new _]
  unfold Builtin.«set.__new__» Builtin.Frozenset.newClass
  have hsub := sub_set_self
  obtain ⟨hp, g, d, tk, os⟩ := s
  dsimp only
  wp_walk
  refine wpAny_askSetting (wpAny_pure ?_)
  dsimp only
  simp only [newObj]
  refine wpAny_bind (wpAny_alloc (wpAny_pure ?_))
  exact wpAny_pure h
theorem call_set {l : Addr} {items : Array Value} {ns : List Int} {Q : Value → Shared → Prop} (hh : A.handled = none) (hl : s.heap.IsList l items) (hi : IntsAre items.toList ns) (hb : ns.length + 1 < scanBound)
    (h : ∀ (h' : Heap) (tk : Nat), SetT h' s.heap.objs.size (dd ns) (ledOf w) → (∀ b o, b < s.heap.objs.size → s.heap.get? b = some o → h'.get? b = some o) → Q (.ref s.heap.objs.size) { s with heap := h', toks := tk }) :
    wpAny (model prog w) A (call (.type "set") [.ref l]) Q E s := by
  have hsz : items.size = ns.length := by rw [← Array.length_toList]; exact IntsAre.length hi
  obtain ⟨c, tl, m1⟩ := F.called_set.mro
  have m2 := F.called_set.made
  have m3 := F.called_set.sub
  refine wpAny_call (codeAny_of_tree ?_)
  show wpAny _ _ (callAny (.type "set") _) _ _ _
  refine wpAny_pure ⟨Code.quiet_builtin _ (by decide +kernel), codeAny_builtin F.entry_type_call ?_⟩
  rw [Around.under_plain (weight_type_call_type "set" [.ref l] []) rfl]
  have m4 := F.called_set.notType
  have m5 := F.called_set.canCreate
  have m6 := F.typeCall_set_1 (.ref l)
  repeat any_goals first | assumption | wp_step
  refine codeAny_mono (new_led (.ref l) (E := E) (Q₁ := fun obj s₁ => obj = .ref s.heap.objs.size ∧ s₁ = { s with heap := s.heap.push (newSetObj (ledOf w)) }) ⟨rfl, rfl⟩) fun r s₁ hr => ?_
  cases r with
  | error e => exact hr
  | ok fl =>
    cases fl with
    | ret obj =>
      obtain ⟨rfl, rfl⟩ := hr
      have hS : (s.heap.push (newSetObj (ledOf w))).get? s.heap.objs.size = some (newSetObj (ledOf w)) := Heap.get?_push_size _ rfl
      have hT : Shared.TypeIs { s with heap := s.heap.push (newSetObj (ledOf w)) } (.ref s.heap.objs.size) "set" := ⟨_, hS, rfl⟩
      have m7 := F.called_set.init.lookup
      have m8 := F.called_set.init.bind (.ref s.heap.objs.size)
      repeat any_goals first | assumption | wp_step
      refine codeAny_mono (codeAny_call_builtin (R := wants (fun r s₂ => r = .none ∧ ∃ h' tk, s₂ = { s with heap := h', toks := tk } ∧ SetT h' s.heap.objs.size (dd ns) (ledOf w) ∧
          (∀ b o, b < s.heap.objs.size → s.heap.get? b = some o → h'.get? b = some o)) E) F.called_set.init.plain F.entry_set_init (check_set_init_1 hT ?_)) fun r₂ s₂ hr₂ => ?_
      · obtain ⟨ol, k1, k2, nl, k3⟩ := hl
        obtain ⟨ocls, odict, odata, oslots⟩ := ol
        simp only at k2 k3
        subst k2; subst k3
        have k4 : (s.heap.push (newSetObj (ledOf w))).get? l = some { cls := .type "list", dict := odict, data := .seq items nl, slots := oslots } := Heap.get?_push_of_some _ k1
        have k5 := F.sub_list_set
        have k6 := F.sub_list_frozenset
        have k7 : (Value.type "list" == Value.type "dict") = false := by decide
        have k8 : (s.heap.push (newSetObj (ledOf w))).IsList l items := ⟨_, k4, rfl, nl, rfl⟩
        unfold Builtin.«set.__init__» noKeywords Builtin.Frozenset.updateFrom
        generalize hPI : pyIter = PI
        wp_walk
        subst hPI
        refine wpAny_pyIter_list k8 ?_
        refine wpAny_bind (wpAny_runValue ?_)
        have k9 : l < s.heap.objs.size := Heap.lt_size k1
        have h3 : A.in1.in1.in1.handled = none := by simp [hh]
        have off1 : l ≠ (s.heap.push (newSetObj (ledOf w))).objs.size := by rw [Heap.size_push]; exact Nat.ne_of_lt (Nat.lt_succ_of_lt k9)
        have off2 : s.heap.objs.size ∉ [(s.heap.push (newSetObj (ledOf w))).objs.size, l] := by
          rw [Heap.size_push]
          intro z
          rcases List.mem_cons.mp z with z | z
          · exact absurd z (Nat.ne_of_lt (Nat.lt_succ_self _))
          · exact absurd (List.mem_singleton.mp z) (Nat.ne_of_gt k9)
        have val : ∀ (i : Nat) (v : Value), items[i]? = some v → ∃ t, v = .int (ns.getD i 0) t := fun i v hv => IntsAre.int_at hi i v (by rw [Array.getElem?_toList]; exact hv)
        have W := (Walks.list (prog := prog) (w := w) h3 _ l off1 items).toS
        rw [hsz] at W
        refine upd_loop (led := ledOf w) W s.heap.objs.size off2 val hb (ns.length - 0) 0 _ (by omega) (Nat.zero_le _) ⟨⟨_, Heap.get?_push_size _ rfl, rfl, rfl⟩, (k8.push _)⟩ ?hS0 ?hR
        case hS0 => exact SetT.fresh (Heap.get?_push_of_some _ hS)
        case hR =>
          intro s' mv hS'
          obtain ⟨h', g', d', tk', os'⟩ := s'
          have eg : g' = s.gens := mv.gens
          have ed : d' = s.drawn := mv.drawn
          have eo : os' = s.os := mv.os
          subst eg; subst ed; subst eo
          show wpAny _ _ _ _ _ _
          refine wpAny_pure ?_
          show wpAny _ _ (ret Value.none) _ _ _
          refine wpAny_pure ⟨rfl, h', tk', rfl, hS', fun b o lt e => ?_⟩
          refine mv.heap b o (fun z => ?_) (Heap.get?_push_of_some _ (Heap.get?_push_of_some _ e))
          rcases List.mem_cons.mp z with z | z
          · exact absurd z (Nat.ne_of_lt lt)
          · have z' := List.mem_singleton.mp z
            rw [Heap.size_push] at z'
            exact absurd z' (Nat.ne_of_lt (Nat.lt_succ_of_lt lt))
      · cases r₂ with
        | error e => exact hr₂
        | ok fl₂ =>
          cases fl₂ with
          | ret r =>
            obtain ⟨rfl, h', tk, rfl, q1, q2⟩ := hr₂
            repeat any_goals first | assumption | wp_step
            exact h _ _ q1 q2
          | _ => exact hr₂.elim
    | _ => exact hr.elim
end
end Lt
set_option Elab.async false
set_option linter.all false
set_option maxRecDepth 100000
set_option maxHeartbeats 4000000
namespace Lt
open PySem PySem.Spec PyProof.Rows
theorem slot_next : Slot "set_iterator" "__next__" "set_iterator.__next__" :=
  .of (owner := "set_iterator") (n := "__next__") (by rw [typeLookup_type, builtinLookup_eq_fast]; kernel_rfl) (by decide +kernel) (by decide +kernel) (by decide +kernel) (by first | exact .inl (by decide +kernel) | exact .inr (by decide +kernel)) (by rw [isSubtype_type]; kernel_rfl)
theorem entry_next : entryFor table "set_iterator.__next__" = some Builtin.«set_iterator.__next__» := entryFor_of_fast (by kernel_rfl)
theorem args_next (a : Value) : argsOk "set_iterator.__next__" ⟨[a], []⟩ := by unfold argsOk; kernel_rfl
theorem entry_iter : entryFor table "set.__iter__" = some Builtin.«frozenset.__iter__» := entryFor_alias (id' := "frozenset.__iter__") (by kernel_rfl) rfl (by decide +kernel) (by kernel_rfl)
noncomputable def IsIt (h : Heap) (I S : Addr) (first : Value) (i n ep : Nat) : Prop := ∃ oi, h.get? I = some oi ∧ oi.cls = .type "set_iterator" ∧ oi.data = .fields #[first, .int i 0, .ref S, .int n 0, .int ep 0]
theorem IsIt.keep {h h' : Heap} {I S : Addr} {first : Value} {i n ep : Nat} (x : IsIt h I S first i n ep) (e : ∀ o, h.get? I = some o → h'.get? I = some o) : IsIt h' I S first i n ep :=
  let ⟨o, a, r⟩ := x
  ⟨o, e o a, r⟩
section
variable {prog : Program} {w : World} {A : Around} {E : Value → Shared → Prop} {s : Shared}
theorem IsIt.ty {I S : Addr} {first : Value} {i n ep : Nat} (x : IsIt s.heap I S first i n ep) : s.TypeIs (.ref I) "set_iterator" := let ⟨o, a, b, _⟩ := x; ⟨o, a, b⟩
theorem next_by {I S : Addr} {first : Value} {i n ep : Nat} {Q : Option Value → Shared → Prop} (x : IsIt s.heap I S first i n ep)
    (h : wpAny (model prog w) A.in1 (Builtin.«set_iterator.__next__» ⟨[.ref I], []⟩) (fun fin s' => ∃ v, fin = .done (.ret v) ∧ Q (some v) s') (fun e s' => s'.TypeIs e "StopIteration" ∧ Q none s') s) :
    wpAny (model prog w) A (pyNext (.ref I)) Q E s := by
  unfold pyNext
  refine wpAny_bind (wpAny_attempt (wpAny_callSpecial?_slot (name := Str.ofString "__next__") x.ty slot_next (wpAny_call_entry slot_next x.ty entry_next (wpAny_mono h ?_ ?_) (args_next _))))
  · rintro fin s' ⟨v, rfl, q⟩
    exact ⟨v, rfl, wpAny_pure q⟩
  · rintro e s' ⟨t, q⟩
    exact wpAny_bind (wpAny_isInstance (T := "StopIteration") (b := true) t isSubtype_stop (wpAny_pure q))
theorem stop_at {R : Fin → Shared → Prop} {q : Shared → Prop} (hh : A.handled = none) (h : ∀ h' : Heap, (∀ b o, s.heap.get? b = some o → h'.get? b = some o) → q { s with heap := h' }) :
    wpAny (model prog w) A (newExc (.type "StopIteration") [] >>= fun e => raiseNew e) R (fun e s' => s'.TypeIs e "StopIteration" ∧ q s') s := by
  refine wpAny_bind ?_
  simp only [newExc, newTuple]
  refine wpAny_bind (wpAny_newObj_type ?_ (by size_fits))
  refine wpAny_bind (m := firstArgMember _ _) (wpAny_of_eq (a := Value.none) (by first | rfl | (simp only [firstArgMember]; rfl)) ?_)
  refine wpAny_newObj_type ?_ (by size_fits)
  simp only [raiseNew]
  refine wpAny_bind (wpAny_handled ?_)
  rw [show A.handled = none from hh]
  refine wpAny_bind (wpAny_pure (wpAny_throw ⟨⟨_, Heap.get?_push_size _ rfl, rfl⟩, h _ fun b o e => ?_⟩))
  exact Heap.get?_push_of_some _ (Heap.get?_push_of_some _ e)
theorem step_it {h : Heap} {I S : Addr} {first next : Value} {i n ep : Nat} (x : IsIt h I S first i n ep) :
    IsIt ((h.update I (Obj.mapFields (·.setIfInBounds 0 next))).update I (Obj.mapFields (·.setIfInBounds 1 (rawInt ((i : Int) + 1))))) I S next (i + 1) n ep := by
  obtain ⟨oi, e1, e2, e3⟩ := x
  have u1 := Heap.get?_update_self (Obj.mapFields (·.setIfInBounds 0 next)) e1 (Obj.isFreed_of_fields (Obj.data_mapFields e3 _))
  have d1 := Obj.data_mapFields e3 (·.setIfInBounds 0 next)
  refine ⟨_, Heap.get?_update_self _ u1 (Obj.isFreed_of_fields (Obj.data_mapFields d1 _)), (Obj.cls_mapFields ..).trans ((Obj.cls_mapFields ..).trans e2), ?_⟩
  rw [Obj.data_mapFields d1]
  simp [rawInt]
theorem step_it1 {h : Heap} {I S : Addr} {first : Value} {i n ep : Nat} (x : IsIt h I S first i n ep) :
    IsIt (h.update I (Obj.mapFields (·.setIfInBounds 1 (rawInt ((i : Int) + 1))))) I S first (i + 1) n ep := by
  obtain ⟨oi, e1, e2, e3⟩ := x
  refine ⟨_, Heap.get?_update_self _ e1 (Obj.isFreed_of_fields (Obj.data_mapFields e3 _)), (Obj.cls_mapFields ..).trans e2, ?_⟩
  rw [Obj.data_mapFields e3]
  simp [rawInt]
theorem wp_choose {src : Source} {n : Nat} {Q : Nat → Shared → Prop} (hn : n ≠ 0) (h : ∀ i, i < n → ∀ d, Q i { s with drawn := d }) : wpAny (model prog w) A (choose src n) Q E s := fun Γ p hΓ => ⟨hn, h _ (Nat.mod_lt _ (by omega)) _⟩
theorem erase_perm {α : Type} : ∀ {xs : List α} {i : Nat} {x : α}, xs[i]? = some x → (x :: xs.eraseIdx i).Perm xs
  | [], _, _, h => by cases h
  | y :: xs, 0, x, h => by cases h; exact List.Perm.refl _
  | y :: xs, i + 1, x, h => by
    rw [List.eraseIdx_cons_succ]
    exact (List.Perm.swap y x _).trans ((erase_perm (xs := xs) (i := i) h).cons y)
theorem draw_perm {α : Type} : ∀ (n : Nat) (xs : List α) {s : Shared} {Q : List α → Shared → Prop}, n = xs.length → (∀ ys d, ys.Perm xs → Q ys { s with drawn := d }) → wpAny (model prog w) A (drawOrder n xs) Q E s
  | 0, [], s, Q, _, h => wpAny_pure (h [] s.drawn List.Perm.nil)
  | 0, _ :: _, _, _, e, _ => by cases e
  | n + 1, [], _, _, e, _ => by cases e
  | n + 1, x :: xs, s, Q, e, h => by
    unfold drawOrder
    refine wpAny_bind (wp_choose (by simp) fun i hi d => ?_)
    have hx : (x :: xs)[i]? = some ((x :: xs)[i]) := List.getElem?_eq_getElem hi
    rw [hx]
    refine wpAny_bind (draw_perm n _ (by
      have := (erase_perm hx).length_eq
      simp only [List.length_cons] at this e
      omega) fun ys d' hp => ?_)
    exact wpAny_pure (h _ d' ((hp.cons _).trans (erase_perm hx)))
theorem pick_perm {α : Type} (next : Nat → Nat) : ∀ (fuel k : Nat) (left : List α) (out : Array α), fuel = left.length → (pickOrder.go next fuel k left out).toList.Perm (out.toList ++ left)
  | 0, k, left, out, h => by
    rw [List.length_eq_zero_iff.mp h.symm, List.append_nil]
    exact List.Perm.refl _
  | fuel + 1, k, left, out, h => by
    unfold pickOrder.go
    have hl : next k % left.length < left.length := Nat.mod_lt _ (by omega)
    have hx : left[next k % left.length]? = some (left[next k % left.length]) := List.getElem?_eq_getElem hl
    rw [hx]
    refine (pick_perm next fuel (k + 1) _ _ (by
      have := (erase_perm hx).length_eq
      rw [List.length_cons] at this
      omega)).trans ?_
    rw [Array.toList_push, List.append_assoc]
    exact ((erase_perm hx).append_left _)
theorem pickAll_perm {α : Type} (next : Nat → Nat) (xs : Array α) : (pickOrder next xs).toList.Perm xs.toList := by
  have := pick_perm next xs.size 0 xs.toList #[] (by simp)
  unfold pickOrder
  simpa using this
end
end Lt
set_option Elab.async false
set_option linter.all false
set_option maxRecDepth 100000
set_option maxHeartbeats 4000000
namespace Lt
open PySem PySem.Spec PyProof.Rows
section
variable {prog : Program} {w : World} {A : Around} {E : Value → Shared → Prop} {s : Shared} {I S : Addr} {o : Obj} {es : Array (Int × Value)} {ep : Nat} {t : SetTable}
theorem by_text {b : Bool} {Q : Bool → Shared → Prop} (hb : w.params.followText "set-order" = b) (q : Q b s) : wpAny (model prog w) A setsByText Q E s := by
  unfold setsByText
  refine wpAny_bind (wpAny_askSetting (wpAny_pure ?_))
  show Q (w.params.followText "set-order") s
  rw [hb]
  exact q
theorem walk_text {Q : Array (Int × Value) → Shared → Prop} (hb : w.params.followText "set-order" = true) (g1 : s.heap.get? S = some o) (g2 : o.data = .set es ep t) (g3 : t.fits es.size = true) (q : Q (pickOrder (w.params.setOrder S ep) es) s) :
    wpAny (model prog w) A (setWalk S) Q E s := by
  unfold setWalk
  refine wpAny_bind (wpAny_setState_of g1 g2 g3 ?_)
  dsimp only
  refine wpAny_bind (by_text hb ?_)
  rw [if_pos rfl]
  exact wpAny_bind (wpAny_askSetting (wpAny_pure q))
theorem snext_text {sl i : Nat} {Q : Option (Value × Nat) → Shared → Prop} (hb : w.params.followText "set-order" = true) (g1 : s.heap.get? S = some o) (g2 : o.data = .set es ep t) (g3 : t.fits es.size = true)
    (q : Q ((pickOrder (w.params.setOrder S ep) es)[i]?.map fun e => (e.2, sl)) s) : wpAny (model prog w) A (setNext S sl i ep) Q E s := by
  unfold setNext
  refine wpAny_bind (wpAny_setState_of g1 g2 g3 ?_)
  dsimp only
  refine wpAny_bind (by_text hb ?_)
  rw [if_pos rfl, if_neg (by simp)]
  exact wpAny_bind (walk_text hb g1 g2 g3 (wpAny_pure q))
noncomputable def Still (es : Array (Int × Value)) (t : SetTable) : Prop := (!t.plain && decide (es.size > 1)) = false
theorem snext_slot {sl i : Nat} {Q : Option (Value × Nat) → Shared → Prop} (hb : w.params.followText "set-order" = false) (hl : t.led = true) (hd : Still es t) (g1 : s.heap.get? S = some o) (g2 : o.data = .set es ep t) (g3 : t.fits es.size = true)
    (q : Q (match es[SetTable.below t.place sl]?, t.place[SetTable.below t.place sl]? with | some (_, x), some j => some (x, j + 1) | _, _ => none) s) : wpAny (model prog w) A (setNext S sl i ep) Q E s := by
  unfold setNext
  refine wpAny_bind (wpAny_setState_of g1 g2 g3 ?_)
  dsimp only
  refine wpAny_bind (by_text hb ?_)
  rw [if_neg (by decide)]
  have hd' : ¬ (!t.plain && decide (es.size > 1)) = true := by rw [hd]; decide
  show wpAny _ _ (if (!t.plain && decide (es.size > 1)) = true then _ else _) _ _ _
  rw [if_neg hd']
  refine wpAny_bind ?_
  have hl' : ¬ (!t.led && !es.isEmpty) = true := by rw [hl]; simp
  show wpAny _ _ (if (!t.led && !es.isEmpty) = true then _ else _) _ _ _
  rw [if_neg hl']
  exact wpAny_pure (wpAny_pure q)
theorem text_item {i : Nat} {x : Int × Value} {Q : Option Value → Shared → Prop} (hb : w.params.followText "set-order" = true) (g1 : s.heap.get? S = some o) (g2 : o.data = .set es ep t) (g3 : t.fits es.size = true) (hit : IsIt s.heap I S (.int 0 0) i es.size ep)
    (hx : (pickOrder (w.params.setOrder S ep) es)[i]? = some x) (q : ∀ h', IsIt h' I S (.int 0 0) (i + 1) es.size ep → Heap.SameBut I s.heap h' → Q (some x.2) { s with heap := h' }) :
    wpAny (model prog w) A (pyNext (.ref I)) Q E s := by
  refine next_by hit ?_
  obtain ⟨oi, e1, e2, e3⟩ := id hit
  unfold Builtin.«set_iterator.__next__»
  refine wpAny_bind (m := slotArgs _ _ _) (wpAny_pure (wpAny_bind (wpAny_fieldsOf e1 e3 ?_)))
  dsimp only
  refine wpAny_bind (wpAny_setEntries_of g1 g2 g3 ?_)
  rw [if_neg (by simp)]
  refine wpAny_bind (snext_text hb g1 g2 g3 ?_)
  simp only [Int.toNat_natCast]
  rw [hx]
  dsimp only [Option.map]
  refine wpAny_bind (wpAny_setField e1 e3 (by simp) ?_)
  have u1 := Heap.get?_update_self (Obj.mapFields (·.setIfInBounds 0 (rawInt ((0 : Nat) : Int)))) e1 (Obj.isFreed_of_fields (Obj.data_mapFields e3 _))
  have d1 := Obj.data_mapFields e3 (·.setIfInBounds 0 (rawInt ((0 : Nat) : Int)))
  refine wpAny_bind (wpAny_setField u1 d1 (by simp) (wpAny_pure ⟨_, rfl, q _ (step_it hit) ((Heap.SameBut.update ..).trans (Heap.SameBut.update ..))⟩))
theorem text_end {i : Nat} {Q : Option Value → Shared → Prop} (hh : A.handled = none) (hb : w.params.followText "set-order" = true) (g1 : s.heap.get? S = some o) (g2 : o.data = .set es ep t) (g3 : t.fits es.size = true) (hit : IsIt s.heap I S (.int 0 0) i es.size ep)
    (hx : (pickOrder (w.params.setOrder S ep) es)[i]? = none) (q : ∀ h', Heap.ExtBut I s.heap h' → Q none { s with heap := h' }) : wpAny (model prog w) A (pyNext (.ref I)) Q E s := by
  refine next_by hit ?_
  obtain ⟨oi, e1, e2, e3⟩ := id hit
  unfold Builtin.«set_iterator.__next__»
  refine wpAny_bind (m := slotArgs _ _ _) (wpAny_pure (wpAny_bind (wpAny_fieldsOf e1 e3 ?_)))
  dsimp only
  refine wpAny_bind (wpAny_setEntries_of g1 g2 g3 ?_)
  rw [if_neg (by simp)]
  refine wpAny_bind (snext_text hb g1 g2 g3 ?_)
  simp only [Int.toNat_natCast]
  rw [hx]
  dsimp only [Option.map]
  refine wpAny_bind (wpAny_setField e1 e3 (by simp) ?_)
  exact stop_at (q := fun s' => Q none s') (by simpa using hh) fun h' k => q h' fun b o hb e => k b o ((Heap.get?_update_other _ _ (Ne.symm hb)).trans e)
theorem slot_item {i sl j : Nat} {x : Int × Value} {Q : Option Value → Shared → Prop} (hb : w.params.followText "set-order" = false) (hl : t.led = true) (hd : Still es t) (g1 : s.heap.get? S = some o) (g2 : o.data = .set es ep t) (g3 : t.fits es.size = true) (hit : IsIt s.heap I S (.int sl 0) i es.size ep)
    (hx : es[SetTable.below t.place sl]? = some x) (hj : t.place[SetTable.below t.place sl]? = some j) (q : ∀ h', IsIt h' I S (.int (j + 1 : Nat) 0) (i + 1) es.size ep → Heap.SameBut I s.heap h' → Q (some x.2) { s with heap := h' }) :
    wpAny (model prog w) A (pyNext (.ref I)) Q E s := by
  refine next_by hit ?_
  obtain ⟨oi, e1, e2, e3⟩ := id hit
  unfold Builtin.«set_iterator.__next__»
  refine wpAny_bind (m := slotArgs _ _ _) (wpAny_pure (wpAny_bind (wpAny_fieldsOf e1 e3 ?_)))
  dsimp only
  refine wpAny_bind (wpAny_setEntries_of g1 g2 g3 ?_)
  rw [if_neg (by simp)]
  refine wpAny_bind (snext_slot hb hl hd g1 g2 g3 ?_)
  simp only [Int.toNat_natCast]
  rw [hx, hj]
  dsimp only
  refine wpAny_bind (wpAny_setField e1 e3 (by simp) ?_)
  have u1 := Heap.get?_update_self (Obj.mapFields (·.setIfInBounds 0 (rawInt ((j + 1 : Nat) : Int)))) e1 (Obj.isFreed_of_fields (Obj.data_mapFields e3 _))
  have d1 := Obj.data_mapFields e3 (·.setIfInBounds 0 (rawInt ((j + 1 : Nat) : Int)))
  refine wpAny_bind (wpAny_setField u1 d1 (by simp) (wpAny_pure ⟨_, rfl, q _ (step_it hit) ((Heap.SameBut.update ..).trans (Heap.SameBut.update ..))⟩))
theorem slot_end {i sl : Nat} {Q : Option Value → Shared → Prop} (hh : A.handled = none) (hb : w.params.followText "set-order" = false) (hl : t.led = true) (hd : Still es t) (g1 : s.heap.get? S = some o) (g2 : o.data = .set es ep t) (g3 : t.fits es.size = true) (hit : IsIt s.heap I S (.int sl 0) i es.size ep)
    (hx : es[SetTable.below t.place sl]? = none) (q : ∀ h', Heap.ExtBut I s.heap h' → Q none { s with heap := h' }) : wpAny (model prog w) A (pyNext (.ref I)) Q E s := by
  refine next_by hit ?_
  obtain ⟨oi, e1, e2, e3⟩ := id hit
  unfold Builtin.«set_iterator.__next__»
  refine wpAny_bind (m := slotArgs _ _ _) (wpAny_pure (wpAny_bind (wpAny_fieldsOf e1 e3 ?_)))
  dsimp only
  refine wpAny_bind (wpAny_setEntries_of g1 g2 g3 ?_)
  rw [if_neg (by simp)]
  refine wpAny_bind (snext_slot hb hl hd g1 g2 g3 ?_)
  simp only [Int.toNat_natCast]
  rw [hx]
  dsimp only
  refine wpAny_bind (wpAny_setField e1 e3 (by simp) ?_)
  exact stop_at (q := fun s' => Q none s') (by simpa using hh) fun h' k => q h' fun b o hb e => k b o ((Heap.get?_update_other _ _ (Ne.symm hb)).trans e)
theorem snext_drawn {p : Nat} {x : Int × Value} {Q : Value → Shared → Prop} (g1 : s.heap.get? S = some o) (g2 : o.data = .set es ep t) (g3 : t.fits es.size = true) (hx : es[p]? = some x) (q : Q x.2 s) : wpAny (model prog w) A (setNextDrawn S p ep) Q E s := by
  unfold setNextDrawn
  refine wpAny_bind (wpAny_setState_of g1 g2 g3 ?_)
  dsimp only
  rw [if_neg (by simp), hx]
  exact wpAny_pure q
theorem drawn_item {T : Addr} {i p : Nat} {ps : List Nat} {x : Int × Value} {Q : Option Value → Shared → Prop} (g1 : s.heap.get? S = some o) (g2 : o.data = .set es ep t) (g3 : t.fits es.size = true) (hit : IsIt s.heap I S (.ref T) i es.size ep)
    (hT : s.heap.get? T = some { cls := .type "tuple", data := .seq (ps.map fun (k : Nat) => rawInt k).toArray }) (hp : ps[i]? = some p) (hx : es[p]? = some x) (q : ∀ h', IsIt h' I S (.ref T) (i + 1) es.size ep → Heap.SameBut I s.heap h' → Q (some x.2) { s with heap := h' }) :
    wpAny (model prog w) A (pyNext (.ref I)) Q E s := by
  refine next_by hit ?_
  obtain ⟨oi, e1, e2, e3⟩ := id hit
  unfold Builtin.«set_iterator.__next__»
  refine wpAny_bind (m := slotArgs _ _ _) (wpAny_pure (wpAny_bind (wpAny_fieldsOf e1 e3 ?_)))
  dsimp only
  refine wpAny_bind (wpAny_setEntries_of g1 g2 g3 ?_)
  rw [if_neg (by simp)]
  refine wpAny_bind (wpAny_seqItems hT rfl ?_)
  dsimp only
  have hp' : (ps.map fun (k : Nat) => rawInt k).toArray[i]? = some (rawInt p) := by
    rw [List.getElem?_toArray, List.getElem?_map, hp]
    rfl
  simp only [Int.toNat_natCast]
  rw [hp']
  dsimp only [rawInt]
  refine wpAny_bind (snext_drawn (p := p) g1 g2 g3 hx ?_)
  refine wpAny_bind (wpAny_setField e1 e3 (by simp) (wpAny_pure ⟨_, rfl, q _ (step_it1 hit) (Heap.SameBut.update ..)⟩))
theorem drawn_end {T : Addr} {i : Nat} {ps : List Nat} {Q : Option Value → Shared → Prop} (hh : A.handled = none) (g1 : s.heap.get? S = some o) (g2 : o.data = .set es ep t) (g3 : t.fits es.size = true) (hit : IsIt s.heap I S (.ref T) i es.size ep)
    (hT : s.heap.get? T = some { cls := .type "tuple", data := .seq (ps.map fun (k : Nat) => rawInt k).toArray }) (hp : ps[i]? = none) (q : ∀ h', Heap.ExtBut I s.heap h' → Q none { s with heap := h' }) : wpAny (model prog w) A (pyNext (.ref I)) Q E s := by
  refine next_by hit ?_
  obtain ⟨oi, e1, e2, e3⟩ := id hit
  unfold Builtin.«set_iterator.__next__»
  refine wpAny_bind (m := slotArgs _ _ _) (wpAny_pure (wpAny_bind (wpAny_fieldsOf e1 e3 ?_)))
  dsimp only
  refine wpAny_bind (wpAny_setEntries_of g1 g2 g3 ?_)
  rw [if_neg (by simp)]
  refine wpAny_bind (wpAny_seqItems hT rfl ?_)
  dsimp only
  have hp' : (ps.map fun (k : Nat) => rawInt k).toArray[i]? = none := by
    rw [List.getElem?_toArray, List.getElem?_map, hp]
    rfl
  simp only [Int.toNat_natCast]
  rw [hp']
  dsimp only
  refine wpAny_bind (wpAny_setField e1 e3 (by simp) ?_)
  have u1 := Heap.get?_update_self (Obj.mapFields (·.setIfInBounds 0 (rawInt 0))) e1 (Obj.isFreed_of_fields (Obj.data_mapFields e3 _))
  have d1 := Obj.data_mapFields e3 (·.setIfInBounds 0 (rawInt 0))
  refine wpAny_bind (wpAny_setField u1 d1 (by simp) ?_)
  exact stop_at (q := fun s' => Q none s') (by simpa using hh) fun h' k => q h' fun b o hb e => k b o ((Heap.get?_update_other _ _ (Ne.symm hb)).trans ((Heap.get?_update_other _ _ (Ne.symm hb)).trans e))
end
end Lt
set_option Elab.async false
set_option linter.all false
set_option maxRecDepth 100000
set_option maxHeartbeats 4000000
namespace Lt
open PySem PySem.Spec PyProof.Rows
theorem slot_iter2 : Slot "set_iterator" "__iter__" "set_iterator.__iter__" :=
  .of (owner := "set_iterator") (n := "__iter__") (by rw [typeLookup_type, builtinLookup_eq_fast]; kernel_rfl) (by decide +kernel) (by decide +kernel) (by decide +kernel) (by first | exact .inl (by decide +kernel) | exact .inr (by decide +kernel)) (by rw [isSubtype_type]; kernel_rfl)
theorem entry_iter2 : entryFor table "set_iterator.__iter__" = some Builtin.«dict_keyiterator.__iter__» := entryFor_alias (id' := "dict_keyiterator.__iter__") (by kernel_rfl) rfl (by decide +kernel) (by kernel_rfl)
theorem args_iter2 (a : Value) : argsOk "set_iterator.__iter__" ⟨[a], []⟩ := by unfold argsOk; kernel_rfl
theorem Ents.ints : ∀ {l : List (Int × Value)}, Ents l → IntsAre (l.map (·.2)) (l.map keyOf)
  | [], _ => .nil
  | e :: l, h => by
    obtain ⟨k, t, rfl⟩ := h e List.mem_cons_self
    exact .cons k t (Ents.ints fun e he => h e (List.mem_cons_of_mem _ he))
section
variable {prog : Program} {w : World} {A : Around} {E : Value → Shared → Prop} {s : Shared} {I S : Addr} {o : Obj} {es : Array (Int × Value)} {ep : Nat} {t : SetTable}
theorem it_self {first : Value} {i n : Nat} {Q : Value → Shared → Prop} (x : IsIt s.heap I S first i n ep) (h : Q (.ref I) s) : wpAny (model prog w) A (pyIter (.ref I)) Q E s := by
  refine wpAny_pyIter_slot x.ty slot_iter2 (wpAny_call_entry slot_iter2 x.ty entry_iter2 ?_ (args_iter2 _))
  show wpAny _ _ (ret (.ref I)) _ _ s
  exact wpAny_pure ⟨_, rfl, "set_iterator", _, x.ty, slot_next.lookup, h⟩
noncomputable def Wk (prog : Program) (w : World) (S n0 I : Addr) (vs : List Value) (h : Heap) : Prop :=
  ∃ fp St, (∀ b ∈ fp, b = S ∨ n0 ≤ b) ∧ (∀ A : Around, A.handled = none → Walks prog w A I fp [I] vs.length (fun i v => vs[i]? = some v) St) ∧ St 0 h ∧ (∀ b ∈ fp, b < h.objs.size) ∧ I ∈ fp
theorem wk_text {n0 : Addr} (hI0 : n0 ≤ I) (hb : w.params.followText "set-order" = true) (g2 : o.data = .set es ep t) (g3 : t.fits es.size = true) (hne : S ≠ I) {h : Heap} (hit : IsIt h I S (.int 0 0) 0 es.size ep) (g1 : h.get? S = some o) :
    Wk prog w S n0 I ((pickOrder (w.params.setOrder S ep) es).toList.map (·.2)) h := by
  have hl : (pickOrder (w.params.setOrder S ep) es).size = es.size := by
    have := (pickAll_perm (w.params.setOrder S ep) es).length_eq
    rw [Array.length_toList, Array.length_toList] at this
    exact this
  refine ⟨[I, S], fun i h => IsIt h I S (.int 0 0) i es.size ep ∧ h.get? S = some o, (fun b hb => by
    rcases List.mem_cons.mp hb with rfl | hb
    · exact .inr hI0
    · exact .inl (List.mem_singleton.mp hb)), fun A hh => ?_, ⟨hit, g1⟩, fun b hb => ?_, List.mem_cons_self⟩
  · rw [List.length_map, Array.length_toList, hl]
    exact
      { sub := fun b hb => by rw [List.mem_singleton.mp hb]; exact List.mem_cons_self
        frame := fun i h h' st hk => ⟨st.1.keep fun o e => hk I (by simp) o e, hk S (by simp) o st.2⟩
        item := fun i s Q E hi st hQ => by
          have hx : (pickOrder (w.params.setOrder S ep) es)[i]? = some ((pickOrder (w.params.setOrder S ep) es)[i]'(by omega)) := Array.getElem?_eq_getElem (by omega)
          refine text_item hb st.2 g2 g3 st.1 hx fun h' it' sb => hQ _ h' s.toks ?_ ⟨it', sb.extBut S o hne st.2⟩ fun b o hb e => sb.extBut b o (fun z => hb (by simp [z])) e
          rw [List.getElem?_map, Array.getElem?_toList, hx]
          rfl
        done := fun s Q E st hQ => text_end hh hb st.2 g2 g3 st.1 (Array.getElem?_eq_none (by omega)) fun h' eb => hQ h' s.toks fun b o hb e => eb b o (fun z => hb (by simp [z])) e
        self := fun i s Q E st hQ => it_self st.1 hQ }
  · rcases List.mem_cons.mp hb with rfl | hb
    · obtain ⟨oi, e, _⟩ := hit
      exact Heap.lt_size e
    · rw [List.mem_singleton.mp hb]
      exact Heap.lt_size g1
theorem wk_slot {n0 : Addr} (hI0 : n0 ≤ I) (hb : w.params.followText "set-order" = false) (hl : t.led = true) (hd : Still es t) (hu : Up t.place) (g2 : o.data = .set es ep t) (g3 : t.fits es.size = true) (hne : S ≠ I) {h : Heap} (hit : IsIt h I S (.int 0 0) 0 es.size ep) (g1 : h.get? S = some o) :
    Wk prog w S n0 I (es.toList.map (·.2)) h := by
  have hp : t.place.size = es.size := by
    simp only [SetTable.fits, Bool.and_eq_true, beq_iff_eq] at g3
    exact g3.1
  refine ⟨[I, S], fun i h => (∃ sl : Nat, IsIt h I S (.int sl 0) i es.size ep ∧ SetTable.below t.place sl = i) ∧ h.get? S = some o, (fun b hb => by
    rcases List.mem_cons.mp hb with rfl | hb
    · exact .inr hI0
    · exact .inl (List.mem_singleton.mp hb)), fun A hh => ?_, ⟨⟨0, hit, below_first hu⟩, g1⟩, fun b hb => ?_, List.mem_cons_self⟩
  · rw [List.length_map, Array.length_toList]
    exact
      { sub := fun b hb => by rw [List.mem_singleton.mp hb]; exact List.mem_cons_self
        frame := fun i h h' st hk => ⟨let ⟨sl, a, b⟩ := st.1; ⟨sl, a.keep fun o e => hk I (by simp) o e, b⟩, hk S (by simp) o st.2⟩
        item := fun i s Q E hi st hQ => by
          obtain ⟨⟨sl, it, hsl⟩, g1⟩ := st
          have hx : es[i]? = some (es[i]'hi) := Array.getElem?_eq_getElem hi
          have hj : t.place[i]? = some (t.place[i]'(by omega)) := Array.getElem?_eq_getElem (by omega)
          refine slot_item hb hl hd g1 g2 g3 it (by rw [hsl]; exact hx) (by rw [hsl]; exact hj) fun h' it' sb => hQ _ h' s.toks ?_ ⟨⟨_, it', below_next hu hj⟩, sb.extBut S o hne g1⟩ fun b o hb e => sb.extBut b o (fun z => hb (by simp [z])) e
          rw [List.getElem?_map, Array.getElem?_toList, hx]
          rfl
        done := fun s Q E st hQ => by
          obtain ⟨⟨sl, it, hsl⟩, g1⟩ := st
          exact slot_end hh hb hl hd g1 g2 g3 it (by rw [hsl]; exact Array.getElem?_eq_none (Nat.le_refl _)) fun h' eb => hQ h' s.toks fun b o hb e => eb b o (fun z => hb (by simp [z])) e
        self := fun i s Q E st hQ => by
          obtain ⟨⟨sl, it, hsl⟩, g1⟩ := st
          exact it_self it hQ }
  · rcases List.mem_cons.mp hb with rfl | hb
    · obtain ⟨oi, e, _⟩ := hit
      exact Heap.lt_size e
    · rw [List.mem_singleton.mp hb]
      exact Heap.lt_size g1
theorem wk_drawn {T n0 : Addr} (hI0 : n0 ≤ I) (hT0 : n0 ≤ T) {ps : List Nat} (hps : ps.Perm (List.range es.size)) (g2 : o.data = .set es ep t) (g3 : t.fits es.size = true) (hne : S ≠ I) (hnT : T ≠ I) {h : Heap} (hit : IsIt h I S (.ref T) 0 es.size ep) (g1 : h.get? S = some o)
    (hT : h.get? T = some { cls := .type "tuple", data := .seq (ps.map fun (k : Nat) => rawInt k).toArray }) :
    Wk prog w S n0 I ((ps.filterMap fun p => es[p]?).map (·.2)) h := by
  have hin : ∀ p ∈ ps, p < es.size := fun p hp => List.mem_range.mp (hps.mem_iff.mp hp)
  have hlen : ps.length = es.size := by rw [hps.length_eq, List.length_range]
  have hat : ∀ (l : List Nat), (∀ p ∈ l, p < es.size) → (l.filterMap fun p => es[p]?).length = l.length ∧ ∀ (i p : Nat), l[i]? = some p → (l.filterMap fun p => es[p]?)[i]? = es[p]? := fun l => by
    induction l with
    | nil => exact fun _ => ⟨rfl, fun i p h => by cases h⟩
    | cons q l ih =>
      intro hq
      have e : es[q]? = some (es[q]'(hq q List.mem_cons_self)) := Array.getElem?_eq_getElem _
      obtain ⟨a, b⟩ := ih fun p hp => hq p (List.mem_cons_of_mem _ hp)
      rw [List.filterMap_cons, e]
      refine ⟨by rw [List.length_cons, List.length_cons, a], fun i p h => ?_⟩
      match i, h with
      | 0, h => cases h; rw [e]; rfl
      | i + 1, h => exact b i p h
  obtain ⟨c1, c2⟩ := hat ps hin
  refine ⟨[I, S, T], fun i h => IsIt h I S (.ref T) i es.size ep ∧ h.get? S = some o ∧ h.get? T = some { cls := .type "tuple", data := .seq (ps.map fun (k : Nat) => rawInt k).toArray }, (fun b hb => by
    rcases List.mem_cons.mp hb with rfl | hb
    · exact .inr hI0
    rcases List.mem_cons.mp hb with rfl | hb
    · exact .inl rfl
    · exact .inr (by rw [List.mem_singleton.mp hb]; exact hT0)), fun A hh => ?_, ⟨hit, g1, hT⟩, fun b hb => ?_, List.mem_cons_self⟩
  · rw [List.length_map, c1]
    exact
      { sub := fun b hb => by rw [List.mem_singleton.mp hb]; exact List.mem_cons_self
        frame := fun i h h' st hk => ⟨st.1.keep fun o e => hk I (by simp) o e, hk S (by simp) o st.2.1, hk T (by simp) _ st.2.2⟩
        item := fun i s Q E hi st hQ => by
          have hp : ps[i]? = some (ps[i]'hi) := List.getElem?_eq_getElem hi
          have hx : es[ps[i]'hi]? = some (es[ps[i]'hi]'(hin _ (List.getElem_mem hi))) := Array.getElem?_eq_getElem _
          refine drawn_item st.2.1 g2 g3 st.1 st.2.2 hp hx fun h' it' sb => hQ _ h' s.toks ?_ ⟨it', sb.extBut S o hne st.2.1, sb.extBut T _ hnT st.2.2⟩ fun b o hb e => sb.extBut b o (fun z => hb (by simp [z])) e
          rw [List.getElem?_map, c2 i _ hp, hx]
          rfl
        done := fun s Q E st hQ => drawn_end hh st.2.1 g2 g3 st.1 st.2.2 (List.getElem?_eq_none (Nat.le_refl _)) fun h' eb => hQ h' s.toks fun b o hb e => eb b o (fun z => hb (by simp [z])) e
        self := fun i s Q E st hQ => it_self st.1 hQ }
  · rcases List.mem_cons.mp hb with rfl | hb
    · obtain ⟨oi, e, _⟩ := hit
      exact Heap.lt_size e
    rcases List.mem_cons.mp hb with rfl | hb
    · exact Heap.lt_size g1
    · rw [List.mem_singleton.mp hb]
      exact Heap.lt_size hT
theorem up_small {xs : Array Nat} (h : xs.size ≤ 1) : Up xs := by
  unfold Up
  match xs.toList, (Array.length_toList (xs := xs)) with
  | [], _ => exact List.Pairwise.nil
  | [a], _ => exact List.pairwise_singleton _ _
  | a :: b :: r, e => simp at e; omega
theorem is_drawn {Q : Bool → Shared → Prop} (g1 : s.heap.get? S = some o) (g2 : o.data = .set es ep t) (g3 : t.fits es.size = true) (q : Q (!w.params.followText "set-order" && (!t.plain && decide (es.size > 1))) s) : wpAny (model prog w) A (setDrawn S) Q E s := by
  unfold setDrawn
  refine wpAny_bind (wpAny_setState_of g1 g2 g3 ?_)
  dsimp only
  exact wpAny_bind (by_text rfl (wpAny_pure q))
theorem iter_set {ks : List Int} {Q : Value → Shared → Prop} (hS : SetT s.heap S ks (ledOf w))
    (q : ∀ I vs ns h' d', Wk prog w S s.heap.objs.size I vs h' → IntsAre vs ns → ns.Perm ks → (∀ b o, s.heap.get? b = some o → h'.get? b = some o) → s.heap.objs.size ≤ I → Q (.ref I) { s with heap := h', drawn := d' }) :
    wpAny (model prog w) A (pyIter (.ref S)) Q E s := by
  obtain ⟨o, es, ep, t, g1, gx, g2, g4, g5, g6, g3, g8⟩ := hS
  have hT : s.TypeIs (.ref S) "set" := ⟨o, g1, gx.1⟩
  have hlt : S < s.heap.objs.size := Heap.lt_size g1
  refine wpAny_pyIter_slot hT F.slot_set_iter (wpAny_call_entry F.slot_set_iter hT entry_iter ?_ (F.args_set_iter_1 _))
  unfold Builtin.«frozenset.__iter__»
  refine wpAny_bind (m := Builtin.Frozenset.slot0 _ _) (wpAny_pure ?_)
  unfold Builtin.Frozenset.sizeOf
  refine wpAny_bind (wpAny_bind (wpAny_setEntries_of g1 g2 g3 (wpAny_pure ?_)))
  refine wpAny_bind (is_drawn g1 g2 g3 ?_)
  dsimp only
  cases hb : w.params.followText "set-order" with
  | true =>
    simp only [Bool.not_true, Bool.false_and, Bool.false_eq_true, if_false]
    refine wpAny_bind (wpAny_pure (wpAny_bind (wpAny_setEpoch_of g1 g2 g3 ?_)))
    refine wpAny_bind (wpAny_newObj_type (wpAny_pure ⟨_, rfl, "set_iterator", _, ⟨_, Heap.get?_push_size _ rfl, rfl⟩, slot_next.lookup, ?_⟩))
    have pp := pickAll_perm (w.params.setOrder S ep) es
    refine q _ _ _ _ s.drawn (wk_text (Nat.le_refl _) hb g2 g3 (Nat.ne_of_lt hlt) ⟨_, Heap.get?_push_size _ rfl, rfl, rfl⟩ (Heap.get?_push_of_some _ g1)) (Ents.ints (g4.perm pp)) ((pp.map keyOf).trans g5) (fun b o e => Heap.get?_push_of_some _ e) (Nat.le_refl _)
  | false =>
    have hl : t.led = true := by rw [g8.led]; show (!w.params.followText "set-order") = true; rw [hb]; rfl
    simp only [Bool.not_false, Bool.true_and]
    by_cases hd : (!t.plain && decide (es.size > 1)) = true
    · rw [if_pos hd]
      refine wpAny_bind (draw_perm es.size (List.range es.size) (by simp) fun ps d hps => ?_)
      have hsc : ps.length ≤ sizeLine := by rw [hps.length_eq, List.length_range]; exact fits_of_scanBound g6
      refine wpAny_bind (wpAny_newTuple ?_ (by rw [List.length_map]; exact hsc))
      have g1' : (s.heap.push { cls := .type "tuple", data := .seq (ps.map fun (i : Nat) => rawInt i).toArray }).get? S = some o := Heap.get?_push_of_some _ g1
      refine wpAny_bind (wpAny_setEpoch_of g1' g2 g3 ?_)
      refine wpAny_bind (wpAny_newObj_type (wpAny_pure ⟨_, rfl, "set_iterator", _, ⟨_, Heap.get?_push_size _ rfl, rfl⟩, slot_next.lookup, ?_⟩))
      have pp : (ps.filterMap fun p => es[p]?).Perm es.toList := by
        have := hps.filterMap (f := fun p => es[p]?)
        rw [filterMap_getElem?_range] at this
        exact this
      refine q _ _ _ _ d (wk_drawn ?_ (Nat.le_refl _) hps g2 g3 ?_ ?_ ⟨_, Heap.get?_push_size _ rfl, rfl, rfl⟩ (Heap.get?_push_of_some _ g1') (Heap.get?_push_of_some _ (Heap.get?_push_size _ rfl))) (Ents.ints (g4.perm pp)) ((pp.map keyOf).trans g5) (fun b o e => Heap.get?_push_of_some _ (Heap.get?_push_of_some _ e)) ?_
      · show s.heap.objs.size ≤ (s.heap.push _).objs.size
        rw [Heap.size_push]
        exact Nat.le_succ _
      · show S ≠ (s.heap.push _).objs.size
        rw [Heap.size_push]
        exact Nat.ne_of_lt (Nat.lt_succ_of_lt hlt)
      · show s.heap.objs.size ≠ (s.heap.push _).objs.size
        rw [Heap.size_push]
        exact Nat.ne_of_lt (Nat.lt_succ_self _)
      · show s.heap.objs.size ≤ (s.heap.push _).objs.size
        rw [Heap.size_push]
        exact Nat.le_succ _
    · rw [if_neg hd]
      have hd' : Still es t := by unfold Still; simpa using hd
      have hu : Up t.place := by
        cases hp : t.plain with
        | true => exact (g8.up hp).1
        | false =>
          refine up_small ?_
          have h1 : t.place.size = es.size := by
            have := g3
            simp only [SetTable.fits, Bool.and_eq_true, beq_iff_eq] at this
            exact this.1
          rw [hp] at hd
          simp at hd
          omega
      refine wpAny_bind (wpAny_pure (wpAny_bind (wpAny_setEpoch_of g1 g2 g3 ?_)))
      refine wpAny_bind (wpAny_newObj_type (wpAny_pure ⟨_, rfl, "set_iterator", _, ⟨_, Heap.get?_push_size _ rfl, rfl⟩, slot_next.lookup, ?_⟩))
      refine q _ _ _ _ s.drawn (wk_slot (Nat.le_refl _) hb hl hd' hu g2 g3 (Nat.ne_of_lt hlt) ⟨_, Heap.get?_push_size _ rfl, rfl, rfl⟩ (Heap.get?_push_of_some _ g1)) (Ents.ints g4) g5 (fun b o e => Heap.get?_push_of_some _ e) (Nat.le_refl _)
end
end Lt
set_option Elab.async false
set_option linter.all false
set_option maxRecDepth 100000
set_option maxHeartbeats 4000000
namespace Lt
open PySem PySem.Spec PyProof.Rows
theorem len_set : typeLookup (.type "set") "__len__" = pure (some (.builtin "set.__len__")) := by rw [typeLookup_type, builtinLookup_eq_fast]; kernel_rfl
theorem ints_of_items {vs : List Value} {acc : Array Value} (h : ItemsOf (fun i v => vs[i]? = some v) acc vs.length) : acc.toList = vs := by
  refine List.ext_getElem? fun i => ?_
  by_cases hi : i < vs.length
  · have h1 : acc[i]? = some (acc[i]'(by rw [h.1]; exact hi)) := Array.getElem?_eq_getElem _
    rw [Array.getElem?_toList, h1, h.2 i _ h1]
  · rw [List.getElem?_eq_none (by rw [Array.length_toList, h.1]; omega), List.getElem?_eq_none (by omega)]
section
variable {prog : Program} {w : World} {A : Around} {E : Value → Shared → Prop} {s : Shared} {S : Addr}
theorem touch {l : Addr} {Q : Unit → Shared → Prop} (e : s.heap.get? l = some { cls := .type "list", data := .seq ([] : List Value).toArray })
    (q : ∀ h' c, h'.get? l = some { cls := .type "list", data := .seq #[] c } → Heap.SameBut l s.heap h' → Q () { s with heap := h' }) : wpAny (model prog w) A (Builtin.List.listTouch (.ref l)) Q E s := by
  unfold Builtin.List.listTouch
  refine wpAny_bind (listUpdate_at e rfl ?_)
  have e1 := get?_update_seq (c := "list") (xs := #[]) (n := 0) e (fun xs => xs.push .none)
  refine listUpdate_at e1 rfl ?_
  exact q _ _ (get?_update_seq e1 (fun xs => xs.pop)) ((Heap.SameBut.update ..).trans (Heap.SameBut.update ..))
theorem collect_set {ks : List Int} {Q : List Value → Shared → Prop} (hh : A.handled = none) (hS : SetT s.heap S ks (ledOf w)) (hb : ks.length ≤ 1000)
    (q : ∀ vs ns h' d' tk, IntsAre vs ns → ns.Perm ks → (∀ b o, s.heap.get? b = some o → h'.get? b = some o) → s.heap.objs.size ≤ h'.objs.size → Q vs { s with heap := h', drawn := d', toks := tk }) :
    wpAny (model prog w) A (collect (.ref S)) Q E s := by
  have hL : (1000 : Nat) ≤ sizeLine := by decide
  have hlt : S < s.heap.objs.size := by
    obtain ⟨o, es, ep, t, g1, _⟩ := hS
    exact Heap.lt_size g1
  unfold collect
  refine wpAny_bind (wpAny_runValue (codeAny_builtin F.entry_proto_collect ?_))
  rw [Around.under_plainId F.plain_proto_collect _]
  show wpAny _ A.in1 (newList [] >>= fun l => again (.builtin "list.__iadd__" ⟨[l, .ref S], []⟩)) _ _ s
  refine wpAny_bind (wpAny_newObj_type (wpAny_pure ⟨plainId_quiet F.plain_list_iadd _, codeAny_builtin F.entry_list_iadd ?_⟩))
  rw [Around.under_plainId F.plain_list_iadd _]
  have hS1 := hS.keep (h' := s.heap.push { cls := .type "list", data := .seq ([] : List Value).toArray }) fun o e => Heap.get?_push_of_some _ e
  have hl1 : (s.heap.push { cls := .type "list", data := .seq ([] : List Value).toArray }).get? s.heap.objs.size = some { cls := .type "list", data := .seq ([] : List Value).toArray } := Heap.get?_push_size _ rfl
  have n1 : Builtin.List.listSameRef (.ref s.heap.objs.size) (.ref S) = false := by simp [Builtin.List.listSameRef, Nat.ne_of_gt hlt]
  have hT : Shared.TypeIs { s with heap := s.heap.push { cls := .type "list", data := .seq ([] : List Value).toArray } } (.ref S) "set" := by
    obtain ⟨o, es, ep, t, g1, gx, _⟩ := hS1
    exact ⟨o, g1, gx.1⟩
  show wpAny _ A.in1 (Builtin.List.listExtendWith (.ref s.heap.objs.size) (.ref S) (.ref s.heap.objs.size)) _ _ _
  unfold Builtin.List.listExtendWith
  refine wpAny_bind (wpAny_typeOf hT ?_)
  rw [if_neg (by rw [n1]; decide)]
  refine wpAny_bind (iter_set (s := { s with heap := s.heap.push { cls := .type "list", data := .seq ([] : List Value).toArray } }) hS1 fun I vs ns h2 d2 wk hI hp hk hge => ?_)
  have hT2 : Shared.TypeIs { s with heap := h2, drawn := d2 } (.ref S) "set" := by
    obtain ⟨o, g1, gx⟩ := hT
    exact ⟨o, hk _ _ g1, gx⟩
  have hl2 := hk _ _ hl1
  refine wpAny_bind (wpAny_holding ?_)
  unfold Builtin.List.listLengthHint
  refine wpAny_bind (wpAny_specialOf hT2 len_set ?_)
  dsimp only
  generalize hid : ("set.__len__" : String) = id0
  rw [show splitId id0 = some ("set", "__len__") from by subst hid; decide +kernel]
  subst hid
  dsimp only
  refine wpAny_bind (wpAny_isInstance (b := true) hT2 (by rw [isSubtype_type]; kernel_rfl) ?_)
  rw [if_neg (by decide)]
  rw [if_pos (by decide +kernel)]
  refine wpAny_bind (wpAny_typeOf hT2 ?_)
  dsimp only
  refine wpAny_pure ?_
  rw [if_pos (by decide +kernel)]
  refine wpAny_bind (wpAny_rule (wpAny_bind (touch (s := { s with heap := h2, drawn := d2 }) hl2 fun h3 c hl3 sb => ?_)))
  obtain ⟨fp, St, offs, wal, st0, hfp, hIn⟩ := wk
  have A3 : A.in1.handled = none := by simp [hh]
  have W := (wal _ A3).toS
  have off : s.heap.objs.size ∉ fp := fun hm => by
    rcases offs _ hm with z | z
    · exact absurd z (Nat.ne_of_gt hlt)
    · have z' : (s.heap.push { cls := .type "list", data := .seq ([] : List Value).toArray }).objs.size ≤ s.heap.objs.size := z
      rw [Heap.size_push] at z'
      exact absurd z' (Nat.not_succ_le_self _)
  have hvl : vs.length ≤ sizeLine := by
    have e1 := IntsAre.length hI
    have e2 := hp.length_eq
    omega
  have st3 : St 0 h3 := (wal _ A3).frame 0 h2 h3 st0 fun b hb o e => by rw [sb.2 b fun z => off (z ▸ hb)]; exact e
  refine wpAny_pure ⟨plainId_quiet F.plain_extend_loop _, codeAny_extend_loopS W hvl _ off _ vs.length 0 _ #[] c rfl (Nat.zero_le _) st3 hl3 (ItemsOf.nil _) fun s' acc' c' mv hS' hacc => ?_⟩
  show wpAny _ A (load s.heap.objs.size >>= _) _ _ s'
  refine wpAny_bind (wpAny_load hS' ?_)
  obtain ⟨h', g', d', tk', os'⟩ := s'
  have eg : g' = s.gens := mv.gens
  have eo : os' = s.os := mv.os
  subst eg; subst eo
  refine wpAny_pure ?_
  rw [ints_of_items hacc]
  have old : ∀ b o, s.heap.get? b = some o → h'.get? b = some o := fun b o e => by
    have lb := Heap.lt_size e
    have nb : b ≠ s.heap.objs.size := Nat.ne_of_lt lb
    have nI : b ≠ I := fun z => by
      have : (s.heap.push { cls := .type "list", data := .seq ([] : List Value).toArray }).objs.size ≤ I := hge
      rw [Heap.size_push] at this
      subst z
      exact absurd (Nat.lt_of_lt_of_le (Nat.lt_succ_of_lt lb) this) (Nat.lt_irrefl _)
    refine mv.heap b o (fun z => ?_) (by
      show h3.get? b = some o
      rw [sb.2 b nb]
      exact hk b o (Heap.get?_push_of_some _ e))
    rcases List.mem_cons.mp z with z | z
    · exact nb z
    · exact nI (List.mem_singleton.mp z)
  refine q vs ns h' d' tk' hI hp old ?_
  exact Nat.le_of_lt (Heap.lt_size hS')
end
end Lt
set_option Elab.async false
set_option linter.all false
set_option maxRecDepth 100000
set_option maxHeartbeats 4000000
namespace Lt
open PySem PySem.Spec PyProof.Rows
section
variable {prog : Program} {w : World} {A : Around} {E : Value → Shared → Prop} {s : Shared} {S : Addr}
theorem sorted_set {ks : List Int} {Q : Value → Shared → Prop} (hh : A.handled = none) (hS : SetT s.heap S ks (ledOf w)) (hb : ks.length ≤ 60)
    (q : ∀ r h' d' tk e (out : Array Value) (ms : List Int), IntsAre out.toList ms → ms.Perm ks → ms.Pairwise (· ≤ ·) → h'.get? r = some (seqObj "list" out e) → (∀ b o, s.heap.get? b = some o → h'.get? b = some o) → s.heap.objs.size ≤ r → Q (.ref r) { s with heap := h', drawn := d', toks := tk }) :
    wpAny (model prog w) A (call (.builtin "sorted") [.ref S]) Q E s := by
  have hL : (1000 : Nat) ≤ sizeLine := by decide
  refine (Calls.call_function_entry kind_sorted plain_sorted entry_sorted (args_sorted1 _) (?_))
  unfold Builtin.«sorted»
  refine wpAny_bind (m := checkCount "sorted" 1 1 _) (wpAny_pure (wpAny_bind (collect_set (by simpa using hh) hS (by omega) fun vs ns h1 d1 tk1 hI hp old hge => ?_)))
  have hvl : vs.length ≤ 60 := by
    have e1 := IntsAre.length hI
    have e2 := hp.length_eq
    omega
  refine wpAny_bind (wpAny_newList ?_ (hsz := Nat.le_trans hvl (Nat.le_trans (by decide) hL)))
  have e2 : (h1.push (seqObj "list" vs.toArray 0)).get? h1.objs.size = some (seqObj "list" vs.toArray 0) := Heap.get?_push_size _ rfl
  refine wpAny_bind (wpAny_holding (wpAny_call_entry slot_list_sort ⟨_, e2, rfl⟩ entry_list_sort (list_sort_tree (s := { s with heap := h1.push (seqObj "list" vs.toArray 0), drawn := d1, toks := tk1 }) e2 hI (by omega) fun out ms a1 a2 a3 => ⟨_, rfl, ?_⟩) (args_list_sort _)))
  refine wpAny_pure ⟨_, rfl, ?_⟩
  have lt1 : h1.objs.size < (h1.push (seqObj "list" vs.toArray 0)).objs.size := by rw [size_push']; exact Nat.lt_succ_self _
  obtain ⟨e, he⟩ : ∃ e, (sortedHeap (h1.push (seqObj "list" vs.toArray 0)) h1.objs.size vs out).get? h1.objs.size = some (seqObj "list" out e) := by
    unfold sortedHeap
    have o1 := get?_update_seq e2 (fun _ => #[])
    have z1 : h1.objs.size ≠ ((h1.push (seqObj "list" vs.toArray 0)).update h1.objs.size (Obj.mapSeq fun _ => #[])).objs.size := by rw [Heap.size_update]; exact Nat.ne_of_lt lt1
    have z2 : h1.objs.size ≠ (((h1.push (seqObj "list" vs.toArray 0)).update h1.objs.size (Obj.mapSeq fun _ => #[])).push (seqObj "tuple" vs.toArray 0)).objs.size := by rw [size_push', Heap.size_update]; exact Nat.ne_of_lt (Nat.lt_succ_of_lt lt1)
    have o2 : ((((h1.push (seqObj "list" vs.toArray 0)).update h1.objs.size (Obj.mapSeq fun _ => #[])).push (seqObj "tuple" vs.toArray 0)).push (seqObj "list" #[] 0)).get? h1.objs.size = some (seqObj "list" #[] (if ((#[] : Array Value).size == vs.toArray.size) = true then 0 else 0 + 1)) := by
      rw [Heap.get?_push_ne _ _ _ z2, Heap.get?_push_ne _ _ _ z1]
      exact o1
    exact ⟨_, get?_update_seq o2 (fun _ => out)⟩
  refine q _ _ d1 tk1 e out ms a1 (a2.trans hp) a3 he (fun b o eb => ?_) hge
  have lb := Heap.lt_size eb
  have nb : h1.objs.size ≠ b := Nat.ne_of_gt (Nat.lt_of_lt_of_le lb hge)
  unfold sortedHeap
  rw [Heap.get?_update_other _ _ nb]
  refine Heap.get?_push_of_some _ (Heap.get?_push_of_some _ ?_)
  rw [Heap.get?_update_other _ _ nb]
  exact Heap.get?_push_of_some _ (old b o eb)
end
end Lt
namespace L2
open PySem PySem.Spec PyProof.Rows
noncomputable def SetO (w : World) (a : Addr) (ks : List Int) : HO := .ext fun h => Lt.SetT h a ks (Lt.ledOf w)
noncomputable def dSet (K : PySem.W.Frag) (w : World) : List V → Hp → VK → Prop := fun xs H Q => match xs with
  | [.ref p] => ∃ ns : List Int, SqL K H p (ns.map V.int) ∧ ns.length ≤ 1000 ∧ ∀ l H', New H l (SetO w l (Lt.dd ns)) H' → Q (.ref l) H'
  | _ => False
noncomputable def dSortedS (w : World) : List V → Hp → VK → Prop := fun xs H Q => match xs with
  | [.ref p] => ∃ ks : List Int, H p = some (SetO w p ks) ∧ ks.length ≤ 60 ∧ ∀ l (ms : List Int) H', ms.Perm ks → ms.Pairwise (· ≤ ·) → New H l (.lst (ms.map V.int)) H' → Q (.ref l) H'
  | _ => False
section
variable {X : Cx}
theorem Inv.drawn {pins : List (Addr × Obj)} {σ : St} {H : Hp} {s : Shared} (I : Inv X pins σ H s) (d : Drawn) : Inv X pins σ H { s with drawn := d } := ⟨I.ok, I.os, I.bare, I.base, I.loc, I.cell, I.free, I.freeC, I.pin, I.hok, I.len⟩
theorem d_set (hc : X.calm = true) : CallR X (.type "set") (dSet X.K X.w) := by
  intro pins s σ H xs us Q I r h
  unfold dSet at h
  split at h
  · rename_i p
    obtain ⟨ns, hs, hl, q⟩ := h
    obtain ⟨u, rfl, ru⟩ := vals1 r
    cases (show u = Value.ref p from ru)
    obtain ⟨its, rv, pl, _⟩ := I.list hs
    have e1 := rv.length
    rw [List.length_map] at e1
    refine Lt.call_set (I.ok.hd hc) pl.isList (by simpa using intsOf rv) (by unfold scanBound; omega) fun h' tk hS old => ?_
    have fD : H s.heap.objs.size = none := I.hok.fresh (Nat.le_refl _)
    have kk : ∀ b o, s.heap.get? b = some o → h'.get? b = some o := fun b o e => old b o (Heap.lt_size e) e
    have I2 : Inv X pins σ (upd H s.heap.objs.size (SetO X.w s.heap.objs.size (Lt.dd ns))) { s with heap := h', toks := tk } := by
      refine I.laid (t' := tk) kk (Nat.le_refl _) ?_
      refine ⟨hS, ?_, fun h1 h2 a b => a.keep b⟩
      obtain ⟨o, es, ep, t, g1, _⟩ := hS
      exact ⟨o, g1⟩
    exact ⟨.ref s.heap.objs.size, _, I2, rfl, q _ _ (.mk' fD)⟩
  · exact h.elim
theorem d_sortedS (hc : X.calm = true) : CallR X (.builtin "sorted") (dSortedS X.w) := by
  intro pins s σ H xs us Q I r h
  unfold dSortedS at h
  split at h
  · rename_i p
    obtain ⟨ks, hp, hl, q⟩ := h
    obtain ⟨u, rfl, ru⟩ := vals1 r
    cases (show u = Value.ref p from ru)
    obtain ⟨hS, _, _⟩ := (show ObjOk X.prog X.w H s.heap p (SetO X.w p ks) from I.hok p _ hp)
    refine Lt.sorted_set (I.ok.hd hc) hS hl fun l h' d' tk e out ms a1 a2 a3 hat old hge => ?_
    have fD : H l = none := I.hok.fresh hge
    have I2 : Inv X pins σ (upd H l (.lst (ms.map V.int))) { s with heap := h', drawn := d', toks := tk } := by
      refine (I.laid (t' := tk) old hge ?_).drawn d'
      refine ⟨?_, out.toList, e, vals_of a1, by simpa [seqObj] using hat⟩
      rw [List.length_map, a2.length_eq]
      have : (60 : Nat) ≤ sizeLine := by decide
      omega
    exact ⟨.ref l, _, I2, rfl, q _ ms _ a2 a3 (.mk' fD)⟩
  · exact h.elim
end
end L2
namespace L2
open PySem PySem.Spec PyProof.Rows
theorem lookup_relabel_cell {env : Env} : ∀ {names : List (Str × NameKind)} {x : Str}, names.lookup x = some .cell →
    (names.map fun (n, k) => if (k == NameKind.free && env.scope.kind == .function && env.kindOf n == some .cell) then (n, NameKind.cell) else (n, k)).lookup x = some .cell
  | [], _, h => by simp at h
  | (n, k) :: r, x, h => by
    have ih := @lookup_relabel_cell env r x
    show List.lookup x ((if (k == NameKind.free && env.scope.kind == .function && env.kindOf n == some .cell) = true then (n, NameKind.cell) else (n, k)) :: _) = _
    cases hx : x == n with
    | true =>
      simp only [List.lookup_cons, hx] at h
      cases h
      split <;> simp [List.lookup_cons, hx]
    | false =>
      simp only [List.lookup_cons, hx] at h
      split <;> (simp only [List.lookup_cons, hx]; exact ih h)
theorem relabel_back2 {env : Env} : ∀ {names : List (Str × NameKind)} {x : Str},
    ((names.map fun (n, k) => if (k == NameKind.free && env.scope.kind == .function && env.kindOf n == some .cell) then (n, NameKind.cell) else (n, k)).lookup x = some .cell ∨
    (names.map fun (n, k) => if (k == NameKind.free && env.scope.kind == .function && env.kindOf n == some .cell) then (n, NameKind.cell) else (n, k)).lookup x = some .free) → (x, NameKind.free) ∈ names ∨ (x, NameKind.cell) ∈ names
  | [], _, h => by simp at h
  | (n, k) :: r, x, h => by
    have ih := @relabel_back2 env r x
    have h' : List.lookup x ((if (k == NameKind.free && env.scope.kind == .function && env.kindOf n == some .cell) = true then (n, NameKind.cell) else (n, k)) :: (r.map fun (n, k) => if (k == NameKind.free && env.scope.kind == .function && env.kindOf n == some .cell) then (n, NameKind.cell) else (n, k))) = some .cell ∨
      List.lookup x ((if (k == NameKind.free && env.scope.kind == .function && env.kindOf n == some .cell) = true then (n, NameKind.cell) else (n, k)) :: (r.map fun (n, k) => if (k == NameKind.free && env.scope.kind == .function && env.kindOf n == some .cell) then (n, NameKind.cell) else (n, k))) = some .free := h
    cases hx : x == n with
    | true =>
      have e : x = n := by simpa using hx
      subst e
      split at h'
      · rename_i z
        have : k = .free := by
          have := (Bool.and_eq_true_iff.mp (Bool.and_eq_true_iff.mp z).1).1
          simpa using this
        rw [this]
        exact .inl List.mem_cons_self
      · simp only [List.lookup_cons, hx] at h'
        rcases h' with z | z
        · rw [Option.some.inj z]; exact .inr List.mem_cons_self
        · rw [Option.some.inj z]; exact .inl List.mem_cons_self
    | false =>
      have : (x, NameKind.free) ∈ r ∨ (x, NameKind.cell) ∈ r := by
        refine ih ?_
        split at h' <;> (simp only [List.lookup_cons, hx] at h'; exact h')
      exact this.imp (List.mem_cons_of_mem _) (List.mem_cons_of_mem _)
noncomputable abbrev Cx.compC (X : Cx) (scope : Scope) (cl : List (Str × Addr)) (C : Addr) (ns : List Str) (x : Str) (s : Shared) (H : Hp) (fp : List Addr) : Cx :=
  { X with N := ns, s₀ := s, H₀ := H, env := compEnvC scope cl C X.env, outer := X.stack, stack := X.stack, ex := fp, fn := fun y => y == x, pn := [], xe := fun _ _ => False }
structure Own (X : Cx) (scope : Scope) (cl : List (Str × Addr)) (x : Str) (c : Addr) (s : Shared) : Prop where
  own : cl.lookup x = some c
  new : s.heap.objs.size ≤ c
  old : ∀ y c', y ≠ x → cl.lookup y = some c' → X.env.cells.lookup y = some c'
  has : ∀ y, (y, NameKind.free) ∈ scope.names → ∃ c, cl.lookup y = some c
  one : ∀ y, (y, NameKind.cell) ∈ scope.names → y = x
section
variable {X : Cx} {pins : List (Addr × Obj)} {σ : St} {H : Hp} {s : Shared} {scope : Scope} {cl : List (Str × Addr)} {C : Addr} {ns : List Str} {fp : List Addr} {x : Str} {c : Addr}
theorem Own.cases (O : Own X scope cl x c s) (I : Inv X pins σ H s) {y : Str} {c' : Addr} (h : cl.lookup y = some c') : (y = x ∧ c' = c) ∨ (y ≠ x ∧ X.env.cells.lookup y = some c' ∧ c' < s.heap.objs.size) := by
  by_cases e : y = x
  · subst e
    rw [O.own] at h
    exact .inl ⟨rfl, (Option.some.inj h).symm⟩
  · have := O.old y c' e h
    obtain ⟨v, o, ho, _⟩ := I.cell y c' this
    exact .inr ⟨e, this, Heap.lt_size ho⟩
theorem Inv.compOkC (I : Inv X pins σ H s) (O : Own X scope cl x c s) (hkind : scope.kind = .function) (hC : s.heap.objs.size ≤ C)
    (hf : ∀ b ∈ fp, FpOk X pins H b) (hfs : ∀ b ∈ fp, b < s.heap.objs.size) : (X.compC scope cl C ns x s H fp).Ok where
  mod := I.ok.mod
  kind := hkind
  glob := I.ok.glob
  blt := I.ok.blt
  above := hC
  inj := fun y z c' a b => by
    rcases O.cases I a with ⟨rfl, rfl⟩ | ⟨a1, a2, a3⟩
    · rcases O.cases I b with ⟨rfl, _⟩ | ⟨b1, b2, b3⟩
      · rfl
      · exact absurd (Nat.lt_of_lt_of_le b3 O.new) (Nat.lt_irrefl _)
    · rcases O.cases I b with ⟨rfl, rfl⟩ | ⟨b1, b2, b3⟩
      · exact absurd (Nat.lt_of_lt_of_le a3 O.new) (Nat.lt_irrefl _)
      · exact I.ok.inj y z c' a2 b2
  has := fun y h => by
    rcases relabel_back2 (env := X.env) h with z | z
    · exact O.has y z
    · rw [O.one y z]
      exact ⟨c, O.own⟩
  cab := fun y c' h e => by
    have h' : y = x := by simpa using h
    rcases O.cases I e with ⟨_, rfl⟩ | ⟨a1, _⟩
    · exact O.new
    · exact absurd h' a1
  hd := I.ok.hd
  frames := I.ok.frames
  stk := .inl rfl
  exf := fun b hb => ⟨Nat.ne_of_lt (Nat.lt_of_lt_of_le (hfs b hb) hC), fun y c' e => by
    rcases O.cases I e with ⟨_, rfl⟩ | ⟨_, a2, _⟩
    · exact Nat.ne_of_gt (Nat.lt_of_lt_of_le (hfs b hb) O.new)
    · exact (hf b hb).2.2.2.2.1 y c' a2⟩
  bs := I.bs
  bsz := Nat.le_trans I.ok.bsz I.sz
  noex := fun b o e hb => by
    rcases (hf b hb).2.2.2.1 with z | z
    · exact I.ok.noex b o e z
    · exact absurd (Nat.lt_of_lt_of_le (Heap.lt_size e) (Nat.le_trans I.ok.bsz z)) (Nat.lt_irrefl _)
  exfs := fun b hb z => by
    rcases List.mem_cons.mp (I.stkSub b z) with y | y
    · exact (hf b hb).2.1 y
    · exact (hf b hb).2.2.1 y
  funs := I.stack
  frf := I.stkFree
theorem Inv.compC {h₁ : Heap} {tk : Nat} {m₁ : Str → Option Value} {cs : List Str} {ix : List Nat} (I : Inv X pins σ H s) (O : Own X scope cl x c s) (ok : (X.compC scope cl C (x :: cs) x s H fp).Ok) (hxs : x ∉ cs)
    (hC : s.heap.objs.size ≤ C) (hn : h₁.Ns C m₁) (hcl : h₁.IsCell c none) (keep : ∀ b o, s.heap.get? b = some o → h₁.get? b = some o)
    (hix : ix.map (fun i => X.N[i]?) = cs.map some) (hfr : ∀ y ∈ cs, scope.names.lookup y = some .free) (hout : ∀ y ∈ cs, X.env.scope.names.lookup y = some .cell ∨ X.env.scope.names.lookup y = some .free) :
    Inv (X.compC scope cl C (x :: cs) x s H fp) [] (none :: capsOf ix σ) H { s with heap := h₁, toks := tk } where
  ok := ok
  os := rfl
  bare := I.bare
  base := Un.kept keep
  loc := by
    refine ⟨m₁, hn, fun i y v e1 e2 _ => ?_⟩
    cases i with
    | zero => cases e2
    | succ j =>
      have e1' : cs[j]? = some y := e1
      have e2' : (ix.map (nth σ))[j]? = some (some v) := e2
      rw [List.getElem?_map] at e2'
      obtain ⟨k, hk, hv⟩ := Option.map_eq_some_iff.mp e2'
      have e3 : X.N[k]? = some y := by
        have z := congrArg (fun l => l[j]?) hix
        simp only [List.getElem?_map] at z
        rw [hk, e1'] at z
        simpa using z
      have hy := List.mem_of_getElem? e1'
      have hyx : y ≠ x := fun z => hxs (z ▸ hy)
      obtain ⟨m, hm, hl⟩ := I.loc
      obtain ⟨u, r, l⟩ := hl k y v e3 (nth_iff.mpr hv) (by rcases hout y hy with z | z; exact .inr (.inl z); exact .inr (.inr z))
      refine ⟨u, r, .inr ⟨lookup_relabel_free (env := X.env) (hfr y hy), ?_⟩⟩
      rcases l with ⟨k1, _⟩ | ⟨_, c0, hc, z⟩
      · have k1' : X.env.scope.names.lookup y = some .local := k1
        rcases hout y hy with w | w <;> (rw [k1'] at w; cases w)
      · obtain ⟨c', hc'⟩ := O.has y (mem_of_lookup (hfr y hy))
        have := O.old y c' hyx hc'
        rw [hc] at this
        cases this
        obtain ⟨o, ho, hd⟩ := z
        exact ⟨c0, hc', o, keep _ _ ho, hd⟩
  cell := fun y c' e => by
    rcases O.cases I e with ⟨_, rfl⟩ | ⟨_, a2, _⟩
    · exact ⟨none, hcl⟩
    · obtain ⟨v, o, ho, hd⟩ := I.cell y c' a2
      exact ⟨v, o, keep _ _ ho, hd⟩
  free := I.hok.fresh hC
  freeC := fun y c' e => by
    rcases O.cases I e with ⟨_, rfl⟩ | ⟨_, a2, _⟩
    · exact I.hok.fresh O.new
    · exact I.freeC y c' a2
  pin := fun p hp => by simp at hp
  hok := I.hok.kept keep
  len := by
    show (none :: capsOf ix σ).length = (x :: cs).length
    have := congrArg List.length hix
    rw [List.length_map, List.length_map] at this
    simp [capsOf, this]
theorem Inv.uncompC {pins' : List (Addr × Obj)} {σ' : St} {H' : Hp} {s' : Shared} {h' : Heap} (I : Inv X pins σ H s) (I' : Inv (X.compC scope cl C ns x s H fp) pins' σ' H' s') (hf : ∀ b ∈ fp, FpOk X pins H b) (hs : Heap.SameBut C s'.heap h') :
    Inv X pins σ H' { s' with heap := h' } := by
  have ne : ∀ b o, s.heap.get? b = some o → b ≠ C := fun b o e => Nat.ne_of_lt (Nat.lt_of_lt_of_le (Heap.lt_size e) I'.ok.above)
  have un := I'.base
  refine I.call' (ch := fp) I'.os ⟨fun b o e n hb hx => ?_, fun b o e n hb hx => ?_, un.free, fun b o e hx => ?_, un.tups, un.frzs, un.tbls⟩ ?_ I'.bare fun b hb => ?_
  · exact (hs.2 b (ne b o e)).trans (un.keep b o e n hb hx)
  · obtain ⟨sl, e1⟩ := un.slot b o e n hb hx
    exact ⟨sl, (hs.2 b (ne b o e)).trans e1⟩
  · obtain ⟨o', e1⟩ := un.there b o e hx
    exact ⟨o', (hs.2 b (ne b o e)).trans e1⟩
  · refine I'.hok.stays fun a o ob e q => (hs.2 a ?_).trans q
    intro z
    have f : H' C = none := I'.free
    rw [z, f] at e
    cases e
  · obtain ⟨_, f1, _, f3, f4, f5⟩ := hf b hb
    exact ⟨f3, f1, f4, f5⟩
theorem cells_one : ∀ {x : Str} {names : List (Str × NameKind)} {n : Nat} {acc : List (Str × Addr)} {h : Heap}, h.objs.size = n → (∀ y, (y, NameKind.cell) ∈ names → y = x) → (x, NameKind.cell) ∈ names → ∃ c, n ≤ c ∧ (cellsFrom n names acc).lookup x = some c ∧ (∀ y, y ≠ x → (cellsFrom n names acc).lookup y = acc.lookup y) ∧ (pushCells h names).IsCell c none
  | _, [], _, _, _, _, _, h => by simp at h
  | x, (y, k) :: r, n, acc, h, hn, h1, h2 => by
    by_cases hk : (k == NameKind.cell) = true
    · have hk' : k = .cell := by simpa using hk
      subst hk'
      have hy : y = x := h1 y List.mem_cons_self
      subst hy
      unfold cellsFrom pushCells
      rw [if_pos hk, if_pos hk]
      by_cases h3 : (y, NameKind.cell) ∈ r
      · obtain ⟨c, a, b, d, e⟩ := cells_one (names := r) (n := n + 1) (acc := (y, n) :: acc) (h := h.push { cls := .type "cell", data := .cell none }) (by rw [Heap.size_push, hn]) (fun z hz => h1 z (List.mem_cons_of_mem _ hz)) h3
        refine ⟨c, Nat.le_trans (Nat.le_succ _) a, b, fun z hz => ?_, e⟩
        rw [d z hz, List.lookup_cons]
        have : (z == y) = false := by simpa using hz
        rw [this]
      · have none_cell : ∀ (l : List (Str × NameKind)) (m : Nat) (ac : List (Str × Addr)) (hp : Heap), (∀ z ∈ l, z.2 ≠ .cell) → cellsFrom m l ac = ac ∧ pushCells hp l = hp := fun l => by
          induction l with
          | nil => exact fun _ _ _ _ => ⟨rfl, rfl⟩
          | cons z l ih =>
            intro m ac hp hz
            have hz0 : ¬ (z.2 == NameKind.cell) = true := by simpa using hz z List.mem_cons_self
            unfold cellsFrom pushCells
            rw [if_neg hz0, if_neg hz0]
            exact ih m ac hp fun w hw => hz w (List.mem_cons_of_mem _ hw)
        obtain ⟨e1, e2⟩ := none_cell r (n + 1) ((y, n) :: acc) (h.push { cls := .type "cell", data := .cell none }) fun z hz hc => by
          obtain ⟨z1, z2⟩ := z
          have hc' : z2 = .cell := hc
          subst hc'
          have := h1 z1 (List.mem_cons_of_mem _ hz)
          subst this
          exact h3 hz
        rw [e1, e2]
        refine ⟨n, Nat.le_refl _, ?_, fun z hz => ?_, ⟨_, by rw [← hn]; exact Heap.get?_push_size _ rfl, rfl⟩⟩
        · rw [List.lookup_cons]
          simp
        · rw [List.lookup_cons]
          have : (z == y) = false := by simpa using hz
          rw [this]
    · unfold cellsFrom pushCells
      rw [if_neg hk, if_neg hk]
      refine cells_one hn (fun z hz => h1 z (List.mem_cons_of_mem _ hz)) ?_
      rcases List.mem_cons.mp h2 with z | z
      · cases z
        exact absurd rfl hk
      · exact z
theorem new_env_cell {M : Model} {A : Around} {E : Value → Shared → Prop} {env : Env} {cl : List (Str × Addr)} {Q : Env → Shared → Prop} (h1 : ∀ y, (y, NameKind.cell) ∈ scope.names → y = x) (h2 : (x, NameKind.cell) ∈ scope.names)
    (q : ∀ c cl' h', s.heap.objs.size ≤ c → cl'.lookup x = some c → (∀ y, y ≠ x → cl'.lookup y = cl.lookup y) → h'.IsCell c none → (∃ m, h'.Ns s.heap.objs.size m) → (∀ b o, s.heap.get? b = some o → h'.get? b = some o) →
      Q { scope := scope, locals := s.heap.objs.size, globals := env.globals, cells := cl', qual := env.qual, func := none, code := env.code, frame := env.frame, builtins := env.builtins } { s with heap := h' }) :
    wpAny M A (newFunctionEnv scope env.globals cl [] env.qual none .none (some env)) Q E s := by
  simp only [newFunctionEnv, Option.isSome_some, if_true]
  refine wpAny_bind (wpAny_alloc ?_)
  refine wpAny_bind (wpAny_layCells _ (fun name kind cells => by cases hkc : kind == NameKind.cell <;> simp [hkc]) _ _ _ _ ?_)
  obtain ⟨c, a1, a2, a3, a4⟩ := cells_one (x := x) (names := scope.names) (n := (s.heap.push { cls := .type "dict", data := .dict #[] }).objs.size) (acc := cl) (h := s.heap.push { cls := .type "dict", data := .dict #[] }) rfl h1 h2
  rw [List.forIn_nil]
  refine wpAny_bind (wpAny_pure (wpAny_pure (q c _ _ ?_ a2 a3 a4 ⟨_, (Heap.Ns.new s.heap (.type "dict")).keeps (pushCells_keeps _ _)⟩ fun b o e => pushCells_keeps _ _ b o (Heap.get?_push_of_some _ e))))
  rw [Heap.size_push] at a1
  exact Nat.le_trans (Nat.le_succ _) a1
end
section
variable {X : Cx}
theorem comp_coreC {elt iter : Expr} {ifs : List Expr} {x : Str} {px : Pos} {scope : Scope} {pos : Pos} {cs : List Str} {ix : List Nat} {te : CB → TE} {tc : CB → TT} {pins : List (Addr × Obj)} {σ : St} {H : Hp} {s : Shared} {J : It} {it : Addr} {fp : List Addr} {tn : Nat → Heap → Prop}
    {cl : List (Str × Addr)} {E : Value → Shared → Prop} {Q : V → Hp → Prop} {RR : Value → Addr → Result → Shared → Prop}
    (hc : X.calm = true) (hkind : scope.kind = .function) (hone : ∀ y, (y, NameKind.cell) ∈ scope.names → y = x) (hx : scope.names.lookup x = some .cell) (hN : (x :: cs).Nodup)
    (hix : ix.map (fun i => X.N[i]?) = cs.map some) (hfr : ∀ y ∈ cs, scope.names.lookup y = some .free) (hout : ∀ y ∈ cs, X.env.scope.names.lookup y = some .cell ∨ X.env.scope.names.lookup y = some .free)
    (h1 : ∀ y c, cl.lookup y = some c → X.env.cells.lookup y = some c) (h2 : ∀ y, (y, NameKind.free) ∈ scope.names → ∃ c, cl.lookup y = some c)
    (htest : (ifs = [] ∧ tc = fun _ _ H Q => Q true H) ∨ ∃ c, ifs = [c] ∧ ∀ z : CB, PT (X.compC scope z.cl z.C (x :: cs) x z.s z.H z.fp) c (tc z))
    (helt : ∀ z : CB, PE (X.compC scope z.cl z.C (x :: cs) x z.s z.H z.fp) elt (te z))
    (I : Inv X pins σ H s) (T : Turn X.prog X.w X.K (.Name x px) J fp it tn) (st0 : tn 0 s.heap) (hf : ∀ b ∈ fp, FpOk X pins H b)
    (h : ∀ D H2, New H D (.lst []) H2 → ∃ W : Nat → Nat → List V → Hp → Prop, (∃ m, W 0 m [] H2) ∧ ∀ i m ys H, W i m ys H →
      (J.stop i H ∧ Q (.ref D) H) ∨ (J.go i H ∧ ∀ x H', J.yld i H x H' → ∀ z, tc z (some x :: capsOf ix σ) H' fun b H5 => if b = true then te z (some x :: capsOf ix σ) H5 fun y H3 => H3 D = some (.lst ys) ∧ ys.length < 16000000 ∧ ∀ H4, Chg H3 D (.lst (ys ++ [y])) H4 → ∃ m', m' < m ∧ W (i + 1) m' (ys ++ [y]) H4
        else ∃ m', m' < m ∧ W (i + 1) m' ys H5))
    (hRR : ∀ D C s1 H', (∃ m, s1.heap.Ns C m) → (∀ h', Heap.SameBut C s1.heap h' → Inv X pins σ H' { s1 with heap := h' }) → FpOk X pins H' C → Q (.ref D) H' → RR (.ref D) C (.ok .next) s1) :
    wpAny (model X.prog X.w) X.A (newList []) (fun acc s₃ => wpAny (model X.prog X.w) X.A (newFunctionEnv scope X.env.globals cl [] X.env.qual none .none (some X.env)) (fun cenv s₄ =>
      codeAny (model X.prog X.w) X.A (.compStart (.ListComp elt [⟨.Name x px, iter, ifs, 0⟩] scope pos) 0 (.ref it) acc { cenv with scope := relabel scope X.env }) (RR acc cenv.locals) s₄) E s₃) E s := by
  refine wpAny_newObj_type ?_
  have fD : H s.heap.objs.size = none := I.hok.fresh (Nat.le_refl _)
  have I3 : Inv X pins σ (upd H s.heap.objs.size (.lst [])) { s with heap := s.heap.push { cls := .type "list", data := .seq ([] : List Value).toArray } } := by
    refine I.laid (t' := s.toks) (fun b u e => Heap.get?_push_of_some _ e) (Nat.le_refl _) ?_
    exact ⟨Nat.zero_le _, [], _, .nil, Heap.get?_push_size _ rfl⟩
  have n3 : New H s.heap.objs.size (.lst []) (upd H s.heap.objs.size (.lst [])) := .mk' fD
  generalize hD : s.heap.objs.size = D at *
  obtain ⟨W, ⟨m0, w0⟩, turn⟩ := h D _ n3
  have st3 : tn 0 (s.heap.push { cls := .type "list", data := .seq ([] : List Value).toArray }) := T.keep 0 _ _ st0 fun b _ o e => Heap.get?_push_of_some _ e
  have fpD : ∀ b ∈ fp, b ≠ D := fun b hb z => by
    obtain ⟨o, e, _⟩ := T.obj 0 _ st0 b hb
    exact absurd (Heap.lt_size e) (by rw [z, hD]; exact Nat.lt_irrefl _)
  have hf3 : ∀ b ∈ fp, FpOk X pins (upd H D (.lst [])) b := fun b hb => by
    obtain ⟨f0, r⟩ := hf b hb
    exact ⟨by rw [upd_ne (fpD b hb)]; exact f0, r⟩
  generalize hs3 : ({ s with heap := s.heap.push { cls := .type "list", data := .seq ([] : List Value).toArray } } : Shared) = s3 at *
  have st3' : tn 0 s3.heap := by rw [← hs3]; exact st3
  generalize upd H D (.lst []) = H3 at *
  refine new_env_cell (x := x) (cl := cl) hone (mem_of_lookup hx) fun cc cl' h₁ c0 c1 c2 c3 ⟨m₁, hns₁⟩ keep => ?_
  have hfs : ∀ b ∈ fp, b < s3.heap.objs.size := fun b hb => by
    obtain ⟨o, e, _⟩ := T.obj 0 _ st3' b hb
    exact Heap.lt_size e
  have hxs : x ∉ cs := (List.nodup_cons.mp hN).1
  have fx : ∀ y, (y, NameKind.free) ∈ scope.names → y ≠ x → ∃ c, cl'.lookup y = some c := fun y hy hyx => by
    rw [c2 y hyx]
    exact h2 y hy
  have O : Own X scope cl' x cc s3 := ⟨c1, c0, fun y c' hyx e => h1 y c' (by rw [← c2 y hyx]; exact e), fun y hy => by
    by_cases e : y = x
    · exact ⟨cc, by rw [e]; exact c1⟩
    · exact fx y hy e, hone⟩
  have ok := I3.compOkC (ns := x :: cs) O hkind (Nat.le_refl _) hf3 hfs
  have I4 := I3.compC (tk := s3.toks) O ok hxs (Nat.le_refl _) hns₁ c3 keep hix hfr hout
  have st4 : tn 0 h₁ := T.keep 0 _ _ st3' fun b _ o e => keep b o e
  generalize hC : s3.heap.objs.size = C at *
  have stat : ∀ {H' : Hp} {pins'}, pins' = [] → (∀ b ∈ fp, H' b = none) → ∀ b ∈ fp, FpOk (X.compC scope cl' C (x :: cs) x s3 H3 fp) pins' H' b := fun hp hn b hb => by
    subst hp
    exact ⟨hn b hb, (ok.exf b hb).1, ok.exfs b hb, .inl hb, (ok.exf b hb).2, fun p hp => by simp at hp⟩
  have hPG : PG (X.compC scope cl' C (x :: cs) x s3 H3 fp) (.Name x px) (gName 0) := pg_name (X := X.compC scope cl' C (x :: cs) x s3 H3 fp) (i := 0) hN rfl (.inr (lookup_relabel_cell hx)) (.inl (by simp))
  have loop : ∀ s5 : Shared, s5 = { s3 with heap := h₁, toks := s3.toks } →
      codeAny (model X.prog X.w) X.A (.compLoop (.ListComp elt [⟨.Name x px, iter, ifs, 0⟩] scope pos) 0 (.ref it) (.ref D) (compEnvC scope cl' C X.env)) (RR (.ref D) C) s5 := by
    rintro s5 rfl
    refine codeAny_compLoop_tests (fun n s' => ∃ i v0 H' ys, Inv (X.compC scope cl' C (x :: cs) x s3 H3 fp) [] (v0 :: capsOf ix σ) H' s' ∧ tn i s'.heap ∧ (∀ b ∈ fp, H' b = none) ∧ W i n ys H') ?_ m0 ⟨0, none, H3, [], I4, st4, fun b hb => (hf3 b hb).1, w0⟩
    rintro n s6 ⟨i, v0, H6, ys, I6, st6, fr6, w6⟩
    rcases turn i n ys H6 w6 with ⟨stop, qn⟩ | ⟨go, step⟩
    · refine wpAny_mono (T.done (X.compC scope cl' C (x :: cs) x s3 H3 fp) rfl rfl rfl hc i [] s6 _ H6 (fun _ _ => False) I6 (stat rfl fr6) st6 stop) (fun r s7 ⟨hr, I7⟩ => ?_) fun _ _ z => z.elim
      subst hr
      exact hRR D C s7 H6 (by obtain ⟨m, hm, _⟩ := I7.loc; exact ⟨m, hm⟩) (fun h' hs => I3.uncompC I7 hf3 hs) (I3.fpOk (Nat.le_of_eq hC) I7.free) qn
    · refine wpAny_mono (T.item (X.compC scope cl' C (x :: cs) x s3 H3 fp) rfl rfl rfl hc i [] s6 _ H6 (fun _ _ => False) I6 (stat rfl fr6) st6 go) (fun r s7 ⟨u, hr, h7⟩ => ?_) fun _ _ z => z.elim
      subst hr
      show wpAny (model X.prog X.w) X.A (letOwnedTupleGo (.Name x px) (.ref it) u >>= fun _ => assign (.Name x px) (compEnvC scope cl' C X.env) u) _ _ s7
      refine wpAny_bind (wpAny_mono h7 (fun _ s8 ⟨xv, H8, I8, r8, y8, st8, fr8⟩ => ?_) fun _ _ z => z.elim)
      have I8' := I8.pinned (stat rfl fr8) (T.obj _ _ st8)
      refine wpAny_mono (hPG _ s8 _ H8 xv u (fun σ9 H9 => σ9 = some xv :: capsOf ix σ ∧ H9 = H8) I8' r8 ⟨rfl, rfl⟩) (fun _ s9 ⟨σ9, H9, I9, e1, e2⟩ => ?_) fun _ _ z => z.elim
      subst e1 e2
      have stp := step xv H9 y8 ⟨cl', C, s3, H3, fp⟩
      have again : ∀ {H7 : Hp} {s7 : Shared} {zs : List V} {m' : Nat}, Inv (X.compC scope cl' C (x :: cs) x s3 H3 fp) ([] ++ pinsAt fp s8.heap) (some xv :: capsOf ix σ) H7 s7 → m' < n → W (i + 1) m' zs H7 →
          ∃ m, m < n ∧ ∃ i v0 H' ys, Inv (X.compC scope cl' C (x :: cs) x s3 H3 fp) [] (v0 :: capsOf ix σ) H' s7 ∧ tn i s7.heap ∧ (∀ b ∈ fp, H' b = none) ∧ W i m ys H' := fun {H7 s7 zs m'} I7 hm w7 => by
        refine ⟨m', hm, i + 1, _, H7, zs, I7.unpinned, T.keep _ _ _ st8 fun b hb o e => (I7.pin (b, o) (List.mem_append_right _ (List.mem_append_right _ (mem_pinsAt hb e)))).1, fun b hb => ?_, w7⟩
        obtain ⟨o, e, d⟩ := T.obj _ _ st8 b hb
        exact (I7.pin (b, o) (List.mem_append_right _ (List.mem_append_right _ (mem_pinsAt hb e)))).2.1
      have body : ∀ {H5 : Hp} {s5 : Shared}, Inv (X.compC scope cl' C (x :: cs) x s3 H3 fp) ([] ++ pinsAt fp s8.heap) (some xv :: capsOf ix σ) H5 s5 →
          (te ⟨cl', C, s3, H3, fp⟩ (some xv :: capsOf ix σ) H5 fun y H3 => H3 D = some (.lst ys) ∧ ys.length < 16000000 ∧ ∀ H4, Chg H3 D (.lst (ys ++ [y])) H4 → ∃ m', m' < n ∧ W (i + 1) m' (ys ++ [y]) H4) →
          ∀ E' : Value → Shared → Prop, wpAny (model X.prog X.w) X.A (eval elt (compEnvC scope cl' C X.env)) (fun y s4 => wpAny (model X.prog X.w) X.A (call (.builtin "list.append") [.ref D, y]) (fun _ s5 => ∃ m, m < n ∧ ∃ i v0 H' ys, Inv (X.compC scope cl' C (x :: cs) x s3 H3 fp) [] (v0 :: capsOf ix σ) H' s5 ∧ tn i s5.heap ∧ (∀ b ∈ fp, H' b = none) ∧ W i m ys H') E' s4) E' s5 := fun {H5 s5} I5 q5 E' => by
        refine wpAny_mono (helt ⟨cl', C, s3, H3, fp⟩ _ s5 _ H5 _ I5 q5) (fun y s10 ⟨yv, H10, I10, r10, hDy, hl, q10⟩ => ?_) fun _ _ z => z.elim
        refine wpAny_mono (mt_append (X := X.compC scope cl' C (x :: cs) x s3 H3 fp) _ s10 _ H10 (.ref D) [yv] (.ref D) [y] (fun _ H11 => ∃ m', m' < n ∧ W (i + 1) m' (ys ++ [yv]) H11) I10 rfl (.cons r10 .nil) ⟨D, ys, yv, rfl, rfl, hDy, Nat.lt_of_lt_of_le hl (by decide), q10 _ .mk'⟩) (fun _ s11 ⟨_, H11, I11, _, m', hm, w11⟩ => ?_) fun _ _ z => z.elim
        exact again I11 hm w11
      rcases htest with ⟨e0, e1⟩ | ⟨c, e0, hpt⟩
      · subst e0 e1
        refine wpAny_tests_nil ?_
        rw [if_pos rfl]
        have stp' := (show (if true = true then _ else _) from stp)
        rw [if_pos rfl] at stp'
        exact body I9 stp' _
      · subst e0
        refine wpAny_tests_one (wpAny_mono (hpt ⟨cl', C, s3, H3, fp⟩ _ s9 _ H9 _ I9 stp) (fun b s10 ⟨H10, I10, q10⟩ => ?_) fun _ _ z => z.elim)
        cases b with
        | true =>
          rw [if_pos rfl] at q10 ⊢
          exact body I10 q10 _
        | false =>
          rw [if_neg Bool.false_ne_true] at q10 ⊢
          obtain ⟨m', hm, w10⟩ := q10
          exact again I10 hm w10
  exact codeAny_compStart_list (loop _ rfl) (T.self X.A 0 _ _ _ st4 (loop _ rfl))
theorem pe_compC {elt iter : Expr} {x : Str} {px : Pos} {scope : Scope} {pos : Pos} {wi : TI} {te : CB → TE} (sc0 : Scope) (cs : List Str) (ix : List Nat) (hc : X.calm = true) (hi : PI X (.Name x px) iter wi)
    (helt : ∀ z : CB, PE (X.compC scope z.cl z.C (x :: cs) x z.s z.H z.fp) elt (te z)) (hN : (x :: cs).Nodup := by decide +kernel) (hkind : scope.kind = .function := by rfl) (hone' : ∀ y ∈ scope.names, y.2 = .cell → y.1 = x := by decide +kernel)
    (hx : scope.names.lookup x = some .cell := by rfl) (hnames : ∀ y ∈ scope.names, y.2 = .local → scope.names.lookup y.1 = some .local := by decide +kernel)
    (hix : ix.map (fun i => X.N[i]?) = cs.map some := by rfl) (hfr : ∀ y ∈ cs, scope.names.lookup y = some .free := by decide +kernel) (hout' : ∀ y ∈ cs, sc0.names.lookup y = some .cell ∨ sc0.names.lookup y = some .free := by decide +kernel)
    (hfree' : ∀ y ∈ scope.names, y.2 = .free → sc0.names.lookup y.1 = some .cell ∨ sc0.names.lookup y.1 = some .free := by decide +kernel) (hsc : X.env.scope = sc0 := by rfl)
    (hs : ∀ x, foldedSetIterable iter X.env x = pure x := by intro _; rfl) :
    PE X (.ListComp elt [⟨.Name x px, iter, [], 0⟩] scope pos) (tComp wi ix te) := by
  have hout : ∀ y ∈ cs, X.env.scope.names.lookup y = some .cell ∨ X.env.scope.names.lookup y = some .free := by rw [hsc]; exact hout'
  have hfree : ∀ y ∈ scope.names, y.2 = .free → X.env.scope.names.lookup y.1 = some .cell ∨ X.env.scope.names.lookup y.1 = some .free := by rw [hsc]; exact hfree'
  intro pins s σ H Q I h
  obtain ⟨cl, hcl, h1, h2⟩ := closure_ok (scope := scope) (env := X.env) fun y hy hk => I.ok.has y.1 (hfree y hy hk)
  rw [eval_ListComp]
  refine wpAny_comprehension_free (use := none) rfl hs hcl hkind hnames (wpAny_mono (hi pins s σ H _ I h) (fun v s1 h3 => wpAny_mono h3 (fun itv s2 h4 => ?_) fun _ _ z => z) fun _ _ z => z)
  obtain ⟨it, fp, tn, J, H2, rfl, I2, T, st, hf, q⟩ := h4
  refine comp_coreC (Q := Q) (tc := fun _ _ H Q => Q true H) hc hkind (fun y hy => hone' (y, NameKind.cell) hy rfl) hx hN hix hfr hout h1 h2 (.inl ⟨rfl, rfl⟩) helt I2 T st hf (fun D H3 n3 => ?_) fun D C s3 H3 hm hI hCf hq => ?_
  · obtain ⟨W, w0, turn⟩ := q D H3 n3
    refine ⟨W, w0, fun i m ys H w => ?_⟩
    rcases turn i m ys H w with z | ⟨go, step⟩
    · exact .inl z
    · refine .inr ⟨go, fun x H' y z => ?_⟩
      exact iteT (step x H' y z)
  · obtain ⟨m, hm⟩ := hm
    exact ⟨m, hm, fun h' hs' => ⟨.ref D, H3, hI h' hs', rfl, hq⟩⟩
end
noncomputable def relabelS (scope outer : Scope) : Scope := { scope with names := scope.names.map fun (n, k) => if (k == NameKind.free && outer.kind == .function && outer.names.lookup n == some .cell) then (n, NameKind.cell) else (n, k) }
noncomputable def retScope : Stmt → Scope
  | .FunctionDef _ _ body _ _ _ _ _ _ _ => match body.getLast? with
    | some (.Return (some (.ListComp _ _ sc _)) _) => sc
    | _ => default
  | _ => default
end L2
namespace L2
open PySem PySem.Spec PyProof.Rows
noncomputable def Itv (K : PySem.W.Frag) (a : Addr) (n : Nat) : It :=
  ⟨fun i H => i < n ∧ ∃ xs, SqL K H a xs ∧ xs.length = n, fun i H x H' => H' = H ∧ ∀ xs, SqL K H a xs → xs[n - 1 - i]? = some x, fun i _ => n ≤ i⟩
theorem turn_rev {P : Program} {w : World} {K : PySem.W.Frag} {tg : Expr} (a it : Addr) (n : Nat) : Turn P w K tg (Itv K a n) [it] it (fun i h => i ≤ n ∧ h.IsRevIter it a ((n : Int) - 1 - (i : Int))) where
  mem := by simp
  obj := fun i h st b hb => by
    have e : b = it := by simpa using hb
    subst e
    obtain ⟨_, o, e, c, d⟩ := st
    exact ⟨o, e, fun v z => by rw [d] at z; cases z⟩
  keep := fun i h h' st k => ⟨st.1, st.2.at fun o e => k it (by simp) o e⟩
  item := by
    intro X hP hw hK hc i pins s σ H E I hf st hg
    subst hP hw hK
    obtain ⟨hi, xs, hq, hn⟩ := hg
    obtain ⟨its, rv, p, hz⟩ := I.list hq
    have hx : xs[n - 1 - i]? = some (xs[n - 1 - i]'(by omega)) := List.getElem?_eq_getElem _
    obtain ⟨u, hu, ru⟩ := rv.get hx
    obtain ⟨f0, f1, f2, f3, f4, f5⟩ := hf it (by simp)
    have ei : (n : Int) - 1 - (i : Int) = ((n - 1 - i : Nat) : Int) := by omega
    obtain ⟨si, sit⟩ := st
    rw [ei] at sit
    refine wpAny_pyNext_rev_item sit p.isList (x := u) (by simpa using hu) fun h' st' sb => ?_
    have I1 : Inv X pins σ H { s with heap := h' } := I.turned (t' := s.toks) (fun b o hb e => (sb.2 b hb).trans e) f0 f1 f3 f4 f5
    obtain ⟨o, e, c, d⟩ := id st'
    refine ⟨u, rfl, go_of (s := { s with heap := h' }) e c d (by decide) ⟨_, H, I1, ru, ⟨rfl, fun ys hy => by rw [I.list_inj hy hq]; exact hx⟩, ⟨hi, ?_⟩, fun b hb => (hf b hb).1⟩⟩
    rw [show (n : Int) - 1 - ((i + 1 : Nat) : Int) = ((n - 1 - i : Nat) : Int) - 1 by omega]
    exact st'
  done := by
    intro X hP hw hK hc i pins s σ H E I hf st hg
    subst hP hw hK
    have hg' : n ≤ i := hg
    obtain ⟨f0, f1, f2, f3, f4, f5⟩ := hf it (by simp)
    obtain ⟨si, sit⟩ := st
    rw [show (n : Int) - 1 - (i : Int) = -1 by omega] at sit
    exact wpAny_pyNext_rev_end (I.ok.hd hc) sit fun h' eb => ⟨rfl, I.turned (t' := s.toks) (fun b o hb e => eb b o hb e) f0 f1 f3 f4 f5⟩
  self := fun _ _ _ _ _ st h => wpAny_pyIter_revIter st.2 h
section
variable {X : Cx}
noncomputable def iRev (K : PySem.W.Frag) (ta : TA) : TI := fun σ H R => ta σ H fun vs H1 => match vs with | [.ref a] => ∃ xs, SqL K H1 a xs ∧ R (Itv K a xs.length) H1 | _ => False
theorem pi_rev {tg l : Expr} {ta : TA} {p pos : Pos} (hg : Gl X "reversed") (hm : X.mg "reversed" = none) (ha : PA X [l] ta) (hs : starEach [l] X.env = [(false, eval l X.env)] := by rfl) :
    PI X tg (.Call (.Name "reversed" p) [l] [] pos) (iRev X.K ta) := by
  intro pins s σ H R I h
  refine Call_ (ld_blt I hg hm boot_reversed (PyProof.Rows.callWith_type1 (thn (ha pos pins s σ H _ I h) fun us s1 ⟨vs, H1, I1, r1, q1⟩ => ?_) hs rfl))
  dsimp only at q1
  split at q1
  · rename_i a
    obtain ⟨xs, hq, q⟩ := q1
    obtain ⟨u, rfl, ru⟩ := vals1 r1
    cases (show u = Value.ref a from ru)
    obtain ⟨its, rv, pl, _⟩ := I1.list hq
    have hlen := rv.length
    refine call_reversed_list pl.isList ?_
    have I2 : Inv X pins σ H1 { s1 with heap := s1.heap.push (revObj a ((its.toArray.size : Int) - 1)) } := I1.kept (t' := s1.toks) fun b o e => Heap.get?_push_of_some _ e
    have hit : (s1.heap.push (revObj a ((its.toArray.size : Int) - 1))).IsRevIter s1.heap.objs.size a ((xs.length : Int) - 1 - ((0 : Nat) : Int)) := by
      refine ⟨_, Heap.get?_push_size _ rfl, rfl, ?_⟩
      rw [hlen, ← List.size_toArray]
      show Data.fields #[.ref a, rawInt ((its.toArray.size : Int) - 1)] = _
      rw [show (its.toArray.size : Int) - 1 - ((0 : Nat) : Int) = (its.toArray.size : Int) - 1 by omega]
    refine wpAny_pyIter_revIter hit ?_
    refine ⟨s1.heap.objs.size, [s1.heap.objs.size], _, Itv X.K a xs.length, H1, rfl, I2, turn_rev a _ xs.length, ⟨Nat.zero_le _, hit⟩, fun b hb => ?_, q⟩
    have hb' : s1.heap.objs.size ≤ b := by rw [List.mem_singleton.mp hb]; exact Nat.le_refl _
    exact I1.fpOk hb' (I1.hok.fresh hb')
  · exact q1.elim
end
end L2
namespace Lr
noncomputable def Adj2 {α : Type} (R : α → α → Prop) (l : List α) : Prop := ∀ (j : Nat) a b, l[j]? = some a → l[j + 1]? = some b → R a b
noncomputable def Adj3 {α : Type} (R : α → α → α → Prop) (l : List α) : Prop := ∀ (j : Nat) a b c, l[j]? = some a → l[j + 1]? = some b → l[j + 2]? = some c → R a b c
theorem map_some {α β : Type} {f : α → β} {l : List α} {j : Nat} {y : β} (h : (l.map f)[j]? = some y) : ∃ x, l[j]? = some x ∧ f x = y := by
  rw [List.getElem?_map] at h
  cases e : l[j]? with
  | none => rw [e] at h; cases h
  | some x => rw [e] at h; exact ⟨x, rfl, Option.some.inj h⟩
theorem Adj2.map {α β : Type} {f : α → β} {R : β → β → Prop} {l : List α} (h : Adj2 (fun a b => R (f a) (f b)) l) : Adj2 R (l.map f) := fun j a b ha hb => by
  obtain ⟨x, h1, rfl⟩ := map_some ha
  obtain ⟨y, h2, rfl⟩ := map_some hb
  exact h j x y h1 h2
theorem Adj3.map {α β : Type} {f : α → β} {R : β → β → β → Prop} {l : List α} (h : Adj3 (fun a b c => R (f a) (f b) (f c)) l) : Adj3 R (l.map f) := fun j a b c ha hb hc => by
  obtain ⟨x, h1, rfl⟩ := map_some ha
  obtain ⟨y, h2, rfl⟩ := map_some hb
  obtain ⟨z, h3, rfl⟩ := map_some hc
  exact h j x y z h1 h2 h3
theorem lt_of_some {α : Type} {l : List α} {j : Nat} {a : α} (h : l[j]? = some a) : j < l.length := (List.getElem?_eq_some_iff.mp h).1
theorem rev_some {α : Type} {l : List α} {j : Nat} {a : α} (h : l.reverse[j]? = some a) : j < l.length ∧ l[l.length - 1 - j]? = some a := by
  have hj := lt_of_some h
  rw [List.length_reverse] at hj
  rw [List.getElem?_reverse hj] at h
  exact ⟨hj, h⟩
theorem Adj2.rev {α : Type} {R : α → α → Prop} {l : List α} (h : Adj2 (fun a b => R b a) l) : Adj2 R l.reverse := fun j a b ha hb => by
  obtain ⟨j1, e1⟩ := rev_some ha
  obtain ⟨j2, e2⟩ := rev_some hb
  refine h (l.length - 1 - (j + 1)) b a e2 ?_
  rw [show l.length - 1 - (j + 1) + 1 = l.length - 1 - j by omega]
  exact e1
theorem Adj2.app {α : Type} {R : α → α → Prop} {l m : List α} (h1 : Adj2 R l) (h2 : Adj2 R m) (h3 : ∀ a b, l[l.length - 1]? = some a → m[0]? = some b → 0 < l.length → R a b) : Adj2 R (l ++ m) := fun j a b ha hb => by
  by_cases c1 : j + 1 < l.length
  · rw [List.getElem?_append_left (by omega)] at ha
    rw [List.getElem?_append_left c1] at hb
    exact h1 j a b ha hb
  by_cases c2 : j < l.length
  · rw [List.getElem?_append_left c2] at ha
    rw [List.getElem?_append_right (by omega)] at hb
    exact h3 a b (by rw [show l.length - 1 = j by omega]; exact ha) (by rw [show j + 1 - l.length = 0 by omega] at hb; exact hb) (by omega)
  · rw [List.getElem?_append_right (by omega)] at ha hb
    exact h2 (j - l.length) a b ha (by rw [show j - l.length + 1 = j + 1 - l.length by omega]; exact hb)
theorem Adj2.sub {α : Type} {R : α → α → Prop} {l : List α} (h : Adj2 R l) : Adj2 R l.dropLast := fun j a b ha hb => by
  have h1 := lt_of_some ha
  have h2 := lt_of_some hb
  rw [List.getElem?_dropLast] at ha hb
  rw [List.length_dropLast] at h1 h2
  rw [if_pos (by omega)] at ha hb
  exact h j a b ha hb
structure Lvl (cs ls : List Rat) : Prop where
  srt : ls.Pairwise (· < ·)
  mem : ∀ x, x ∈ ls ↔ x = 0 ∨ x ∈ cs
noncomputable def Nb (cs : List Rat) (s t : Rat) : Prop := 0 ≤ s ∧ s < t ∧ t ∈ cs ∧ ∀ c ∈ cs, c ≤ s ∨ t ≤ c
section
variable {cs ls : List Rat}
theorem Lvl.nn (L : Lvl cs ls) (nn : ∀ c ∈ cs, 0 ≤ c) {x : Rat} (h : x ∈ ls) : 0 ≤ x := by
  rcases (L.mem x).mp h with rfl | h
  · exact Rat.le_refl
  · exact nn x h
theorem Lvl.lt (L : Lvl cs ls) {i j : Nat} {s t : Rat} (hs : ls[i]? = some s) (ht : ls[j]? = some t) (h : i < j) : s < t := by
  obtain ⟨i1, e1⟩ := List.getElem?_eq_some_iff.mp hs
  obtain ⟨j1, e2⟩ := List.getElem?_eq_some_iff.mp ht
  rw [← e1, ← e2]
  exact List.pairwise_iff_getElem.mp L.srt i j i1 j1 h
theorem Lvl.nb (L : Lvl cs ls) (nn : ∀ c ∈ cs, 0 ≤ c) : Adj2 (Nb cs) ls := fun j s t hs ht => by
  have h0 : s < t := L.lt hs ht (by omega)
  have hs0 : 0 ≤ s := L.nn nn (List.mem_of_getElem? hs)
  refine ⟨hs0, h0, ?_, fun c hc => ?_⟩
  · rcases (L.mem t).mp (List.mem_of_getElem? ht) with rfl | h
    · grind
    · exact h
  · obtain ⟨i, hi⟩ := List.mem_iff_getElem?.mp ((L.mem c).mpr (.inr hc))
    by_cases hij : i ≤ j
    · left
      by_cases e : i = j
      · subst e
        rw [hs] at hi
        cases hi
        exact Rat.le_refl
      · exact Rat.le_of_lt (L.lt hi hs (by omega))
    · right
      by_cases e : i = j + 1
      · subst e
        rw [ht] at hi
        cases hi
        exact Rat.le_refl
      · exact Rat.le_of_lt (L.lt ht hi (by omega))
theorem Lvl.head (L : Lvl cs ls) (nn : ∀ c ∈ cs, 0 ≤ c) : ls[0]? = some 0 := by
  obtain ⟨i, hi⟩ := List.mem_iff_getElem?.mp ((L.mem 0).mpr (.inl rfl))
  match i, hi with
  | 0, hi => exact hi
  | i + 1, hi =>
    have h0 := lt_of_some hi
    have h1 : ls[0]? = some (ls[0]'(by omega)) := List.getElem?_eq_getElem (by omega)
    have := L.lt h1 hi (by omega)
    have := L.nn nn (List.mem_of_getElem? h1)
    grind
theorem Lvl.last (L : Lvl cs ls) {m : Rat} (h : ls[ls.length - 1]? = some m) : ∀ c ∈ cs, c ≤ m := fun c hc => by
  obtain ⟨i, hi⟩ := List.mem_iff_getElem?.mp ((L.mem c).mpr (.inr hc))
  have h0 := lt_of_some hi
  by_cases e : i = ls.length - 1
  · subst e
    rw [h] at hi
    cases hi
    exact Rat.le_refl
  · exact Rat.le_of_lt (L.lt hi h (by omega))
theorem Lvl.pos (L : Lvl cs ls) (nn : ∀ c ∈ cs, 0 ≤ c) : 0 < ls.length := lt_of_some (L.head nn)
theorem sm_zero_all (nn : ∀ c ∈ cs, 0 ≤ c) (h : sm cs = 0) : ∀ c ∈ cs, c = 0 := fun c hc => by
  have h1 := nn c hc
  have h2 := sm_mem_le nn hc
  grind
theorem all_zero_sm : ∀ {cs : List Rat}, (∀ c ∈ cs, c = 0) → sm cs = 0
  | [], _ => rfl
  | c :: cs, h => by
    show c + sm cs = 0
    rw [h c List.mem_cons_self, all_zero_sm fun c hc => h c (List.mem_cons_of_mem _ hc)]
    grind
theorem Lvl.two (L : Lvl cs ls) (nn : ∀ c ∈ cs, 0 ≤ c) (h : sm cs ≠ 0) : 2 ≤ ls.length := by
  have h0 := L.head nn
  have hp := L.pos nn
  refine Classical.byContradiction fun z => h ?_
  refine all_zero_sm fun c hc => ?_
  have h1 := L.last (m := 0) (by rw [show ls.length - 1 = 0 by omega]; exact h0) c hc
  have := nn c hc
  grind
noncomputable def kn (ls : List Rat) : Rl → List (Rat → Rat)
  | .sh => [fun _ => 0, fun c => c]
  | .ga => ls.map fun t c => mn c t
  | .lo => ls.reverse.map fun t c => c - mn c t
  | .ha => (ls.dropLast.map fun t c => mn (c * rt 1 2) (t * rt 1 2)) ++ ls.dropLast.reverse.map fun t c => c - mn (c * rt 1 2) (t * rt 1 2)
  | .tu => []
noncomputable def need : Rl → Rat → Rat → Rat → Rat
  | .sh, c, a => fun x => x * (a / c)
  | .ga, _, a => fun x => mn x a
  | .lo, c, a => fun x => x - mn x (c - a)
  | .ha, c, a => if a + a ≤ c then fun x => mn (x * rt 1 2) a else fun x => x - mn (x * rt 1 2) (c - a)
  | .tu, _, _ => fun _ => 0
theorem need_ha (c a : Rat) : need .ha c a = if a + a ≤ c then fun x => mn (x * rt 1 2) a else fun x => x - mn (x * rt 1 2) (c - a) := rfl
structure Seg (ρ : Rl) (cs : List Rat) (F G : Rat → Rat) : Prop where
  up : ∀ c ∈ cs, F c ≤ G c
  ne : ∃ c ∈ cs, F c < G c
  lin : ∀ l, 0 ≤ l → l ≤ 1 → ∃ H, AF ρ H ∧ ∀ c ∈ cs, H c = F c + l * (G c - F c)
  need : ∀ c ∈ cs, F c < G c → ∀ l, 0 < l → l ≤ 1 → ∀ x ∈ cs, need ρ c (F c + l * (G c - F c)) x = F x + l * (G x - F x)
theorem lin_mn {s t c l : Rat} (hst : s < t) (h : c ≤ s ∨ t ≤ c) (l0 : 0 ≤ l) (l1 : l ≤ 1) : mn c (s + l * (t - s)) = mn c s + l * (mn c t - mn c s) := by
  have a1 : 0 ≤ l * (t - s) := Rat.mul_nonneg l0 (by grind)
  have a2 : l * (t - s) ≤ t - s := by
    have := Rat.mul_le_mul_of_nonneg_right l1 (show 0 ≤ t - s by grind)
    grind
  rcases h with h | h
  · rw [mn_l (x := c) (y := s) h, mn_l (x := c) (y := t) (by grind), mn_l (by grind)]
    grind
  · rw [mn_r (x := c) (y := s) (by grind), mn_r (x := c) (y := t) h, mn_r (by grind)]
theorem seg_ga {s t : Rat} (N : Nb cs s t) : Seg .ga cs (fun c => mn c s) fun c => mn c t := by
  obtain ⟨s0, st, tm, hc⟩ := N
  refine ⟨fun c _ => mn_mono (Rat.le_of_lt st), ⟨t, tm, ?_⟩, fun l l0 l1 => ⟨fun c => mn c (s + l * (t - s)), ⟨_, ?_, rfl⟩, fun c h => lin_mn st (hc c h) l0 l1⟩, fun c h hlt l l0 l1 x hx => ?_⟩
  · show mn t s < mn t t
    rw [mn_r (Rat.le_of_lt st), mn_l Rat.le_refl]
    exact st
  · have := Rat.mul_nonneg l0 (show 0 ≤ t - s by grind)
    grind
  · have ht : t ≤ c := by
      rcases hc c h with z | z
      · have e1 : mn c s = c := mn_l z
        have e2 : mn c t = c := mn_l (by grind)
        have hlt' : mn c s < mn c t := hlt
        grind
      · exact z
    show mn x (mn c s + l * (mn c t - mn c s)) = mn x s + l * (mn x t - mn x s)
    rw [mn_r (x := c) (y := s) (by grind), mn_r (x := c) (y := t) ht]
    exact lin_mn st (hc x hx) (Rat.le_of_lt l0) l1
theorem seg_lo {s t : Rat} (N : Nb cs s t) : Seg .lo cs (fun c => c - mn c t) fun c => c - mn c s := by
  obtain ⟨s0, st, tm, hc⟩ := N
  have lin2 : ∀ c ∈ cs, ∀ l, 0 ≤ l → l ≤ 1 → mn c (t - l * (t - s)) = mn c t - l * (mn c t - mn c s) := fun c h l l0 l1 => by
    have := lin_mn st (hc c h) (l := 1 - l) (by grind) (by grind)
    rw [show s + (1 - l) * (t - s) = t - l * (t - s) by grind] at this
    rw [this]
    grind
  refine ⟨fun c _ => ?_, ⟨t, tm, ?_⟩, fun l l0 l1 => ⟨fun c => c - mn c (t - l * (t - s)), ⟨_, ?_, rfl⟩, fun c h => ?_⟩, fun c h hlt l l0 l1 x hx => ?_⟩
  · have := mn_mono (x := c) (Rat.le_of_lt st)
    show c - mn c t ≤ c - mn c s
    grind
  · show t - mn t t < t - mn t s
    rw [mn_r (x := t) (y := s) (Rat.le_of_lt st), mn_l (x := t) (y := t) Rat.le_refl]
    grind
  · have := Rat.mul_le_mul_of_nonneg_right l1 (show 0 ≤ t - s by grind)
    grind
  · show c - mn c (t - l * (t - s)) = c - mn c t + l * (c - mn c s - (c - mn c t))
    rw [lin2 c h l l0 l1]
    grind
  · have hlt' : c - mn c t < c - mn c s := hlt
    have ht : t ≤ c := by
      rcases hc c h with z | z
      · have e1 : mn c s = c := mn_l z
        have e2 : mn c t = c := mn_l (by grind)
        grind
      · exact z
    show x - mn x (c - (c - mn c t + l * (c - mn c s - (c - mn c t)))) = x - mn x t + l * (x - mn x s - (x - mn x t))
    rw [mn_r (x := c) (y := s) (by grind), mn_r (x := c) (y := t) ht, show c - (c - t + l * (c - s - (c - t))) = t - l * (t - s) by grind, lin2 x hx l (Rat.le_of_lt l0) l1]
    grind
theorem seg_sh (nn : ∀ c ∈ cs, 0 ≤ c) (h : sm cs ≠ 0) : Seg .sh cs (fun _ => 0) fun c => c := by
  refine ⟨fun c hc => nn c hc, ?_, fun l l0 l1 => ⟨fun c => c * l, ⟨l, l0, l1, rfl⟩, fun c _ => ?_⟩, fun c hc hlt l l0 l1 x hx => ?_⟩
  · refine Classical.byContradiction fun z => h (all_zero_sm fun c hc => ?_)
    have := nn c hc
    by_cases e : c = 0
    · exact e
    · exact absurd ⟨c, hc, by grind⟩ z
  · show c * l = 0 + l * (c - 0)
    grind
  · have hlt' : 0 < c := hlt
    show x * ((0 + l * (c - 0)) / c) = 0 + l * (x - 0)
    have : (0 + l * (c - 0)) / c = l := by grind
    rw [this]
    grind
theorem mn_half (x y : Rat) : mn (x * rt 1 2) (y * rt 1 2) = mn x y * rt 1 2 := mn_mul (by rw [hv_eq]; decide +kernel)
theorem seg_ha1 {s t : Rat} (N : Nb cs s t) : Seg .ha cs (fun c => mn (c * rt 1 2) (s * rt 1 2)) fun c => mn (c * rt 1 2) (t * rt 1 2) := by
  obtain ⟨s0, st, tm, hc⟩ := N
  simp only [mn_half]
  simp only [hv_eq]
  have lin2 : ∀ c ∈ cs, ∀ l, 0 ≤ l → l ≤ 1 → mn (c * rt 1 2) ((s + l * (t - s)) * rt 1 2) = mn c s * (1 / 2) + l * (mn c t * (1 / 2) - mn c s * (1 / 2)) := fun c h l l0 l1 => by
    rw [mn_half, lin_mn st (hc c h) l0 l1, hv_eq]
    grind
  refine ⟨fun c _ => ?_, ⟨t, tm, ?_⟩, fun l l0 l1 => ⟨fun c => mn (c * rt 1 2) ((s + l * (t - s)) * rt 1 2), ⟨_, ?_, .inl rfl⟩, fun c h => lin2 c h l l0 l1⟩, fun c h hlt l l0 l1 x hx => ?_⟩
  · have := mn_mono (x := c) (Rat.le_of_lt st)
    grind
  · show mn t s * (1 / 2) < mn t t * (1 / 2)
    rw [mn_r (x := t) (y := s) (Rat.le_of_lt st), mn_l (x := t) (y := t) Rat.le_refl]
    grind
  · have := Rat.mul_nonneg l0 (show 0 ≤ t - s by grind)
    rw [hv_eq]
    grind
  · have hlt' : mn c s * (1 / 2) < mn c t * (1 / 2) := hlt
    have ht : t ≤ c := by
      rcases hc c h with z | z
      · have e1 : mn c s = c := mn_l z
        have e2 : mn c t = c := mn_l (by grind)
        grind
      · exact z
    have a2 := Rat.mul_le_mul_of_nonneg_right l1 (show 0 ≤ t - s by grind)
    have e1 : mn c s * (1 / 2) + l * (mn c t * (1 / 2) - mn c s * (1 / 2)) = (s + l * (t - s)) * rt 1 2 := by
      rw [mn_r (x := c) (y := s) (by grind), mn_r (x := c) (y := t) ht, hv_eq]
      grind
    rw [e1]
    rw [need_ha]
    rw [if_pos (by rw [hv_eq]; grind)]
    exact lin2 x hx l (Rat.le_of_lt l0) l1
theorem seg_ha2 {s t : Rat} (N : Nb cs s t) : Seg .ha cs (fun c => c - mn (c * rt 1 2) (t * rt 1 2)) fun c => c - mn (c * rt 1 2) (s * rt 1 2) := by
  obtain ⟨s0, st, tm, hc⟩ := N
  simp only [mn_half]
  simp only [hv_eq]
  have lin2 : ∀ c ∈ cs, ∀ l, 0 ≤ l → l ≤ 1 → mn (c * rt 1 2) ((t - l * (t - s)) * rt 1 2) = mn c t * (1 / 2) - l * (mn c t * (1 / 2) - mn c s * (1 / 2)) := fun c h l l0 l1 => by
    have := lin_mn st (hc c h) (l := 1 - l) (by grind) (by grind)
    rw [show s + (1 - l) * (t - s) = t - l * (t - s) by grind] at this
    rw [mn_half, this, hv_eq]
    grind
  refine ⟨fun c _ => ?_, ⟨t, tm, ?_⟩, fun l l0 l1 => ⟨fun c => c - mn (c * rt 1 2) ((t - l * (t - s)) * rt 1 2), ⟨_, ?_, .inr rfl⟩, fun c h => ?_⟩, fun c h hlt l l0 l1 x hx => ?_⟩
  · have := mn_mono (x := c) (Rat.le_of_lt st)
    grind
  · show t - mn t t * (1 / 2) < t - mn t s * (1 / 2)
    rw [mn_r (x := t) (y := s) (Rat.le_of_lt st), mn_l (x := t) (y := t) Rat.le_refl]
    grind
  · have := Rat.mul_le_mul_of_nonneg_right l1 (show 0 ≤ t - s by grind)
    rw [hv_eq]
    grind
  · show c - mn (c * rt 1 2) ((t - l * (t - s)) * rt 1 2) = _
    rw [lin2 c h l l0 l1]
    grind
  · have hlt' : c - mn c t * (1 / 2) < c - mn c s * (1 / 2) := hlt
    have ht : t ≤ c := by
      rcases hc c h with z | z
      · have e1 : mn c s = c := mn_l z
        have e2 : mn c t = c := mn_l (by grind)
        grind
      · exact z
    have a2 := Rat.mul_le_mul_of_nonneg_right l1 (show 0 ≤ t - s by grind)
    have a3 := Rat.mul_pos l0 (show 0 < t - s by grind)
    have e1 : c - mn c t * (1 / 2) + l * (c - mn c s * (1 / 2) - (c - mn c t * (1 / 2))) = c - (t - l * (t - s)) * rt 1 2 := by
      rw [mn_r (x := c) (y := s) (by grind), mn_r (x := c) (y := t) ht, hv_eq]
      grind
    rw [e1]
    rw [need_ha]
    rw [if_neg (by rw [hv_eq]; grind)]
    show x - mn (x * rt 1 2) (c - (c - (t - l * (t - s)) * rt 1 2)) = _
    rw [show c - (c - (t - l * (t - s)) * rt 1 2) = (t - l * (t - s)) * rt 1 2 by grind, lin2 x hx l (Rat.le_of_lt l0) l1]
    grind
theorem seg_ham {s t : Rat} (N : Nb cs s t) (top : ∀ c ∈ cs, c ≤ t) : Seg .ha cs (fun c => mn (c * rt 1 2) (s * rt 1 2)) fun c => c - mn (c * rt 1 2) (s * rt 1 2) := by
  obtain ⟨s0, st, tm, hc⟩ := N
  have two : ∀ c ∈ cs, c ≤ s ∨ c = t := fun c h => by
    rcases hc c h with z | z
    · exact .inl z
    · have := top c h
      exact .inr (by grind)
  have key : ∀ a, s * (1 / 2) ≤ a → a ≤ t - s * (1 / 2) → ∀ x ∈ cs, Lr.need .ha t a x = if x ≤ s then x * (1 / 2) else a := fun a a0 a1 x hx => by
    rw [need_ha]
    by_cases c1 : a + a ≤ t
    · rw [if_pos c1]
      show mn (x * rt 1 2) a = _
      rw [hv_eq]
      rcases two x hx with z | rfl
      · rw [if_pos z, mn_l (by grind)]
      · rw [if_neg (by grind), mn_r (by grind)]
    · rw [if_neg c1]
      show x - mn (x * rt 1 2) (t - a) = _
      rw [hv_eq]
      rcases two x hx with z | rfl
      · rw [if_pos z, mn_l (by grind)]
        grind
      · rw [if_neg (by grind), mn_r (by grind)]
        grind
  have af : ∀ a, 0 ≤ a → a ≤ t → AF .ha (Lr.need .ha t a) := fun a a0 a1 => by
    rw [need_ha]
    by_cases c1 : a + a ≤ t
    · rw [if_pos c1]
      exact ⟨a, a0, .inl rfl⟩
    · rw [if_neg c1]
      exact ⟨t - a, by grind, .inr rfl⟩
  simp only [mn_half]
  simp only [hv_eq]
  have lin2 : ∀ x ∈ cs, ∀ l, (if x ≤ s then x * (1 / 2) else s * (1 / 2) + l * (t - s)) = mn x s * (1 / 2) + l * (x - mn x s * (1 / 2) - mn x s * (1 / 2)) := fun x hx l => by
    rcases two x hx with z | rfl
    · rw [if_pos z, mn_l z]
      grind
    · rw [if_neg (by grind), mn_r (by grind)]
      grind
  have rng : ∀ l, 0 ≤ l → l ≤ 1 → s * (1 / 2) ≤ s * (1 / 2) + l * (t - s) ∧ s * (1 / 2) + l * (t - s) ≤ t - s * (1 / 2) := fun l l0 l1 => by
    have a1 := Rat.mul_nonneg l0 (show 0 ≤ t - s by grind)
    have a2 := Rat.mul_le_mul_of_nonneg_right l1 (show 0 ≤ t - s by grind)
    constructor <;> grind
  refine ⟨fun c h => ?_, ⟨t, tm, ?_⟩, fun l l0 l1 => ⟨_, af (s * (1 / 2) + l * (t - s)) ?_ ?_, fun c h => ?_⟩, fun c h hlt l l0 l1 x hx => ?_⟩
  · rcases two c h with z | rfl
    · rw [mn_l z]; grind
    · rw [mn_r (by grind)]; grind
  · show mn t s * (1 / 2) < t - mn t s * (1 / 2)
    rw [mn_r (x := t) (y := s) (Rat.le_of_lt st)]
    grind
  · have := rng l l0 l1
    grind
  · have := rng l l0 l1
    grind
  · have r := rng l l0 l1
    rw [key _ r.1 r.2 c h]
    exact lin2 c h l
  · have hlt' : mn c s * (1 / 2) < c - mn c s * (1 / 2) := hlt
    have hct : c = t := by
      rcases two c h with z | z
      · rw [mn_l z] at hlt'
        grind
      · exact z
    subst hct
    have r := rng l (Rat.le_of_lt l0) l1
    have e1 : mn c s * (1 / 2) + l * (c - mn c s * (1 / 2) - mn c s * (1 / 2)) = s * (1 / 2) + l * (c - s) := by
      rw [mn_r (x := c) (y := s) (Rat.le_of_lt st)]
      grind
    rw [e1, key _ r.1 r.2 x hx]
    exact lin2 x hx l
theorem dl_some {α : Type} {l : List α} {j : Nat} {a : α} (h : l.dropLast[j]? = some a) : j + 1 < l.length ∧ l[j]? = some a := by
  have h1 := lt_of_some h
  rw [List.length_dropLast] at h1
  rw [List.getElem?_dropLast, if_pos (by omega)] at h
  exact ⟨by omega, h⟩
theorem Lvl.seg (L : Lvl cs ls) (nn : ∀ c ∈ cs, 0 ≤ c) (h : sm cs ≠ 0) {ρ : Rl} (hρ : ρ ≠ .tu) : Adj2 (Seg ρ cs) (kn ls ρ) := by
  cases ρ with
  | tu => exact absurd rfl hρ
  | ga => exact Adj2.map fun j a b ha hb => seg_ga (L.nb nn j a b ha hb)
  | lo => exact Adj2.map (Adj2.rev fun j a b ha hb => seg_lo (L.nb nn j a b ha hb))
  | sh =>
    intro j a b ha hb
    match j, ha, hb with
    | 0, ha, hb => cases ha; cases hb; exact seg_sh nn h
    | j + 1, ha, hb => exact absurd (lt_of_some hb) (by simp [kn])
  | ha =>
    refine Adj2.app (Adj2.map (Adj2.sub fun j a b ha hb => seg_ha1 (L.nb nn j a b ha hb))) (Adj2.map (Adj2.rev (Adj2.sub fun j a b ha hb => seg_ha2 (L.nb nn j a b ha hb)))) fun F G hF hG hl => ?_
    rw [List.length_map] at hF hl
    obtain ⟨s, h1, rfl⟩ := map_some hF
    obtain ⟨s', h2, rfl⟩ := map_some hG
    have h3 := (rev_some h2).2
    rw [show ls.dropLast.length - 1 - 0 = ls.dropLast.length - 1 by omega, h1] at h3
    cases h3
    obtain ⟨h4, h5⟩ := dl_some h1
    rw [List.length_dropLast] at h4 h5 hl
    have h6 : ls[ls.length - 1]? = some (ls[ls.length - 1]'(by omega)) := List.getElem?_eq_getElem (by omega)
    exact seg_ham (L.nb nn (ls.length - 1 - 1) s _ h5 (by rw [show ls.length - 1 - 1 + 1 = ls.length - 1 by omega]; exact h6)) (L.last h6)
end
end Lr
namespace Lr
section
variable {cs ls : List Rat}
theorem kn_af (L : Lvl cs ls) (nn : ∀ c ∈ cs, 0 ≤ c) {ρ : Rl} {F : Rat → Rat} (h : F ∈ kn ls ρ) : AF ρ F := by
  cases ρ with
  | tu => cases h
  | ga =>
    obtain ⟨t, ht, rfl⟩ := List.mem_map.mp h
    exact ⟨t, L.nn nn ht, rfl⟩
  | lo =>
    obtain ⟨t, ht, rfl⟩ := List.mem_map.mp h
    exact ⟨t, L.nn nn (List.mem_reverse.mp ht), rfl⟩
  | sh =>
    rcases List.mem_cons.mp h with rfl | h
    · exact ⟨0, Rat.le_refl, by decide, by funext c; grind⟩
    · rw [List.mem_singleton.mp h]
      exact ⟨1, by decide, Rat.le_refl, by funext c; grind⟩
  | ha =>
    have h0 : ∀ t ∈ ls.dropLast, 0 ≤ t * rt 1 2 := fun t ht => by
      have := L.nn nn ((List.dropLast_subset ls) ht)
      rw [hv_eq]
      grind
    rcases List.mem_append.mp h with h | h
    · obtain ⟨t, ht, rfl⟩ := List.mem_map.mp h
      exact ⟨_, h0 t ht, .inl rfl⟩
    · obtain ⟨t, ht, rfl⟩ := List.mem_map.mp h
      exact ⟨_, h0 t (List.mem_reverse.mp ht), .inr rfl⟩
theorem kn_head (L : Lvl cs ls) (nn : ∀ c ∈ cs, 0 ≤ c) (h : sm cs ≠ 0) {ρ : Rl} (hρ : ρ ≠ .tu) : ∃ F, (kn ls ρ)[0]? = some F ∧ ∀ c ∈ cs, F c = 0 := by
  have h0 := L.head nn
  have h2 := L.two nn h
  cases ρ with
  | tu => exact absurd rfl hρ
  | ga =>
    refine ⟨fun c => mn c 0, ?_, fun c hc => mn_r (nn c hc)⟩
    show (ls.map _)[0]? = _
    rw [List.getElem?_map, h0]; rfl
  | sh => exact ⟨_, rfl, fun c _ => rfl⟩
  | lo =>
    have h6 : ls[ls.length - 1]? = some (ls[ls.length - 1]'(by omega)) := List.getElem?_eq_getElem (by omega)
    refine ⟨fun c => c - mn c (ls[ls.length - 1]'(by omega)), ?_, fun c hc => ?_⟩
    · show (ls.reverse.map _)[0]? = _
      rw [List.getElem?_map, List.getElem?_reverse (by omega), Nat.sub_zero, h6]; rfl
    · have := L.last h6 c hc
      show c - mn c _ = 0
      rw [mn_l this]
      grind
  | ha =>
    refine ⟨fun c => mn (c * rt 1 2) (0 * rt 1 2), ?_, fun c hc => ?_⟩
    · show ((ls.dropLast.map _) ++ _)[0]? = _
      rw [List.getElem?_append_left (by rw [List.length_map, List.length_dropLast]; omega), List.getElem?_map, List.getElem?_dropLast, if_pos (by omega), h0]
      rfl
    · show mn (c * rt 1 2) (0 * rt 1 2) = 0
      rw [mn_half, mn_r (nn c hc)]
      grind
theorem kn_last (L : Lvl cs ls) (nn : ∀ c ∈ cs, 0 ≤ c) (h : sm cs ≠ 0) {ρ : Rl} (hρ : ρ ≠ .tu) : ∃ F, (kn ls ρ)[(kn ls ρ).length - 1]? = some F ∧ ∀ c ∈ cs, F c = c := by
  have h0 := L.head nn
  have h2 := L.two nn h
  cases ρ with
  | tu => exact absurd rfl hρ
  | ga =>
    have h6 : ls[ls.length - 1]? = some (ls[ls.length - 1]'(by omega)) := List.getElem?_eq_getElem (by omega)
    refine ⟨fun c => mn c (ls[ls.length - 1]'(by omega)), ?_, fun c hc => mn_l (L.last h6 c hc)⟩
    show (ls.map _)[(ls.map _).length - 1]? = _
    rw [List.getElem?_map, List.length_map, h6]; rfl
  | sh => exact ⟨_, rfl, fun c _ => rfl⟩
  | lo =>
    refine ⟨fun c => c - mn c 0, ?_, fun c hc => ?_⟩
    · show (ls.reverse.map _)[(ls.reverse.map _).length - 1]? = _
      rw [List.getElem?_map, List.length_map, List.length_reverse, List.getElem?_reverse (by omega), show ls.length - 1 - (ls.length - 1) = 0 by omega, h0]; rfl
    · show c - mn c 0 = c
      rw [mn_r (nn c hc)]
      grind
  | ha =>
    refine ⟨fun c => c - mn (c * rt 1 2) (0 * rt 1 2), ?_, fun c hc => ?_⟩
    · show ((ls.dropLast.map _) ++ ls.dropLast.reverse.map _)[((ls.dropLast.map _) ++ ls.dropLast.reverse.map _).length - 1]? = _
      have hd : ls.dropLast.length = ls.length - 1 := List.length_dropLast
      rw [List.length_append, List.length_map, List.length_map, List.length_reverse, List.getElem?_append_right (by rw [List.length_map]; omega), List.length_map, List.getElem?_map, List.getElem?_reverse (by omega), show ls.dropLast.length - 1 - (ls.dropLast.length + ls.dropLast.length - 1 - ls.dropLast.length) = 0 by omega, List.getElem?_dropLast, if_pos (by omega), h0]
      rfl
    · show c - mn (c * rt 1 2) (0 * rt 1 2) = c
      rw [mn_half, mn_r (nn c hc)]
      grind
theorem sm_lin {F G : Rat → Rat} (l : Rat) : ∀ cs : List Rat, sm (cs.map fun x => F x + l * (G x - F x)) = sm (cs.map F) + l * (sm (cs.map G) - sm (cs.map F))
  | [] => by show (0 : Rat) = 0 + l * (0 - 0); grind
  | x :: r => by
    have ih := sm_lin (F := F) (G := G) l r
    show F x + l * (G x - F x) + sm (r.map fun x => F x + l * (G x - F x)) = F x + sm (r.map F) + l * (G x + sm (r.map G) - (F x + sm (r.map F)))
    rw [ih]
    grind
theorem sm_congr {F G : Rat → Rat} {cs : List Rat} (h : ∀ c ∈ cs, F c = G c) : sm (cs.map F) = sm (cs.map G) := by rw [List.map_congr_left h]
theorem div_bd {x y : Rat} (h1 : 0 < x) (h2 : x ≤ y) : 0 < x / y ∧ x / y ≤ 1 ∧ x / y * y = x := by
  have hy : 0 < y := by grind
  have e : x / y * y = x := by grind
  refine ⟨?_, ?_, e⟩
  · rw [Rat.div_def]
    exact Rat.mul_pos h1 (Rat.inv_pos.mpr hy)
  · refine Rat.not_lt.mp fun z1 => ?_
    have := Rat.mul_lt_mul_of_pos_right z1 hy
    grind
theorem Seg.at_ {ρ : Rl} {F G : Rat → Rat} (S : Seg ρ cs F G) {c a : Rat} (hc : c ∈ cs) (h1 : F c < a) (h2 : a ≤ G c) : sm (cs.map F) + (a - F c) * ((sm (cs.map G) - sm (cs.map F)) / (G c - F c)) = sm (cs.map (Lr.need ρ c a)) := by
  have ⟨l0, l1, le⟩ := div_bd (x := a - F c) (y := G c - F c) (by grind) (by grind)
  have hn := S.need c hc (by grind) _ l0 l1
  rw [le, show F c + (a - F c) = a by grind] at hn
  rw [sm_congr hn, sm_lin]
  have hy : G c - F c ≠ 0 := by grind
  congr 1
  grind
theorem AF.shared {ρ : Rl} (hρ : ρ ≠ .tu) {F : Rat → Rat} {e : Rat} {ps : List Rat} (h : AF ρ F) (G : Good cs e) (he : sm (cs.map F) = e) (hr : RlR ρ cs e ps) : ps = cs.map F := by
  obtain ⟨F', a1, a2, a3⟩ := RlR.af hρ G.nn G.e0 G.le hr
  rw [a2]
  exact List.map_congr_left (a1.uniq h G.nn (a3.trans he.symm))
theorem AF.sum_bd {ρ : Rl} {F : Rat → Rat} (h : AF ρ F) (nn : ∀ c ∈ cs, 0 ≤ c) : 0 ≤ sm (cs.map F) ∧ sm (cs.map F) ≤ sm cs := by
  have f := h.fam
  constructor
  · exact sm_nonneg fun x hx => by
      obtain ⟨c, hc, rfl⟩ := List.mem_map.mp hx
      exact f.b0 c (nn c hc)
  · have := sm_le (f := F) (g := fun c => c) (a := cs) fun c hc => f.b1 c (nn c hc)
    rw [List.map_id'] at this
    exact this
end
end Lr
namespace L2
open PySem PySem.Spec PyProof.Rows
section
variable {X : Cx}
theorem ps_tryI {j1 j2 k i : Nat} {x1 x2 y n : Str} {L : Addr} {ps1 ps2 : List Str} {sp1 sp2 : Sp} {c e1 e2 : Expr} {es1 es2 : List Expr} {tc : TT} {t1 t2 : TA} {th : Addr → TS} {b₀ : Stmt} {suite : List Stmt} {p1 p2 pos1 pos2 q1 q2 ip yp hp tp : Pos}
    (hc : ∀ E', PT (X.wish E') c tc) (hr : Room k X.A)
    (C1 : CalE X.prog X.w X.K X.mg X.base x1 j1 ps1 sp1) (hj1 : j1 ≤ k) (hg1 : Gl X x1) (ha1 : ∀ E', PA (X.wish E') (e1 :: es1) t1)
    (C2 : CalE X.prog X.w X.K X.mg X.base x2 j2 ps2 sp2) (hj2 : j2 ≤ k) (hg2 : Gl X x2) (ha2 : ∀ E', PA (X.wish E') (e2 :: es2) t2)
    (hst : X.stack = X.env :: X.outer) (hf : X.env.frame = some X.env.locals)
    (hy : Gl X y) (my : X.mg y = some (.ref L)) (hN : X.N.Nodup) (hi : X.N[i]? = some n) (hn : X.env.scope.names.lookup n = some .local)
    (hs : ∀ ea, PSs (X.inH ea) (b₀ :: suite) (th ea)) (hdy : (y == ("__debug__" : Str)) = false := by decide)
    (hdb1 : (x1 == ("__debug__" : Str)) = false := by decide) (he1 : starEach (e1 :: es1) X.env = (false, eval e1 X.env) :: starEach es1 X.env := by rfl) (hpl1 : (backTo pos1 (starEach es1 X.env)).any (·.1) = false := by rfl)
    (hsw1 : swapsWith (.Call (.Name x1 p1) (e1 :: es1) [] pos1) none q1.line X.env = pure false := by rfl)
    (hdb2 : (x2 == ("__debug__" : Str)) = false := by decide) (he2 : starEach (e2 :: es2) X.env = (false, eval e2 X.env) :: starEach es2 X.env := by rfl) (hpl2 : (backTo pos2 (starEach es2 X.env)).any (·.1) = false := by rfl)
    (hsw2 : swapsWith (.Call (.Name x2 p2) (e2 :: es2) [] pos2) none q2.line X.env = pure false := by rfl) :
    PS X (.Try [.If c [.Expr (.Call (.Name x1 p1) (e1 :: es1) [] pos1) q1] [.Expr (.Call (.Name x2 p2) (e2 :: es2) [] pos2) q2] ip] [.ExceptHandler (some (.Name y yp)) (some n) (b₀ :: suite) hp] [] [] tp) (tIfS tc (tTryC X.K L sp1 i t1 th) (tTryC X.K L sp2 i t2 th)) := by
  intro pins s σ H D I h
  refine wpAny_Try_except (wpAny_execs_cons (wpAny_If (wpAny_mono (hc (fun _ _ => False) pins s σ H _ (I.wish _) h) (fun d s0 z0 => ?_) fun _ _ z => z.elim)))
  obtain ⟨H0, J0, q0⟩ := z0
  have I0 : Inv X pins σ H0 s0 := J0.unwish
  cases d
  rotate_left
  · obtain ⟨f, fd, F, m, kp, hb⟩ := C1
    refine wpAny_execs_cons (wpAny_Expr_any (s := s0) ?_ I0.quiet hsw1)
    refine wpAny_Call_Name_kw (ld_glob I0 hg1 m ?_ hdb1)
    refine PySem.W.callWith_K (h₀ := X.base) I0.ok.mod.kin kp (wpAny_mono (ha1 (fun _ _ => False) pos1 pins s0 σ H0 _ (I0.wish _) q0) (fun us s1 hA => ?_) fun _ _ z => z.elim) he1 hpl1
    obtain ⟨vs, H1, J, r, q⟩ := hA
    have I1 : Inv X pins σ H1 s1 := J.unwish
    refine ⟨I1.kIn, ?_⟩
    have r2 : Vals (vs ++ []) (us ++ []) := r.append .nil
    have hl : (us ++ []).length = ps1.length := by rw [← r2.length]; exact F.len _ _ _ _ q
    refine wpAny_call (codeAny_mono (F.run X.A X.stack s1 H1 ⟨us, []⟩ (us ++ []) (vs ++ []) _ _ (hr.mono hj1) I1.env0 (hb s1 us I1.kIn hl) r2 q) fun r s' hq => ?_)
    cases r with
    | ok fl =>
      cases fl with
      | ret u =>
        obtain ⟨v, H2, I2, _, q2⟩ := I1.after hq
        exact wpAny_execs_nil (wpAny_execs_nil (wpAny_execs_nil ⟨σ, H2, I2, q2⟩))
      | next => exact False.elim hq
      | brk => exact False.elim hq
      | cont => exact False.elim hq
    | error x =>
      obtain ⟨ea, cls, H2, rfl, Fl, C, rfl, hm, q2⟩ := hq
      obtain ⟨B, a0, fl, b1, b2⟩ := Fl.fl
      have fr : X.A.frames = some (X.env :: X.outer) := by rw [I1.ok.frames, hst]
      have fl0 : Heap.FlyingW B (X.env :: X.outer) ea (.ref C) a0 s'.heap := by rw [← hst]; exact fl
      have land : ∀ h : Heap, Heap.FlyingW B (X.env :: X.outer) ea (.ref C) a0 h → s'.heap.UpToSlots h → Inv X pins σ (upd H2 ea (.ext (IsExc ea C))) { s' with heap := h } := fun h z sm => by
        obtain ⟨un, hok⟩ := Fl.land fl.2.2.1 b1 b2 z.1 sm
        obtain ⟨oe, ws, f1, f2, f3, _⟩ := z.first
        exact Fl.held rfl I1 un hok ⟨oe, ws, f1, f2, f3⟩
      refine wpAny_looks_onW fr hf fl0 fun h4 held sm4 => ?_
      refine wpAny_landsW held fun h5 fl5 sm5 => ?_
      have I5 := land h5 fl5 (sm4.trans sm5)
      obtain ⟨ob, hob, hobc⟩ := fl5.there
      refine wpAny_handleBy_cons (codeAny_handlers_test (ld_glob (X := X.inH ea) (I5.inH ea) hy my ?_ hdy)) (by intro z; cases z)
      have LT : PySem.W.Looks (model X.prog X.w) h5 (typeOf (.ref ea)) (.ref C) := hobc ▸ (PySem.W.Looks.ld hob).andThen .now
      refine (PySem.W.exm_one (M := model X.prog X.w) I5.kIn LT hm).at (codeAny_handlers_suite_as ?_)
      refine lands_againW (s := { s' with heap := h5 }) fl5 fun h6 fl6 sm6 => ?_
      have I6 := land h6 fl6 ((sm4.trans sm5).trans sm6)
      refine store_ok (X := X.inH ea) (v := .ref ea) (I6.inH ea) hN hi (Or.inl hn) rfl (fun s7 I7 => ?_) (.inr hn)
      refine wpAny_mono (hs ea pins s7 _ _ _ I7 (q2 ea Fl.fr)) (fun fl s8 z => ?_) (fun _ _ z => z.elim)
      have hcls : (X.env.scope.kind == .class || (X.env.scope.kind == .module && X.env.locals != X.env.globals)) = false := by rw [I.ok.kind]; rfl
      cases fl with
      | next =>
        obtain ⟨σ8, H8, I8, z8⟩ := z
        have J8 := I8.outH I.ok
        obtain ⟨m8, hn8, hl8⟩ := id J8.loc
        exact wpAny_nameGoes_keeps hn hn8 hcls fun h9 v hn9 hs9 => ⟨_, H8, J8.dropName hN hi hl8 hn9 hs9, z8⟩
      | ret u =>
        obtain ⟨v8, σ8, H8, I8, r8, z8⟩ := z
        have J8 := I8.outH I.ok
        obtain ⟨m8, hn8, hl8⟩ := id J8.loc
        exact wpAny_nameGoes_keeps hn hn8 hcls fun h9 v hn9 hs9 => ⟨v8, _, H8, J8.dropName hN hi hl8 hn9 hs9, r8, z8⟩
      | brk =>
        obtain ⟨_, _, _, z8⟩ := z
        exact False.elim z8
      | cont =>
        obtain ⟨_, _, _, z8⟩ := z
        exact False.elim z8
  · obtain ⟨f, fd, F, m, kp, hb⟩ := C2
    refine wpAny_execs_cons (wpAny_Expr_any (s := s0) ?_ I0.quiet hsw2)
    refine wpAny_Call_Name_kw (ld_glob I0 hg2 m ?_ hdb2)
    refine PySem.W.callWith_K (h₀ := X.base) I0.ok.mod.kin kp (wpAny_mono (ha2 (fun _ _ => False) pos2 pins s0 σ H0 _ (I0.wish _) q0) (fun us s1 hA => ?_) fun _ _ z => z.elim) he2 hpl2
    obtain ⟨vs, H1, J, r, q⟩ := hA
    have I1 : Inv X pins σ H1 s1 := J.unwish
    refine ⟨I1.kIn, ?_⟩
    have r2 : Vals (vs ++ []) (us ++ []) := r.append .nil
    have hl : (us ++ []).length = ps2.length := by rw [← r2.length]; exact F.len _ _ _ _ q
    refine wpAny_call (codeAny_mono (F.run X.A X.stack s1 H1 ⟨us, []⟩ (us ++ []) (vs ++ []) _ _ (hr.mono hj2) I1.env0 (hb s1 us I1.kIn hl) r2 q) fun r s' hq => ?_)
    cases r with
    | ok fl =>
      cases fl with
      | ret u =>
        obtain ⟨v, H2, I2, _, q2⟩ := I1.after hq
        exact wpAny_execs_nil (wpAny_execs_nil (wpAny_execs_nil ⟨σ, H2, I2, q2⟩))
      | next => exact False.elim hq
      | brk => exact False.elim hq
      | cont => exact False.elim hq
    | error x =>
      obtain ⟨ea, cls, H2, rfl, Fl, C, rfl, hm, q2⟩ := hq
      obtain ⟨B, a0, fl, b1, b2⟩ := Fl.fl
      have fr : X.A.frames = some (X.env :: X.outer) := by rw [I1.ok.frames, hst]
      have fl0 : Heap.FlyingW B (X.env :: X.outer) ea (.ref C) a0 s'.heap := by rw [← hst]; exact fl
      have land : ∀ h : Heap, Heap.FlyingW B (X.env :: X.outer) ea (.ref C) a0 h → s'.heap.UpToSlots h → Inv X pins σ (upd H2 ea (.ext (IsExc ea C))) { s' with heap := h } := fun h z sm => by
        obtain ⟨un, hok⟩ := Fl.land fl.2.2.1 b1 b2 z.1 sm
        obtain ⟨oe, ws, f1, f2, f3, _⟩ := z.first
        exact Fl.held rfl I1 un hok ⟨oe, ws, f1, f2, f3⟩
      refine wpAny_looks_onW fr hf fl0 fun h4 held sm4 => ?_
      refine wpAny_landsW held fun h5 fl5 sm5 => ?_
      have I5 := land h5 fl5 (sm4.trans sm5)
      obtain ⟨ob, hob, hobc⟩ := fl5.there
      refine wpAny_handleBy_cons (codeAny_handlers_test (ld_glob (X := X.inH ea) (I5.inH ea) hy my ?_ hdy)) (by intro z; cases z)
      have LT : PySem.W.Looks (model X.prog X.w) h5 (typeOf (.ref ea)) (.ref C) := hobc ▸ (PySem.W.Looks.ld hob).andThen .now
      refine (PySem.W.exm_one (M := model X.prog X.w) I5.kIn LT hm).at (codeAny_handlers_suite_as ?_)
      refine lands_againW (s := { s' with heap := h5 }) fl5 fun h6 fl6 sm6 => ?_
      have I6 := land h6 fl6 ((sm4.trans sm5).trans sm6)
      refine store_ok (X := X.inH ea) (v := .ref ea) (I6.inH ea) hN hi (Or.inl hn) rfl (fun s7 I7 => ?_) (.inr hn)
      refine wpAny_mono (hs ea pins s7 _ _ _ I7 (q2 ea Fl.fr)) (fun fl s8 z => ?_) (fun _ _ z => z.elim)
      have hcls : (X.env.scope.kind == .class || (X.env.scope.kind == .module && X.env.locals != X.env.globals)) = false := by rw [I.ok.kind]; rfl
      cases fl with
      | next =>
        obtain ⟨σ8, H8, I8, z8⟩ := z
        have J8 := I8.outH I.ok
        obtain ⟨m8, hn8, hl8⟩ := id J8.loc
        exact wpAny_nameGoes_keeps hn hn8 hcls fun h9 v hn9 hs9 => ⟨_, H8, J8.dropName hN hi hl8 hn9 hs9, z8⟩
      | ret u =>
        obtain ⟨v8, σ8, H8, I8, r8, z8⟩ := z
        have J8 := I8.outH I.ok
        obtain ⟨m8, hn8, hl8⟩ := id J8.loc
        exact wpAny_nameGoes_keeps hn hn8 hcls fun h9 v hn9 hs9 => ⟨v8, _, H8, J8.dropName hN hi hl8 hn9 hs9, r8, z8⟩
      | brk =>
        obtain ⟨_, _, _, z8⟩ := z
        exact False.elim z8
      | cont =>
        obtain ⟨_, _, _, z8⟩ := z
        exact False.elim z8
end
end L2
namespace My
open PySem L2
noncomputable def top (i : Nat) : Stmt := PySem.Challenge.pw_leanestate_k37_no_path.main.body.getD i (.Pass ⟨0, 0, 0, 0⟩)
noncomputable abbrev s_l_cell_at : Stmt := top 65
theorem sc_l_cell_at : FnScope ["_law_script", "_law_k"] ["_law_script", "_law_k"] (defScope s_l_cell_at) := ⟨rfl, rfl, rfl, by decide +kernel, rfl, by decide +kernel, by decide +kernel⟩
noncomputable abbrev s_l_right : Stmt := top 71
theorem sc_l_right : FnScope ["_law_kinds_here", "_law_due"] ["_law_kinds_here", "_law_due"] (defScope s_l_right) := ⟨rfl, rfl, rfl, by decide +kernel, rfl, by decide +kernel, by decide +kernel⟩
noncomputable abbrev s_l_ratio : Stmt := top 67
theorem sc_l_ratio : FnScope ["_law_number", "_law_parts", "_law_one", "_law_other", "_law_rest"] ["_law_number", "_law_parts"] (defScope s_l_ratio) := ⟨rfl, rfl, rfl, by decide +kernel, rfl, by decide +kernel, by decide +kernel⟩
noncomputable abbrev s_look_at_rule : Stmt := top 53
theorem sc_look_at_rule : FnScope ["rule"] ["rule"] (defScope s_look_at_rule) := ⟨rfl, rfl, rfl, by decide +kernel, rfl, by decide +kernel, by decide +kernel⟩
noncomputable abbrev s_look_at_rule_of_path : Stmt := top 56
theorem sc_look_at_rule_of_path : FnScope ["rule"] ["rule"] (defScope s_look_at_rule_of_path) := ⟨rfl, rfl, rfl, by decide +kernel, rfl, by decide +kernel, by decide +kernel⟩
noncomputable abbrev s_less : Stmt := top 25
theorem sc_less : FnScope ["one", "other"] ["one", "other"] (defScope s_less) := ⟨rfl, rfl, rfl, by decide +kernel, rfl, by decide +kernel, by decide +kernel⟩
noncomputable abbrev s_look_at_claims : Stmt := top 32
theorem sc_look_at_claims : FnScope ["claims", "claim"] ["claims"] (defScope s_look_at_claims) := ⟨rfl, rfl, rfl, by decide +kernel, rfl, by decide +kernel, by decide +kernel⟩
noncomputable abbrev s_by_turns : Stmt := top 50
theorem sc_by_turns : FnScope ["claims", "estate", "bottom", "tops", "top", "parted_by"] ["claims", "estate"] (defScope s_by_turns) := ⟨rfl, rfl, rfl, by decide +kernel, rfl, by decide +kernel, by decide +kernel⟩
noncomputable abbrev s_common_divisor : Stmt := top 19
theorem sc_common_divisor : FnScope ["one", "other", "greater", "lesser", "rest"] ["one", "other"] (defScope s_common_divisor) := ⟨rfl, rfl, rfl, by decide +kernel, rfl, by decide +kernel, by decide +kernel⟩
noncomputable abbrev s_is_whole : Stmt := top 18
theorem sc_is_whole : FnScope ["value"] ["value"] (defScope s_is_whole) := ⟨rfl, rfl, rfl, by decide +kernel, rfl, by decide +kernel, by decide +kernel⟩
noncomputable abbrev s_ratio : Stmt := top 20
theorem sc_ratio : FnScope ["top", "bottom", "divisor"] ["top", "bottom"] (defScope s_ratio) := ⟨rfl, rfl, rfl, by decide +kernel, rfl, by decide +kernel, by decide +kernel⟩
noncomputable abbrev s_plus : Stmt := top 21
theorem sc_plus : FnScope ["one", "other"] ["one", "other"] (defScope s_plus) := ⟨rfl, rfl, rfl, by decide +kernel, rfl, by decide +kernel, by decide +kernel⟩
noncomputable abbrev s_total : Stmt := top 31
theorem sc_total : FnScope ["claims", "found", "claim"] ["claims"] (defScope s_total) := ⟨rfl, rfl, rfl, by decide +kernel, rfl, by decide +kernel, by decide +kernel⟩
noncomputable abbrev s_look_at : Stmt := top 33
theorem sc_look_at : FnScope ["claims", "estate"] ["claims", "estate"] (defScope s_look_at) := ⟨rfl, rfl, rfl, by decide +kernel, rfl, by decide +kernel, by decide +kernel⟩
noncomputable abbrev s_over : Stmt := top 24
theorem sc_over : FnScope ["one", "other"] ["one", "other"] (defScope s_over) := ⟨rfl, rfl, rfl, by decide +kernel, rfl, by decide +kernel, by decide +kernel⟩
noncomputable abbrev s_times : Stmt := top 23
theorem sc_times : FnScope ["one", "other"] ["one", "other"] (defScope s_times) := ⟨rfl, rfl, rfl, by decide +kernel, rfl, by decide +kernel, by decide +kernel⟩
noncomputable abbrev s_in_shares : Stmt := top 42
theorem sc_in_shares : FnScope ["claims", "estate", "claimed", "share"] ["claims", "estate"] (defScope s_in_shares) := ⟨rfl, rfl, rfl, by decide +kernel, rfl, by decide +kernel, by decide +kernel⟩
noncomputable abbrev s_common_bottom : Stmt := top 27
theorem sc_common_bottom : FnScope ["ratios", "bottom", "one"] ["ratios"] (defScope s_common_bottom) := ⟨rfl, rfl, rfl, by decide +kernel, rfl, by decide +kernel, by decide +kernel⟩
noncomputable abbrev s_tops_over : Stmt := top 28
theorem sc_tops_over : FnScope ["bottom", "ratios"] ["bottom", "ratios"] (defScope s_tops_over) := ⟨rfl, rfl, rfl, by decide +kernel, rfl, by decide +kernel, by decide +kernel⟩
noncomputable abbrev s_gain_level : Stmt := top 38
theorem sc_gain_level : FnScope ["claims", "estate", "bottom", "rest", "sharers", "top"] ["claims", "estate"] (defScope s_gain_level) := ⟨rfl, rfl, rfl, by decide +kernel, rfl, by decide +kernel, by decide +kernel⟩
noncomputable abbrev s_lesser_of : Stmt := top 26
theorem sc_lesser_of : FnScope ["one", "other"] ["one", "other"] (defScope s_lesser_of) := ⟨rfl, rfl, rfl, by decide +kernel, rfl, by decide +kernel, by decide +kernel⟩
noncomputable abbrev s_by_gains : Stmt := top 43
theorem sc_by_gains : FnScope ["claims", "estate", "level"] ["claims", "estate"] (defScope s_by_gains) := ⟨rfl, rfl, rfl, by decide +kernel, rfl, by decide +kernel, by decide +kernel⟩
noncomputable abbrev s_minus : Stmt := top 22
theorem sc_minus : FnScope ["one", "other"] ["one", "other"] (defScope s_minus) := ⟨rfl, rfl, rfl, by decide +kernel, rfl, by decide +kernel, by decide +kernel⟩
noncomputable abbrev s_lack : Stmt := top 34
theorem sc_lack : FnScope ["claims", "estate"] ["claims", "estate"] (defScope s_lack) := ⟨rfl, rfl, rfl, by decide +kernel, rfl, by decide +kernel, by decide +kernel⟩
noncomputable abbrev s_loss_level : Stmt := top 39
theorem sc_loss_level : FnScope ["claims", "estate"] ["claims", "estate"] (defScope s_loss_level) := ⟨rfl, rfl, rfl, by decide +kernel, rfl, by decide +kernel, by decide +kernel⟩
noncomputable abbrev s_claims_less : Stmt := top 35
theorem sc_claims_less : FnScope ["claims", "parts"] ["claims", "parts"] (defScope s_claims_less) := ⟨rfl, rfl, rfl, by decide +kernel, rfl, by decide +kernel, by decide +kernel⟩
noncomputable abbrev s_by_losses : Stmt := top 44
theorem sc_by_losses : FnScope ["claims", "estate", "level"] ["claims", "estate"] (defScope s_by_losses) := ⟨rfl, rfl, rfl, by decide +kernel, rfl, by decide +kernel, by decide +kernel⟩
noncomputable abbrev s_by_halves : Stmt := top 45
theorem sc_by_halves : FnScope ["claims", "estate", "missing", "halves"] ["claims", "estate"] (defScope s_by_halves) := ⟨rfl, rfl, rfl, by decide +kernel, rfl, by decide +kernel, by decide +kernel⟩
noncomputable abbrev s_shared : Stmt := top 54
theorem sc_shared : FnScope ["rule", "claims", "estate"] ["rule", "claims", "estate"] (defScope s_shared) := ⟨rfl, rfl, rfl, by decide +kernel, rfl, by decide +kernel, by decide +kernel⟩
noncomputable abbrev s_estates_at_claims : Stmt := top 57
theorem sc_estates_at_claims : FnScope ["claims", "bottom", "tops"] ["claims"] (defScope s_estates_at_claims) := ⟨rfl, rfl, rfl, by decide +kernel, rfl, by decide +kernel, by decide +kernel⟩
noncomputable abbrev s_turned_round : Stmt := top 58
theorem sc_turned_round : FnScope ["claimed", "estates"] ["claimed", "estates"] (defScope s_turned_round) := ⟨rfl, rfl, rfl, by decide +kernel, rfl, by decide +kernel, by decide +kernel⟩
noncomputable abbrev s_estates_of_knots : Stmt := top 59
theorem sc_estates_of_knots : FnScope ["rule", "claims", "claimed", "estates", "lower"] ["rule", "claims"] (defScope s_estates_of_knots) := ⟨rfl, rfl, rfl, by decide +kernel, rfl, by decide +kernel, by decide +kernel⟩
noncomputable abbrev s_path : Stmt := top 60
theorem sc_path : FnScope ["rule", "claims"] ["rule", "claims"] (defScope s_path) := ⟨rfl, rfl, rfl, by decide +kernel, rfl, by decide +kernel, by decide +kernel⟩
noncomputable abbrev s_look_at_amount : Stmt := top 61
theorem sc_look_at_amount : FnScope ["claims", "claimer", "amount"] ["claims", "claimer", "amount"] (defScope s_look_at_amount) := ⟨rfl, rfl, rfl, by decide +kernel, rfl, by decide +kernel, by decide +kernel⟩
noncomputable abbrev s_estate_between : Stmt := top 62
theorem sc_estate_between : FnScope ["knot", "later", "claimer", "amount", "part", "for_each_whole"] ["knot", "later", "claimer", "amount"] (defScope s_estate_between) := ⟨rfl, rfl, rfl, by decide +kernel, rfl, by decide +kernel, by decide +kernel⟩
noncomputable abbrev s_needed : Stmt := top 63
theorem sc_needed : FnScope ["rule", "claims", "claimer", "amount", "knots", "place"] ["rule", "claims", "claimer", "amount"] (defScope s_needed) := ⟨rfl, rfl, rfl, by decide +kernel, rfl, by decide +kernel, by decide +kernel⟩
noncomputable abbrev s_l_kinds : Stmt := top 69
theorem sc_l_kinds : FnScope ["_law_asked", "_law_rule", "_law_claims_here", "_law_claimer", "_law_amount", "_law_kinds_here", "_law_lent", "e", "_law_others"] ["_law_asked", "_law_rule", "_law_claims_here", "_law_claimer", "_law_amount"] (defScope s_l_kinds) := ⟨rfl, rfl, rfl, by decide +kernel, rfl, by decide +kernel, by decide +kernel⟩
noncomputable abbrev s_l_first : Stmt := top 70
theorem sc_l_first : FnScope ["_law_wrongs", "_law_k"] ["_law_wrongs"] (defScope s_l_first) := ⟨rfl, rfl, rfl, by decide +kernel, rfl, by decide +kernel, by decide +kernel⟩
noncomputable abbrev s_l_claims : Stmt := top 66
theorem sc_l_claims : FnScope ["_law_script", "_law_start", "_law_claims_here", "_law_count", "_law_k", "_law_cell", "_law_rest", "_law_unit", "_law_number"] ["_law_script", "_law_start"] (defScope s_l_claims) := ⟨rfl, rfl, rfl, by decide +kernel, rfl, by decide +kernel, by decide +kernel⟩
noncomputable abbrev s_law : Stmt := top 72
theorem sc_law : FnScope ["_law_script", "_law_claims_here", "_law_first_here", "_law_cell", "_law_wrongs", "_law_rule", "_law_at", "_law_claimer", "_law_amount"] ["_law_script"] (defScope s_law) := ⟨rfl, rfl, rfl, by decide +kernel, rfl, by decide +kernel, by decide +kernel⟩
set_option genInjectivity false in
structure Ad where
  aLeanError : Addr
  aNoRatio : Addr
  aNoText : Addr
  aTooMany : Addr
  aNoClaim : Addr
  aNoEstate : Addr
  aNoRule : Addr
  aNoOrder : Addr
  aNoSharing : Addr
  aNoClaimer : Addr
  aNoAmount : Addr
  aNoGroup : Addr
  aNoLine : Addr
  aNoName : Addr
  aKnown : Addr
  oNOUGHT : Addr
  oHALF : Addr
  oWORDS : Addr
structure Env (K : PySem.W.Frag) (mg : Str → Option Value) (Ad : Ad) : Prop where
  T : Kt K
  e_LeanError : ECls K mg "LeanError" Ad.aLeanError
  e_NoRatio : ECls K mg "NoRatio" Ad.aNoRatio
  e_NoText : ECls K mg "NoText" Ad.aNoText
  e_TooMany : ECls K mg "TooMany" Ad.aTooMany
  e_NoClaim : ECls K mg "NoClaim" Ad.aNoClaim
  e_NoEstate : ECls K mg "NoEstate" Ad.aNoEstate
  e_NoRule : ECls K mg "NoRule" Ad.aNoRule
  e_NoOrder : ECls K mg "NoOrder" Ad.aNoOrder
  e_NoSharing : ECls K mg "NoSharing" Ad.aNoSharing
  e_NoClaimer : ECls K mg "NoClaimer" Ad.aNoClaimer
  e_NoAmount : ECls K mg "NoAmount" Ad.aNoAmount
  e_NoGroup : ECls K mg "NoGroup" Ad.aNoGroup
  e_NoLine : ECls K mg "NoLine" Ad.aNoLine
  e_NoName : ECls K mg "NoName" Ad.aNoName
  e_Known : ECls K mg "Known" Ad.aKnown
  b_len : mg "len" = none
  b_abs : mg "abs" = none
  b_range : mg "range" = none
  b_isinstance : mg "isinstance" = none
  b_int : mg "int" = none
  b_bool : mg "bool" = none
  b_list : mg "list" = none
  b_sum : mg "sum" = none
  b_min : mg "min" = none
  b_max : mg "max" = none
  b_reversed : mg "reversed" = none
  b_sorted : mg "sorted" = none
  b_zip : mg "zip" = none
  b_set : mg "set" = none
  b_ValueError : mg "ValueError" = none
  c_NOUGHT : Cn mg "NOUGHT" (.ref Ad.oNOUGHT)
  k_NOUGHT : KT K Ad.oNOUGHT [.int 0, .int 1]
  c_MOST_CLAIMS : Cn mg "MOST_CLAIMS" (.int 8)
  c_HALF : Cn mg "HALF" (.ref Ad.oHALF)
  k_HALF : KT K Ad.oHALF [.int 1, .int 2]
  c_WORDS : Cn mg "WORDS" (.ref Ad.oWORDS)
  k_WORDS : KT K Ad.oWORDS [.str (tx [115, 104, 97, 114, 101, 115]), .str (tx [103, 97, 105, 110, 115]), .str (tx [108, 111, 115, 115, 101, 115]), .str (tx [104, 97, 108, 118, 101, 115]), .str (tx [116, 117, 114, 110, 115])]
  mx_NoRule : PySem.W.exmOne K (.ref Ad.aNoRule) (.ref Ad.aLeanError) = some true
  ek_NoRule : EKit K Ad.aNoRule
  kv_NoRule : PySem.W.kitOne K (.ref Ad.aNoRule) (.type "ValueError") = some true
  k_NoRule_Known : PySem.W.kitOne K (.ref Ad.aNoRule) (.ref Ad.aKnown) = some false
  k_NoRule_NoEstate : PySem.W.kitOne K (.ref Ad.aNoRule) (.ref Ad.aNoEstate) = some false
  k_NoRule_NoGroup : PySem.W.kitOne K (.ref Ad.aNoRule) (.ref Ad.aNoGroup) = some false
  k_NoRule_NoLine : PySem.W.kitOne K (.ref Ad.aNoRule) (.ref Ad.aNoLine) = some false
  k_NoRule_NoName : PySem.W.kitOne K (.ref Ad.aNoRule) (.ref Ad.aNoName) = some false
  k_NoRule_NoRule : PySem.W.kitOne K (.ref Ad.aNoRule) (.ref Ad.aNoRule) = some true
  k_NoRule_TooMany : PySem.W.kitOne K (.ref Ad.aNoRule) (.ref Ad.aTooMany) = some false
  k_NoRule_NoClaim : PySem.W.kitOne K (.ref Ad.aNoRule) (.ref Ad.aNoClaim) = some false
  k_NoRule_NoClaimer : PySem.W.kitOne K (.ref Ad.aNoRule) (.ref Ad.aNoClaimer) = some false
  k_NoRule_NoAmount : PySem.W.kitOne K (.ref Ad.aNoRule) (.ref Ad.aNoAmount) = some false
  k_NoRule_NoOrder : PySem.W.kitOne K (.ref Ad.aNoRule) (.ref Ad.aNoOrder) = some false
  k_NoRule_NoRatio : PySem.W.kitOne K (.ref Ad.aNoRule) (.ref Ad.aNoRatio) = some false
  k_NoRule_NoSharing : PySem.W.kitOne K (.ref Ad.aNoRule) (.ref Ad.aNoSharing) = some false
  k_NoRule_NoText : PySem.W.kitOne K (.ref Ad.aNoRule) (.ref Ad.aNoText) = some false
  mx_TooMany : PySem.W.exmOne K (.ref Ad.aTooMany) (.ref Ad.aLeanError) = some true
  ek_TooMany : EKit K Ad.aTooMany
  kv_TooMany : PySem.W.kitOne K (.ref Ad.aTooMany) (.type "ValueError") = some true
  k_TooMany_Known : PySem.W.kitOne K (.ref Ad.aTooMany) (.ref Ad.aKnown) = some false
  k_TooMany_NoEstate : PySem.W.kitOne K (.ref Ad.aTooMany) (.ref Ad.aNoEstate) = some false
  k_TooMany_NoGroup : PySem.W.kitOne K (.ref Ad.aTooMany) (.ref Ad.aNoGroup) = some false
  k_TooMany_NoLine : PySem.W.kitOne K (.ref Ad.aTooMany) (.ref Ad.aNoLine) = some false
  k_TooMany_NoName : PySem.W.kitOne K (.ref Ad.aTooMany) (.ref Ad.aNoName) = some false
  k_TooMany_NoRule : PySem.W.kitOne K (.ref Ad.aTooMany) (.ref Ad.aNoRule) = some false
  k_TooMany_TooMany : PySem.W.kitOne K (.ref Ad.aTooMany) (.ref Ad.aTooMany) = some true
  k_TooMany_NoClaim : PySem.W.kitOne K (.ref Ad.aTooMany) (.ref Ad.aNoClaim) = some false
  k_TooMany_NoClaimer : PySem.W.kitOne K (.ref Ad.aTooMany) (.ref Ad.aNoClaimer) = some false
  k_TooMany_NoAmount : PySem.W.kitOne K (.ref Ad.aTooMany) (.ref Ad.aNoAmount) = some false
  k_TooMany_NoOrder : PySem.W.kitOne K (.ref Ad.aTooMany) (.ref Ad.aNoOrder) = some false
  k_TooMany_NoRatio : PySem.W.kitOne K (.ref Ad.aTooMany) (.ref Ad.aNoRatio) = some false
  k_TooMany_NoSharing : PySem.W.kitOne K (.ref Ad.aTooMany) (.ref Ad.aNoSharing) = some false
  k_TooMany_NoText : PySem.W.kitOne K (.ref Ad.aTooMany) (.ref Ad.aNoText) = some false
  mx_NoClaim : PySem.W.exmOne K (.ref Ad.aNoClaim) (.ref Ad.aLeanError) = some true
  ek_NoClaim : EKit K Ad.aNoClaim
  kv_NoClaim : PySem.W.kitOne K (.ref Ad.aNoClaim) (.type "ValueError") = some true
  k_NoClaim_Known : PySem.W.kitOne K (.ref Ad.aNoClaim) (.ref Ad.aKnown) = some false
  k_NoClaim_NoEstate : PySem.W.kitOne K (.ref Ad.aNoClaim) (.ref Ad.aNoEstate) = some false
  k_NoClaim_NoGroup : PySem.W.kitOne K (.ref Ad.aNoClaim) (.ref Ad.aNoGroup) = some false
  k_NoClaim_NoLine : PySem.W.kitOne K (.ref Ad.aNoClaim) (.ref Ad.aNoLine) = some false
  k_NoClaim_NoName : PySem.W.kitOne K (.ref Ad.aNoClaim) (.ref Ad.aNoName) = some false
  k_NoClaim_NoRule : PySem.W.kitOne K (.ref Ad.aNoClaim) (.ref Ad.aNoRule) = some false
  k_NoClaim_TooMany : PySem.W.kitOne K (.ref Ad.aNoClaim) (.ref Ad.aTooMany) = some false
  k_NoClaim_NoClaim : PySem.W.kitOne K (.ref Ad.aNoClaim) (.ref Ad.aNoClaim) = some true
  k_NoClaim_NoClaimer : PySem.W.kitOne K (.ref Ad.aNoClaim) (.ref Ad.aNoClaimer) = some false
  k_NoClaim_NoAmount : PySem.W.kitOne K (.ref Ad.aNoClaim) (.ref Ad.aNoAmount) = some false
  k_NoClaim_NoOrder : PySem.W.kitOne K (.ref Ad.aNoClaim) (.ref Ad.aNoOrder) = some false
  k_NoClaim_NoRatio : PySem.W.kitOne K (.ref Ad.aNoClaim) (.ref Ad.aNoRatio) = some false
  k_NoClaim_NoSharing : PySem.W.kitOne K (.ref Ad.aNoClaim) (.ref Ad.aNoSharing) = some false
  k_NoClaim_NoText : PySem.W.kitOne K (.ref Ad.aNoClaim) (.ref Ad.aNoText) = some false
  mx_NoClaimer : PySem.W.exmOne K (.ref Ad.aNoClaimer) (.ref Ad.aLeanError) = some true
  ek_NoClaimer : EKit K Ad.aNoClaimer
  kv_NoClaimer : PySem.W.kitOne K (.ref Ad.aNoClaimer) (.type "ValueError") = some true
  k_NoClaimer_Known : PySem.W.kitOne K (.ref Ad.aNoClaimer) (.ref Ad.aKnown) = some false
  k_NoClaimer_NoEstate : PySem.W.kitOne K (.ref Ad.aNoClaimer) (.ref Ad.aNoEstate) = some false
  k_NoClaimer_NoGroup : PySem.W.kitOne K (.ref Ad.aNoClaimer) (.ref Ad.aNoGroup) = some false
  k_NoClaimer_NoLine : PySem.W.kitOne K (.ref Ad.aNoClaimer) (.ref Ad.aNoLine) = some false
  k_NoClaimer_NoName : PySem.W.kitOne K (.ref Ad.aNoClaimer) (.ref Ad.aNoName) = some false
  k_NoClaimer_NoRule : PySem.W.kitOne K (.ref Ad.aNoClaimer) (.ref Ad.aNoRule) = some false
  k_NoClaimer_TooMany : PySem.W.kitOne K (.ref Ad.aNoClaimer) (.ref Ad.aTooMany) = some false
  k_NoClaimer_NoClaim : PySem.W.kitOne K (.ref Ad.aNoClaimer) (.ref Ad.aNoClaim) = some false
  k_NoClaimer_NoClaimer : PySem.W.kitOne K (.ref Ad.aNoClaimer) (.ref Ad.aNoClaimer) = some true
  k_NoClaimer_NoAmount : PySem.W.kitOne K (.ref Ad.aNoClaimer) (.ref Ad.aNoAmount) = some false
  k_NoClaimer_NoOrder : PySem.W.kitOne K (.ref Ad.aNoClaimer) (.ref Ad.aNoOrder) = some false
  k_NoClaimer_NoRatio : PySem.W.kitOne K (.ref Ad.aNoClaimer) (.ref Ad.aNoRatio) = some false
  k_NoClaimer_NoSharing : PySem.W.kitOne K (.ref Ad.aNoClaimer) (.ref Ad.aNoSharing) = some false
  k_NoClaimer_NoText : PySem.W.kitOne K (.ref Ad.aNoClaimer) (.ref Ad.aNoText) = some false
  mx_NoAmount : PySem.W.exmOne K (.ref Ad.aNoAmount) (.ref Ad.aLeanError) = some true
  ek_NoAmount : EKit K Ad.aNoAmount
  kv_NoAmount : PySem.W.kitOne K (.ref Ad.aNoAmount) (.type "ValueError") = some true
  k_NoAmount_Known : PySem.W.kitOne K (.ref Ad.aNoAmount) (.ref Ad.aKnown) = some false
  k_NoAmount_NoEstate : PySem.W.kitOne K (.ref Ad.aNoAmount) (.ref Ad.aNoEstate) = some false
  k_NoAmount_NoGroup : PySem.W.kitOne K (.ref Ad.aNoAmount) (.ref Ad.aNoGroup) = some false
  k_NoAmount_NoLine : PySem.W.kitOne K (.ref Ad.aNoAmount) (.ref Ad.aNoLine) = some false
  k_NoAmount_NoName : PySem.W.kitOne K (.ref Ad.aNoAmount) (.ref Ad.aNoName) = some false
  k_NoAmount_NoRule : PySem.W.kitOne K (.ref Ad.aNoAmount) (.ref Ad.aNoRule) = some false
  k_NoAmount_TooMany : PySem.W.kitOne K (.ref Ad.aNoAmount) (.ref Ad.aTooMany) = some false
  k_NoAmount_NoClaim : PySem.W.kitOne K (.ref Ad.aNoAmount) (.ref Ad.aNoClaim) = some false
  k_NoAmount_NoClaimer : PySem.W.kitOne K (.ref Ad.aNoAmount) (.ref Ad.aNoClaimer) = some false
  k_NoAmount_NoAmount : PySem.W.kitOne K (.ref Ad.aNoAmount) (.ref Ad.aNoAmount) = some true
  k_NoAmount_NoOrder : PySem.W.kitOne K (.ref Ad.aNoAmount) (.ref Ad.aNoOrder) = some false
  k_NoAmount_NoRatio : PySem.W.kitOne K (.ref Ad.aNoAmount) (.ref Ad.aNoRatio) = some false
  k_NoAmount_NoSharing : PySem.W.kitOne K (.ref Ad.aNoAmount) (.ref Ad.aNoSharing) = some false
  k_NoAmount_NoText : PySem.W.kitOne K (.ref Ad.aNoAmount) (.ref Ad.aNoText) = some false
theorem env_mk {K : PySem.W.Frag} {mg : Str → Option Value} {h : Heap} {a_LeanError a_NoRatio a_NoText a_TooMany a_NoClaim a_NoEstate a_NoRule a_NoOrder a_NoSharing a_NoClaimer a_NoAmount a_NoGroup a_NoLine a_NoName a_Known : Addr} {q_NOUGHT : Addr} {o_NOUGHT : Obj} {i_NOUGHT j_NOUGHT : Int} {t_NOUGHT u_NOUGHT : Tok} {n0_NOUGHT : Nat} {y_MOST_CLAIMS : Int} {t_MOST_CLAIMS : Tok} {q_HALF : Addr} {o_HALF : Obj} {i_HALF j_HALF : Int} {t_HALF u_HALF : Tok} {n0_HALF : Nat} {q_WORDS : Addr} {o_WORDS : Obj} {n0_WORDS : Nat} {s0_WORDS : Str} {t0_WORDS : Tok} {s1_WORDS : Str} {t1_WORDS : Tok} {s2_WORDS : Str} {t2_WORDS : Tok} {s3_WORDS : Str} {t3_WORDS : Tok} {s4_WORDS : Str} {t4_WORDS : Tok} (T : Kt K) (KX : K.In h) (G : h.Ns mainGlobals mg) (n_LeanError : PySem.W.nsIn K mainGlobals "LeanError" = some (some (.ref a_LeanError))) (n_NoRatio : PySem.W.nsIn K mainGlobals "NoRatio" = some (some (.ref a_NoRatio))) (n_NoText : PySem.W.nsIn K mainGlobals "NoText" = some (some (.ref a_NoText))) (n_TooMany : PySem.W.nsIn K mainGlobals "TooMany" = some (some (.ref a_TooMany))) (n_NoClaim : PySem.W.nsIn K mainGlobals "NoClaim" = some (some (.ref a_NoClaim))) (n_NoEstate : PySem.W.nsIn K mainGlobals "NoEstate" = some (some (.ref a_NoEstate))) (n_NoRule : PySem.W.nsIn K mainGlobals "NoRule" = some (some (.ref a_NoRule))) (n_NoOrder : PySem.W.nsIn K mainGlobals "NoOrder" = some (some (.ref a_NoOrder))) (n_NoSharing : PySem.W.nsIn K mainGlobals "NoSharing" = some (some (.ref a_NoSharing))) (n_NoClaimer : PySem.W.nsIn K mainGlobals "NoClaimer" = some (some (.ref a_NoClaimer))) (n_NoAmount : PySem.W.nsIn K mainGlobals "NoAmount" = some (some (.ref a_NoAmount))) (n_NoGroup : PySem.W.nsIn K mainGlobals "NoGroup" = some (some (.ref a_NoGroup))) (n_NoLine : PySem.W.nsIn K mainGlobals "NoLine" = some (some (.ref a_NoLine))) (n_NoName : PySem.W.nsIn K mainGlobals "NoName" = some (some (.ref a_NoName))) (n_Known : PySem.W.nsIn K mainGlobals "Known" = some (some (.ref a_Known))) (x_LeanError : PySem.W.excIn K a_LeanError veMro "ValueError.__new__" = true) (x_NoRatio : PySem.W.excIn K a_NoRatio veMro "ValueError.__new__" = true) (x_NoText : PySem.W.excIn K a_NoText veMro "ValueError.__new__" = true) (x_TooMany : PySem.W.excIn K a_TooMany veMro "ValueError.__new__" = true) (x_NoClaim : PySem.W.excIn K a_NoClaim veMro "ValueError.__new__" = true) (x_NoEstate : PySem.W.excIn K a_NoEstate veMro "ValueError.__new__" = true) (x_NoRule : PySem.W.excIn K a_NoRule veMro "ValueError.__new__" = true) (x_NoOrder : PySem.W.excIn K a_NoOrder veMro "ValueError.__new__" = true) (x_NoSharing : PySem.W.excIn K a_NoSharing veMro "ValueError.__new__" = true) (x_NoClaimer : PySem.W.excIn K a_NoClaimer veMro "ValueError.__new__" = true) (x_NoAmount : PySem.W.excIn K a_NoAmount veMro "ValueError.__new__" = true) (x_NoGroup : PySem.W.excIn K a_NoGroup veMro "ValueError.__new__" = true) (x_NoLine : PySem.W.excIn K a_NoLine veMro "ValueError.__new__" = true) (x_NoName : PySem.W.excIn K a_NoName veMro "ValueError.__new__" = true) (x_Known : PySem.W.excIn K a_Known veMro "ValueError.__new__" = true) (z_len : PySem.W.nsIn K mainGlobals "len" = some none) (z_abs : PySem.W.nsIn K mainGlobals "abs" = some none) (z_range : PySem.W.nsIn K mainGlobals "range" = some none) (z_isinstance : PySem.W.nsIn K mainGlobals "isinstance" = some none) (z_int : PySem.W.nsIn K mainGlobals "int" = some none) (z_bool : PySem.W.nsIn K mainGlobals "bool" = some none) (z_list : PySem.W.nsIn K mainGlobals "list" = some none) (z_sum : PySem.W.nsIn K mainGlobals "sum" = some none) (z_min : PySem.W.nsIn K mainGlobals "min" = some none) (z_max : PySem.W.nsIn K mainGlobals "max" = some none) (z_reversed : PySem.W.nsIn K mainGlobals "reversed" = some none) (z_sorted : PySem.W.nsIn K mainGlobals "sorted" = some none) (z_zip : PySem.W.nsIn K mainGlobals "zip" = some none) (z_set : PySem.W.nsIn K mainGlobals "set" = some none) (z_ValueError : PySem.W.nsIn K mainGlobals "ValueError" = some none) (c0_NOUGHT : PySem.W.nsIn K mainGlobals "NOUGHT" = some (some (.ref q_NOUGHT))) (c1_NOUGHT : List.lookup q_NOUGHT K = some o_NOUGHT) (c2_NOUGHT : o_NOUGHT.cls = .type "tuple") (c3_NOUGHT : o_NOUGHT.data = .seq #[.int i_NOUGHT t_NOUGHT, .int j_NOUGHT u_NOUGHT] n0_NOUGHT) (c4_NOUGHT : i_NOUGHT = 0) (c5_NOUGHT : j_NOUGHT = 1) (c0_MOST_CLAIMS : PySem.W.nsIn K mainGlobals "MOST_CLAIMS" = some (some (.int y_MOST_CLAIMS t_MOST_CLAIMS))) (c1_MOST_CLAIMS : y_MOST_CLAIMS = 8) (c0_HALF : PySem.W.nsIn K mainGlobals "HALF" = some (some (.ref q_HALF))) (c1_HALF : List.lookup q_HALF K = some o_HALF) (c2_HALF : o_HALF.cls = .type "tuple") (c3_HALF : o_HALF.data = .seq #[.int i_HALF t_HALF, .int j_HALF u_HALF] n0_HALF) (c4_HALF : i_HALF = 1) (c5_HALF : j_HALF = 2) (c0_WORDS : PySem.W.nsIn K mainGlobals "WORDS" = some (some (.ref q_WORDS))) (c1_WORDS : List.lookup q_WORDS K = some o_WORDS) (c2_WORDS : o_WORDS.cls = .type "tuple") (c3_WORDS : o_WORDS.data = .seq #[.str s0_WORDS t0_WORDS, .str s1_WORDS t1_WORDS, .str s2_WORDS t2_WORDS, .str s3_WORDS t3_WORDS, .str s4_WORDS t4_WORDS] n0_WORDS) (c40_WORDS : s0_WORDS = tx [115, 104, 97, 114, 101, 115]) (c41_WORDS : s1_WORDS = tx [103, 97, 105, 110, 115]) (c42_WORDS : s2_WORDS = tx [108, 111, 115, 115, 101, 115]) (c43_WORDS : s3_WORDS = tx [104, 97, 108, 118, 101, 115]) (c44_WORDS : s4_WORDS = tx [116, 117, 114, 110, 115]) (m1_NoRule : PySem.W.subIn K (.ref a_LeanError) (.type "BaseException") = some true) (m2_NoRule : PySem.W.kitOne K (.ref a_NoRule) (.ref a_LeanError) = some true) (m3_NoRule : (Value.ref a_NoRule == Value.ref a_LeanError) = false) (kga_NoRule : PySem.W.findIn K (.ref a_NoRule) "__getattribute__" = some (some (.builtin "BaseException.__getattribute__"))) (kgt_NoRule : PySem.W.findIn K (.ref a_NoRule) "__getattr__" = some none) (kcl_NoRule : PySem.W.findIn K (.ref a_NoRule) "__class__" = some (some (.builtin "object.__class__"))) (ksg_NoRule : PySem.W.specialIn K (.builtin "object.__class__") "__get__" = some (some (.builtin "getset_descriptor.__get__"))) (ktk_NoRule : PySem.W.takesIn K (.builtin "object.__class__") = some true) (kmo_NoRule : PySem.W.mroIn K a_NoRule (.type "object") = some true) (kmb_NoRule : PySem.W.mroIn K a_NoRule (.type "BaseException") = some true) (v_NoRule : PySem.W.kitOne K (.ref a_NoRule) (.type "ValueError") = some true) (p_NoRule_Known : PySem.W.kitOne K (.ref a_NoRule) (.ref a_Known) = some false) (p_NoRule_NoEstate : PySem.W.kitOne K (.ref a_NoRule) (.ref a_NoEstate) = some false) (p_NoRule_NoGroup : PySem.W.kitOne K (.ref a_NoRule) (.ref a_NoGroup) = some false) (p_NoRule_NoLine : PySem.W.kitOne K (.ref a_NoRule) (.ref a_NoLine) = some false) (p_NoRule_NoName : PySem.W.kitOne K (.ref a_NoRule) (.ref a_NoName) = some false) (p_NoRule_NoRule : PySem.W.kitOne K (.ref a_NoRule) (.ref a_NoRule) = some true) (p_NoRule_TooMany : PySem.W.kitOne K (.ref a_NoRule) (.ref a_TooMany) = some false) (p_NoRule_NoClaim : PySem.W.kitOne K (.ref a_NoRule) (.ref a_NoClaim) = some false) (p_NoRule_NoClaimer : PySem.W.kitOne K (.ref a_NoRule) (.ref a_NoClaimer) = some false) (p_NoRule_NoAmount : PySem.W.kitOne K (.ref a_NoRule) (.ref a_NoAmount) = some false) (p_NoRule_NoOrder : PySem.W.kitOne K (.ref a_NoRule) (.ref a_NoOrder) = some false) (p_NoRule_NoRatio : PySem.W.kitOne K (.ref a_NoRule) (.ref a_NoRatio) = some false) (p_NoRule_NoSharing : PySem.W.kitOne K (.ref a_NoRule) (.ref a_NoSharing) = some false) (p_NoRule_NoText : PySem.W.kitOne K (.ref a_NoRule) (.ref a_NoText) = some false) (m1_TooMany : PySem.W.subIn K (.ref a_LeanError) (.type "BaseException") = some true) (m2_TooMany : PySem.W.kitOne K (.ref a_TooMany) (.ref a_LeanError) = some true) (m3_TooMany : (Value.ref a_TooMany == Value.ref a_LeanError) = false) (kga_TooMany : PySem.W.findIn K (.ref a_TooMany) "__getattribute__" = some (some (.builtin "BaseException.__getattribute__"))) (kgt_TooMany : PySem.W.findIn K (.ref a_TooMany) "__getattr__" = some none) (kcl_TooMany : PySem.W.findIn K (.ref a_TooMany) "__class__" = some (some (.builtin "object.__class__"))) (ksg_TooMany : PySem.W.specialIn K (.builtin "object.__class__") "__get__" = some (some (.builtin "getset_descriptor.__get__"))) (ktk_TooMany : PySem.W.takesIn K (.builtin "object.__class__") = some true) (kmo_TooMany : PySem.W.mroIn K a_TooMany (.type "object") = some true) (kmb_TooMany : PySem.W.mroIn K a_TooMany (.type "BaseException") = some true) (v_TooMany : PySem.W.kitOne K (.ref a_TooMany) (.type "ValueError") = some true) (p_TooMany_Known : PySem.W.kitOne K (.ref a_TooMany) (.ref a_Known) = some false) (p_TooMany_NoEstate : PySem.W.kitOne K (.ref a_TooMany) (.ref a_NoEstate) = some false) (p_TooMany_NoGroup : PySem.W.kitOne K (.ref a_TooMany) (.ref a_NoGroup) = some false) (p_TooMany_NoLine : PySem.W.kitOne K (.ref a_TooMany) (.ref a_NoLine) = some false) (p_TooMany_NoName : PySem.W.kitOne K (.ref a_TooMany) (.ref a_NoName) = some false) (p_TooMany_NoRule : PySem.W.kitOne K (.ref a_TooMany) (.ref a_NoRule) = some false) (p_TooMany_TooMany : PySem.W.kitOne K (.ref a_TooMany) (.ref a_TooMany) = some true) (p_TooMany_NoClaim : PySem.W.kitOne K (.ref a_TooMany) (.ref a_NoClaim) = some false) (p_TooMany_NoClaimer : PySem.W.kitOne K (.ref a_TooMany) (.ref a_NoClaimer) = some false) (p_TooMany_NoAmount : PySem.W.kitOne K (.ref a_TooMany) (.ref a_NoAmount) = some false) (p_TooMany_NoOrder : PySem.W.kitOne K (.ref a_TooMany) (.ref a_NoOrder) = some false) (p_TooMany_NoRatio : PySem.W.kitOne K (.ref a_TooMany) (.ref a_NoRatio) = some false) (p_TooMany_NoSharing : PySem.W.kitOne K (.ref a_TooMany) (.ref a_NoSharing) = some false) (p_TooMany_NoText : PySem.W.kitOne K (.ref a_TooMany) (.ref a_NoText) = some false) (m1_NoClaim : PySem.W.subIn K (.ref a_LeanError) (.type "BaseException") = some true) (m2_NoClaim : PySem.W.kitOne K (.ref a_NoClaim) (.ref a_LeanError) = some true) (m3_NoClaim : (Value.ref a_NoClaim == Value.ref a_LeanError) = false) (kga_NoClaim : PySem.W.findIn K (.ref a_NoClaim) "__getattribute__" = some (some (.builtin "BaseException.__getattribute__"))) (kgt_NoClaim : PySem.W.findIn K (.ref a_NoClaim) "__getattr__" = some none) (kcl_NoClaim : PySem.W.findIn K (.ref a_NoClaim) "__class__" = some (some (.builtin "object.__class__"))) (ksg_NoClaim : PySem.W.specialIn K (.builtin "object.__class__") "__get__" = some (some (.builtin "getset_descriptor.__get__"))) (ktk_NoClaim : PySem.W.takesIn K (.builtin "object.__class__") = some true) (kmo_NoClaim : PySem.W.mroIn K a_NoClaim (.type "object") = some true) (kmb_NoClaim : PySem.W.mroIn K a_NoClaim (.type "BaseException") = some true) (v_NoClaim : PySem.W.kitOne K (.ref a_NoClaim) (.type "ValueError") = some true) (p_NoClaim_Known : PySem.W.kitOne K (.ref a_NoClaim) (.ref a_Known) = some false) (p_NoClaim_NoEstate : PySem.W.kitOne K (.ref a_NoClaim) (.ref a_NoEstate) = some false) (p_NoClaim_NoGroup : PySem.W.kitOne K (.ref a_NoClaim) (.ref a_NoGroup) = some false) (p_NoClaim_NoLine : PySem.W.kitOne K (.ref a_NoClaim) (.ref a_NoLine) = some false) (p_NoClaim_NoName : PySem.W.kitOne K (.ref a_NoClaim) (.ref a_NoName) = some false) (p_NoClaim_NoRule : PySem.W.kitOne K (.ref a_NoClaim) (.ref a_NoRule) = some false) (p_NoClaim_TooMany : PySem.W.kitOne K (.ref a_NoClaim) (.ref a_TooMany) = some false) (p_NoClaim_NoClaim : PySem.W.kitOne K (.ref a_NoClaim) (.ref a_NoClaim) = some true) (p_NoClaim_NoClaimer : PySem.W.kitOne K (.ref a_NoClaim) (.ref a_NoClaimer) = some false) (p_NoClaim_NoAmount : PySem.W.kitOne K (.ref a_NoClaim) (.ref a_NoAmount) = some false) (p_NoClaim_NoOrder : PySem.W.kitOne K (.ref a_NoClaim) (.ref a_NoOrder) = some false) (p_NoClaim_NoRatio : PySem.W.kitOne K (.ref a_NoClaim) (.ref a_NoRatio) = some false) (p_NoClaim_NoSharing : PySem.W.kitOne K (.ref a_NoClaim) (.ref a_NoSharing) = some false) (p_NoClaim_NoText : PySem.W.kitOne K (.ref a_NoClaim) (.ref a_NoText) = some false) (m1_NoClaimer : PySem.W.subIn K (.ref a_LeanError) (.type "BaseException") = some true) (m2_NoClaimer : PySem.W.kitOne K (.ref a_NoClaimer) (.ref a_LeanError) = some true) (m3_NoClaimer : (Value.ref a_NoClaimer == Value.ref a_LeanError) = false) (kga_NoClaimer : PySem.W.findIn K (.ref a_NoClaimer) "__getattribute__" = some (some (.builtin "BaseException.__getattribute__"))) (kgt_NoClaimer : PySem.W.findIn K (.ref a_NoClaimer) "__getattr__" = some none) (kcl_NoClaimer : PySem.W.findIn K (.ref a_NoClaimer) "__class__" = some (some (.builtin "object.__class__"))) (ksg_NoClaimer : PySem.W.specialIn K (.builtin "object.__class__") "__get__" = some (some (.builtin "getset_descriptor.__get__"))) (ktk_NoClaimer : PySem.W.takesIn K (.builtin "object.__class__") = some true) (kmo_NoClaimer : PySem.W.mroIn K a_NoClaimer (.type "object") = some true) (kmb_NoClaimer : PySem.W.mroIn K a_NoClaimer (.type "BaseException") = some true) (v_NoClaimer : PySem.W.kitOne K (.ref a_NoClaimer) (.type "ValueError") = some true) (p_NoClaimer_Known : PySem.W.kitOne K (.ref a_NoClaimer) (.ref a_Known) = some false) (p_NoClaimer_NoEstate : PySem.W.kitOne K (.ref a_NoClaimer) (.ref a_NoEstate) = some false) (p_NoClaimer_NoGroup : PySem.W.kitOne K (.ref a_NoClaimer) (.ref a_NoGroup) = some false) (p_NoClaimer_NoLine : PySem.W.kitOne K (.ref a_NoClaimer) (.ref a_NoLine) = some false) (p_NoClaimer_NoName : PySem.W.kitOne K (.ref a_NoClaimer) (.ref a_NoName) = some false) (p_NoClaimer_NoRule : PySem.W.kitOne K (.ref a_NoClaimer) (.ref a_NoRule) = some false) (p_NoClaimer_TooMany : PySem.W.kitOne K (.ref a_NoClaimer) (.ref a_TooMany) = some false) (p_NoClaimer_NoClaim : PySem.W.kitOne K (.ref a_NoClaimer) (.ref a_NoClaim) = some false) (p_NoClaimer_NoClaimer : PySem.W.kitOne K (.ref a_NoClaimer) (.ref a_NoClaimer) = some true) (p_NoClaimer_NoAmount : PySem.W.kitOne K (.ref a_NoClaimer) (.ref a_NoAmount) = some false) (p_NoClaimer_NoOrder : PySem.W.kitOne K (.ref a_NoClaimer) (.ref a_NoOrder) = some false) (p_NoClaimer_NoRatio : PySem.W.kitOne K (.ref a_NoClaimer) (.ref a_NoRatio) = some false) (p_NoClaimer_NoSharing : PySem.W.kitOne K (.ref a_NoClaimer) (.ref a_NoSharing) = some false) (p_NoClaimer_NoText : PySem.W.kitOne K (.ref a_NoClaimer) (.ref a_NoText) = some false) (m1_NoAmount : PySem.W.subIn K (.ref a_LeanError) (.type "BaseException") = some true) (m2_NoAmount : PySem.W.kitOne K (.ref a_NoAmount) (.ref a_LeanError) = some true) (m3_NoAmount : (Value.ref a_NoAmount == Value.ref a_LeanError) = false) (kga_NoAmount : PySem.W.findIn K (.ref a_NoAmount) "__getattribute__" = some (some (.builtin "BaseException.__getattribute__"))) (kgt_NoAmount : PySem.W.findIn K (.ref a_NoAmount) "__getattr__" = some none) (kcl_NoAmount : PySem.W.findIn K (.ref a_NoAmount) "__class__" = some (some (.builtin "object.__class__"))) (ksg_NoAmount : PySem.W.specialIn K (.builtin "object.__class__") "__get__" = some (some (.builtin "getset_descriptor.__get__"))) (ktk_NoAmount : PySem.W.takesIn K (.builtin "object.__class__") = some true) (kmo_NoAmount : PySem.W.mroIn K a_NoAmount (.type "object") = some true) (kmb_NoAmount : PySem.W.mroIn K a_NoAmount (.type "BaseException") = some true) (v_NoAmount : PySem.W.kitOne K (.ref a_NoAmount) (.type "ValueError") = some true) (p_NoAmount_Known : PySem.W.kitOne K (.ref a_NoAmount) (.ref a_Known) = some false) (p_NoAmount_NoEstate : PySem.W.kitOne K (.ref a_NoAmount) (.ref a_NoEstate) = some false) (p_NoAmount_NoGroup : PySem.W.kitOne K (.ref a_NoAmount) (.ref a_NoGroup) = some false) (p_NoAmount_NoLine : PySem.W.kitOne K (.ref a_NoAmount) (.ref a_NoLine) = some false) (p_NoAmount_NoName : PySem.W.kitOne K (.ref a_NoAmount) (.ref a_NoName) = some false) (p_NoAmount_NoRule : PySem.W.kitOne K (.ref a_NoAmount) (.ref a_NoRule) = some false) (p_NoAmount_TooMany : PySem.W.kitOne K (.ref a_NoAmount) (.ref a_TooMany) = some false) (p_NoAmount_NoClaim : PySem.W.kitOne K (.ref a_NoAmount) (.ref a_NoClaim) = some false) (p_NoAmount_NoClaimer : PySem.W.kitOne K (.ref a_NoAmount) (.ref a_NoClaimer) = some false) (p_NoAmount_NoAmount : PySem.W.kitOne K (.ref a_NoAmount) (.ref a_NoAmount) = some true) (p_NoAmount_NoOrder : PySem.W.kitOne K (.ref a_NoAmount) (.ref a_NoOrder) = some false) (p_NoAmount_NoRatio : PySem.W.kitOne K (.ref a_NoAmount) (.ref a_NoRatio) = some false) (p_NoAmount_NoSharing : PySem.W.kitOne K (.ref a_NoAmount) (.ref a_NoSharing) = some false) (p_NoAmount_NoText : PySem.W.kitOne K (.ref a_NoAmount) (.ref a_NoText) = some false) : ∃ Ad, Env K mg Ad :=
  ⟨⟨a_LeanError, a_NoRatio, a_NoText, a_TooMany, a_NoClaim, a_NoEstate, a_NoRule, a_NoOrder, a_NoSharing, a_NoClaimer, a_NoAmount, a_NoGroup, a_NoLine, a_NoName, a_Known, q_NOUGHT, q_HALF, q_WORDS⟩, { T := T, e_LeanError := ⟨PySem.W.mg_of KX G n_LeanError, x_LeanError⟩, e_NoRatio := ⟨PySem.W.mg_of KX G n_NoRatio, x_NoRatio⟩, e_NoText := ⟨PySem.W.mg_of KX G n_NoText, x_NoText⟩, e_TooMany := ⟨PySem.W.mg_of KX G n_TooMany, x_TooMany⟩, e_NoClaim := ⟨PySem.W.mg_of KX G n_NoClaim, x_NoClaim⟩, e_NoEstate := ⟨PySem.W.mg_of KX G n_NoEstate, x_NoEstate⟩, e_NoRule := ⟨PySem.W.mg_of KX G n_NoRule, x_NoRule⟩, e_NoOrder := ⟨PySem.W.mg_of KX G n_NoOrder, x_NoOrder⟩, e_NoSharing := ⟨PySem.W.mg_of KX G n_NoSharing, x_NoSharing⟩, e_NoClaimer := ⟨PySem.W.mg_of KX G n_NoClaimer, x_NoClaimer⟩, e_NoAmount := ⟨PySem.W.mg_of KX G n_NoAmount, x_NoAmount⟩, e_NoGroup := ⟨PySem.W.mg_of KX G n_NoGroup, x_NoGroup⟩, e_NoLine := ⟨PySem.W.mg_of KX G n_NoLine, x_NoLine⟩, e_NoName := ⟨PySem.W.mg_of KX G n_NoName, x_NoName⟩, e_Known := ⟨PySem.W.mg_of KX G n_Known, x_Known⟩, b_len := PySem.W.mg_none_of KX G z_len, b_abs := PySem.W.mg_none_of KX G z_abs, b_range := PySem.W.mg_none_of KX G z_range, b_isinstance := PySem.W.mg_none_of KX G z_isinstance, b_int := PySem.W.mg_none_of KX G z_int, b_bool := PySem.W.mg_none_of KX G z_bool, b_list := PySem.W.mg_none_of KX G z_list, b_sum := PySem.W.mg_none_of KX G z_sum, b_min := PySem.W.mg_none_of KX G z_min, b_max := PySem.W.mg_none_of KX G z_max, b_reversed := PySem.W.mg_none_of KX G z_reversed, b_sorted := PySem.W.mg_none_of KX G z_sorted, b_zip := PySem.W.mg_none_of KX G z_zip, b_set := PySem.W.mg_none_of KX G z_set, b_ValueError := PySem.W.mg_none_of KX G z_ValueError, c_NOUGHT := ⟨_, PySem.W.mg_of KX G c0_NOUGHT, rfl⟩, k_NOUGHT := kt_mk c1_NOUGHT c2_NOUGHT c3_NOUGHT c4_NOUGHT c5_NOUGHT, c_MOST_CLAIMS := cn_int KX G c0_MOST_CLAIMS c1_MOST_CLAIMS, c_HALF := ⟨_, PySem.W.mg_of KX G c0_HALF, rfl⟩, k_HALF := kt_mk c1_HALF c2_HALF c3_HALF c4_HALF c5_HALF, c_WORDS := ⟨_, PySem.W.mg_of KX G c0_WORDS, rfl⟩, k_WORDS := by subst c40_WORDS c41_WORDS c42_WORDS c43_WORDS c44_WORDS; exact ⟨_, _, _, c1_WORDS, c2_WORDS, c3_WORDS, by show 5 ≤ sizeLine; decide, (.cons ⟨_, rfl⟩ (.cons ⟨_, rfl⟩ (.cons ⟨_, rfl⟩ (.cons ⟨_, rfl⟩ (.cons ⟨_, rfl⟩ .nil)))))⟩, mx_NoRule := exm_mk m1_NoRule m2_NoRule m3_NoRule, ek_NoRule := ekit_mk kga_NoRule kgt_NoRule kcl_NoRule ksg_NoRule ktk_NoRule kmo_NoRule kmb_NoRule, kv_NoRule := v_NoRule, k_NoRule_Known := p_NoRule_Known, k_NoRule_NoEstate := p_NoRule_NoEstate, k_NoRule_NoGroup := p_NoRule_NoGroup, k_NoRule_NoLine := p_NoRule_NoLine, k_NoRule_NoName := p_NoRule_NoName, k_NoRule_NoRule := p_NoRule_NoRule, k_NoRule_TooMany := p_NoRule_TooMany, k_NoRule_NoClaim := p_NoRule_NoClaim, k_NoRule_NoClaimer := p_NoRule_NoClaimer, k_NoRule_NoAmount := p_NoRule_NoAmount, k_NoRule_NoOrder := p_NoRule_NoOrder, k_NoRule_NoRatio := p_NoRule_NoRatio, k_NoRule_NoSharing := p_NoRule_NoSharing, k_NoRule_NoText := p_NoRule_NoText, mx_TooMany := exm_mk m1_TooMany m2_TooMany m3_TooMany, ek_TooMany := ekit_mk kga_TooMany kgt_TooMany kcl_TooMany ksg_TooMany ktk_TooMany kmo_TooMany kmb_TooMany, kv_TooMany := v_TooMany, k_TooMany_Known := p_TooMany_Known, k_TooMany_NoEstate := p_TooMany_NoEstate, k_TooMany_NoGroup := p_TooMany_NoGroup, k_TooMany_NoLine := p_TooMany_NoLine, k_TooMany_NoName := p_TooMany_NoName, k_TooMany_NoRule := p_TooMany_NoRule, k_TooMany_TooMany := p_TooMany_TooMany, k_TooMany_NoClaim := p_TooMany_NoClaim, k_TooMany_NoClaimer := p_TooMany_NoClaimer, k_TooMany_NoAmount := p_TooMany_NoAmount, k_TooMany_NoOrder := p_TooMany_NoOrder, k_TooMany_NoRatio := p_TooMany_NoRatio, k_TooMany_NoSharing := p_TooMany_NoSharing, k_TooMany_NoText := p_TooMany_NoText, mx_NoClaim := exm_mk m1_NoClaim m2_NoClaim m3_NoClaim, ek_NoClaim := ekit_mk kga_NoClaim kgt_NoClaim kcl_NoClaim ksg_NoClaim ktk_NoClaim kmo_NoClaim kmb_NoClaim, kv_NoClaim := v_NoClaim, k_NoClaim_Known := p_NoClaim_Known, k_NoClaim_NoEstate := p_NoClaim_NoEstate, k_NoClaim_NoGroup := p_NoClaim_NoGroup, k_NoClaim_NoLine := p_NoClaim_NoLine, k_NoClaim_NoName := p_NoClaim_NoName, k_NoClaim_NoRule := p_NoClaim_NoRule, k_NoClaim_TooMany := p_NoClaim_TooMany, k_NoClaim_NoClaim := p_NoClaim_NoClaim, k_NoClaim_NoClaimer := p_NoClaim_NoClaimer, k_NoClaim_NoAmount := p_NoClaim_NoAmount, k_NoClaim_NoOrder := p_NoClaim_NoOrder, k_NoClaim_NoRatio := p_NoClaim_NoRatio, k_NoClaim_NoSharing := p_NoClaim_NoSharing, k_NoClaim_NoText := p_NoClaim_NoText, mx_NoClaimer := exm_mk m1_NoClaimer m2_NoClaimer m3_NoClaimer, ek_NoClaimer := ekit_mk kga_NoClaimer kgt_NoClaimer kcl_NoClaimer ksg_NoClaimer ktk_NoClaimer kmo_NoClaimer kmb_NoClaimer, kv_NoClaimer := v_NoClaimer, k_NoClaimer_Known := p_NoClaimer_Known, k_NoClaimer_NoEstate := p_NoClaimer_NoEstate, k_NoClaimer_NoGroup := p_NoClaimer_NoGroup, k_NoClaimer_NoLine := p_NoClaimer_NoLine, k_NoClaimer_NoName := p_NoClaimer_NoName, k_NoClaimer_NoRule := p_NoClaimer_NoRule, k_NoClaimer_TooMany := p_NoClaimer_TooMany, k_NoClaimer_NoClaim := p_NoClaimer_NoClaim, k_NoClaimer_NoClaimer := p_NoClaimer_NoClaimer, k_NoClaimer_NoAmount := p_NoClaimer_NoAmount, k_NoClaimer_NoOrder := p_NoClaimer_NoOrder, k_NoClaimer_NoRatio := p_NoClaimer_NoRatio, k_NoClaimer_NoSharing := p_NoClaimer_NoSharing, k_NoClaimer_NoText := p_NoClaimer_NoText, mx_NoAmount := exm_mk m1_NoAmount m2_NoAmount m3_NoAmount, ek_NoAmount := ekit_mk kga_NoAmount kgt_NoAmount kcl_NoAmount ksg_NoAmount ktk_NoAmount kmo_NoAmount kmb_NoAmount, kv_NoAmount := v_NoAmount, k_NoAmount_Known := p_NoAmount_Known, k_NoAmount_NoEstate := p_NoAmount_NoEstate, k_NoAmount_NoGroup := p_NoAmount_NoGroup, k_NoAmount_NoLine := p_NoAmount_NoLine, k_NoAmount_NoName := p_NoAmount_NoName, k_NoAmount_NoRule := p_NoAmount_NoRule, k_NoAmount_TooMany := p_NoAmount_TooMany, k_NoAmount_NoClaim := p_NoAmount_NoClaim, k_NoAmount_NoClaimer := p_NoAmount_NoClaimer, k_NoAmount_NoAmount := p_NoAmount_NoAmount, k_NoAmount_NoOrder := p_NoAmount_NoOrder, k_NoAmount_NoRatio := p_NoAmount_NoRatio, k_NoAmount_NoSharing := p_NoAmount_NoSharing, k_NoAmount_NoText := p_NoAmount_NoText }⟩
noncomputable def okR (ρ : Lr.Rl) : Prop := ρ ≠ .tu
noncomputable def sp_stub : Sp := fun _ _ _ _ => False
inductive sp_is_whole (vs : List V) (H : Hp) (Q : VK) (E_ : XK) : Prop
  | mk (a : Int) (h0_ : vs = [.int a]) (h1_ : Q (.bl true) H) : sp_is_whole vs H Q E_
inductive sp_gcd (vs : List V) (H : Hp) (Q : VK) (E_ : XK) : Prop
  | mk (a b : Int) (h0_ : vs = [.int a, .int b]) (h1_ : Q (.int (Int.gcd a b)) H) : sp_gcd vs H Q E_
inductive sp_ratio (vs : List V) (H : Hp) (Q : VK) (E_ : XK) : Prop
  | mk (a b : Int) (h0_ : vs = [.int a, .int b]) (h1_ : b ≠ 0) (h2_ : Bd 9000 b) (h3_ : ∀ z H', New H z (pr (Lr.rt a b)) H' → Q (.ref z) H') : sp_ratio vs H Q E_
inductive sp_op (K : PySem.W.Frag) (o : Rat → Rat → Rat) (c : Rat → Prop) (vs : List V) (H : Hp) (Q : VK) (E_ : XK) : Prop
  | mk (v w : V) (x y : Rat) (m n : Nat) (h0_ : vs = [v, w]) (h1_ : RatV K H v x) (h2_ : RatV K H w y) (h3_ : Sz m x) (h4_ : Sz n y) (h5_ : m + n ≤ 9000) (h6_ : c y) (h7_ : ∀ z H', New H z (pr (o x y)) H' → Q (.ref z) H') : sp_op K o c vs H Q E_
noncomputable abbrev sp_plus (K : PySem.W.Frag) : Sp := sp_op K (· + ·) fun _ => True
noncomputable abbrev sp_minus (K : PySem.W.Frag) : Sp := sp_op K (· - ·) fun _ => True
noncomputable abbrev sp_times (K : PySem.W.Frag) : Sp := sp_op K (· * ·) fun _ => True
noncomputable abbrev sp_over (K : PySem.W.Frag) : Sp := sp_op K (· / ·) fun y => y ≠ 0
inductive sp_less (K : PySem.W.Frag) (vs : List V) (H : Hp) (Q : VK) (E_ : XK) : Prop
  | mk (v w : V) (x y : Rat) (h0_ : vs = [v, w]) (h1_ : RatV K H v x) (h2_ : RatV K H w y) (h3_ : Sz 9000 x) (h4_ : Sz 9000 y) (h5_ : Q (.bl (decide (x < y))) H) : sp_less K vs H Q E_
inductive sp_lesser (K : PySem.W.Frag) (vs : List V) (H : Hp) (Q : VK) (E_ : XK) : Prop
  | mk (v w : V) (x y : Rat) (h0_ : vs = [v, w]) (h1_ : RatV K H v x) (h2_ : RatV K H w y) (h3_ : Sz 9000 x) (h4_ : Sz 9000 y) (h5_ : ∀ u, RatV K H u (Lr.mn x y) → Q u H) : sp_lesser K vs H Q E_
structure Ob (k : Nat) (D : Int) (xs : List Rat) : Prop where
  pos : 0 < D
  bd : Bd k D
  ov : ∀ x ∈ xs, Lr.Ov D (2 ^ k) x
theorem Ob.sub {k : Nat} {D : Int} {xs ys : List Rat} (h : Ob k D xs) (l : ∀ y ∈ ys, y ∈ xs) : Ob k D ys := ⟨h.pos, h.bd, fun y hy => h.ov y (l y hy)⟩
theorem Ob.mono {k m : Nat} {D : Int} {xs : List Rat} (h : Ob k D xs) (l : k ≤ m) : Ob m D xs := ⟨h.pos, h.bd.mono l, fun x hx => (h.ov x hx).mono (Nat.pow_le_pow_right (by decide) l)⟩
theorem ovSz {k m : Nat} {D : Int} {x : Rat} {M : Nat} (hp : 0 < D) (hb : Bd k D) (h : Lr.Ov D M x) (hM : M < 2 ^ m) (l : k ≤ m) : Sz m x := by
  obtain ⟨n, rfl, hn⟩ := h
  exact Sz.rt (n := m) (by omega) (Bd.of_lt (Nat.lt_of_le_of_lt hn hM)) (hb.mono l) (Nat.le_refl _)
theorem Ob.sz {k m : Nat} {D : Int} {xs : List Rat} (h : Ob k D xs) (l : k + 1 ≤ m) {x : Rat} (hx : x ∈ xs) : Sz m x := by
  refine ovSz h.pos h.bd (h.ov x hx) ?_ (by omega)
  exact Nat.lt_of_lt_of_le (Nat.pow_lt_pow_right (by decide) (Nat.lt_succ_self k)) (Nat.pow_le_pow_right (by decide) l)
inductive sp_cbot (K : PySem.W.Frag) (vs : List V) (H : Hp) (Q : VK) (E_ : XK) : Prop
  | mk (a : Addr) (xs : List Rat) (k : Nat) (D : Int) (h0_ : vs = [.ref a]) (h1_ : RatL K H a xs) (h2_ : Ob k D xs) (h3_ : k ≤ 8000) (h4_ : ∀ B : Int, 0 < B → B ∣ D → (∀ x ∈ xs, (x.den : Int) ∣ B) → Q (.int B) H) : sp_cbot K vs H Q E_
inductive sp_tops (K : PySem.W.Frag) (vs : List V) (H : Hp) (Q : VK) (E_ : XK) : Prop
  | mk (a : Addr) (xs : List Rat) (B : Int) (h0_ : vs = [.int B, .ref a]) (h1_ : RatL K H a xs) (h2_ : 0 < B) (h3_ : Bd 9000 B) (h4_ : (∀ x ∈ xs, (x.den : Int) ∣ B)) (h5_ : (∀ x ∈ xs, Sz 9000 x)) (h6_ : xs.length ≤ 1000000) (h7_ : ∀ l (ts : List Int) H', New H l (.lst (ts.map V.int)) H' → ts.map (fun (t : Int) => (t : Rat)) = xs.map (· * (B : Rat)) → Q (.ref l) H') : sp_tops K vs H Q E_
inductive sp_total (K : PySem.W.Frag) (vs : List V) (H : Hp) (Q : VK) (E_ : XK) : Prop
  | mk (a : Addr) (cs : List Rat) (k : Nat) (D : Int) (h0_ : vs = [.ref a]) (h1_ : RatL K H a cs) (h2_ : Ob k D cs) (h3_ : k ≤ 3000) (h4_ : cs.length ≤ 1100) (h5_ : ∀ w H', Same H H' → RatV K H' w (Lr.sm cs) → Q w H') : sp_total K vs H Q E_
noncomputable def dueC (A : Ad) (cs : List Rat) : Option Addr := if 8 < cs.length then some A.aTooMany else if (cs.any fun c => decide (c < 0)) = true then some A.aNoClaim else none
noncomputable def dueOf (A : Ad) (cs : List Rat) (e : Rat) : Option Addr := match dueC A cs with | some c => some c | none => if e < 0 ∨ Lr.sm cs < e then some A.aNoEstate else none
theorem dueC_none {A : Ad} {cs : List Rat} (h : dueC A cs = none) : cs.length ≤ 8 ∧ ∀ c ∈ cs, 0 ≤ c := by
  unfold dueC at h
  split at h
  · cases h
  · split at h
    · cases h
    · rename_i h1 h2
      refine ⟨by omega, fun c hc => ?_⟩
      have : ¬ c < 0 := fun z => h2 (List.any_eq_true.mpr ⟨c, hc, decide_eq_true z⟩)
      grind
theorem dueC_good {A : Ad} {cs : List Rat} (h8 : cs.length ≤ 8) (h0 : ∀ c ∈ cs, 0 ≤ c) : dueC A cs = none := by
  unfold dueC
  rw [if_neg (by omega), if_neg]
  intro z
  obtain ⟨c, hc, h⟩ := List.any_eq_true.mp z
  have h1 := of_decide_eq_true h
  have h2 := h0 c hc
  grind
theorem due_none {A : Ad} {cs : List Rat} {e : Rat} (h : dueOf A cs e = none) : cs.length ≤ 8 ∧ (∀ c ∈ cs, 0 ≤ c) ∧ 0 ≤ e ∧ e ≤ Lr.sm cs := by
  unfold dueOf at h
  split at h
  · cases h
  · rename_i h1
    split at h
    · cases h
    · rename_i h2
      obtain ⟨a, b⟩ := dueC_none h1
      exact ⟨a, b, by grind, by grind⟩
theorem due_good {A : Ad} {cs : List Rat} {e : Rat} (h8 : cs.length ≤ 8) (h0 : ∀ c ∈ cs, 0 ≤ c) (he : 0 ≤ e) (ht : e ≤ Lr.sm cs) : dueOf A cs e = none := by
  unfold dueOf
  rw [dueC_good h8 h0]
  show (if e < 0 ∨ Lr.sm cs < e then some A.aNoEstate else none) = none
  rw [if_neg]
  grind
inductive sp_lookC (K : PySem.W.Frag) (A : Ad) (vs : List V) (H : Hp) (Q : VK) (E : XK) : Prop
  | mk (a : Addr) (cs : List Rat) (h0_ : vs = [.ref a]) (h1_ : RatL K H a cs) (h2_ : (∀ c ∈ cs, Sz 9000 c)) (h3_ : (dueC A cs = none → Q .non H)) (h4_ : ∀ c, dueC A cs = some c → E (.ref c) none H) : sp_lookC K A vs H Q E
inductive sp_look (K : PySem.W.Frag) (A : Ad) (vs : List V) (H : Hp) (Q : VK) (E : XK) : Prop
  | mk (a : Addr) (v : V) (cs : List Rat) (e : Rat) (k : Nat) (D : Int) (h0_ : vs = [.ref a, v]) (h1_ : RatL K H a cs) (h2_ : RatV K H v e) (h3_ : Ob k D (e :: cs)) (h4_ : k ≤ 3000) (h5_ : (dueOf A cs e = none → ∀ H', Same H H' → Q .non H')) (h6_ : ∀ c, dueOf A cs e = some c → ∀ H', Same H H' → E (.ref c) none H') : sp_look K A vs H Q E
inductive sp_lack (K : PySem.W.Frag) (A : Ad) (vs : List V) (H : Hp) (Q : VK) (E : XK) : Prop
  | mk (a : Addr) (v : V) (cs : List Rat) (e : Rat) (k : Nat) (D : Int) (h0_ : vs = [.ref a, v]) (h1_ : RatL K H a cs) (h2_ : RatV K H v e) (h3_ : Ob k D (e :: cs)) (h4_ : k ≤ 3000) (h5_ : (dueOf A cs e = none → ∀ w H', Same H H' → RatV K H' w (Lr.sm cs - e) → Q w H')) (h6_ : ∀ c, dueOf A cs e = some c → ∀ H', Same H H' → E (.ref c) none H') : sp_lack K A vs H Q E
inductive sp_cless (K : PySem.W.Frag) (vs : List V) (H : Hp) (Q : VK) (E_ : XK) : Prop
  | mk (a b : Addr) (cs ps : List Rat) (m n : Nat) (h0_ : vs = [.ref a, .ref b]) (h1_ : RatL K H a cs) (h2_ : RatL K H b ps) (h3_ : (∀ c ∈ cs, Sz m c)) (h4_ : (∀ p ∈ ps, Sz n p)) (h5_ : m + n ≤ 9000) (h6_ : cs.length ≤ 1000) (h7_ : ps.length = cs.length) (h8_ : ∀ l H', Same H H' → H l = none → RatL K H' l (List.zipWith (· - ·) cs ps) → Q (.ref l) H') : sp_cless K vs H Q E_
inductive sp_gain (K : PySem.W.Frag) (A : Ad) (vs : List V) (H : Hp) (Q : VK) (E : XK) : Prop
  | mk (a : Addr) (v : V) (cs : List Rat) (e : Rat) (k : Nat) (D : Int) (h0_ : vs = [.ref a, v]) (h1_ : RatL K H a cs) (h2_ : RatV K H v e) (h3_ : Ob k D (e :: cs)) (h4_ : k ≤ 2500) (h5_ : (dueOf A cs e = none → ∀ w g H', Same H H' → RatV K H' w g → Lr.Gain cs e g → Lr.Ov (840 * D) (840 * 2 ^ k) g → Q w H')) (h6_ : ∀ c, dueOf A cs e = some c → ∀ H', Same H H' → E (.ref c) none H') : sp_gain K A vs H Q E
inductive sp_loss (K : PySem.W.Frag) (A : Ad) (vs : List V) (H : Hp) (Q : VK) (E : XK) : Prop
  | mk (a : Addr) (v : V) (cs : List Rat) (e : Rat) (k : Nat) (D : Int) (h0_ : vs = [.ref a, v]) (h1_ : RatL K H a cs) (h2_ : RatV K H v e) (h3_ : Ob k D (e :: cs)) (h4_ : k ≤ 2490) (h5_ : (dueOf A cs e = none → ∀ w g H', Same H H' → RatV K H' w g → Lr.Gain cs (Lr.sm cs - e) g → Lr.Ov (840 * D) (840 * 2 ^ (k + 4)) g → Q w H')) (h6_ : ∀ c, dueOf A cs e = some c → ∀ H', Same H H' → E (.ref c) none H') : sp_loss K A vs H Q E
inductive sp_rule (K : PySem.W.Frag) (due : List Rat → Rat → Option Addr) (R : List Rat → Rat → List Rat → Prop) (vs : List V) (H : Hp) (Q : VK) (E : XK) : Prop
  | mk (a : Addr) (v : V) (cs : List Rat) (e : Rat) (k : Nat) (D : Int) (h0_ : vs = [.ref a, v]) (h1_ : RatL K H a cs) (h2_ : RatV K H v e) (h3_ : Ob k D (e :: cs)) (h4_ : k ≤ 2400) (h5_ : (due cs e = none → ∀ l ps H', Same H H' → H l = none → RatL K H' l ps → R cs e ps → (∃ D', Ob (2 * k + 20) D' ps) → Q (.ref l) H')) (h6_ : ∀ c, due cs e = some c → ∀ H', Same H H' → E (.ref c) none H') : sp_rule K due R vs H Q E
noncomputable def Shares (cs : List Rat) (e : Rat) (ps : List Rat) : Prop := ps = cs.map fun c => if Lr.sm cs = 0 then 0 else c * (e / Lr.sm cs)
noncomputable def Gains (cs : List Rat) (e : Rat) (ps : List Rat) : Prop := ∃ g, Lr.Gain cs e g ∧ ps = cs.map (Lr.mn · g)
noncomputable def Losses (cs : List Rat) (e : Rat) (ps : List Rat) : Prop := ∃ g, Lr.Gain cs (Lr.sm cs - e) g ∧ ps = cs.map fun c => c - Lr.mn c g
noncomputable def Halves (cs : List Rat) (e : Rat) (ps : List Rat) : Prop := (e ≤ Lr.sm cs - e ∧ ∃ g, Lr.Gain (cs.map (· * Lr.rt 1 2)) e g ∧ ps = cs.map fun c => Lr.mn (c * Lr.rt 1 2) g) ∨
  (Lr.sm cs - e < e ∧ ∃ g, Lr.Gain (cs.map (· * Lr.rt 1 2)) (Lr.sm cs - e) g ∧ ps = cs.map fun c => c - Lr.mn (c * Lr.rt 1 2) g)
noncomputable abbrev sp_shares (K : PySem.W.Frag) (A : Ad) : Sp := sp_rule K (dueOf A) Shares
inductive sp_gains (K : PySem.W.Frag) (A : Ad) (vs : List V) (H : Hp) (Q : VK) (E : XK) : Prop
  | mk (a : Addr) (v : V) (cs : List Rat) (e : Rat) (k : Nat) (D : Int) (h0_ : vs = [.ref a, v]) (h1_ : RatL K H a cs) (h2_ : RatV K H v e) (h3_ : Ob k D (e :: cs)) (h4_ : k ≤ 2410) (h5_ : (dueOf A cs e = none → ∀ l ps H', Same H H' → H l = none → RatL K H' l ps → Gains cs e ps → Ob (k + 10) (840 * D) ps → Q (.ref l) H')) (h6_ : ∀ c, dueOf A cs e = some c → ∀ H', Same H H' → E (.ref c) none H') : sp_gains K A vs H Q E
noncomputable abbrev sp_losses (K : PySem.W.Frag) (A : Ad) : Sp := sp_rule K (dueOf A) Losses
noncomputable abbrev sp_halves (K : PySem.W.Frag) (A : Ad) : Sp := sp_rule K (dueOf A) Halves
noncomputable def word : Lr.Rl → Str
  | .sh => tx [115, 104, 97, 114, 101, 115]
  | .ga => tx [103, 97, 105, 110, 115]
  | .lo => tx [108, 111, 115, 115, 101, 115]
  | .ha => tx [104, 97, 108, 118, 101, 115]
  | .tu => tx [116, 117, 114, 110, 115]
theorem word_is {ρ ρ' : Lr.Rl} (h : word ρ = word ρ') : ρ = ρ' := by
  cases ρ <;> cases ρ' <;> first | rfl | exact absurd h (by decide +kernel)
noncomputable def wordsV : List V := [.str (tx [115, 104, 97, 114, 101, 115]), .str (tx [103, 97, 105, 110, 115]), .str (tx [108, 111, 115, 115, 101, 115]), .str (tx [104, 97, 108, 118, 101, 115]), .str (tx [116, 117, 114, 110, 115])]
theorem word_in (ρ : Lr.Rl) : inV (.str (word ρ)) wordsV = true := by cases ρ <;> decide +kernel
theorem in_word {s : Str} (h : inV (.str s) wordsV = true) : ∃ ρ, s = word ρ := by
  obtain ⟨y, hy, e⟩ := List.any_eq_true.mp h
  unfold wordsV at hy
  simp only [List.mem_cons, List.not_mem_nil, or_false] at hy
  rcases hy with rfl | rfl | rfl | rfl | rfl
  · exact ⟨.sh, (eq_of_beq e).symm⟩
  · exact ⟨.ga, (eq_of_beq e).symm⟩
  · exact ⟨.lo, (eq_of_beq e).symm⟩
  · exact ⟨.ha, (eq_of_beq e).symm⟩
  · exact ⟨.tu, (eq_of_beq e).symm⟩
theorem brB {b : Bool} {A B : Prop} (h1 : b = true → A) (h2 : b = false → B) : if b = true then A else B := by
  cases b with
  | true => rw [if_pos rfl]; exact h1 rfl
  | false => rw [if_neg (by decide)]; exact h2 rfl
inductive sp_lookR (A : Ad) (vs : List V) (H : Hp) (Q : VK) (E : XK) : Prop
  | mk (s : Str) (h0_ : vs = [.str s]) (h1_ : ((∃ ρ, s = word ρ) → Q .non H)) (h2_ : ((∀ ρ, s ≠ word ρ) → E (.ref A.aNoRule) none H)) : sp_lookR A vs H Q E
inductive sp_shared (K : PySem.W.Frag) (A : Ad) (vs : List V) (H : Hp) (Q : VK) (E : XK) : Prop
  | mk (ρ : Lr.Rl) (a : Addr) (v : V) (cs : List Rat) (e : Rat) (k : Nat) (D : Int) (h0_ : vs = [.str (word ρ), .ref a, v]) (h1_ : okR ρ) (h2_ : RatL K H a cs) (h3_ : RatV K H v e) (h4_ : Ob k D (e :: cs)) (h5_ : k ≤ 2400) (h6_ : (dueOf A cs e = none → ∀ l ps H', Same H H' → H l = none → RatL K H' l ps → Lr.RlR ρ cs e ps → (∃ D', Ob (2 * k + 40) D' ps) → Q (.ref l) H')) (h7_ : ∀ c, dueOf A cs e = some c → ∀ H', Same H H' → E (.ref c) none H') : sp_shared K A vs H Q E
inductive sp_lookRP (A : Ad) (vs : List V) (H : Hp) (Q : VK) (E : XK) : Prop
  | mk (s : Str) (h0_ : vs = [.str s]) (h1_ : ((∃ ρ, ρ ≠ Lr.Rl.tu ∧ s = word ρ) → Q .non H)) (h2_ : ((∀ ρ, ρ ≠ Lr.Rl.tu → s ≠ word ρ) → E (.ref A.aNoRule) none H)) : sp_lookRP A vs H Q E
noncomputable abbrev Est (cs : List Rat) (t : Rat) : Rat := Lr.sm (cs.map (Lr.mn · t))
inductive sp_eac (K : PySem.W.Frag) (vs : List V) (H : Hp) (Q : VK) (E_ : XK) : Prop
  | mk (a : Addr) (cs : List Rat) (k : Nat) (D : Int) (h0_ : vs = [.ref a]) (h1_ : RatL K H a cs) (h2_ : Ob k D cs) (h3_ : k ≤ 600) (h4_ : cs.length ≤ 8) (h5_ : (∀ c ∈ cs, 0 ≤ c)) (h6_ : ∀ l ls H', Same H H' → H l = none → RatL K H' l (ls.map (Est cs)) → Lr.Lvl cs ls → ls.length ≤ 9 → Q (.ref l) H') : sp_eac K vs H Q E_
inductive sp_troun (K : PySem.W.Frag) (vs : List V) (H : Hp) (Q : VK) (E_ : XK) : Prop
  | mk (v : V) (a : Addr) (T : Rat) (es : List Rat) (m n : Nat) (h0_ : vs = [v, .ref a]) (h1_ : RatV K H v T) (h2_ : RatL K H a es) (h3_ : Sz m T) (h4_ : (∀ e ∈ es, Sz n e)) (h5_ : m + n ≤ 9000) (h6_ : es.length ≤ 100) (h7_ : ∀ l H', Same H H' → H l = none → RatL K H' l (es.reverse.map (T - ·)) → Q (.ref l) H') : sp_troun K vs H Q E_
noncomputable def PathF (cs : List Rat) (ρ : Lr.Rl) (Fs : List (Rat → Rat)) : Prop := (Lr.sm cs = 0 ∧ Fs = [fun _ => 0]) ∨ (Lr.sm cs ≠ 0 ∧ ∃ ls, Lr.Lvl cs ls ∧ ls.length ≤ 9 ∧ Fs = Lr.kn ls ρ)
noncomputable abbrev smF (cs : List Rat) (F : Rat → Rat) : Rat := Lr.sm (cs.map F)
inductive sp_eok (K : PySem.W.Frag) (vs : List V) (H : Hp) (Q : VK) (E_ : XK) : Prop
  | mk (ρ : Lr.Rl) (a : Addr) (cs : List Rat) (k : Nat) (D : Int) (h0_ : vs = [.str (word ρ), .ref a]) (h1_ : ρ ≠ .tu) (h2_ : RatL K H a cs) (h3_ : Ob k D cs) (h4_ : k ≤ 600) (h5_ : cs.length ≤ 8) (h6_ : (∀ c ∈ cs, 0 ≤ c)) (h7_ : ∀ l Fs H', Same H H' → H l = none → RatL K H' l (Fs.map (smF cs)) → PathF cs ρ Fs → Q (.ref l) H') : sp_eok K vs H Q E_
noncomputable def KnV (K : PySem.W.Frag) (H0 H : Hp) (cs : List Rat) (v : V) (F : Rat → Rat) : Prop := ∃ (t p : Addr) (w : V), v = .ref t ∧ H t = some (.tup [w, .ref p]) ∧ H0 p = none ∧ RatV K H w (smF cs F) ∧ RatL K H p (cs.map F)
theorem KnV.same {K : PySem.W.Frag} {H0 H H' : Hp} {cs : List Rat} {v : V} {F : Rat → Rat} (s : Same H H') (h : KnV K H0 H cs v F) : KnV K H0 H' cs v F := let ⟨t, p, w, e, a, f, b, c⟩ := h; ⟨t, p, w, e, s _ _ a, f, b.same s, c.same s⟩
structure KnsV (K : PySem.W.Frag) (H0 H : Hp) (cs : List Rat) (vs : List V) (Fs : List (Rat → Rat)) : Prop where
  len : vs.length = Fs.length
  at_ : ∀ (j : Nat) v F, vs[j]? = some v → Fs[j]? = some F → KnV K H0 H cs v F
inductive sp_path (K : PySem.W.Frag) (A : Ad) (vs : List V) (H : Hp) (Q : VK) (E : XK) : Prop
  | mk (s : Str) (a : Addr) (cs : List Rat) (k : Nat) (D : Int) (h0_ : vs = [.str s, .ref a]) (h1_ : RatL K H a cs) (h2_ : Ob k D cs) (h3_ : k ≤ 600) (h4_ : (∀ ρ, ρ ≠ Lr.Rl.tu → s = word ρ → dueC A cs = none → ∀ l us Fs H', Same H H' → H l = none → H' l = some (.lst us) → KnsV K H H' cs us Fs → PathF cs ρ Fs → Q (.ref l) H')) (h5_ : ((∀ ρ, ρ ≠ Lr.Rl.tu → s ≠ word ρ) → E (.ref A.aNoRule) none H)) (h6_ : ∀ c, (∃ ρ, ρ ≠ Lr.Rl.tu ∧ s = word ρ) → dueC A cs = some c → E (.ref c) none H) : sp_path K A vs H Q E
inductive sp_lookA (K : PySem.W.Frag) (A : Ad) (vs : List V) (H : Hp) (Q : VK) (E : XK) : Prop
  | mk (a : Addr) (i : Int) (v : V) (cs : List Rat) (x : Rat) (h0_ : vs = [.ref a, .int i, v]) (h1_ : RatL K H a cs) (h2_ : RatV K H v x) (h3_ : (∀ c ∈ cs, Sz 9000 c)) (h4_ : Sz 9000 x) (h5_ : ((i < 0 ∨ (cs.length : Int) ≤ i) → E (.ref A.aNoClaimer) none H)) (h6_ : ∀ (j : Nat) c, i = (j : Int) → cs[j]? = some c → ((x < 0 ∨ c < x) → E (.ref A.aNoAmount) none H) ∧ (0 ≤ x → x ≤ c → Q .non H)) : sp_lookA K A vs H Q E
inductive sp_betw (K : PySem.W.Frag) (vs : List V) (H : Hp) (Q : VK) (E_ : XK) : Prop
  | mk (t u p q : Addr) (j : Nat) (v w1 w2 : V) (e1 e2 a b x : Rat) (ps qs : List Rat) (h0_ : vs = [.ref t, .ref u, .int (j : Int), v]) (h1_ : H t = some (.tup [w1, .ref p])) (h2_ : H u = some (.tup [w2, .ref q])) (h3_ : RatV K H w1 e1) (h4_ : RatV K H w2 e2) (h5_ : RatL K H p ps) (h6_ : RatL K H q qs) (h7_ : ps[j]? = some a) (h8_ : qs[j]? = some b) (h9_ : RatV K H v x) (h10_ : Sz 800 e1) (h11_ : Sz 800 e2) (h12_ : Sz 800 a) (h13_ : Sz 800 b) (h14_ : Sz 800 x) (h15_ : b - a ≠ 0) (h16_ : ∀ z H', New H z (pr (e1 + (x - a) * ((e2 - e1) / (b - a)))) H' ∨ (Same H H' ∧ RatV K H' (.ref z) (e1 + (x - a) * ((e2 - e1) / (b - a)))) → Q (.ref z) H') : sp_betw K vs H Q E_
noncomputable def NeedV (ρ : Lr.Rl) (cs : List Rat) (c x : Rat) : Rat := if x = 0 then 0 else smF cs (Lr.need ρ c x)
inductive sp_needed (K : PySem.W.Frag) (A : Ad) (vs : List V) (H : Hp) (Q : VK) (E : XK) : Prop
  | mk (s : Str) (a : Addr) (i : Int) (v : V) (cs : List Rat) (x : Rat) (k : Nat) (D : Int) (h0_ : vs = [.str s, .ref a, .int i, v]) (h1_ : RatL K H a cs) (h2_ : RatV K H v x) (h3_ : Ob k D cs) (h4_ : k ≤ 600) (h5_ : Sz 800 x) (h6_ : (∀ ρ (j : Nat) c, ρ ≠ Lr.Rl.tu → s = word ρ → dueC A cs = none → i = (j : Int) → cs[j]? = some c → 0 ≤ x → x ≤ c → ∀ w H', Same H H' → RatV K H' w (NeedV ρ cs c x) → Q w H')) (h7_ : ((∀ ρ, ρ ≠ Lr.Rl.tu → s ≠ word ρ) → E (.ref A.aNoRule) none H)) (h8_ : (∀ c, (∃ ρ, ρ ≠ Lr.Rl.tu ∧ s = word ρ) → dueC A cs = some c → E (.ref c) none H)) (h9_ : ((∃ ρ, ρ ≠ Lr.Rl.tu ∧ s = word ρ) → dueC A cs = none → (i < 0 ∨ (cs.length : Int) ≤ i) → ∀ H', Same H H' → E (.ref A.aNoClaimer) none H')) (h10_ : ∀ (j : Nat) c, (∃ ρ, ρ ≠ Lr.Rl.tu ∧ s = word ρ) → dueC A cs = none → i = (j : Int) → cs[j]? = some c → (x < 0 ∨ c < x) → ∀ H', Same H H' → E (.ref A.aNoAmount) none H') : sp_needed K A vs H Q E
theorem ovHf {D : Int} {M : Nat} {x : Rat} (hD : 0 < D) (h : Lr.Ov D M x) : Lr.Ov (2 * D) M (x * Lr.rt 1 2) := by
  obtain ⟨n, rfl, hn⟩ := h
  refine ⟨n, ?_, hn⟩
  rw [Lr.rt_mul (by omega) (by decide), Int.mul_one, Int.mul_comm]
theorem ov_dbl {D : Int} {M : Nat} {x : Rat} (hD : 0 < D) (h : Lr.Ov D M x) : Lr.Ov (2 * D) (2 * M) x := by
  obtain ⟨n, rfl, hn⟩ := h
  exact ⟨2 * n, by rw [Lr.rt_wide' hD (show (0 : Int) < 2 by decide), Int.mul_comm D 2], by omega⟩
theorem lvl_ov {cs ls : List Rat} {k : Nat} {D : Int} (hO : Ob k D cs) (L : Lr.Lvl cs ls) {t : Rat} (ht : t ∈ ls) : Lr.Ov D (2 ^ k) t := by
  rcases (L.mem t).mp ht with rfl | h
  · exact Lr.Ov.zero hO.pos
  · exact hO.ov t h
theorem PathF.ov {cs : List Rat} {ρ : Lr.Rl} {Fs : List (Rat → Rat)} {k : Nat} {D : Int} (h : PathF cs ρ Fs) (hO : Ob k D cs) {F : Rat → Rat} (hF : F ∈ Fs) {c : Rat} (hc : c ∈ cs) : Lr.Ov (2 * D) (2 ^ (k + 2)) (F c) := by
  have hD := hO.pos
  have hD2 : 0 < 2 * D := by omega
  have e4 : (2 : Nat) ^ (k + 2) = 4 * 2 ^ k := by rw [Nat.pow_add, Nat.mul_comm]
  have cov := hO.ov c hc
  rcases h with ⟨_, rfl⟩ | ⟨_, ls, L, _, rfl⟩
  · rw [List.mem_singleton.mp hF]
    exact Lr.Ov.zero hD2
  have mov : ∀ t ∈ ls, Lr.Ov D (2 ^ k) (Lr.mn c t) := fun t ht => cov.mn (lvl_ov hO L ht)
  cases ρ with
  | tu => cases hF
  | sh =>
    rcases List.mem_cons.mp hF with rfl | hF
    · exact Lr.Ov.zero hD2
    · rw [List.mem_singleton.mp hF]
      exact (ov_dbl hD cov).mono (by omega)
  | ga =>
    obtain ⟨t, ht, rfl⟩ := List.mem_map.mp hF
    exact (ov_dbl hD (mov t ht)).mono (by omega)
  | lo =>
    obtain ⟨t, ht, rfl⟩ := List.mem_map.mp hF
    exact (ov_dbl hD (cov.sub hD (mov t (List.mem_reverse.mp ht)))).mono (by omega)
  | ha =>
    rcases List.mem_append.mp hF with hF | hF
    · obtain ⟨t, ht, rfl⟩ := List.mem_map.mp hF
      show Lr.Ov (2 * D) _ (Lr.mn (c * Lr.rt 1 2) (t * Lr.rt 1 2))
      rw [Lr.mn_half]
      exact (ovHf hD (mov t ((List.dropLast_subset ls) ht))).mono (by omega)
    · obtain ⟨t, ht, rfl⟩ := List.mem_map.mp hF
      show Lr.Ov (2 * D) _ (c - Lr.mn (c * Lr.rt 1 2) (t * Lr.rt 1 2))
      rw [Lr.mn_half]
      exact ((ov_dbl hD cov).sub hD2 (ovHf hD (mov t ((List.dropLast_subset ls) (List.mem_reverse.mp ht))))).mono (by omega)
theorem PathF.ob {cs : List Rat} {ρ : Lr.Rl} {Fs : List (Rat → Rat)} {k : Nat} {D : Int} (h : PathF cs ρ Fs) (hO : Ob k D cs) (h8 : cs.length ≤ 8) {F : Rat → Rat} (hF : F ∈ Fs) : Ob (k + 5) (2 * D) (smF cs F :: (cs.map F ++ cs)) := by
  have hD := hO.pos
  have hD2 : 0 < 2 * D := by omega
  have e1 : (2 : Nat) ^ (k + 5) = 32 * 2 ^ k := by rw [Nat.pow_add, Nat.mul_comm]
  have e4 : (2 : Nat) ^ (k + 2) = 4 * 2 ^ k := by rw [Nat.pow_add, Nat.mul_comm]
  have one : ∀ y ∈ cs.map F, Lr.Ov (2 * D) (2 ^ (k + 2)) y := fun y hy => by
    obtain ⟨c, hc, rfl⟩ := List.mem_map.mp hy
    exact h.ov hO hF hc
  have hb : Bd (k + 1) (2 * D) := by
    have := Bd.mul (Bd.of_lt (n := 2) (show (2 : Int).natAbs < 2 ^ 2 by decide)) hO.bd (Nat.le_refl _)
    have h1 : D.natAbs < 2 ^ k := intBits_le_iff.mp hO.bd
    refine Bd.of_lt ?_
    rw [Int.natAbs_mul, Nat.pow_succ]
    show 2 * D.natAbs < _
    omega
  refine ⟨hD2, hb.mono (by omega), fun y hy => ?_⟩
  rcases List.mem_cons.mp hy with rfl | hy
  · refine (Lr.Ov.sm hD2 one).mono ?_
    rw [List.length_map, e1, e4]
    have : cs.length * (4 * 2 ^ k) ≤ 8 * (4 * 2 ^ k) := Nat.mul_le_mul_right _ h8
    omega
  rcases List.mem_append.mp hy with hy | hy
  · exact (one y hy).mono (by omega)
  · exact (ov_dbl hD (hO.ov y hy)).mono (by omega)
theorem PathF.af {cs : List Rat} {ρ : Lr.Rl} {Fs : List (Rat → Rat)} (h : PathF cs ρ Fs) (hρ : ρ ≠ .tu) (nn : ∀ c ∈ cs, 0 ≤ c) {F : Rat → Rat} (hF : F ∈ Fs) : ∃ G, Lr.AF ρ G ∧ cs.map F = cs.map G := by
  rcases h with ⟨hz, rfl⟩ | ⟨_, ls, L, _, rfl⟩
  · rw [List.mem_singleton.mp hF]
    have z := Lr.sm_zero_all nn hz
    cases ρ with
    | tu => exact absurd rfl hρ
    | sh => exact ⟨fun c => c * 0, ⟨0, Rat.le_refl, by decide, rfl⟩, List.map_congr_left fun c hc => by grind⟩
    | ga => exact ⟨fun c => Lr.mn c 0, ⟨0, Rat.le_refl, rfl⟩, List.map_congr_left fun c hc => by rw [z c hc]; exact (Lr.mn_l Rat.le_refl).symm⟩
    | lo => exact ⟨fun c => c - Lr.mn c 0, ⟨0, Rat.le_refl, rfl⟩, List.map_congr_left fun c hc => by rw [z c hc, Lr.mn_l Rat.le_refl]; grind⟩
    | ha => exact ⟨fun c => Lr.mn (c * Lr.rt 1 2) 0, ⟨0, Rat.le_refl, .inl rfl⟩, List.map_congr_left fun c hc => by rw [z c hc, show (0 : Rat) * Lr.rt 1 2 = 0 by grind]; exact (Lr.mn_l Rat.le_refl).symm⟩
  · exact ⟨F, Lr.kn_af L nn hF, rfl⟩
theorem PathF.head {cs : List Rat} {ρ : Lr.Rl} {Fs : List (Rat → Rat)} (h : PathF cs ρ Fs) (hρ : ρ ≠ .tu) (nn : ∀ c ∈ cs, 0 ≤ c) : ∃ F, Fs[0]? = some F ∧ ∀ c ∈ cs, F c = 0 := by
  rcases h with ⟨hz, rfl⟩ | ⟨hz, ls, L, _, rfl⟩
  · exact ⟨_, rfl, fun _ _ => rfl⟩
  · exact Lr.kn_head L nn hz hρ
theorem PathF.last {cs : List Rat} {ρ : Lr.Rl} {Fs : List (Rat → Rat)} (h : PathF cs ρ Fs) (hρ : ρ ≠ .tu) (nn : ∀ c ∈ cs, 0 ≤ c) : ∃ F, Fs[Fs.length - 1]? = some F ∧ ∀ c ∈ cs, F c = c := by
  rcases h with ⟨hz, rfl⟩ | ⟨hz, ls, L, _, rfl⟩
  · exact ⟨_, rfl, fun c hc => (Lr.sm_zero_all nn hz c hc).symm⟩
  · exact Lr.kn_last L nn hz hρ
theorem PathF.seg {cs : List Rat} {ρ : Lr.Rl} {Fs : List (Rat → Rat)} (h : PathF cs ρ Fs) (hρ : ρ ≠ .tu) (nn : ∀ c ∈ cs, 0 ≤ c) : Lr.Adj2 (Lr.Seg ρ cs) Fs := by
  rcases h with ⟨hz, rfl⟩ | ⟨hz, ls, L, _, rfl⟩
  · intro j a b ha hb
    exact absurd (Lr.lt_of_some hb) (by simp)
  · exact L.seg nn hz hρ
theorem PathF.len {cs : List Rat} {ρ : Lr.Rl} {Fs : List (Rat → Rat)} (h : PathF cs ρ Fs) : Fs.length ≤ 18 := by
  rcases h with ⟨hz, rfl⟩ | ⟨hz, ls, L, hl, rfl⟩
  · show 1 ≤ 18
    omega
  · cases ρ <;> simp [Lr.kn] <;> omega
inductive sp_cell (K : PySem.W.Frag) (vs : List V) (H : Hp) (Q : VK) (E_ : XK) : Prop
  | mk (a : Addr) (ns : List Int) (k : Int) (h0_ : vs = [.ref a, .int k]) (h1_ : SqL K H a (ns.map V.int)) (h2_ : 0 ≤ k) (h3_ : ∀ v : Int, Q (.int v) H) : sp_cell K vs H Q E_
inductive sp_l_ratio (vs : List V) (H : Hp) (Q : VK) (E_ : XK) : Prop
  | mk (a b : Int) (h0_ : vs = [.int a, .int b]) (h1_ : 0 < b) (h2_ : Bd 9000 b) (h3_ : ∀ z H', New H z (pr (Lr.rt a b)) H' → Q (.ref z) H') : sp_l_ratio vs H Q E_
noncomputable def Cl (ws : List Int) : Prop := ws.length ≤ 8 ∧ ∀ w ∈ ws, 0 ≤ w ∧ w < 10 ^ 36 ∧ w % 2 = 0
inductive sp_q_claims (K : PySem.W.Frag) (vs : List V) (H : Hp) (Q : VK) (E_ : XK) : Prop
  | mk (a : Addr) (ns : List Int) (st : Int) (h0_ : vs = [.ref a, .int st]) (h1_ : SqL K H a (ns.map V.int)) (h2_ : 0 ≤ st) (h3_ : ∀ l (ws : List Int) H', Same H H' → H l = none → H' l = some (.lst (ws.map V.int)) → Cl ws → Q (.ref l) H') : sp_q_claims K vs H Q E_
noncomputable abbrev r55 (w : Int) : Rat := Lr.rt w 55440
theorem ifS {p : Prop} [Decidable p] {A : Prop} {N : St → Hp → Prop} {σ : St} {H : Hp} (C : St → Hp → Prop) (h : ∀ σ H, C σ H → N σ H) (h2 : ¬ p → C σ H) (h1 : p → (∀ σ H, C σ H → N σ H) → A) : if decide p = true then A else N σ H := br (fun c => h1 c h) fun c => h _ _ (h2 c)
theorem brF {A B : Prop} (h : B) : if false = true then A else B := by
  rw [if_neg (by decide)]
  exact h
theorem ifSA {p : Prop} [Decidable p] {A B : Prop} {N : St → Hp → Prop} {σ : St} {H : Hp} (C : St → Hp → Prop) (h : ∀ σ H, C σ H → N σ H) (h2 : C σ H) (h1 : p → (∀ σ H, C σ H → N σ H) → A) : if decide p = true then A else if false = true then B else N σ H := br (fun c => h1 c h) fun _ => brF (h _ _ h2)
noncomputable def DueP (A : Ad) (s : Str) (cs : List Rat) (d : Option Addr) : Prop := ((∀ ρ, ρ ≠ Lr.Rl.tu → s ≠ word ρ) ∧ d = some A.aNoRule) ∨ ((∃ ρ, ρ ≠ Lr.Rl.tu ∧ s = word ρ) ∧ dueC A cs = d)
noncomputable def DueN (A : Ad) (s : Str) (cs : List Rat) (i : Int) (x : Rat) (d : Option Addr) : Prop := (DueP A s cs d ∧ d ≠ none) ∨
  (DueP A s cs none ∧ (((i < 0 ∨ (cs.length : Int) ≤ i) ∧ d = some A.aNoClaimer) ∨ ∃ (j : Nat) (c : Rat), i = (j : Int) ∧ cs[j]? = some c ∧ (((x < 0 ∨ c < x) ∧ d = some A.aNoAmount) ∨ (0 ≤ x ∧ x ≤ c ∧ d = none))))
noncomputable def dueW (A : Ad) (n : Int) : Option Addr := if n = 0 then some A.aNoRule else if n = 1 then some A.aTooMany else if n = 2 then some A.aNoClaim else if n = 3 then some A.aNoClaimer else if n = 4 then some A.aNoAmount else none
noncomputable def kindsN (n : Int) : List V := if n = 9 then [] else [.bl (decide (n = 0)), .bl (decide (n = 1)), .bl (decide (n = 2)), .bl (decide (n = 3)), .bl (decide (n = 4)), .bl true, .bl false]
inductive sp_n_kinds (K : PySem.W.Frag) (A : Ad) (vs : List V) (H : Hp) (Q : VK) (E_ : XK) : Prop
  | mk (t : Int) (s : Str) (a : Addr) (i : Int) (v : V) (cs : List Rat) (x : Rat) (k : Nat) (D : Int) (n : Int) (h0_ : vs = [.int t, .str s, .ref a, .int i, v]) (h1_ : RatL K H a cs) (h2_ : RatV K H v x) (h3_ : Ob k D cs) (h4_ : k ≤ 600) (h5_ : Sz 800 x) (h6_ : (t = 0 → DueP A s cs (dueW A n))) (h7_ : (t ≠ 0 → DueN A s cs i x (dueW A n))) (h8_ : (n = 9 ∨ (0 ≤ n ∧ n ≤ 4))) (h9_ : ∀ l H', Same H H' → H' l = some (.lst (kindsN n)) → Q (.ref l) H') : sp_n_kinds K A vs H Q E_
noncomputable def firstB : List Bool → Int
  | [] => 9
  | b :: r => if b = true then 0 else if firstB r = 9 then 9 else 1 + firstB r
inductive sp_n_first (K : PySem.W.Frag) (vs : List V) (H : Hp) (Q : VK) (E_ : XK) : Prop
  | mk (l : Addr) (W : List Bool) (h0_ : vs = [.ref l]) (h1_ : SqL K H l (W.map V.bl)) (h2_ : W.length ≤ 5) (h3_ : Q (.int (firstB W)) H) : sp_n_first K vs H Q E_
inductive sp_n_right (vs : List V) (H : Hp) (Q : VK) (E_ : XK) : Prop
  | mk (l : Addr) (n : Int) (h0_ : vs = [.ref l, .int n]) (h1_ : H l = some (.lst (kindsN n))) (h2_ : (n = 9 ∨ (0 ≤ n ∧ n ≤ 4))) (h3_ : ∀ H', Same H H' → Q (.bl true) H') : sp_n_right vs H Q E_
section
variable {P : Program} {w : World} {K : PySem.W.Frag} {mg : Str → Option Value} {base : Heap} {f : Addr} {fd : FuncData} {Ad : Ad}
theorem m9 {m n : Nat} {i j : Int} (h1 : Bd m i) (h2 : Bd n j) (l : m + n ≤ 9000) : CMulB i j := CMulB.of (m := 9000) (h1.mono (by omega)) (h2.mono (by omega)) (by decide)
theorem mm9 {i j : Int} (h1 : Bd 9000 i) (h2 : Bd 9000 j) : CMulB i j := CMulB.of h1 h2 (by decide)
set_option maxHeartbeats 20000000 in
theorem cal_by_turns (F : Has K mg "by_turns" s_by_turns ["claims", "estate"] f fd) (En : Env K mg Ad) : CalE P w K mg base "by_turns" 1 ["claims", "estate"] (sp_stub) := by
  exact F.calE (F.fn.okE sc_by_turns (fun vs H Q E h => h.elim) (fun cdv A outer s H vs Q E hr h => h.elim))
set_option maxHeartbeats 20000000 in
theorem cal_is_whole (F : Has K mg "is_whole" s_is_whole ["value"] f fd) (En : Env K mg Ad) : CalE P w K mg base "is_whole" 1 ["value"] (sp_is_whole) := by
  refine F.calE (F.fn.okE sc_is_whole (fun vs H Q E h => ?_) (fun cdv A outer s H vs Q E hr h => ?_))
  · obtain ⟨a, rfl, k⟩ := h
    rfl
  obtain ⟨a, rfl, k⟩ := h
  refine ⟨_, (pss_one (ps_ret (d_and (pe_callB d_isi rfl En.b_isinstance PyProof.Rows.boot_isinstance (pa_cons (dv 0) (pa_cons (pe_bltn (v := .ty "int") rfl En.b_int PyProof.Rows.boot_int rfl) pa_nil))) (pe_one (d_not (pe_callB d_isi rfl En.b_isinstance PyProof.Rows.boot_isinstance (pa_cons (dv 0) (pa_cons (pe_bltn (v := .ty "bool") rfl En.b_bool PyProof.Rows.boot_bool rfl) pa_nil)))))))), ?_⟩
  exact ⟨_, _, .int _, En.T.ii, _, _, .int _, En.T.ib, k⟩
theorem gcd_abs {a b : Int} : Int.gcd (if a < 0 then -a else a) (if b < 0 then -b else b) = Int.gcd a b := by
  unfold Int.gcd
  congr 1 <;> (split <;> omega)
set_option maxHeartbeats 20000000 in
theorem cal_common_divisor (F : Has K mg "common_divisor" s_common_divisor ["one", "other"] f fd) (En : Env K mg Ad) : CalE P w K mg base "common_divisor" 1 ["one", "other"] (sp_gcd) := by
  refine F.calE (F.fn.okE sc_common_divisor (fun vs H Q E h => ?_) (fun cdv A outer s H vs Q E hr h => ?_))
  · obtain ⟨a, b, rfl, k⟩ := h
    rfl
  obtain ⟨a, b, rfl, k⟩ := h
  refine ⟨_, (pss_cons (ps_set (i := 2) sc_common_divisor.nd rfl (Or.inl rfl) (pe_callB d_abs rfl En.b_abs PyProof.Rows.boot_abs (pa_cons (dv 0) pa_nil)))
    (pss_cons (ps_set (i := 3) sc_common_divisor.nd rfl (Or.inl rfl) (pe_callB d_abs rfl En.b_abs PyProof.Rows.boot_abs (pa_cons (dv 1) pa_nil)))
    (pss_cons (ps_while PassesOwn.leaving (dt_cmp d_ne (dv 3) pe_int (nomark _))
      (pss_cons (ps_set (i := 4) sc_common_divisor.nd rfl (Or.inl rfl) (pe_op d_mod (dv 2) (dv 3)))
    (pss_cons (ps_set (i := 2) sc_common_divisor.nd rfl (Or.inl rfl) (dv 3))
    (pss_one (ps_set (i := 3) sc_common_divisor.nd rfl (Or.inl rfl) (dv 4))))))
    (pss_one (ps_ret (dv 2)))))), ?_⟩
  refine whl (fun m σ H' => H' = H ∧ ∃ (x y : Int) (z : Option V), σ = [some (.int a), some (.int b), some (.int x), some (.int y), z] ∧ 0 ≤ x ∧ 0 ≤ y ∧ Int.gcd x y = Int.gcd a b ∧ m = y.toNat) _ ⟨rfl, _, _, none, rfl, by split <;> omega, by split <;> omega, gcd_abs, rfl⟩ ?_
  rintro m σ H' ⟨rfl, x, y, z, rfl, hx, hy, hg, rfl⟩
  refine brN (fun c => whl_in ?_) (fun c => ?_)
  · have c' : 0 < y := by omega
    have q1 := Int.emod_nonneg x c
    have q2 := Int.emod_lt_of_pos x c'
    exact ⟨c', _, by omega, rfl, y, x % y, _, rfl, by omega, q1, by rw [Lm.gcd_turn]; exact hg, rfl⟩
  · subst c
    have e : x = ((Int.gcd a b : Nat) : Int) := by
      rw [← hg, Int.gcd_zero_right]
      omega
    show Q (.int x) _
    rw [e]
    exact k
theorem dv_bd {a b : Int} {n : Nat} (hb : b ≠ 0) (h : Bd n b) : Bd n (Lm.dv a b) := h.of_le (by
  rw [Lm.natAbs_dv]
  exact Nat.le_of_dvd (by omega) (Int.gcd_dvd_natAbs_right a b))
set_option maxHeartbeats 20000000 in
theorem cal_ratio (F : Has K mg "ratio" s_ratio ["top", "bottom"] f fd) (En : Env K mg Ad) (G_common_divisor : CalE P w K mg base "common_divisor" 1 ["one", "other"] (sp_gcd)) (G_is_whole : CalE P w K mg base "is_whole" 1 ["value"] (sp_is_whole)) : CalE P w K mg base "ratio" 2 ["top", "bottom"] (sp_ratio) := by
  refine F.calE (F.fn.okE sc_ratio (fun vs H Q E h => ?_) (fun cdv A outer s H vs Q E hr h => ?_))
  · obtain ⟨a, b, rfl, hb, h9, k0⟩ := h
    rfl
  obtain ⟨a, b, rfl, hb, h9, k0⟩ := h
  refine ⟨_, (pss_cons (ps_if (PW.pt (pw_or (pt_not (dt_val (pe_callP G_is_whole hr (by decide) rfl (pa_cons (dv 0) pa_nil)))) (pw_or1 (pt_not (dt_val (pe_callP G_is_whole hr (by decide) rfl (pa_cons (dv 1) pa_nil)))))))
      (pss_one (ps_raise En.e_NoRatio rfl (pa_cons (d_str (l := [97, 32, 114, 97, 116, 105, 111, 32, 105, 115, 32, 109, 97, 100, 101, 32, 111, 102, 32, 116, 119, 111, 32, 119, 104, 111, 108, 101, 32, 110, 117, 109, 98, 101, 114, 115]) (by decide +kernel)) pa_nil)))
      pss_nil)
    (pss_cons (ps_if (dt_cmp d_eq (dv 1) pe_int (nomark _))
      (pss_one (ps_raise En.e_NoRatio rfl (pa_cons (d_str (l := [116, 104, 101, 32, 98, 111, 116, 116, 111, 109, 32, 111, 102, 32, 97, 32, 114, 97, 116, 105, 111, 32, 105, 115, 32, 110, 111, 116, 32, 48]) (by decide +kernel)) pa_nil)))
      pss_nil)
    (pss_cons (ps_set (i := 2) sc_ratio.nd rfl (Or.inl rfl) (pe_callP G_common_divisor hr (by decide) rfl (pa_cons (dv 0) (pa_cons (dv 1) pa_nil))))
    (pss_cons (ps_if (dt_cmp d_lt (dv 1) pe_int (nomark _))
      (pss_one (ps_set (i := 2) sc_ratio.nd rfl (Or.inl rfl) (pe_un d_neg (dv 2))))
      pss_nil)
    (pss_one (ps_ret (d_tup (pa_cons (pe_op d_fdiv (dv 0) (dv 2)) (pa_cons (pe_op d_fdiv (dv 1) (dv 2)) pa_nil))))))))), ?_⟩
  have k : ∀ z H', New H z (.tup [.int (Lm.mk1 a b), .int (Lm.mk2 a b)]) H' → Q (.ref z) H' := fun z H' n => k0 z H' (by
    have e := Lr.rt_mk (a := a) hb
    rw [e.1, e.2] at n
    exact n)
  refine ⟨a, rfl, b, rfl, ?_⟩
  refine br (fun c => absurd c hb) (fun _ => ?_)
  refine ⟨a, b, rfl, ?_⟩
  have hd := Lm.dv_ne (a := a) hb
  have h8 := dv_bd (a := a) hb h9
  refine br (fun c => ?_) (fun c => ?_)
  · have e : Lm.dv a b = -(Int.gcd a b : Int) := if_pos c
    rw [e] at hd h8
    refine ⟨⟨hd, h8⟩, ⟨hd, h8⟩, fun p H' n => ?_⟩
    have := k p H'
    unfold Lm.mk1 Lm.mk2 at this
    rw [e] at this
    exact this n
  · have e : Lm.dv a b = (Int.gcd a b : Int) := if_neg c
    rw [e] at hd h8
    refine ⟨⟨hd, h8⟩, ⟨hd, h8⟩, fun p H' n => ?_⟩
    have := k p H'
    unfold Lm.mk1 Lm.mk2 at this
    rw [e] at this
    exact this n
set_option maxHeartbeats 20000000 in
theorem cal_plus (F : Has K mg "plus" s_plus ["one", "other"] f fd) (En : Env K mg Ad) (G_ratio : CalE P w K mg base "ratio" 2 ["top", "bottom"] (sp_ratio)) : CalE P w K mg base "plus" 3 ["one", "other"] (sp_plus K) := by
  refine F.calE (F.fn.okE sc_plus (fun vs H Q E h => ?_) (fun cdv A outer s H vs Q E hr h => ?_))
  · obtain ⟨v, w', x, y, m, n, rfl, hv, hw, zx, zy, hmn, -, k⟩ := h
    rfl
  obtain ⟨v, w', x, y, m, n, rfl, hv, hw, zx, zy, hmn, -, k⟩ := h
  refine ⟨_, (pss_one (ps_ret (pe_callP G_ratio hr (by decide) rfl (pa_cons (pe_op d_add (pe_op d_mul (pe_ix d_ixR (dv 0) pe_int (fun _ _ => rfl)) (pe_ix d_ixR (dv 1) pe_int (fun _ _ => rfl))) (pe_op d_mul (pe_ix d_ixR (dv 1) pe_int (fun _ _ => rfl)) (pe_ix d_ixR (dv 0) pe_int (fun _ _ => rfl)))) (pa_cons (pe_op d_mul (pe_ix d_ixR (dv 0) pe_int (fun _ _ => rfl)) (pe_ix d_ixR (dv 1) pe_int (fun _ _ => rfl))) pa_nil))))), ?_⟩
  refine ⟨x, hv, .inl ⟨rfl, y, hw, .inr ⟨rfl, m9 zx.n zy.d hmn, y, hw, .inl ⟨rfl, x, hv, .inr ⟨rfl, m9 zy.n zx.d (by omega), x, hv, .inr ⟨rfl, y, hw, .inr ⟨rfl, m9 zx.d zy.d hmn, _, _, rfl, Int.mul_ne_zero (den_ne x) (den_ne y), zx.d.mul zy.d hmn, fun z H' n => k z H' ?_⟩⟩⟩⟩⟩⟩⟩
  show New H z (pr (x + y)) H'
  rw [Lr.add_eq]
  exact n
set_option maxHeartbeats 20000000 in
theorem cal_minus (F : Has K mg "minus" s_minus ["one", "other"] f fd) (En : Env K mg Ad) (G_ratio : CalE P w K mg base "ratio" 2 ["top", "bottom"] (sp_ratio)) : CalE P w K mg base "minus" 3 ["one", "other"] (sp_minus K) := by
  refine F.calE (F.fn.okE sc_minus (fun vs H Q E h => ?_) (fun cdv A outer s H vs Q E hr h => ?_))
  · obtain ⟨v, w', x, y, m, n, rfl, hv, hw, zx, zy, hmn, -, k⟩ := h
    rfl
  obtain ⟨v, w', x, y, m, n, rfl, hv, hw, zx, zy, hmn, -, k⟩ := h
  refine ⟨_, (pss_one (ps_ret (pe_callP G_ratio hr (by decide) rfl (pa_cons (pe_op d_sub (pe_op d_mul (pe_ix d_ixR (dv 0) pe_int (fun _ _ => rfl)) (pe_ix d_ixR (dv 1) pe_int (fun _ _ => rfl))) (pe_op d_mul (pe_ix d_ixR (dv 1) pe_int (fun _ _ => rfl)) (pe_ix d_ixR (dv 0) pe_int (fun _ _ => rfl)))) (pa_cons (pe_op d_mul (pe_ix d_ixR (dv 0) pe_int (fun _ _ => rfl)) (pe_ix d_ixR (dv 1) pe_int (fun _ _ => rfl))) pa_nil))))), ?_⟩
  refine ⟨x, hv, .inl ⟨rfl, y, hw, .inr ⟨rfl, m9 zx.n zy.d hmn, y, hw, .inl ⟨rfl, x, hv, .inr ⟨rfl, m9 zy.n zx.d (by omega), x, hv, .inr ⟨rfl, y, hw, .inr ⟨rfl, m9 zx.d zy.d hmn, _, _, rfl, Int.mul_ne_zero (den_ne x) (den_ne y), zx.d.mul zy.d hmn, fun z H' n => k z H' ?_⟩⟩⟩⟩⟩⟩⟩
  show New H z (pr (x - y)) H'
  rw [Lr.sub_eq]
  exact n
set_option maxHeartbeats 20000000 in
theorem cal_times (F : Has K mg "times" s_times ["one", "other"] f fd) (En : Env K mg Ad) (G_ratio : CalE P w K mg base "ratio" 2 ["top", "bottom"] (sp_ratio)) : CalE P w K mg base "times" 3 ["one", "other"] (sp_times K) := by
  refine F.calE (F.fn.okE sc_times (fun vs H Q E h => ?_) (fun cdv A outer s H vs Q E hr h => ?_))
  · obtain ⟨v, w', x, y, m, n, rfl, hv, hw, zx, zy, hmn, -, k⟩ := h
    rfl
  obtain ⟨v, w', x, y, m, n, rfl, hv, hw, zx, zy, hmn, -, k⟩ := h
  refine ⟨_, (pss_one (ps_ret (pe_callP G_ratio hr (by decide) rfl (pa_cons (pe_op d_mul (pe_ix d_ixR (dv 0) pe_int (fun _ _ => rfl)) (pe_ix d_ixR (dv 1) pe_int (fun _ _ => rfl))) (pa_cons (pe_op d_mul (pe_ix d_ixR (dv 0) pe_int (fun _ _ => rfl)) (pe_ix d_ixR (dv 1) pe_int (fun _ _ => rfl))) pa_nil))))), ?_⟩
  refine ⟨x, hv, .inl ⟨rfl, y, hw, .inl ⟨rfl, m9 zx.n zy.n hmn, x, hv, .inr ⟨rfl, y, hw, .inr ⟨rfl, m9 zx.d zy.d hmn, _, _, rfl, Int.mul_ne_zero (den_ne x) (den_ne y), zx.d.mul zy.d hmn, fun z H' n => k z H' ?_⟩⟩⟩⟩⟩
  show New H z (pr (x * y)) H'
  rw [Lr.mul_eq]
  exact n
set_option maxHeartbeats 20000000 in
theorem cal_over (F : Has K mg "over" s_over ["one", "other"] f fd) (En : Env K mg Ad) (G_ratio : CalE P w K mg base "ratio" 2 ["top", "bottom"] (sp_ratio)) : CalE P w K mg base "over" 3 ["one", "other"] (sp_over K) := by
  refine F.calE (F.fn.okE sc_over (fun vs H Q E h => ?_) (fun cdv A outer s H vs Q E hr h => ?_))
  · obtain ⟨v, w', x, y, m, n, rfl, hv, hw, zx, zy, hmn, hy, k⟩ := h
    rfl
  obtain ⟨v, w', x, y, m, n, rfl, hv, hw, zx, zy, hmn, hy, k⟩ := h
  refine ⟨_, (pss_cons (ps_if (dt_cmp d_eq (pe_ix d_ixR (dv 1) pe_int (fun _ _ => rfl)) pe_int (nomark _))
      (pss_one (ps_raise En.e_NoRatio rfl (pa_cons (d_str (l := [110, 111, 116, 104, 105, 110, 103, 32, 105, 115, 32, 112, 97, 114, 116, 101, 100, 32, 98, 121, 32, 48]) (by decide +kernel)) pa_nil)))
      pss_nil)
    (pss_one (ps_ret (pe_callP G_ratio hr (by decide) rfl (pa_cons (pe_op d_mul (pe_ix d_ixR (dv 0) pe_int (fun _ _ => rfl)) (pe_ix d_ixR (dv 1) pe_int (fun _ _ => rfl))) (pa_cons (pe_op d_mul (pe_ix d_ixR (dv 0) pe_int (fun _ _ => rfl)) (pe_ix d_ixR (dv 1) pe_int (fun _ _ => rfl))) pa_nil)))))), ?_⟩
  have hn : y.num ≠ 0 := fun h => hy (Rat.num_eq_zero.mp h)
  refine ⟨y, hw, .inl ⟨rfl, ?_⟩⟩
  refine br (fun c => absurd c hn) (fun _ => ?_)
  refine ⟨x, hv, .inl ⟨rfl, y, hw, .inr ⟨rfl, m9 zx.n zy.d hmn, x, hv, .inr ⟨rfl, y, hw, .inl ⟨rfl, m9 zx.d zy.n hmn, _, _, rfl, Int.mul_ne_zero (den_ne x) hn, zx.d.mul zy.n hmn, fun z H' n => k z H' ?_⟩⟩⟩⟩⟩
  show New H z (pr (x / y)) H'
  rw [Lr.div_eq x y hy]
  exact n
set_option maxHeartbeats 20000000 in
theorem cal_less (F : Has K mg "less" s_less ["one", "other"] f fd) (En : Env K mg Ad) : CalE P w K mg base "less" 1 ["one", "other"] (sp_less K) := by
  refine F.calE (F.fn.okE sc_less (fun vs H Q E h => ?_) (fun cdv A outer s H vs Q E hr h => ?_))
  · obtain ⟨v, w', x, y, rfl, hv, hw, zx, zy, k⟩ := h
    rfl
  obtain ⟨v, w', x, y, rfl, hv, hw, zx, zy, k⟩ := h
  refine ⟨_, (pss_one (ps_ret (pe_cmpR d_lt (pe_op d_mul (pe_ix d_ixR (dv 0) pe_int (fun _ _ => rfl)) (pe_ix d_ixR (dv 1) pe_int (fun _ _ => rfl))) (pe_op d_mul (pe_ix d_ixR (dv 1) pe_int (fun _ _ => rfl)) (pe_ix d_ixR (dv 0) pe_int (fun _ _ => rfl))) (nomark _)))), ?_⟩
  refine ⟨x, hv, .inl ⟨rfl, y, hw, .inr ⟨rfl, mm9 zx.n zy.d, y, hw, .inl ⟨rfl, x, hv, .inr ⟨rfl, mm9 zy.n zx.d, ?_⟩⟩⟩⟩⟩
  have e : decide (x < y) = decide (x.num * (y.den : Int) < y.num * (x.den : Int)) := by rw [decide_eq_decide]; exact Lr.lt_iff x y
  rw [e] at k
  exact k
set_option maxHeartbeats 20000000 in
theorem cal_lesser_of (F : Has K mg "lesser_of" s_lesser_of ["one", "other"] f fd) (En : Env K mg Ad) (G_less : CalE P w K mg base "less" 1 ["one", "other"] (sp_less K)) : CalE P w K mg base "lesser_of" 2 ["one", "other"] (sp_lesser K) := by
  refine F.calE (F.fn.okE sc_lesser_of (fun vs H Q E h => ?_) (fun cdv A outer s H vs Q E hr h => ?_))
  · obtain ⟨v, w', x, y, rfl, hv, hw, zx, zy, k⟩ := h
    rfl
  obtain ⟨v, w', x, y, rfl, hv, hw, zx, zy, k⟩ := h
  refine ⟨_, (pss_one (ps_ret (pe_ifExp (dt_val (pe_callP G_less hr (by decide) rfl (pa_cons (dv 1) (pa_cons (dv 0) pa_nil)))) (dv 1) (dv 0)))), ?_⟩
  refine ⟨w', v, y, x, rfl, hw, hv, zy, zx, ?_⟩
  refine br (fun c => ?_) (fun c => ?_)
  · exact k w' (by unfold Lr.mn; rw [if_pos c]; exact hw)
  · exact k v (by unfold Lr.mn; rw [if_neg c]; exact hv)
theorem dvd_bd {B D : Int} {k : Nat} (hD : 0 < D) (h : B ∣ D) (hb : Bd k D) : Bd k B := hb.of_le (by
  have := Int.natAbs_dvd_natAbs.mpr h
  exact Nat.le_of_dvd (by omega) this)
set_option maxHeartbeats 20000000 in
theorem cal_common_bottom (F : Has K mg "common_bottom" s_common_bottom ["ratios"] f fd) (En : Env K mg Ad) (G_common_divisor : CalE P w K mg base "common_divisor" 1 ["one", "other"] (sp_gcd)) : CalE P w K mg base "common_bottom" 2 ["ratios"] (sp_cbot K) := by
  refine F.calE (F.fn.okE sc_common_bottom (fun vs H Q E h => ?_) (fun cdv A outer s H vs Q E hr h => ?_))
  · obtain ⟨a, xs, k, D, rfl, hL, hO, hk, q⟩ := h
    rfl
  obtain ⟨a, xs, k, D, rfl, hL, hO, hk, q⟩ := h
  refine ⟨_, (pss_cons (ps_set (i := 1) sc_common_bottom.nd rfl (Or.inl rfl) pe_int)
    (pss_cons (ps_for PassesOwn.leaving rfl (pi_list (dv 0)) (pg_name (i := 2) sc_common_bottom.nd rfl (Or.inl rfl))
      (pss_one (ps_set (i := 1) sc_common_bottom.nd rfl (Or.inl rfl) (pe_op d_mul (dv 1) (pe_op d_fdiv (pe_ix d_ixR (dv 2) pe_int (fun _ _ => rfl)) (pe_callP G_common_divisor hr (by decide) rfl (pa_cons (dv 1) (pa_cons (pe_ix d_ixR (dv 2) pe_int (fun _ _ => rfl)) pa_nil))))))))
    (pss_one (ps_ret (dv 1))))), ?_⟩
  obtain ⟨vs, hs, hr, he⟩ := hL.sq
  refine ⟨_, rfl, ⟨_, hs⟩, for_list (xs := vs) (fun i σ H1 => H1 = H ∧ ∃ (B : Int) (z : Option V), σ = [some (.ref a), some (.int B), z] ∧ 0 < B ∧ B ∣ D ∧ ∀ x ∈ xs.take i, (x.den : Int) ∣ B) ⟨rfl, 1, _, rfl, by decide, Int.one_dvd _, by simp⟩ (fun _ _ _ _ h => by rw [h.1]; exact hs) ?_ ?_⟩
  · rintro i u σ H1 hu ⟨rfl, B, z, rfl, hB, hBD, hdv⟩
    obtain ⟨x, hx, hv⟩ := hr.get hu
    have hxm := List.mem_of_getElem? hx
    have hd := Lr.den_pos x
    have hxD := (hO.ov x hxm).den hO.pos
    have hg : ((Int.gcd B x.den : Nat) : Int) ≠ 0 := by have := Int.gcd_pos_of_ne_zero_left (x.den : Int) (show B ≠ 0 by omega); omega
    obtain ⟨l1, l2, l3, l4⟩ := Lr.lcm_step hB hd
    have b1 : Bd 9000 B := (dvd_bd hO.pos hBD hO.bd).mono (by omega)
    have b2 : Bd 9000 (x.den : Int) := (dvd_bd hO.pos hxD hO.bd).mono (by omega)
    refine ⟨x, hv, .inr ⟨rfl, x, hv, .inr ⟨rfl, B, _, rfl, ⟨hg, b1.of_le ?_⟩, mm9 b1 b2.fdiv, rfl, _, _, rfl, l1, l4 D hBD hxD, fun y hy => ?_⟩⟩⟩
    · exact Nat.le_of_dvd (by omega) (Int.gcd_dvd_natAbs_left B x.den)
    · rw [List.take_add_one, hx] at hy
      rcases List.mem_append.mp hy with hy | hy
      · exact Int.dvd_trans (hdv y hy) l2
      · obtain rfl : y = x := by simpa using hy
        exact l3
  · rintro σ H1 ⟨rfl, B, z, rfl, hB, hBD, hdv⟩
    rw [hr.len, List.take_length] at hdv
    exact q B hB hBD hdv
set_option maxHeartbeats 20000000 in
theorem cal_tops_over (F : Has K mg "tops_over" s_tops_over ["bottom", "ratios"] f fd) (En : Env K mg Ad) : CalE P w K mg base "tops_over" 1 ["bottom", "ratios"] (sp_tops K) := by
  refine F.calE (F.fn.okE sc_tops_over (fun vs H Q E h => ?_) (fun cdv A outer s H vs Q E hr h => ?_))
  · obtain ⟨a, xs, B, rfl, hL, hB, b9, hdv, hz, hlen, q⟩ := h
    rfl
  obtain ⟨a, xs, B, rfl, hL, hB, b9, hdv, hz, hlen, q⟩ := h
  refine ⟨_, (pss_one (ps_ret (pe_comp (defScope s_tops_over) ["bottom"] [0] rfl (pi_list (dv 1)) (fun z => (pe_op d_mul (pe_ix d_ixR (dv 0) pe_int (fun _ _ => rfl)) (pe_op d_fdiv (dv 1) (pe_ix d_ixR (dv 0) pe_int (fun _ _ => rfl)))))))), ?_⟩
  obtain ⟨vs, hs, hr, he⟩ := hL.sq
  refine ⟨_, rfl, ⟨_, hs⟩, fun D H2 n2 => ?_⟩
  refine comp_RI (fun x => x.num * (B.fdiv x.den)) n2 he hr hlen ?_ fun H3 n3 => ?_
  · exact fun x hx u z H' hu R h => ⟨x, hu, .inl ⟨rfl, x, hu, .inr ⟨rfl, ⟨den_ne x, (hz x hx).d⟩, mm9 (hz x hx).n b9.fdiv, h⟩⟩⟩
  · refine q D _ H3 n3 ?_
    rw [List.map_map]
    apply List.map_congr_left
    intro x hx
    exact Lr.top_eq hB (hdv x hx)
theorem rat0 {H : Hp} (En : Env K mg Ad) : RatV K H (.ref Ad.oNOUGHT) 0 := RatV.k En.k_NOUGHT rfl rfl
theorem sz_part {k : Nat} {D : Int} {cs : List Rat} (hO : Ob k D cs) (hk : k ≤ 3000) (hl : cs.length ≤ 1100) (i : Nat) : Sz 3012 (Lr.sm (cs.take i)) := by
  have h1 := Lr.Ov.sm hO.pos (M := 2 ^ k) (a := cs.take i) fun x hx => hO.ov x (List.mem_of_mem_take hx)
  refine ovSz hO.pos (hO.bd.mono hk) h1 ?_ (by decide)
  have h2 : (cs.take i).length ≤ 1100 := by rw [List.length_take]; omega
  have h3 : (2 : Nat) ^ k ≤ 2 ^ 3000 := Nat.pow_le_pow_right (by decide) hk
  calc (cs.take i).length * 2 ^ k ≤ 1100 * 2 ^ 3000 := Nat.mul_le_mul h2 h3
    _ < 2 ^ 12 * 2 ^ 3000 := Nat.mul_lt_mul_of_pos_right (by decide) (Nat.pow_pos (by decide))
    _ = 2 ^ 3012 := by rw [← Nat.pow_add]
set_option maxHeartbeats 20000000 in
theorem cal_total (F : Has K mg "total" s_total ["claims"] f fd) (En : Env K mg Ad) (G_plus : CalE P w K mg base "plus" 3 ["one", "other"] (sp_plus K)) : CalE P w K mg base "total" 4 ["claims"] (sp_total K) := by
  refine F.calE (F.fn.okE sc_total (fun vs H Q E h => ?_) (fun cdv A outer s H vs Q E hr h => ?_))
  · obtain ⟨a, cs, k, D, rfl, hL, hO, hk, hl, q⟩ := h
    rfl
  obtain ⟨a, cs, k, D, rfl, hL, hO, hk, hl, q⟩ := h
  refine ⟨_, (pss_cons (ps_set (i := 1) sc_total.nd rfl (Or.inl rfl) (En.c_NOUGHT.pe rfl))
    (pss_cons (ps_for PassesOwn.leaving rfl (pi_list (dv 0)) (pg_name (i := 2) sc_total.nd rfl (Or.inl rfl))
      (pss_one (ps_set (i := 1) sc_total.nd rfl (Or.inl rfl) (pe_callP G_plus hr (by decide) rfl (pa_cons (dv 1) (pa_cons (dv 2) pa_nil))))))
    (pss_one (ps_ret (dv 1))))), ?_⟩
  obtain ⟨vs, hs, hr, he⟩ := hL.sq
  refine ⟨_, rfl, ⟨_, hs⟩, for_list (xs := vs) (fun i σ H1 => Same H H1 ∧ ∃ (w : V) (z : Option V), σ = [some (.ref a), some w, z] ∧ RatV K H1 w (Lr.sm (cs.take i))) ⟨Same.refl _, _, _, rfl, rat0 En⟩ (fun _ _ _ _ h => h.1.seq hs) ?_ ?_⟩
  · rintro i u σ H1 hu ⟨s1, w, z, rfl, hw⟩
    obtain ⟨x, hx, hv⟩ := hr.get hu
    refine ⟨w, u, _, x, 3012, 3001, rfl, hw, hv.same s1, sz_part hO hk hl i, hO.sz (by omega) (List.mem_of_getElem? hx), by decide, trivial, fun p H2 n => ?_⟩
    refine ⟨s1.trans n.same, _, _, rfl, ?_⟩
    rw [Lr.sm_take hx]
    exact .new n
  · rintro σ H1 ⟨s1, w, z, rfl, hw⟩
    rw [hr.len, List.take_length] at hw
    exact q w H1 s1 hw
set_option maxHeartbeats 20000000 in
theorem cal_look_at_claims (F : Has K mg "look_at_claims" s_look_at_claims ["claims"] f fd) (En : Env K mg Ad) (G_less : CalE P w K mg base "less" 1 ["one", "other"] (sp_less K)) : CalE P w K mg base "look_at_claims" 2 ["claims"] (sp_lookC K Ad) := by
  refine F.calE (F.fn.okE sc_look_at_claims (fun vs H Q E h => ?_) (fun cdv A outer s H vs Q E hr h => ?_))
  · obtain ⟨a, cs, rfl, hL, hz, k, kE⟩ := h
    rfl
  obtain ⟨a, cs, rfl, hL, hz, k, kE⟩ := h
  refine ⟨_, (pss_cons (ps_if (dt_cmp d_gt (pe_callB d_len rfl En.b_len PySem.boot_len (pa_cons (dv 0) pa_nil)) (En.c_MOST_CLAIMS.pe rfl) (nomark _))
      (pss_one (ps_raise En.e_TooMany rfl (pa_cons (d_str (l := [116, 104, 101, 114, 101, 32, 97, 114, 101, 32, 109, 111, 114, 101, 32, 116, 104, 97, 110, 32, 101, 105, 103, 104, 116, 32, 99, 108, 97, 105, 109, 115]) (by decide +kernel)) pa_nil)))
      pss_nil)
    (pss_one (ps_for PassesOwn.leaving rfl (pi_list (dv 0)) (pg_name (i := 1) sc_look_at_claims.nd rfl (Or.inl rfl))
      (pss_one (ps_if (dt_val (pe_callP G_less hr (by decide) rfl (pa_cons (dv 1) (pa_cons (En.c_NOUGHT.pe rfl) pa_nil))))
      (pss_one (ps_raise En.e_NoClaim rfl (pa_cons (d_str (l := [97, 32, 99, 108, 97, 105, 109, 32, 105, 115, 32, 98, 101, 108, 111, 119, 32, 48]) (by decide +kernel)) pa_nil)))
      pss_nil))))), ?_⟩
  obtain ⟨vs, hs, hr, he⟩ := hL.sq
  refine ⟨_, .inl hs, ?_⟩
  refine br (fun c => ?_) (fun c => ?_)
  · exact ⟨by decide, kE _ (by unfold dueC; rw [if_pos (by rw [hr.len] at c; omega)])⟩
  have h8 : ¬ 8 < cs.length := by rw [hr.len] at c; omega
  refine ⟨_, rfl, ⟨_, hs⟩, for_list (xs := vs) (fun i σ H1 => H1 = H ∧ (∃ z, σ = [some (.ref a), z]) ∧ ∀ x ∈ cs.take i, ¬ x < 0) ⟨rfl, ⟨_, rfl⟩, by simp⟩ (fun _ _ _ _ h => by rw [h.1]; exact hs) ?_ ?_⟩
  · rintro i u σ H1 hu ⟨rfl, ⟨z, rfl⟩, hp⟩
    obtain ⟨x, hx, hv⟩ := hr.get hu
    have hxm := List.mem_of_getElem? hx
    refine ⟨u, _, x, 0, rfl, hv, rat0 En, hz x hxm, Sz.zero.mono (by decide), ?_⟩
    refine br (fun c => ?_) (fun c => ?_)
    · refine ⟨by decide, kE _ ?_⟩
      unfold dueC
      rw [if_neg h8, if_pos (List.any_eq_true.mpr ⟨x, hxm, decide_eq_true c⟩)]
    · refine ⟨rfl, ⟨_, rfl⟩, fun y hy => ?_⟩
      rw [List.take_add_one, hx] at hy
      rcases List.mem_append.mp hy with hy | hy
      · exact hp y hy
      · obtain rfl : y = x := by simpa using hy
        exact c
  · rintro σ H1 ⟨rfl, ⟨z, rfl⟩, hp⟩
    rw [hr.len, List.take_length] at hp
    refine k ?_
    unfold dueC
    rw [if_neg h8, if_neg]
    intro z
    obtain ⟨y, hy, hyd⟩ := List.any_eq_true.mp z
    exact hp y hy (of_decide_eq_true hyd)
set_option maxHeartbeats 20000000 in
theorem cal_look_at (F : Has K mg "look_at" s_look_at ["claims", "estate"] f fd) (En : Env K mg Ad) (G_look_at_claims : CalE P w K mg base "look_at_claims" 2 ["claims"] (sp_lookC K Ad)) (G_less : CalE P w K mg base "less" 1 ["one", "other"] (sp_less K)) (G_total : CalE P w K mg base "total" 4 ["claims"] (sp_total K)) : CalE P w K mg base "look_at" 5 ["claims", "estate"] (sp_look K Ad) := by
  refine F.calE (F.fn.okE sc_look_at (fun vs H Q E h => ?_) (fun cdv A outer s H vs Q E hr h => ?_))
  · obtain ⟨a, v, cs, e, k, D, rfl, hL, hv, hO, hk, q, qE⟩ := h
    rfl
  obtain ⟨a, v, cs, e, k, D, rfl, hL, hv, hO, hk, q, qE⟩ := h
  refine ⟨_, (pss_cons (ps_expr (pe_callP G_look_at_claims hr (by decide) rfl (pa_cons (dv 0) pa_nil)))
    (pss_cons (ps_if (dt_val (pe_callP G_less hr (by decide) rfl (pa_cons (dv 1) (pa_cons (En.c_NOUGHT.pe rfl) pa_nil))))
      (pss_one (ps_raise En.e_NoEstate rfl (pa_cons (d_str (l := [116, 104, 101, 32, 101, 115, 116, 97, 116, 101, 32, 105, 115, 32, 98, 101, 108, 111, 119, 32, 48]) (by decide +kernel)) pa_nil)))
      pss_nil)
    (pss_one (ps_if (dt_val (pe_callP G_less hr (by decide) rfl (pa_cons (pe_callP G_total hr (by decide) rfl (pa_cons (dv 0) pa_nil)) (pa_cons (dv 1) pa_nil))))
      (pss_one (ps_raise En.e_NoEstate rfl (pa_cons (d_str (l := [116, 104, 101, 32, 101, 115, 116, 97, 116, 101, 32, 105, 115, 32, 109, 111, 114, 101, 32, 116, 104, 97, 110, 32, 116, 104, 101, 32, 116, 111, 116, 97, 108, 32, 111, 102, 32, 116, 104, 101, 32, 99, 108, 97, 105, 109, 115]) (by decide +kernel)) pa_nil)))
      pss_nil)))), ?_⟩
  have zc : ∀ c ∈ cs, Sz 9000 c := fun c hc => (hO.sz (m := 3001) (by omega) (List.mem_cons_of_mem _ hc)).mono (by decide)
  have ze : Sz 9000 e := (hO.sz (m := 3001) (by omega) List.mem_cons_self).mono (by decide)
  refine ⟨a, cs, rfl, hL, zc, fun hd => ?_, fun c hc => qE c (by unfold dueOf; rw [hc]) H (Same.refl _)⟩
  have h8 := (dueC_none hd).1
  refine ⟨v, _, e, 0, rfl, hv, rat0 En, ze, Sz.zero.mono (by decide), ?_⟩
  refine br (fun c => ?_) (fun c => ?_)
  · refine ⟨by decide, qE _ ?_ H (Same.refl _)⟩
    unfold dueOf
    rw [hd]
    exact if_pos (.inl c)
  refine ⟨a, cs, k, D, rfl, hL, hO.sub (fun y hy => List.mem_cons_of_mem _ hy), hk, by omega, fun w H1 s1 hw => ?_⟩
  have zt := sz_part (hO.sub (fun y hy => List.mem_cons_of_mem _ hy)) hk (show cs.length ≤ 1100 by omega) cs.length
  rw [List.take_length] at zt
  refine ⟨w, v, _, e, rfl, hw, hv.same s1, zt.mono (by decide), ze, ?_⟩
  refine br (fun c2 => ?_) (fun c2 => ?_)
  · refine ⟨by decide, qE _ ?_ H1 s1⟩
    unfold dueOf
    rw [hd]
    exact if_pos (.inr c2)
  · refine q ?_ H1 s1
    unfold dueOf
    rw [hd]
    exact if_neg (by rintro (z | z); exact c z; exact c2 z)
set_option maxHeartbeats 20000000 in
theorem cal_lack (F : Has K mg "lack" s_lack ["claims", "estate"] f fd) (En : Env K mg Ad) (G_look_at : CalE P w K mg base "look_at" 5 ["claims", "estate"] (sp_look K Ad)) (G_minus : CalE P w K mg base "minus" 3 ["one", "other"] (sp_minus K)) (G_total : CalE P w K mg base "total" 4 ["claims"] (sp_total K)) : CalE P w K mg base "lack" 6 ["claims", "estate"] (sp_lack K Ad) := by
  refine F.calE (F.fn.okE sc_lack (fun vs H Q E h => ?_) (fun cdv A outer s H vs Q E hr h => ?_))
  · obtain ⟨a, v, cs, e, k, D, rfl, hL, hv, hO, hk, q, qE⟩ := h
    rfl
  obtain ⟨a, v, cs, e, k, D, rfl, hL, hv, hO, hk, q, qE⟩ := h
  refine ⟨_, (pss_cons (ps_expr (pe_callP G_look_at hr (by decide) rfl (pa_cons (dv 0) (pa_cons (dv 1) pa_nil))))
    (pss_one (ps_ret (pe_callP G_minus hr (by decide) rfl (pa_cons (pe_callP G_total hr (by decide) rfl (pa_cons (dv 0) pa_nil)) (pa_cons (dv 1) pa_nil)))))), ?_⟩
  refine ⟨a, v, cs, e, k, D, rfl, hL, hv, hO, hk, fun hd H1 s1 => ?_, qE⟩
  have h8 := (due_none hd).1
  have hOc := hO.sub (ys := cs) (fun y hy => List.mem_cons_of_mem _ hy)
  refine ⟨a, cs, k, D, rfl, hL.same s1, hOc, hk, by omega, fun w H2 s2 hw => ?_⟩
  have zt := sz_part hOc hk (show cs.length ≤ 1100 by omega) cs.length
  rw [List.take_length] at zt
  refine ⟨w, v, _, e, 3012, 3001, rfl, hw, hv.same (s1.trans s2), zt, hO.sz (by omega) List.mem_cons_self, by decide, trivial, fun z H3 n => ?_⟩
  exact q hd _ H3 (s1.trans (s2.trans n.same)) (.new n)
set_option maxHeartbeats 20000000 in
theorem cal_claims_less (F : Has K mg "claims_less" s_claims_less ["claims", "parts"] f fd) (En : Env K mg Ad) (G_minus : CalE P w K mg base "minus" 3 ["one", "other"] (sp_minus K)) : CalE P w K mg base "claims_less" 4 ["claims", "parts"] (sp_cless K) := by
  refine F.calE (F.fn.okE sc_claims_less (fun vs H Q E h => ?_) (fun cdv A outer s H vs Q E hr h => ?_))
  · obtain ⟨a, b, cs, ps, m, n, rfl, hA, hB, zc, zp, hmn, hlen, hl, q⟩ := h
    rfl
  obtain ⟨a, b, cs, ps, m, n, rfl, hA, hB, zc, zp, hmn, hlen, hl, q⟩ := h
  refine ⟨_, (pss_one (ps_ret (pe_comp2 (defScope s_claims_less) [] [] rfl (pi_zip rfl En.b_zip (pa_cons (dv 0) (pa_cons (dv 1) pa_nil))) (fun z => (pe_callN G_minus hr (by decide) rfl (pa_cons (dv 0) (pa_cons (dv 1) pa_nil))))))), ?_⟩
  obtain ⟨vs, hs, hr, he⟩ := hA.sq
  obtain ⟨ws, hs', hr', he'⟩ := hB.sq
  refine ⟨⟨_, hs⟩, ⟨_, hs'⟩, fun D H2 n2 => ?_⟩
  refine comp_zipR (· - ·) n2 hA hB (by omega) hl ?_ fun H3 s3 hL3 hf => q D H3 s3 hf hL3
  exact fun x hx y hy u v z H' s' hu hv R h => ⟨u, v, x, y, m, n, rfl, hu, hv, zc x hx, zp y hy, hmn, trivial, fun p H3 np => h _ H3 np.same (.new np)⟩
set_option maxHeartbeats 20000000 in
theorem cal_gain_level (F : Has K mg "gain_level" s_gain_level ["claims", "estate"] f fd) (En : Env K mg Ad) (G_look_at : CalE P w K mg base "look_at" 5 ["claims", "estate"] (sp_look K Ad)) (G_common_bottom : CalE P w K mg base "common_bottom" 2 ["ratios"] (sp_cbot K)) (G_tops_over : CalE P w K mg base "tops_over" 1 ["bottom", "ratios"] (sp_tops K)) (G_ratio : CalE P w K mg base "ratio" 2 ["top", "bottom"] (sp_ratio)) : CalE P w K mg base "gain_level" 6 ["claims", "estate"] (sp_gain K Ad) := by
  refine F.calE (F.fn.okE sc_gain_level (fun vs H Q E h => ?_) (fun cdv A outer s H vs Q E hr h => ?_))
  · obtain ⟨a, v, cs, e, k, D, rfl, hL, hv, hO, hk, q, qE⟩ := h
    rfl
  obtain ⟨a, v, cs, e, k, D, rfl, hL, hv, hO, hk, q, qE⟩ := h
  refine ⟨_, (pss_cons (ps_expr (pe_callP G_look_at hr (by decide) rfl (pa_cons (dv 0) (pa_cons (dv 1) pa_nil))))
    (pss_cons (ps_set (i := 2) sc_gain_level.nd rfl (Or.inl rfl) (pe_callP G_common_bottom hr (by decide) rfl (pa_cons (pe_op d_cat (dv 0) (d_lst (pa_cons (dv 1) pa_nil))) pa_nil)))
    (pss_cons (ps_set (i := 3) sc_gain_level.nd rfl (Or.inl rfl) (pe_ix d_ixL (pe_callP G_tops_over hr (by decide) rfl (pa_cons (dv 2) (pa_cons (d_lst (pa_cons (dv 1) pa_nil)) pa_nil))) pe_int (fun _ _ => rfl)))
    (pss_cons (ps_set (i := 4) sc_gain_level.nd rfl (Or.inl rfl) (pe_callB d_len rfl En.b_len PySem.boot_len (pa_cons (dv 0) pa_nil)))
    (pss_cons (ps_for PassesOwn.leaving rfl (pi_list (pe_callB d_sorted rfl En.b_sorted PyProof.Rows.boot_sorted (pa_cons (pe_callP G_tops_over hr (by decide) rfl (pa_cons (dv 2) (pa_cons (dv 0) pa_nil))) pa_nil))) (pg_name (i := 5) sc_gain_level.nd rfl (Or.inl rfl))
      (pss_cons (ps_if (dt_cmp d_le (dv 3) (pe_op d_mul (dv 5) (dv 4)) (nomark _))
      (pss_one (ps_ret (pe_callP G_ratio hr (by decide) rfl (pa_cons (dv 3) (pa_cons (pe_op d_mul (dv 2) (dv 4)) pa_nil)))))
      pss_nil)
    (pss_cons (ps_set (i := 3) sc_gain_level.nd rfl (Or.inl rfl) (pe_op d_sub (dv 3) (dv 5)))
    (pss_one (ps_set (i := 4) sc_gain_level.nd rfl (Or.inl rfl) (pe_op d_sub (dv 4) pe_int))))))
    (pss_one (ps_ret (En.c_NOUGHT.pe rfl)))))))), ?_⟩
  refine ⟨a, v, cs, e, k, D, rfl, hL, hv, hO, by omega, fun hd H1 s1 => ?_, qE⟩
  obtain ⟨h8, c0, e0, eT⟩ := due_none hd
  have hL1 := hL.same s1
  have hv1 := hv.same s1
  obtain ⟨vs, hs, hr, he⟩ := hL1.sq
  refine fun p1 H2 n2 => ?_
  refine ⟨vs, [v], n2.same _ _ he, n2.at_, (by rw [hr.len]; show cs.length + 1 ≤ 10000000; omega), fun p2 H3 n3 => ?_⟩
  have r2 : RatsV K H2 (vs ++ [v]) (cs ++ [e]) := (hr.ts n2.ts).snoc (hv1.same n2.same)
  refine ⟨p2, cs ++ [e], k, D, rfl, RatL.new n3 r2, hO.sub (fun y hy => ?_), by omega, fun B hB hBD hdv => ?_⟩
  · rcases List.mem_append.mp hy with hy | hy
    · exact List.mem_cons_of_mem _ hy
    · obtain rfl : y = e := by simpa using hy
      exact List.mem_cons_self
  have b9 : Bd 9000 B := (dvd_bd hO.pos hBD hO.bd).mono (by omega)
  have s3 := s1.trans (n2.same.trans n3.same)
  refine fun p3 H4 n4 => ?_
  have s4 := s3.trans n4.same
  refine ⟨p3, [e], B, rfl, RatL.new n4 (RatsV.nil.snoc (hv.same s3)), hB, b9, fun x hx => hdv x (List.mem_append_right _ hx), fun x hx => ?_, (by show 1 ≤ 1000000; decide), fun l1 ts1 H5 n5 ht1 => ?_⟩
  · obtain rfl : x = e := by simpa using hx
    exact (hO.sz (m := 2501) (by omega) List.mem_cons_self).mono (by decide)
  obtain ⟨t0, rfl, et0⟩ : ∃ t0 : Int, ts1 = [t0] ∧ (t0 : Rat) = e * (B : Rat) := by
    clear n5
    match ts1, ht1 with
    | [], ht1 => cases ht1
    | [t0], ht1 => exact ⟨t0, rfl, (List.cons.inj ht1).1⟩
    | _ :: _ :: _, ht1 => cases (List.cons.inj ht1).2
  have s5 := s4.trans n5.same
  refine ⟨_, _, SqL.of n5.at_, rfl, ?_⟩
  have hL5 := hL.same s5
  obtain ⟨vs5, hs5, hr5, he5⟩ := hL5.sq
  refine ⟨_, .inl hs5, ?_⟩
  refine ⟨a, cs, B, rfl, hL5, hB, b9, fun x hx => hdv x (List.mem_append_left _ hx), fun x hx => (hO.sz (m := 2501) (by omega) (List.mem_cons_of_mem _ hx)).mono (by decide), by omega, fun l2 tps H6 n6 ht2 => ?_⟩
  have htl : tps.length = cs.length := by have := congrArg List.length ht2; simpa using this
  refine ⟨tps, SqL.of n6.at_, by omega, fun l3 ts H7 hp hsrt n7 => ?_⟩
  have hlen : ts.length = cs.length := by rw [hp.length_eq, htl]
  have s7 := s5.trans (n6.same.trans n7.same)
  have tb : ∀ t ∈ ts, Bd 2501 t := by
    intro t ht
    have h1 : (t : Rat) ∈ cs.map (· * (B : Rat)) := by rw [← ht2]; exact List.mem_map_of_mem (hp.mem_iff.mp ht)
    obtain ⟨c, hc, ec⟩ := List.mem_map.mp h1
    have := Lr.top_bd hB hO.pos hBD (hO.ov c (List.mem_cons_of_mem _ hc)) ec.symm
    refine Bd.of_lt (Nat.lt_of_le_of_lt this ?_)
    exact Nat.pow_lt_pow_right (by decide) (by omega)
  have esum : ((ts.sum : Int) : Rat) = Lr.sm cs * (B : Rat) := by
    rw [← Lr.sm_int, Lr.sm_perm (hp.map _), ht2, Lr.sm_mul]
  have t0le : t0 ≤ ts.sum := by
    have h1 : (t0 : Rat) ≤ ((ts.sum : Int) : Rat) := by
      rw [et0, esum]
      exact Rat.mul_le_mul_of_nonneg_right eT (Rat.le_of_lt (Lr.rt_pos hB))
    exact_mod_cast h1
  refine ⟨_, rfl, ⟨_, SqL.of n7.at_⟩, for_list (xs := ts.map V.int) (fun i σ H8 => H8 = H7 ∧ ∃ (rest : Int) (z : Option V), σ = [some (.ref a), some v, some (.int B), some (.int rest), some (.int ((ts.length : Int) - i)), z] ∧ Lr.Lp ts t0 i rest)
    ⟨rfl, t0, none, (by show [some (V.ref a), some v, some (.int B), some (.int t0), some (.int (vs5.length : Int)), none] = _; rw [hr5.len, hlen, show ((cs.length : Int) - ((0 : Nat) : Int)) = cs.length by omega]), Lr.Lp.init⟩ (fun _ _ _ _ h => by rw [h.1]; exact SqL.of n7.at_) ?_ ?_⟩
  · rintro i u σ H8 hu ⟨rfl, rest, z, rfl, lp⟩
    rw [List.getElem?_map] at hu
    obtain ⟨x, hx, rfl⟩ := Option.map_eq_some_iff.mp hu
    have hi := (List.getElem?_eq_some_iff.mp hx).1
    have hn8 : (ts.length : Int) - i ≤ 8 ∧ 0 < (ts.length : Int) - i := by omega
    have bn : Bd 9000 ((ts.length : Int) - i) := (Bd.of_lt (n := 4) (by omega)).mono (by decide)
    have bx := (tb x (List.mem_of_getElem? hx)).mono (show 2501 ≤ 9000 by decide)
    refine ⟨mm9 bx bn, ?_⟩
    refine br (fun c => ?_) (fun c => ?_)
    · obtain ⟨r0, N0, G⟩ := Lr.Gain.of_tops hB hp ht2 et0 hsrt c0 e0 lp hx c
      refine ⟨mm9 b9 bn, _, _, rfl, Int.mul_ne_zero (by omega) (by omega), ?_, fun z H9 n9 => ?_⟩
      · exact Bd.mul (m := 2500) (n := 4) ((dvd_bd hO.pos hBD hO.bd).mono (by omega)) (Bd.of_lt (n := 4) (by omega)) (by decide)
      · exact q hd _ _ H9 (s7.trans n9.same) (.new n9) G (G.ov hO.pos (fun c hc => hO.ov c (List.mem_cons_of_mem _ hc)) (Lr.lvl_int hB hO.pos hBD (by omega) (by omega) rfl))
    · refine ⟨rfl, rest - x, some (.int x), ?_, lp.next hsrt hx c⟩
      show [some (V.ref a), some v, some (.int B), some (.int (rest - x)), some (.int ((ts.length : Int) - i - 1)), _] = _
      rw [show (ts.length : Int) - i - 1 = (ts.length : Int) - (i + 1 : Nat) by omega]
  · rintro σ H8 ⟨rfl, rest, z, rfl, lp⟩
    rw [List.length_map] at lp
    have ts0 := lp.end_ t0le
    have cs0 : cs = [] := by
      rw [ts0] at hlen
      exact List.length_eq_zero_iff.mp hlen.symm
    subst cs0
    have ez : e = 0 := by
      have h1 : Lr.sm [] = 0 := rfl
      rw [h1] at eT
      grind
    exact q hd _ _ H8 s7 (rat0 En) (Lr.Gain.none ez) (Lr.Ov.zero (by have := hO.pos; omega))
theorem ob_lack {k : Nat} {D : Int} {cs : List Rat} {e : Rat} (hO : Ob k D (e :: cs)) (h8 : cs.length ≤ 8) : Ob (k + 4) D ((Lr.sm cs - e) :: cs) := by
  have p4 : (2 : Nat) ^ (k + 4) = 16 * 2 ^ k := by rw [Nat.pow_add, Nat.mul_comm]
  refine ⟨hO.pos, hO.bd.mono (by omega), fun x hx => ?_⟩
  rcases List.mem_cons.mp hx with rfl | hx
  · have h1 := Lr.Ov.sm hO.pos (M := 2 ^ k) (a := cs) fun x hx => hO.ov x (List.mem_cons_of_mem _ hx)
    have h2 := hO.ov e List.mem_cons_self
    refine (h1.sub hO.pos h2).mono ?_
    rw [p4]
    have : cs.length * 2 ^ k ≤ 8 * 2 ^ k := Nat.mul_le_mul_right _ h8
    omega
  · exact (hO.ov x (List.mem_cons_of_mem _ hx)).mono (by rw [p4]; omega)
set_option maxHeartbeats 20000000 in
theorem cal_loss_level (F : Has K mg "loss_level" s_loss_level ["claims", "estate"] f fd) (En : Env K mg Ad) (G_gain_level : CalE P w K mg base "gain_level" 6 ["claims", "estate"] (sp_gain K Ad)) (G_lack : CalE P w K mg base "lack" 6 ["claims", "estate"] (sp_lack K Ad)) : CalE P w K mg base "loss_level" 7 ["claims", "estate"] (sp_loss K Ad) := by
  refine F.calE (F.fn.okE sc_loss_level (fun vs H Q E h => ?_) (fun cdv A outer s H vs Q E hr h => ?_))
  · obtain ⟨a, v, cs, e, k, D, rfl, hL, hv, hO, hk, q, qE⟩ := h
    rfl
  obtain ⟨a, v, cs, e, k, D, rfl, hL, hv, hO, hk, q, qE⟩ := h
  refine ⟨_, (pss_one (ps_ret (pe_callP G_gain_level hr (by decide) rfl (pa_cons (dv 0) (pa_cons (pe_callP G_lack hr (by decide) rfl (pa_cons (dv 0) (pa_cons (dv 1) pa_nil))) pa_nil))))), ?_⟩
  refine ⟨a, v, cs, e, k, D, rfl, hL, hv, hO, by omega, fun hd w' H1 s1 hw => ?_, qE⟩
  obtain ⟨h8, c0, e0, eT⟩ := due_none hd
  have hd2 : dueOf Ad cs (Lr.sm cs - e) = none := due_good h8 c0 (by grind) (by grind)
  refine ⟨a, w', cs, _, k + 4, D, rfl, hL.same s1, hw, ob_lack hO h8, by omega, fun _ u g H2 s2 hu G hg => q hd u g H2 (s1.trans s2) hu G hg, fun c hc => ?_⟩
  rw [hd2] at hc
  cases hc
theorem ov840 {D : Int} (hD : 0 < D) {M : Nat} {x : Rat} (h : Lr.Ov D M x) : Lr.Ov (840 * D) (840 * M) x := by
  obtain ⟨n, rfl, hn⟩ := h
  refine ⟨840 * n, Lr.rt_of_mul (by omega) ?_, by omega⟩
  rw [Rat.intCast_mul, Rat.intCast_mul]
  have := Lr.rt_mul_self (n := n) hD
  grind
theorem ob840 {k m : Nat} {D : Int} {ps : List Rat} (hD : 0 < D) (hb : Bd k D) (hm : k ≤ m) (h : ∀ p ∈ ps, Lr.Ov (840 * D) (840 * 2 ^ m) p) : Ob (m + 10) (840 * D) ps := by
  refine ⟨by omega, Bd.mul (m := 10) (n := k) (Bd.of_lt (by decide)) hb (by omega), fun p hp => (h p hp).mono ?_⟩
  rw [Nat.pow_add, Nat.mul_comm]
  exact Nat.mul_le_mul_left _ (by decide)
theorem sz840 {k m : Nat} {D : Int} {x : Rat} (hD : 0 < D) (hb : Bd k D) (hm : k ≤ m) (h : Lr.Ov (840 * D) (840 * 2 ^ m) x) : Sz (m + 11) x := by
  have := ob840 (ps := [x]) hD hb hm (fun p hp => by rw [List.mem_singleton.mp hp]; exact h)
  exact this.sz (by omega) List.mem_cons_self
set_option maxHeartbeats 20000000 in
theorem cal_by_gains (F : Has K mg "by_gains" s_by_gains ["claims", "estate"] f fd) (En : Env K mg Ad) (G_gain_level : CalE P w K mg base "gain_level" 6 ["claims", "estate"] (sp_gain K Ad)) (G_lesser_of : CalE P w K mg base "lesser_of" 2 ["one", "other"] (sp_lesser K)) : CalE P w K mg base "by_gains" 7 ["claims", "estate"] (sp_gains K Ad) := by
  refine F.calE (F.fn.okE sc_by_gains (fun vs H Q E h => ?_) (fun cdv A outer s H vs Q E hr h => ?_))
  · obtain ⟨a, v, cs, e, k, D, rfl, hL, hv, hO, hk, q, qE⟩ := h
    rfl
  obtain ⟨a, v, cs, e, k, D, rfl, hL, hv, hO, hk, q, qE⟩ := h
  refine ⟨_, (pss_cons (ps_set (i := 2) sc_by_gains.nd rfl (Or.inr rfl) (pe_callP G_gain_level hr (by decide) rfl (pa_cons (dv 0) (pa_cons (dv 1) pa_nil))))
    (pss_one (ps_ret (pe_comp (defScope s_by_gains) ["level"] [2] rfl (pi_list (dv 0)) (fun z => (pe_callN G_lesser_of hr (by decide) rfl (pa_cons (dv 0) (pa_cons (dv 1) pa_nil)))))))), ?_⟩
  refine ⟨a, v, cs, e, k, D, rfl, hL, hv, hO, by omega, fun hd w' g H1 s1 hw G hg => ?_, qE⟩
  have zg : Sz 9000 g := (sz840 hO.pos hO.bd (Nat.le_refl _) hg).mono (by omega)
  have h8 := (due_none hd).1
  have hL1 := hL.same s1
  obtain ⟨vs, hs, hr, he⟩ := hL1.sq
  refine ⟨_, rfl, ⟨_, hs⟩, fun D2 H2 n2 => ?_⟩
  refine comp_RR (fun c => Lr.mn c g) n2 hL1 (by omega) ?_ fun H3 s3 hL3 hf => ?_
  · exact fun c hc u z H' s' hu R h => ⟨u, w', c, g, rfl, hu, hw.same s', (hO.sz (m := 2501) (by omega) (List.mem_cons_of_mem _ hc)).mono (by decide), zg, fun p hp => h p H' (Same.refl _) hp⟩
  · refine q hd D2 _ H3 (s1.trans s3) (s1.free hf) hL3 ⟨g, G, rfl⟩ ?_
    refine ob840 hO.pos hO.bd (Nat.le_refl k) fun p hp => ?_
    obtain ⟨c, hc, rfl⟩ := List.mem_map.mp hp
    exact (ov840 hO.pos (hO.ov c (List.mem_cons_of_mem _ hc))).mn hg
theorem zip_map {f : Rat → Rat} {cs : List Rat} : List.zipWith (· - ·) cs (cs.map f) = cs.map fun c => c - f c := by
  induction cs with
  | nil => rfl
  | cons c r ih => rw [List.map_cons, List.zipWith_cons_cons, ih, List.map_cons]
set_option maxHeartbeats 20000000 in
theorem cal_by_losses (F : Has K mg "by_losses" s_by_losses ["claims", "estate"] f fd) (En : Env K mg Ad) (G_loss_level : CalE P w K mg base "loss_level" 7 ["claims", "estate"] (sp_loss K Ad)) (G_claims_less : CalE P w K mg base "claims_less" 4 ["claims", "parts"] (sp_cless K)) (G_lesser_of : CalE P w K mg base "lesser_of" 2 ["one", "other"] (sp_lesser K)) : CalE P w K mg base "by_losses" 8 ["claims", "estate"] (sp_losses K Ad) := by
  refine F.calE (F.fn.okE sc_by_losses (fun vs H Q E h => ?_) (fun cdv A outer s H vs Q E hr h => ?_))
  · obtain ⟨a, v, cs, e, k, D, rfl, hL, hv, hO, hk, q, qE⟩ := h
    rfl
  obtain ⟨a, v, cs, e, k, D, rfl, hL, hv, hO, hk, q, qE⟩ := h
  refine ⟨_, (pss_cons (ps_set (i := 2) sc_by_losses.nd rfl (Or.inr rfl) (pe_callP G_loss_level hr (by decide) rfl (pa_cons (dv 0) (pa_cons (dv 1) pa_nil))))
    (pss_one (ps_ret (pe_callP G_claims_less hr (by decide) rfl (pa_cons (dv 0) (pa_cons (pe_comp (defScope s_by_losses) ["level"] [2] rfl (pi_list (dv 0)) (fun z => (pe_callN G_lesser_of hr (by decide) rfl (pa_cons (dv 0) (pa_cons (dv 1) pa_nil))))) pa_nil)))))), ?_⟩
  refine ⟨a, v, cs, e, k, D, rfl, hL, hv, hO, by omega, fun hd w' g H1 s1 hw G hg => ?_, qE⟩
  have zg : Sz 9000 g := (sz840 hO.pos hO.bd (by omega) hg).mono (by omega)
  have h8 := (due_none hd).1
  have hL1 := hL.same s1
  obtain ⟨vs, hs, hr, he⟩ := hL1.sq
  have pov : ∀ p ∈ cs.map (fun c => Lr.mn c g), Lr.Ov (840 * D) (840 * 2 ^ (k + 4)) p := by
    intro p hp
    obtain ⟨c, hc, rfl⟩ := List.mem_map.mp hp
    exact ((ov840 hO.pos (hO.ov c (List.mem_cons_of_mem _ hc))).mono (Nat.mul_le_mul_left _ (Nat.pow_le_pow_right (by decide) (by omega)))).mn hg
  refine ⟨_, rfl, ⟨_, hs⟩, fun D2 H2 n2 => ?_⟩
  refine comp_RR (fun c => Lr.mn c g) n2 hL1 (by omega) ?_ fun H3 s3 hL3 hf => ?_
  · exact fun c hc u z H' s' hu R h => ⟨u, w', c, g, rfl, hu, hw.same s', (hO.sz (m := 2501) (by omega) (List.mem_cons_of_mem _ hc)).mono (by decide), zg, fun p hp => h p H' (Same.refl _) hp⟩
  refine ⟨a, D2, cs, _, 2501, 2501, rfl, hL1.same s3, hL3, fun c hc => hO.sz (by omega) (List.mem_cons_of_mem _ hc), fun p hp => (sz840 hO.pos hO.bd (by omega) (pov p hp)).mono (by omega), by decide, by omega, by simp, fun l H4 s4 hf4 hL4 => ?_⟩
  rw [zip_map] at hL4
  refine q hd l _ H4 (s1.trans (s3.trans s4)) ((s1.trans s3).free hf4) hL4 ⟨g, G, rfl⟩ ⟨840 * D, ?_⟩
  refine (ob840 (m := k + 5) hO.pos hO.bd (by omega) fun p hp => ?_).mono (by omega)
  obtain ⟨c, hc, rfl⟩ := List.mem_map.mp hp
  have h1 := ov840 hO.pos (hO.ov c (List.mem_cons_of_mem _ hc))
  have h2 := pov _ (List.mem_map_of_mem hc)
  refine (h1.sub (by have := hO.pos; omega) h2).mono ?_
  have e5 : (2 : Nat) ^ (k + 5) = 2 * 2 ^ (k + 4) := by rw [Nat.pow_succ, Nat.mul_comm]
  have e4 : (2 : Nat) ^ k ≤ 2 ^ (k + 4) := Nat.pow_le_pow_right (by decide) (by omega)
  rw [e5]
  omega
set_option maxHeartbeats 20000000 in
theorem cal_in_shares (F : Has K mg "in_shares" s_in_shares ["claims", "estate"] f fd) (En : Env K mg Ad) (G_look_at : CalE P w K mg base "look_at" 5 ["claims", "estate"] (sp_look K Ad)) (G_total : CalE P w K mg base "total" 4 ["claims"] (sp_total K)) (G_over : CalE P w K mg base "over" 3 ["one", "other"] (sp_over K)) (G_times : CalE P w K mg base "times" 3 ["one", "other"] (sp_times K)) : CalE P w K mg base "in_shares" 6 ["claims", "estate"] (sp_shares K Ad) := by
  refine F.calE (F.fn.okE sc_in_shares (fun vs H Q E h => ?_) (fun cdv A outer s H vs Q E hr h => ?_))
  · obtain ⟨a, v, cs, e, k, D, rfl, hL, hv, hO, hk, q, qE⟩ := h
    rfl
  obtain ⟨a, v, cs, e, k, D, rfl, hL, hv, hO, hk, q, qE⟩ := h
  refine ⟨_, (pss_cons (ps_expr (pe_callP G_look_at hr (by decide) rfl (pa_cons (dv 0) (pa_cons (dv 1) pa_nil))))
    (pss_cons (ps_set (i := 2) sc_in_shares.nd rfl (Or.inl rfl) (pe_callP G_total hr (by decide) rfl (pa_cons (dv 0) pa_nil)))
    (pss_cons (ps_if (dt_cmp (d_eqR hr.units0) (dv 2) (En.c_NOUGHT.pe rfl) (nomark _))
      (pss_one (ps_ret (pe_comp (defScope s_in_shares) [] [] rfl (pi_list (dv 0)) (fun z => (En.c_NOUGHT.pe rfl)))))
      pss_nil)
    (pss_cons (ps_set (i := 3) sc_in_shares.nd rfl (Or.inr rfl) (pe_callP G_over hr (by decide) rfl (pa_cons (dv 1) (pa_cons (dv 2) pa_nil))))
    (pss_one (ps_ret (pe_comp (defScope s_in_shares) ["share"] [3] rfl (pi_list (dv 0)) (fun z => (pe_callN G_times hr (by decide) rfl (pa_cons (dv 0) (pa_cons (dv 1) pa_nil))))))))))), ?_⟩
  refine ⟨a, v, cs, e, k, D, rfl, hL, hv, hO, by omega, fun hd H1 s1 => ?_, qE⟩
  obtain ⟨h8, c0, e0, eT⟩ := due_none hd
  have hOc := hO.sub (ys := cs) (fun y hy => List.mem_cons_of_mem _ hy)
  have zt := sz_part hOc (show k ≤ 3000 by omega) (show cs.length ≤ 1100 by omega) cs.length
  rw [List.take_length] at zt
  refine ⟨a, cs, k, D, rfl, hL.same s1, hOc, by omega, by omega, fun t H2 s2 ht => ?_⟩
  have s2' := s1.trans s2
  have hL2 := hL.same s2'
  obtain ⟨vs, hs, hr, he⟩ := hL2.sq
  refine ⟨_, 0, ht, rat0 En, ?_⟩
  refine br (fun c => ?_) (fun c => ?_)
  · refine ⟨_, rfl, ⟨_, hs⟩, fun D2 H3 n3 => ?_⟩
    refine comp_RR (fun _ => 0) n3 hL2 (by omega) ?_ fun H4 s4 hL4 hf => ?_
    · exact fun c hc u z H' s' hu R h => h _ H' (Same.refl _) (rat0 En)
    · refine q hd D2 _ H4 (s2'.trans s4) (s2'.free hf) hL4 ?_ ⟨D, hO.pos, hO.bd.mono (by omega), fun p hp => ?_⟩
      · unfold Shares
        simp only [if_pos c]
      · obtain ⟨c, _, rfl⟩ := List.mem_map.mp hp
        exact Lr.Ov.zero hO.pos
  · have ze : Sz 2401 e := hO.sz (by omega) List.mem_cons_self
    refine ⟨v, t, e, _, 2401, 3012, rfl, hv.same s2', ht, ze, zt, by decide, c, fun w' H3 n3 => ?_⟩
    have zs : Sz 5413 (e / Lr.sm cs) := ze.div zt c
    have hL3 := hL2.same n3.same
    obtain ⟨vs3, hs3, hr3, he3⟩ := hL3.sq
    refine ⟨_, rfl, ⟨_, hs3⟩, fun D2 H4 n4 => ?_⟩
    refine comp_RR (fun c => c * (e / Lr.sm cs)) n4 hL3 (by omega) ?_ fun H5 s5 hL5 hf => ?_
    · exact fun c hc u z H' s' hu R h => ⟨u, .ref w', c, _, 2401, 5413, rfl, hu, (RatV.new n3).same s', hO.sz (by omega) (List.mem_cons_of_mem _ hc), zs, by decide, trivial, fun p H6 n6 => h _ H6 n6.same (.new n6)⟩
    · have s5' := s2'.trans (n3.same.trans s5)
      obtain ⟨nT, eT', bT⟩ := Lr.Ov.sm hO.pos (M := 2 ^ k) (a := cs) fun x hx => hO.ov x (List.mem_cons_of_mem _ hx)
      have hT0 : 0 ≤ Lr.sm cs := Lr.sm_nonneg c0
      have nT0 : 0 < nT := by
        have h1 : 0 ≤ nT := by rw [eT'] at hT0; exact (Lr.rt_nonneg hO.pos).mp hT0
        rcases Int.lt_or_eq_of_le h1 with h | h
        · exact h
        · exfalso
          rw [eT', ← h, Lr.rt_zero hO.pos] at c
          exact c rfl
      refine q hd D2 _ H5 s5' (s2'.free (n3.same.free hf)) hL5 ?_ ⟨D * nT, Int.mul_pos hO.pos nT0, Bd.mul (m := k) (n := k + 4) hO.bd (Bd.of_lt (Nat.lt_of_le_of_lt bT ?_)) (by omega), fun p hp => ?_⟩
      · unfold Shares
        simp only [if_neg c]
      · have h1 : cs.length * 2 ^ k ≤ 8 * 2 ^ k := Nat.mul_le_mul_right _ h8
        have p4 : (2 : Nat) ^ (k + 4) = 16 * 2 ^ k := by rw [Nat.pow_add, Nat.mul_comm]
        have p0 : 0 < (2 : Nat) ^ k := Nat.pow_pos (by decide)
        omega
      · obtain ⟨x, hx, rfl⟩ := List.mem_map.mp hp
        obtain ⟨nx, ex, bx⟩ := hO.ov x (List.mem_cons_of_mem _ hx)
        obtain ⟨ne, ee, be⟩ := hO.ov e List.mem_cons_self
        refine ⟨nx * ne, Lr.rt_of_mul (Int.mul_pos hO.pos nT0) ?_, ?_⟩
        · have hDr := Lr.rt_pos hO.pos
          have hNr := Lr.rt_pos nT0
          have x1 : x * (D : Rat) = (nx : Rat) := by rw [ex]; exact Lr.rt_mul_self hO.pos
          have e1 : e * (D : Rat) = (ne : Rat) := by rw [ee]; exact Lr.rt_mul_self hO.pos
          have t1 : Lr.sm cs * (D : Rat) = (nT : Rat) := by rw [eT']; exact Lr.rt_mul_self hO.pos
          rw [Rat.intCast_mul, Rat.intCast_mul, ← x1, ← e1, ← t1]
          generalize Lr.sm cs = T at c
          grind
        · rw [Int.natAbs_mul]
          refine Nat.le_trans (Nat.mul_le_mul bx be) ?_
          rw [← Nat.pow_add]
          exact Nat.pow_le_pow_right (by decide) (by omega)
theorem half_num : (Lr.rt 1 2).num = 1 := by decide +kernel
theorem half_den : (((Lr.rt 1 2).den : Nat) : Int) = 2 := by decide +kernel
theorem half_eq : Lr.rt 1 2 = 1 / 2 := by rw [Lr.rt_eq]; rfl
theorem ov_half {D : Int} (hD : 0 < D) {M : Nat} {x : Rat} (h : Lr.Ov D M x) : Lr.Ov (2 * D) M (x * Lr.rt 1 2) := by
  obtain ⟨n, rfl, hn⟩ := h
  refine ⟨n, Lr.rt_of_mul (by omega) ?_, hn⟩
  have := Lr.rt_mul_self (n := n) hD
  rw [half_eq, Rat.intCast_mul, ← this]
  show Lr.rt n D * (1 / 2) * (2 * (D : Rat)) = _
  grind
theorem ov_two {D : Int} (hD : 0 < D) {M : Nat} {x : Rat} (h : Lr.Ov D M x) : Lr.Ov (2 * D) (2 * M) x := by
  obtain ⟨n, rfl, hn⟩ := h
  refine ⟨2 * n, Lr.rt_of_mul (by omega) ?_, by omega⟩
  have := Lr.rt_mul_self (n := n) hD
  rw [Rat.intCast_mul, Rat.intCast_mul]
  show Lr.rt n D * (2 * (D : Rat)) = 2 * (n : Rat)
  grind
theorem ob_half {k : Nat} {D : Int} {cs : List Rat} {e : Rat} (hO : Ob k D (e :: cs)) : Ob (k + 1) (2 * D) (e :: cs.map (· * Lr.rt 1 2)) := by
  have p1 : (2 : Nat) ^ (k + 1) = 2 * 2 ^ k := by rw [Nat.pow_succ, Nat.mul_comm]
  refine ⟨by have := hO.pos; omega, ?_, fun x hx => ?_⟩
  · have h1 := hO.bd
    have h2 : (D.natAbs) < 2 ^ k := intBits_le_iff.mp h1
    exact Bd.of_lt (by omega)
  · rcases List.mem_cons.mp hx with rfl | hx
    · exact (ov_two hO.pos (hO.ov _ List.mem_cons_self)).mono (by omega)
    · obtain ⟨c, hc, rfl⟩ := List.mem_map.mp hx
      exact (ov_half hO.pos (hO.ov c (List.mem_cons_of_mem _ hc))).mono (by omega)
theorem sm_half {cs : List Rat} : Lr.sm (cs.map (· * Lr.rt 1 2)) = Lr.sm cs * Lr.rt 1 2 := Lr.sm_mul _ _
set_option maxHeartbeats 20000000 in
theorem cal_by_halves (F : Has K mg "by_halves" s_by_halves ["claims", "estate"] f fd) (En : Env K mg Ad) (G_lack : CalE P w K mg base "lack" 6 ["claims", "estate"] (sp_lack K Ad)) (G_claims_less : CalE P w K mg base "claims_less" 4 ["claims", "parts"] (sp_cless K)) (G_times : CalE P w K mg base "times" 3 ["one", "other"] (sp_times K)) (G_less : CalE P w K mg base "less" 1 ["one", "other"] (sp_less K)) (G_by_gains : CalE P w K mg base "by_gains" 7 ["claims", "estate"] (sp_gains K Ad)) : CalE P w K mg base "by_halves" 8 ["claims", "estate"] (sp_halves K Ad) := by
  refine F.calE (F.fn.okE sc_by_halves (fun vs H Q E h => ?_) (fun cdv A outer s H vs Q E hr h => ?_))
  · obtain ⟨a, v, cs, e, k, D, rfl, hL, hv, hO, hk, q, qE⟩ := h
    rfl
  obtain ⟨a, v, cs, e, k, D, rfl, hL, hv, hO, hk, q, qE⟩ := h
  refine ⟨_, (pss_cons (ps_set (i := 2) sc_by_halves.nd rfl (Or.inl rfl) (pe_callP G_lack hr (by decide) rfl (pa_cons (dv 0) (pa_cons (dv 1) pa_nil))))
    (pss_cons (ps_setComp (k := 3) (defScope s_by_halves) [] [] sc_by_halves.nd rfl (Or.inl rfl) rfl (pi_list (dv 0)) (fun z => (pe_callN G_times hr (by decide) rfl (pa_cons (dv 0) (pa_cons (En.c_HALF.pe rfl) pa_nil)))))
    (pss_cons (ps_if (pt_not (dt_val (pe_callP G_less hr (by decide) rfl (pa_cons (dv 2) (pa_cons (dv 1) pa_nil)))))
      (pss_one (ps_ret (pe_callP G_by_gains hr (by decide) rfl (pa_cons (dv 3) (pa_cons (dv 1) pa_nil)))))
      pss_nil)
    (pss_one (ps_ret (pe_callP G_claims_less hr (by decide) rfl (pa_cons (dv 0) (pa_cons (pe_callP G_by_gains hr (by decide) rfl (pa_cons (dv 3) (pa_cons (dv 2) pa_nil))) pa_nil)))))))), ?_⟩
  refine ⟨a, v, cs, e, k, D, rfl, hL, hv, hO, by omega, fun hd w' H1 s1 hw => ?_, qE⟩
  obtain ⟨h8, c0, e0, eT⟩ := due_none hd
  have hL1 := hL.same s1
  obtain ⟨vs, hs, hr, he⟩ := hL1.sq
  have zh : Sz 2 (Lr.rt 1 2) := ⟨by rw [half_num]; exact Bd.of_lt (by decide), by rw [half_den]; exact Bd.of_lt (by decide)⟩
  refine ⟨_, rfl, ⟨_, hs⟩, fun D2 H2 n2 => ?_⟩
  refine comp_RR (fun c => c * Lr.rt 1 2) n2 hL1 (by omega) ?_ fun H3 s3 hL3 hf => ?_
  · exact fun c hc u z H' s' hu R h => ⟨u, _, c, Lr.rt 1 2, 2501, 2, rfl, hu, RatV.k En.k_HALF half_num half_den, hO.sz (by omega) (List.mem_cons_of_mem _ hc), zh, by decide, trivial, fun p H6 n6 => h _ H6 n6.same (.new n6)⟩
  have s3' := s1.trans s3
  have hOl := ob_lack hO h8
  have zl : Sz 9000 (Lr.sm cs - e) := (hOl.sz (m := 2510) (by omega) List.mem_cons_self).mono (by decide)
  have ze : Sz 9000 e := (hO.sz (m := 2510) (by omega) List.mem_cons_self).mono (by decide)
  have h0 : ∀ c ∈ cs.map (· * Lr.rt 1 2), 0 ≤ c := by
    intro c hc
    obtain ⟨x, hx, rfl⟩ := List.mem_map.mp hc
    have := c0 x hx
    show 0 ≤ x * Lr.rt 1 2
    rw [half_eq]
    grind
  refine ⟨w', v, _, e, rfl, hw.same s3, hv.same s3', zl, ze, ?_⟩
  refine brN (fun c => ?_) (fun c => ?_)
  · have hd2 : dueOf Ad (cs.map (· * Lr.rt 1 2)) e = none := due_good (by simpa using h8) h0 e0 (by rw [sm_half, half_eq]; grind)
    refine ⟨D2, v, _, e, k + 1, 2 * D, rfl, hL3, hv.same s3', ob_half hO, by omega, fun _ l ps H4 s4 hf4 hL4 ⟨g, G, eps⟩ hO' => ?_, fun c hc => by rw [hd2] at hc; cases hc⟩
    rw [List.map_map] at eps
    exact q hd l ps H4 (s3'.trans s4) (s3'.free hf4) hL4 (.inl ⟨by grind, g, G, eps⟩) ⟨_, hO'.mono (by omega)⟩
  · have hd2 : dueOf Ad (cs.map (· * Lr.rt 1 2)) (Lr.sm cs - e) = none := due_good (by simpa using h8) h0 (by grind) (by rw [sm_half, half_eq]; grind)
    refine ⟨D2, w', _, _, k + 5, 2 * D, rfl, hL3, hw.same s3, ob_half hOl, by omega, fun _ l ps H4 s4 hf4 hL4 ⟨g, G, eps⟩ hO' => ?_, fun c hc => by rw [hd2] at hc; cases hc⟩
    rw [List.map_map] at eps
    refine ⟨a, l, cs, ps, 2501, 6000, rfl, hL.same (s3'.trans s4), hL4, fun c hc => hO.sz (by omega) (List.mem_cons_of_mem _ hc), fun p hp => hO'.sz (by omega) hp, by decide, by omega, by rw [eps]; simp, fun l2 H5 s5 hf5 hL5 => ?_⟩
    have hO2 : Ob (k + 17) (840 * (2 * D)) (cs.map fun c => c - Lr.mn (c * Lr.rt 1 2) g) := by
      refine ⟨hO'.pos, hO'.bd.mono (by omega), fun p hp => ?_⟩
      obtain ⟨c, hc, rfl⟩ := List.mem_map.mp hp
      have h1 := ov840 (by have := hO.pos; omega) (ov_two hO.pos (hO.ov c (List.mem_cons_of_mem _ hc)))
      have h2 := hO'.ov (Lr.mn (c * Lr.rt 1 2) g) (by rw [eps]; exact List.mem_map_of_mem (f := (fun x => Lr.mn x g) ∘ fun x => x * Lr.rt 1 2) hc)
      refine (h1.sub hO'.pos h2).mono ?_
      have e1 : (2 : Nat) ^ (k + 17) = 131072 * 2 ^ k := by rw [Nat.pow_add, Nat.mul_comm]
      have e2 : (2 : Nat) ^ (k + 5 + 10) = 32768 * 2 ^ k := by rw [Nat.add_assoc, Nat.pow_add, Nat.mul_comm]
      rw [e1, e2]
      omega
    rw [eps, zip_map] at hL5
    exact q hd l2 _ H5 (s3'.trans (s4.trans s5)) ((s3'.trans s4).free hf5) hL5 (.inr ⟨by grind, g, G, rfl⟩) ⟨_, hO2.mono (by omega)⟩
set_option maxHeartbeats 20000000 in
theorem cal_look_at_rule (F : Has K mg "look_at_rule" s_look_at_rule ["rule"] f fd) (En : Env K mg Ad) : CalE P w K mg base "look_at_rule" 1 ["rule"] (sp_lookR Ad) := by
  refine F.calE (F.fn.okE sc_look_at_rule (fun vs H Q E h => ?_) (fun cdv A outer s H vs Q E hr h => ?_))
  · obtain ⟨s, rfl, q, qE⟩ := h
    rfl
  obtain ⟨s, rfl, q, qE⟩ := h
  refine ⟨_, (pss_one (ps_if (dt_cmp op_notIn_seq (dv 0) (En.c_WORDS.pe rfl) (by with_unfolding_all rfl))
      (pss_one (ps_raise En.e_NoRule rfl (pa_cons (d_str (l := [116, 104, 101, 32, 114, 117, 108, 101, 115, 32, 97, 114, 101, 32, 115, 104, 97, 114, 101, 115, 44, 32, 103, 97, 105, 110, 115, 44, 32, 108, 111, 115, 115, 101, 115, 44, 32, 104, 97, 108, 118, 101, 115, 32, 97, 110, 100, 32, 116, 117, 114, 110, 115]) (by decide +kernel)) pa_nil)))
      pss_nil)), ?_⟩
  refine ⟨_, wordsV, rfl, .inr (.inr En.k_WORDS), rfl, rfl, ?_⟩
  refine brB (fun c => ?_) (fun c => ?_)
  · have hc : inV (.str s) wordsV = false := by simpa using c
    exact ⟨by decide, qE fun ρ z => by rw [z, word_in] at hc; cases hc⟩
  · have hc : inV (.str s) wordsV = true := by simpa using c
    exact q (in_word hc)
set_option maxHeartbeats 20000000 in
theorem cal_shared (F : Has K mg "shared" s_shared ["rule", "claims", "estate"] f fd) (En : Env K mg Ad) (G_look_at_rule : CalE P w K mg base "look_at_rule" 1 ["rule"] (sp_lookR Ad)) (G_by_turns : CalE P w K mg base "by_turns" 1 ["claims", "estate"] (sp_stub)) (G_in_shares : CalE P w K mg base "in_shares" 6 ["claims", "estate"] (sp_shares K Ad)) (G_by_gains : CalE P w K mg base "by_gains" 7 ["claims", "estate"] (sp_gains K Ad)) (G_by_losses : CalE P w K mg base "by_losses" 8 ["claims", "estate"] (sp_losses K Ad)) (G_by_halves : CalE P w K mg base "by_halves" 8 ["claims", "estate"] (sp_halves K Ad)) : CalE P w K mg base "shared" 9 ["rule", "claims", "estate"] (sp_shared K Ad) := by
  refine F.calE (F.fn.okE sc_shared (fun vs H Q E h => ?_) (fun cdv A outer s H vs Q E hr h => ?_))
  · obtain ⟨ρ, a, v, cs, e, k, D, rfl, ok, hL, hv, hO, hk, q, qE⟩ := h
    rfl
  obtain ⟨ρ, a, v, cs, e, k, D, rfl, ok, hL, hv, hO, hk, q, qE⟩ := h
  refine ⟨_, (pss_cons (ps_expr (pe_callP G_look_at_rule hr (by decide) rfl (pa_cons (dv 0) pa_nil)))
    (pss_cons (ps_if (dt_cmp d_eq (dv 0) (d_str (l := [115, 104, 97, 114, 101, 115]) (by decide +kernel)) (nomark _))
      (pss_one (ps_ret (pe_callP G_in_shares hr (by decide) rfl (pa_cons (dv 1) (pa_cons (dv 2) pa_nil)))))
      pss_nil)
    (pss_cons (ps_if (dt_cmp d_eq (dv 0) (d_str (l := [103, 97, 105, 110, 115]) (by decide +kernel)) (nomark _))
      (pss_one (ps_ret (pe_callP G_by_gains hr (by decide) rfl (pa_cons (dv 1) (pa_cons (dv 2) pa_nil)))))
      pss_nil)
    (pss_cons (ps_if (dt_cmp d_eq (dv 0) (d_str (l := [108, 111, 115, 115, 101, 115]) (by decide +kernel)) (nomark _))
      (pss_one (ps_ret (pe_callP G_by_losses hr (by decide) rfl (pa_cons (dv 1) (pa_cons (dv 2) pa_nil)))))
      pss_nil)
    (pss_cons (ps_if (dt_cmp d_eq (dv 0) (d_str (l := [104, 97, 108, 118, 101, 115]) (by decide +kernel)) (nomark _))
      (pss_one (ps_ret (pe_callP G_by_halves hr (by decide) rfl (pa_cons (dv 1) (pa_cons (dv 2) pa_nil)))))
      pss_nil)
    (pss_one (ps_ret (pe_callP G_by_turns hr (by decide) rfl (pa_cons (dv 1) (pa_cons (dv 2) pa_nil)))))))))), ?_⟩
  refine ⟨word ρ, rfl, fun _ => ?_, fun z => absurd rfl (z ρ)⟩
  refine br (fun c => ?_) (fun csh => ?_)
  · have e1 := word_is (ρ' := .sh) c
    subst e1
    exact ⟨a, v, cs, e, k, D, rfl, hL, hv, hO, by omega, fun hd l ps H' s f hP hR ⟨D', hO'⟩ => q hd l ps H' s f hP hR ⟨D', hO'.mono (by omega)⟩, qE⟩
  refine br (fun c => ?_) (fun cga => ?_)
  · have e1 := word_is (ρ' := .ga) c
    subst e1
    exact ⟨a, v, cs, e, k, D, rfl, hL, hv, hO, by omega, fun hd l ps H' s f hP hR hO' => q hd l ps H' s f hP hR ⟨_, hO'.mono (by omega)⟩, qE⟩
  refine br (fun c => ?_) (fun clo => ?_)
  · have e1 := word_is (ρ' := .lo) c
    subst e1
    exact ⟨a, v, cs, e, k, D, rfl, hL, hv, hO, by omega, fun hd l ps H' s f hP hR ⟨D', hO'⟩ => q hd l ps H' s f hP hR ⟨D', hO'.mono (by omega)⟩, qE⟩
  refine br (fun c => ?_) (fun cha => ?_)
  · have e1 := word_is (ρ' := .ha) c
    subst e1
    exact ⟨a, v, cs, e, k, D, rfl, hL, hv, hO, by omega, fun hd l ps H' s f hP hR ⟨D', hO'⟩ => q hd l ps H' s f hP hR ⟨D', hO'.mono (by omega)⟩, qE⟩
  have e1 : ρ = .tu := by
    cases ρ with
    | sh => exact absurd rfl csh
    | ga => exact absurd rfl cga
    | lo => exact absurd rfl clo
    | ha => exact absurd rfl cha
    | tu => rfl
  subst e1
  exact absurd rfl ok
theorem rats_one {H : Hp} {v : V} {x : Rat} (h : RatV K H v x) : RatsV K H [v] [x] := RatsV.nil.snoc h
set_option maxHeartbeats 20000000 in
theorem cal_look_at_rule_of_path (F : Has K mg "look_at_rule_of_path" s_look_at_rule_of_path ["rule"] f fd) (En : Env K mg Ad) (G_look_at_rule : CalE P w K mg base "look_at_rule" 1 ["rule"] (sp_lookR Ad)) : CalE P w K mg base "look_at_rule_of_path" 2 ["rule"] (sp_lookRP Ad) := by
  refine F.calE (F.fn.okE sc_look_at_rule_of_path (fun vs H Q E h => ?_) (fun cdv A outer s H vs Q E hr h => ?_))
  · obtain ⟨s, rfl, q, qE⟩ := h
    rfl
  obtain ⟨s, rfl, q, qE⟩ := h
  refine ⟨_, (pss_cons (ps_expr (pe_callP G_look_at_rule hr (by decide) rfl (pa_cons (dv 0) pa_nil)))
    (pss_one (ps_if (dt_cmp d_eq (dv 0) (d_str (l := [116, 117, 114, 110, 115]) (by decide +kernel)) (nomark _))
      (pss_one (ps_raise En.e_NoRule rfl (pa_cons (d_str (l := [97, 32, 112, 97, 116, 104, 32, 103, 111, 101, 115, 32, 98, 121, 32, 115, 104, 97, 114, 101, 115, 44, 32, 103, 97, 105, 110, 115, 44, 32, 108, 111, 115, 115, 101, 115, 32, 111, 114, 32, 104, 97, 108, 118, 101, 115]) (by decide +kernel)) pa_nil)))
      pss_nil))), ?_⟩
  refine ⟨s, rfl, fun ⟨ρ, e⟩ => ?_, fun z => qE fun ρ _ => z ρ⟩
  refine br (fun c => ?_) (fun c => ?_)
  · refine ⟨by decide, qE fun ρ' hρ' z => hρ' ?_⟩
    have c' : s = word .tu := c
    exact word_is (z.symm.trans c')
  · exact q ⟨ρ, fun z => c (by rw [e, z]; rfl), e⟩
theorem lvl_of {ts ms : List Int} {cs : List Rat} {B : Int} (hB : 0 < B) (hc : ts.map (fun t => Lr.rt t B) = cs) (hp : ms.Perm (Lt.dd (ts ++ [0]))) (hs : ms.Pairwise (· ≤ ·)) : Lr.Lvl cs (ms.map fun t => Lr.rt t B) := by
  obtain ⟨d1, d2⟩ := Lt.dd_mem_nd (ts ++ [0])
  have hn : ms.Nodup := hp.nodup_iff.mpr d2
  have hlt : ∀ {a b : Int}, a < b → Lr.rt a B < Lr.rt b B := fun {a b} h => by
    by_cases z : Lr.rt b B ≤ Lr.rt a B
    · have := (Lr.rt_le_iff hB).mp z
      omega
    · grind
  refine ⟨List.pairwise_map.mpr ((hs.and hn).imp fun {a b} h => hlt (by have h1 := h.1; have h2 := h.2; omega)), fun x => ?_⟩
  constructor
  · intro hx
    obtain ⟨t, ht, rfl⟩ := List.mem_map.mp hx
    have := (d1 t).mp (hp.mem_iff.mp ht)
    rcases List.mem_append.mp this with h | h
    · exact .inr (by rw [← hc]; exact List.mem_map_of_mem (f := fun t => Lr.rt t B) h)
    · rw [List.mem_singleton.mp h]
      exact .inl (Lr.rt_zero hB)
  · rintro (rfl | hx)
    · exact List.mem_map.mpr ⟨0, hp.mem_iff.mpr ((d1 0).mpr (List.mem_append_right _ (by simp))), Lr.rt_zero hB⟩
    · rw [← hc] at hx
      obtain ⟨t, ht, rfl⟩ := List.mem_map.mp hx
      exact List.mem_map.mpr ⟨t, hp.mem_iff.mpr ((d1 t).mpr (List.mem_append_left _ ht)), rfl⟩
theorem est_of {ts : List Int} {cs : List Rat} {B : Int} (hB : 0 < B) (hc : ts.map (fun t => Lr.rt t B) = cs) (m : Int) : Est cs (Lr.rt m B) = Lr.rt ((ts.map fun t => min t m).sum) B := by
  subst hc
  unfold Est
  rw [List.map_map, ← Lr.sm_ints hB, List.map_map]
  congr 1
  refine List.map_congr_left fun t _ => ?_
  show Lr.mn (Lr.rt t B) (Lr.rt m B) = Lr.rt (min t m) B
  exact Lr.rt_mn hB
set_option maxHeartbeats 20000000 in
theorem cal_estates_at_claims (F : Has K mg "estates_at_claims" s_estates_at_claims ["claims"] f fd) (En : Env K mg Ad) (G_common_bottom : CalE P w K mg base "common_bottom" 2 ["ratios"] (sp_cbot K)) (G_tops_over : CalE P w K mg base "tops_over" 1 ["bottom", "ratios"] (sp_tops K)) (G_ratio : CalE P w K mg base "ratio" 2 ["top", "bottom"] (sp_ratio)) : CalE P w K mg base "estates_at_claims" 3 ["claims"] (sp_eac K) := by
  refine F.calE (F.fn.okE sc_estates_at_claims (fun vs H Q E h => ?_) (fun cdv A outer s H vs Q E hr h => ?_))
  · obtain ⟨a, cs, k, D, rfl, hL, hO, hk, h8, nn, q⟩ := h
    rfl
  obtain ⟨a, cs, k, D, rfl, hL, hO, hk, h8, nn, q⟩ := h
  refine ⟨_, (pss_cons (ps_set (i := 1) sc_estates_at_claims.nd rfl (Or.inr rfl) (pe_callP G_common_bottom hr (by decide) rfl (pa_cons (dv 0) pa_nil)))
    (pss_cons (ps_set (i := 2) sc_estates_at_claims.nd rfl (Or.inr rfl) (pe_callP G_tops_over hr (by decide) rfl (pa_cons (dv 1) (pa_cons (dv 0) pa_nil))))
    (pss_one (ps_ret (pe_compC (defScope s_estates_at_claims) ["bottom", "tops"] [1, 2] rfl (pi_list (pe_callB (d_sortedS rfl) rfl En.b_sorted PyProof.Rows.boot_sorted (pa_cons (pe_callTy (d_set rfl) rfl En.b_set PyProof.Rows.boot_set (pa_cons (pe_op d_cat (dv 2) (d_lst (pa_cons pe_int pa_nil))) pa_nil)) pa_nil))) (fun z => (pe_callN G_ratio hr (by decide) rfl (pa_cons (pe_callB (d_sum rfl) rfl En.b_sum PyProof.Rows.boot_sum (pa_cons (pe_comp (relabelS (retScope s_estates_at_claims) (defScope s_estates_at_claims)) ["level"] [0] rfl (pi_list (dv 2)) (fun z => (pe_callB (d_min rfl) rfl En.b_min PyProof.Rows.boot_min (pa_cons (dv 0) (pa_cons (dv 1) pa_nil))))) pa_nil)) (pa_cons (dv 1) pa_nil))))))))), ?_⟩
  refine ⟨a, cs, k, D, rfl, hL, hO, by omega, fun B hB hBD hdv => ?_⟩
  have bB : Bd k B := dvd_bd hO.pos hBD hO.bd
  refine ⟨a, cs, B, rfl, hL, hB, bB.mono (by omega), hdv, fun x hx => (hO.sz (m := 700) (by omega) hx).mono (by decide), by omega, fun l1 ts H1 n1 ht => ?_⟩
  have hc : ts.map (fun t => Lr.rt t B) = cs := by
    have e1 := congrArg (List.map fun x : Rat => x / (B : Rat)) ht
    rw [List.map_map, List.map_map] at e1
    have hBq := Lr.rt_pos hB
    have e2 : cs.map ((fun x => x / (B : Rat)) ∘ fun x => x * (B : Rat)) = cs := by
      conv => rhs; rw [← List.map_id cs]
      refine List.map_congr_left fun x _ => ?_
      show x * (B : Rat) / (B : Rat) = x
      grind
    rw [e2] at e1
    rw [← e1]
    exact List.map_congr_left fun t _ => Lr.rt_eq
  have hlt : ts.length = cs.length := by rw [← hc, List.length_map]
  refine fun l2 H2 n2 => ⟨_, _, n2.same _ _ n1.at_, n2.at_, (by rw [List.length_map]; show _ + 1 ≤ 10000000; omega), fun l3 H3 n3 => ?_⟩
  have e3 : ts.map V.int ++ [V.int 0] = (ts ++ [0]).map V.int := by rw [List.map_append]; rfl
  rw [e3] at n3
  refine ⟨ts ++ [0], SqL.of n3.at_, (by rw [List.length_append]; show _ + 1 ≤ 1000; omega), fun l4 H4 n4 => ?_⟩
  have hdl : (Lt.dd (ts ++ [0])).length ≤ 9 := by
    have := Lt.dd_len (ts ++ [0]) (ts ++ [0]).length (Nat.le_refl _)
    rw [List.take_length, List.length_append] at this
    have e : ([0] : List Int).length = 1 := rfl
    omega
  refine ⟨_, n4.at_, by omega, fun lm ms H5 hp hsrt n5 => ?_⟩
  have hml : ms.length ≤ 9 := by rw [hp.length_eq]; exact hdl
  have L := lvl_of hB hc hp hsrt
  refine ⟨_, rfl, ⟨_, SqL.of n5.at_⟩, fun D2 H6 n6 => ?_⟩
  have s5 := n1.same.trans (n2.same.trans (n3.same.trans (n4.same.trans n5.same)))
  have ht5 := (n2.same.trans (n3.same.trans (n4.same.trans n5.same))) _ _ n1.at_
  refine comp_rats (xs := (ms.map fun t => Lr.rt t B).map (Est cs)) n6 (SqL.of n5.at_) (by rw [List.length_map]; omega) (by rw [List.length_map, List.length_map, List.length_map]) ?_ fun H7 s7 hR hf => ?_
  · intro j u x hu hx z H' s' R k'
    rw [List.getElem?_map] at hu hx
    obtain ⟨m, hm, rfl⟩ := Option.map_eq_some_iff.mp hu
    rw [List.getElem?_map, hm] at hx
    cases hx
    refine ⟨_, rfl, ⟨_, SqL.of (s' _ _ ht5)⟩, fun D3 H8 n8 => ?_⟩
    refine comp_ints (fun t => min t m) n8 (SqL.of (s' _ _ ht5)) (by omega) (fun w' _ z H' R h => h) fun H9 n9 => ?_
    refine ⟨_, SqL.of n9.at_, ?_⟩
    refine ⟨_, B, rfl, by omega, bB.mono (by omega), fun p H10 n10 => k' _ H10 (n9.same.trans n10.same) ?_⟩
    rw [est_of hB hc m]
    exact .new n10
  · exact q D2 _ H7 (s5.trans s7) (s5.free hf) hR L (by rw [List.length_map]; exact hml)
theorem comp_revR {a D : Addr} {us : List V} {es : List Rat} {caps : St} {te : CB → TE} {Q : VK} {H1 H2 : Hp} (g : Rat → Rat) (n : New H1 D (.lst []) H2) (hs : SqL K H1 a us) (hr : RatsV K H1 us es) (hlen : es.length ≤ 1000)
    (hte : ∀ x ∈ es, ∀ u z H', Same H1 H' → RatV K H' u x → ∀ R : VK, (∀ v H3, Same H' H3 → RatV K H3 v (g x) → R v H3) → te z (some u :: caps) H' R) (hq : ∀ H', Same H1 H' → RatL K H' D (es.reverse.map g) → H1 D = none → Q (.ref D) H') : CompGo (Itv K a us.length) D caps te Q H2 := by
  have hl := hr.len
  refine comp_by us.length (fun i ys H' => Same H1 H' ∧ H' D = some (.lst ys) ∧ RatsV K H' ys ((es.reverse.map g).take i)) ⟨n.same, n.at_, .nil⟩ (fun i ys H' hi h => ⟨hi, us, h.1.seq hs, rfl⟩) (fun ys H' h => Nat.le_refl _) ?_ ?_
  · rintro i ys H' u H'' z hi ⟨s, hD, hr'⟩ ⟨rfl, hy⟩
    have hu := hy us (s.seq hs)
    have hx : es[us.length - 1 - i]? = some (es[us.length - 1 - i]'(by omega)) := List.getElem?_eq_getElem _
    have hrv : (es.reverse.map g)[i]? = some (g (es[us.length - 1 - i]'(by omega))) := by
      rw [List.getElem?_map, List.getElem?_reverse (by omega), show es.length - 1 - i = us.length - 1 - i by omega, hx]
      rfl
    refine hte _ (List.mem_of_getElem? hx) u z H'' s ((hr.at_ _ u _ hu hx).same s) _ fun v H3 s3 r => ⟨s3 _ _ hD, ?_, fun H4 c => ⟨c.same (s.trans s3) n.fr, c.at_, ?_⟩⟩
    · rw [hr'.len, List.length_take]
      omega
    · have t := c.ts (s3 _ _ hD)
      rw [List.take_add_one, hrv]
      exact ((hr'.ts s3.ts).ts t).snoc (r.ts t)
  · rintro ys H' ⟨s, hD, hr'⟩
    rw [List.take_of_length_le (by rw [List.length_map, List.length_reverse]; omega)] at hr'
    exact hq H' s ⟨ys, hD, hr'⟩ n.fr
set_option maxHeartbeats 20000000 in
theorem cal_turned_round (F : Has K mg "turned_round" s_turned_round ["claimed", "estates"] f fd) (En : Env K mg Ad) (G_minus : CalE P w K mg base "minus" 3 ["one", "other"] (sp_minus K)) : CalE P w K mg base "turned_round" 4 ["claimed", "estates"] (sp_troun K) := by
  refine F.calE (F.fn.okE sc_turned_round (fun vs H Q E h => ?_) (fun cdv A outer s H vs Q E hr h => ?_))
  · obtain ⟨v, a, T, es, m, n, rfl, hv, hL, hT, hz, hmn, hl, q⟩ := h
    rfl
  obtain ⟨v, a, T, es, m, n, rfl, hv, hL, hT, hz, hmn, hl, q⟩ := h
  refine ⟨_, (pss_one (ps_ret (pe_comp (defScope s_turned_round) ["claimed"] [0] rfl (pi_rev rfl En.b_reversed (pa_cons (dv 1) pa_nil)) (fun z => (pe_callN G_minus hr (by decide) rfl (pa_cons (dv 1) (pa_cons (dv 0) pa_nil))))))), ?_⟩
  obtain ⟨us, hs, hr, he⟩ := hL.sq
  refine ⟨us, hs, fun D2 H2 n2 => ?_⟩
  refine comp_revR (fun x => T - x) n2 hs hr (by omega) ?_ fun H3 s3 hR hf => q D2 H3 s3 hf hR
  exact fun x hx u z H' s' hu R h => ⟨v, u, T, x, m, n, rfl, hv.same s', hu, hT, hz x hx, hmn, trivial, fun p H6 n6 => h _ H6 n6.same (.new n6)⟩
theorem cut_last (us : List V) : cutV us none (some (-1 : Int)) = us.dropLast := by
  unfold cutV
  rw [HT.sIx_none, List.drop_zero, Nat.sub_zero, List.dropLast_eq_take]
  congr 1
  show HT.sIx us.length us.length (some (-1 : Int)) = us.length - 1
  show (if (-1 : Int) < 0 then ((-1 : Int) + (us.length : Int)).toNat else min (-1 : Int).toNat us.length) = us.length - 1
  rw [if_pos (by decide)]
  omega
theorem rats_dropLast {H : Hp} {us : List V} {es : List Rat} (h : RatsV K H us es) : RatsV K H us.dropLast es.dropLast := by
  refine ⟨by rw [List.length_dropLast, List.length_dropLast, h.len], fun j v x hv hx => ?_⟩
  rw [List.getElem?_dropLast] at hv hx
  split at hv
  · split at hx
    · exact h.at_ j v x hv hx
    · cases hx
  · cases hv
theorem ins_ex (x : Rat) : ∀ {ls : List Rat}, ls.Pairwise (· < ·) → ∃ ms : List Rat, ms.Pairwise (· < ·) ∧ (∀ y, y ∈ ms ↔ y = x ∨ y ∈ ls) ∧ ms.length ≤ ls.length + 1
  | [], _ => ⟨[x], List.pairwise_singleton _ _, fun y => by simp, by simp⟩
  | a :: r, h => by
    have h1 := List.pairwise_cons.mp h
    by_cases c1 : x < a
    · refine ⟨x :: a :: r, List.pairwise_cons.mpr ⟨fun y hy => ?_, h⟩, fun y => by simp, by simp⟩
      rcases List.mem_cons.mp hy with rfl | hy
      · exact c1
      · have := h1.1 y hy
        grind
    by_cases c2 : x = a
    · subst c2
      exact ⟨x :: r, h, fun y => by simp, by simp⟩
    · obtain ⟨ms, m1, m2, m3⟩ := ins_ex x h1.2
      refine ⟨a :: ms, List.pairwise_cons.mpr ⟨fun y hy => ?_, m1⟩, fun y => ?_, by simp only [List.length_cons]; omega⟩
      · rcases (m2 y).mp hy with rfl | hy
        · grind
        · exact h1.1 y hy
      · rw [List.mem_cons, m2 y, List.mem_cons]
        constructor
        · rintro (e | e | e)
          · exact .inr (.inl e)
          · exact .inl e
          · exact .inr (.inr e)
        · rintro (e | e | e)
          · exact .inr (.inl e)
          · exact .inl e
          · exact .inr (.inr e)
theorem lvl_ex' : ∀ cs : List Rat, ∃ ls, Lr.Lvl cs ls ∧ ls.length ≤ cs.length + 1
  | [] => ⟨[0], ⟨List.pairwise_singleton _ _, fun x => by simp⟩, by simp⟩
  | c :: cs => by
    obtain ⟨ls, L, hl⟩ := lvl_ex' cs
    obtain ⟨ms, m1, m2, m3⟩ := ins_ex c L.srt
    refine ⟨ms, ⟨m1, fun x => ?_⟩, by rw [List.length_cons]; omega⟩
    rw [m2 x, L.mem x, List.mem_cons]
    constructor
    · rintro (e | e | e)
      · exact .inr (.inl e)
      · exact .inl e
      · exact .inr (.inr e)
    · rintro (e | e | e)
      · exact .inr (.inl e)
      · exact .inl e
      · exact .inr (.inr e)
theorem lvl_ex (cs : List Rat) (h8 : cs.length ≤ 8) : ∃ ls, Lr.Lvl cs ls ∧ ls.length ≤ 9 := by
  obtain ⟨ls, L, hl⟩ := lvl_ex' cs
  exact ⟨ls, L, by omega⟩
set_option maxHeartbeats 20000000 in
theorem cal_estates_of_knots (F : Has K mg "estates_of_knots" s_estates_of_knots ["rule", "claims"] f fd) (En : Env K mg Ad) (G_total : CalE P w K mg base "total" 4 ["claims"] (sp_total K)) (G_estates_at_claims : CalE P w K mg base "estates_at_claims" 3 ["claims"] (sp_eac K)) (G_turned_round : CalE P w K mg base "turned_round" 4 ["claimed", "estates"] (sp_troun K)) (G_times : CalE P w K mg base "times" 3 ["one", "other"] (sp_times K)) : CalE P w K mg base "estates_of_knots" 5 ["rule", "claims"] (sp_eok K) := by
  refine F.calE (F.fn.okE sc_estates_of_knots (fun vs H Q E h => ?_) (fun cdv A outer s H vs Q E hr h => ?_))
  · obtain ⟨ρ, a, cs, k, D, rfl, hρ, hL, hO, hk, h8, nn, q⟩ := h
    rfl
  obtain ⟨ρ, a, cs, k, D, rfl, hρ, hL, hO, hk, h8, nn, q⟩ := h
  refine ⟨_, (pss_cons (ps_set (i := 2) sc_estates_of_knots.nd rfl (Or.inl rfl) (pe_callP G_total hr (by decide) rfl (pa_cons (dv 1) pa_nil)))
    (pss_cons (ps_if (dt_cmp (d_eqR hr.units0) (dv 2) (En.c_NOUGHT.pe rfl) (nomark _))
      (pss_one (ps_ret (d_lst (pa_cons (En.c_NOUGHT.pe rfl) pa_nil))))
      pss_nil)
    (pss_cons (ps_if (dt_cmp d_eq (dv 0) (d_str (l := [115, 104, 97, 114, 101, 115]) (by decide +kernel)) (nomark _))
      (pss_one (ps_ret (d_lst (pa_cons (En.c_NOUGHT.pe rfl) (pa_cons (dv 2) pa_nil)))))
      pss_nil)
    (pss_cons (ps_set (i := 3) sc_estates_of_knots.nd rfl (Or.inl rfl) (pe_callP G_estates_at_claims hr (by decide) rfl (pa_cons (dv 1) pa_nil)))
    (pss_cons (ps_if (dt_cmp d_eq (dv 0) (d_str (l := [103, 97, 105, 110, 115]) (by decide +kernel)) (nomark _))
      (pss_one (ps_ret (dv 3)))
      pss_nil)
    (pss_cons (ps_if (dt_cmp d_eq (dv 0) (d_str (l := [108, 111, 115, 115, 101, 115]) (by decide +kernel)) (nomark _))
      (pss_one (ps_ret (pe_callP G_turned_round hr (by decide) rfl (pa_cons (dv 2) (pa_cons (dv 3) pa_nil)))))
      pss_nil)
    (pss_cons (ps_setComp (k := 4) (defScope s_estates_of_knots) [] [] sc_estates_of_knots.nd rfl (Or.inl rfl) rfl (pi_list (pe_slice d_slL (dv 3) po_none (d_some (pe_un d_neg pe_int)))) (fun z => (pe_callN G_times hr (by decide) rfl (pa_cons (dv 0) (pa_cons (En.c_HALF.pe rfl) pa_nil)))))
    (pss_one (ps_ret (pe_op d_cat (dv 4) (pe_callP G_turned_round hr (by decide) rfl (pa_cons (dv 2) (pa_cons (dv 4) pa_nil))))))))))))), ?_⟩
  have zt := sz_part hO (show k ≤ 3000 by omega) (show cs.length ≤ 1100 by omega) cs.length
  rw [List.take_length] at zt
  refine ⟨a, cs, k, D, rfl, hL, hO, by omega, by omega, fun t H1 s1 ht => ?_⟩
  have hL1 := hL.same s1
  refine ⟨_, 0, ht, rat0 En, ?_⟩
  refine br (fun c => ?_) (fun c => ?_)
  · refine fun l H2 n2 => ?_
    have e0 : smF cs (fun _ => 0) = 0 := Lr.all_zero_sm fun x hx => by obtain ⟨y, _, rfl⟩ := List.mem_map.mp hx; rfl
    have hR : RatL K H2 l ([fun _ => (0 : Rat)].map (smF cs)) := ⟨_, n2.at_, by
      show RatsV K H2 _ [smF cs fun _ => 0]
      rw [e0]
      exact rats_one (rat0 En)⟩
    exact q l [fun _ => 0] H2 (s1.trans n2.same) (s1.free n2.fr) hR (.inl ⟨c, rfl⟩)
  have zE : ∀ {ls : List Rat}, Lr.Lvl cs ls → ∀ e ∈ ls.map (Est cs), Sz 700 e := fun {ls} L e he => by
    obtain ⟨x, hx, rfl⟩ := List.mem_map.mp he
    refine ovSz hO.pos hO.bd (Lr.Ov.sm hO.pos (M := 2 ^ k) (a := cs.map (Lr.mn · x)) fun y hy => ?_) ?_ (by omega)
    · obtain ⟨c, hc, rfl⟩ := List.mem_map.mp hy
      exact (hO.ov c hc).mn (lvl_ov hO L hx)
    · rw [List.length_map]
      have h1 : cs.length * 2 ^ k ≤ 8 * 2 ^ k := Nat.mul_le_mul_right _ h8
      have h2 : (2 : Nat) ^ 700 = 2 ^ (700 - k) * 2 ^ k := by rw [← Nat.pow_add]; congr 1; omega
      have h3 : (2 : Nat) ^ 100 ≤ 2 ^ (700 - k) := Nat.pow_le_pow_right (by decide) (by omega)
      have h4 : 0 < (2 : Nat) ^ k := Nat.two_pow_pos k
      have h5 : (2 : Nat) ^ 100 * 2 ^ k ≤ 2 ^ (700 - k) * 2 ^ k := Nat.mul_le_mul_right _ h3
      have h6 : 8 * 2 ^ k < (2 : Nat) ^ 100 * 2 ^ k := Nat.mul_lt_mul_of_pos_right (by decide) h4
      omega
  refine br (fun csh => ?_) (fun csh => ?_)
  · have e1 := word_is (ρ' := .sh) csh
    subst e1
    refine fun l H2 n2 => ?_
    refine q l (Lr.kn [] .sh) H2 (s1.trans n2.same) (s1.free n2.fr) ⟨_, n2.at_, ?_⟩ ?_
    · have e0 : smF cs (fun _ => 0) = 0 := Lr.all_zero_sm fun x hx => by obtain ⟨y, _, rfl⟩ := List.mem_map.mp hx; rfl
      have e2 : smF cs (fun c => c) = Lr.sm cs := by unfold smF; rw [List.map_id']
      show RatsV K H2 _ [smF cs (fun _ => 0), smF cs fun c => c]
      rw [e0, e2]
      exact (rats_one (rat0 En)).app (rats_one (ht.same n2.same))
    · obtain ⟨ls, L, hl⟩ := lvl_ex cs h8
      exact .inr ⟨c, ls, L, hl, rfl⟩
  refine ⟨a, cs, k, D, rfl, hL1, hO, hk, h8, nn, fun le ls H2 s2 f2 hE L hll => ?_⟩
  have ht2 := ht.same s2
  have s12 := s1.trans s2
  have zT : Sz 3012 (Lr.sm cs) := zt
  refine br (fun cga => ?_) (fun cga => ?_)
  · have e1 := word_is (ρ' := .ga) cga
    subst e1
    refine q le (Lr.kn ls .ga) H2 s12 (s1.free f2) ?_ (.inr ⟨c, ls, L, hll, rfl⟩)
    show RatL K H2 le ((ls.map fun t c => Lr.mn c t).map (smF cs))
    rw [List.map_map]
    exact hE
  refine br (fun clo => ?_) (fun clo => ?_)
  · have e1 := word_is (ρ' := .lo) clo
    subst e1
    refine ⟨t, le, _, _, 3012, 700, rfl, ht2, hE, zT, zE L, by decide, by rw [List.length_map]; omega, fun l H3 s3 f3 hR => ?_⟩
    refine q l (Lr.kn ls .lo) H3 (s12.trans s3) (s12.free f3) ?_ (.inr ⟨c, ls, L, hll, rfl⟩)
    show RatL K H3 l ((ls.reverse.map fun t c => c - Lr.mn c t).map (smF cs))
    rw [List.map_map]
    rw [← List.map_reverse, List.map_map] at hR
    have e2 : ls.reverse.map ((fun x => Lr.sm cs - x) ∘ Est cs) = ls.reverse.map (smF cs ∘ fun t c => c - Lr.mn c t) := List.map_congr_left fun t _ => Lr.sm_id_sub.symm
    rw [← e2]
    exact hR
  have eha : ρ = .ha := by
    cases ρ with
    | sh => exact absurd rfl csh
    | ga => exact absurd rfl cga
    | lo => exact absurd rfl clo
    | ha => rfl
    | tu => exact absurd rfl hρ
  subst eha
  obtain ⟨ve, hse, hre, hee⟩ := hE.sq
  refine ⟨ve, hse, fun l3 H3 n3 => ?_⟩
  rw [show cutV ve none (some (-(1 : Int))) = ve.dropLast from cut_last ve] at n3
  have hE3 : RatL K H3 l3 (ls.map (Est cs)).dropLast := ⟨_, n3.at_, rats_dropLast (hre.ts n3.same.ts)⟩
  rw [← List.map_dropLast] at hE3
  obtain ⟨v3, hs3, hr3, he3⟩ := hE3.sq
  have zh : Sz 2 (Lr.rt 1 2) := ⟨by rw [half_num]; exact Bd.of_lt (by decide), by rw [half_den]; exact Bd.of_lt (by decide)⟩
  have zD : ∀ e ∈ ls.dropLast.map (Est cs), Sz 700 e := fun e he => by
    obtain ⟨x, hx, rfl⟩ := List.mem_map.mp he
    exact zE L _ (List.mem_map_of_mem ((List.dropLast_subset ls) hx))
  refine ⟨_, rfl, ⟨_, hs3⟩, fun D2 H4 n4 => ?_⟩
  refine comp_RR (fun e => e * Lr.rt 1 2) n4 hE3 (by rw [List.length_map, List.length_dropLast]; omega) ?_ fun H5 s5 hL5 hf5 => ?_
  · exact fun e he u z H' s' hu R h => ⟨u, _, e, Lr.rt 1 2, 700, 2, rfl, hu, RatV.k En.k_HALF half_num half_den, zD e he, zh, by decide, trivial, fun p H6 n6 => h _ H6 n6.same (.new n6)⟩
  have s25 := n3.same.trans s5
  have zL : ∀ e ∈ (ls.dropLast.map (Est cs)).map (fun e => e * Lr.rt 1 2), Sz 702 e := fun e he => by
    obtain ⟨x, hx, rfl⟩ := List.mem_map.mp he
    exact (zD x hx).mul zh
  refine ⟨t, D2, _, _, 3012, 702, rfl, ht2.same s25, hL5, zT, zL, by decide, by rw [List.length_map, List.length_map, List.length_dropLast]; omega, fun l6 H6 s6 f6 hR6 => ?_⟩
  obtain ⟨v5, e5, r5⟩ := hL5
  obtain ⟨v6, e6, r6⟩ := hR6
  have hl5 := r5.len
  have hl6 := r6.len
  simp only [List.length_map, List.length_dropLast, List.length_reverse] at hl5 hl6
  refine ⟨_, _, s6 _ _ e5, e6, by omega, fun l7 H7 n7 => ?_⟩
  refine q l7 (Lr.kn ls .ha) H7 (s12.trans (s25.trans (s6.trans n7.same))) ((s12.trans (s25.trans s6)).free n7.fr) ⟨_, n7.at_, ?_⟩ (.inr ⟨c, ls, L, hll, rfl⟩)
  have r := (r5.ts (s6.trans n7.same).ts).app (r6.ts n7.same.ts)
  have eA : (Lr.kn ls .ha).map (smF cs) = (ls.dropLast.map (Est cs)).map (fun e => e * Lr.rt 1 2) ++ ((ls.dropLast.map (Est cs)).map (fun e => e * Lr.rt 1 2)).reverse.map (fun x => Lr.sm cs - x) := by
    have h1 : ∀ t, Lr.sm (cs.map fun c => Lr.mn (c * Lr.rt 1 2) (t * Lr.rt 1 2)) = Est cs t * Lr.rt 1 2 := fun t => by
      unfold Est
      rw [← Lr.sm_mul, List.map_map]
      congr 1
      exact List.map_congr_left fun c _ => Lr.mn_half c t
    show ((ls.dropLast.map fun t c => Lr.mn (c * Lr.rt 1 2) (t * Lr.rt 1 2)) ++ ls.dropLast.reverse.map fun t c => c - Lr.mn (c * Lr.rt 1 2) (t * Lr.rt 1 2)).map (smF cs) = _
    rw [List.map_append, List.map_map, List.map_map, List.map_map, ← List.map_reverse, List.map_map]
    congr 1
    · exact List.map_congr_left fun t _ => h1 t
    · refine List.map_congr_left fun t _ => ?_
      show Lr.sm (cs.map fun c => c - Lr.mn (c * Lr.rt 1 2) (t * Lr.rt 1 2)) = Lr.sm cs - Est cs t * Lr.rt 1 2
      rw [Lr.sm_id_sub (F := fun c => Lr.mn (c * Lr.rt 1 2) (t * Lr.rt 1 2)), h1]
  rw [eA]
  exact r
theorem com_of {D : Int} : ∀ {xs : List Rat}, (∀ x ∈ xs, ∃ n : Int, x = Lr.rt n D) → ∃ ts : List Int, ts.map (fun t => Lr.rt t D) = xs
  | [], _ => ⟨[], rfl⟩
  | x :: xs, h => by
    obtain ⟨ts, e⟩ := com_of fun y hy => h y (List.mem_cons_of_mem _ hy)
    obtain ⟨n, e'⟩ := h x List.mem_cons_self
    exact ⟨n :: ts, by rw [List.map_cons, e, e']⟩
theorem good_of {k : Nat} {D : Int} {cs : List Rat} {e : Rat} (hO : Ob k D (e :: cs)) (nn : ∀ c ∈ cs, 0 ≤ c) (e0 : 0 ≤ e) (le : e ≤ Lr.sm cs) : Lr.Good cs e := by
  obtain ⟨ts, h⟩ := com_of (D := D) (xs := cs) fun x hx => let ⟨n, a, _⟩ := hO.ov x (List.mem_cons_of_mem _ hx); ⟨n, a⟩
  obtain ⟨n, hn, _⟩ := hO.ov e List.mem_cons_self
  exact ⟨nn, e0, le, D, ts, n, hO.pos, h, hn.symm⟩
theorem KnsV.snoc {H0 H : Hp} {cs : List Rat} {vs : List V} {Fs : List (Rat → Rat)} {v : V} {F : Rat → Rat} (h : KnsV K H0 H cs vs Fs) (hv : KnV K H0 H cs v F) : KnsV K H0 H cs (vs ++ [v]) (Fs ++ [F]) := by
  refine ⟨by rw [List.length_append, List.length_append, h.len]; rfl, fun j u G hu hG => ?_⟩
  by_cases hj : j < vs.length
  · rw [List.getElem?_append_left hj] at hu
    rw [List.getElem?_append_left (by rw [← h.len]; exact hj)] at hG
    exact h.at_ j u G hu hG
  · rw [List.getElem?_append_right (by omega)] at hu
    rw [List.getElem?_append_right (by rw [← h.len]; omega), ← h.len] at hG
    match hjj : j - vs.length, hu, hG with
    | 0, hu, hG => cases hu; cases hG; exact hv
    | m + 1, hu, hG => cases hu
set_option maxHeartbeats 20000000 in
theorem cal_path (F : Has K mg "path" s_path ["rule", "claims"] f fd) (En : Env K mg Ad) (G_look_at_rule_of_path : CalE P w K mg base "look_at_rule_of_path" 2 ["rule"] (sp_lookRP Ad)) (G_look_at_claims : CalE P w K mg base "look_at_claims" 2 ["claims"] (sp_lookC K Ad)) (G_shared : CalE P w K mg base "shared" 9 ["rule", "claims", "estate"] (sp_shared K Ad)) (G_estates_of_knots : CalE P w K mg base "estates_of_knots" 5 ["rule", "claims"] (sp_eok K)) : CalE P w K mg base "path" 10 ["rule", "claims"] (sp_path K Ad) := by
  refine F.calE (F.fn.okE sc_path (fun vs H Q E h => ?_) (fun cdv A outer s H vs Q E hr h => ?_))
  · obtain ⟨s, a, cs, k, D, rfl, hL, hO, hk, q, qR, qE⟩ := h
    rfl
  obtain ⟨s, a, cs, k, D, rfl, hL, hO, hk, q, qR, qE⟩ := h
  refine ⟨_, (pss_cons (ps_expr (pe_callP G_look_at_rule_of_path hr (by decide) rfl (pa_cons (dv 0) pa_nil)))
    (pss_cons (ps_expr (pe_callP G_look_at_claims hr (by decide) rfl (pa_cons (dv 1) pa_nil)))
    (pss_one (ps_ret (pe_comp (defScope s_path) ["rule", "claims"] [0, 1] rfl (pi_list (pe_callP G_estates_of_knots hr (by decide) rfl (pa_cons (dv 0) (pa_cons (dv 1) pa_nil)))) (fun z => (d_tup (pa_cons (dv 0) (pa_cons (pe_callN G_shared hr (by decide) rfl (pa_cons (dv 1) (pa_cons (dv 2) (pa_cons (dv 0) pa_nil)))) pa_nil))))))))), ?_⟩
  have hz : ∀ c ∈ cs, Sz 9000 c := fun c hc => (hO.sz (m := 700) (by omega) hc).mono (by decide)
  refine ⟨s, rfl, fun ⟨ρ, hρ, es⟩ => ?_, qR⟩
  subst es
  refine ⟨a, cs, rfl, hL, hz, fun hd => ?_, fun c hc => qE c ⟨ρ, hρ, rfl⟩ hc⟩
  obtain ⟨h8, nn⟩ := dueC_none hd
  refine ⟨ρ, a, cs, k, D, rfl, hρ, hL, hO, hk, h8, nn, fun le Fs H1 s1 f1 hE pf => ?_⟩
  obtain ⟨ve, hse, hre, hee⟩ := hE.sq
  have hFl := pf.len
  have hel := hre.len
  rw [List.length_map] at hel
  have hL1 := hL.same s1
  refine ⟨_, rfl, ⟨_, hse⟩, fun D2 H2 n2 => ?_⟩
  refine comp_list (xs := ve) (fun i ys H' => Same H1 H' ∧ H' D2 = some (.lst ys) ∧ KnsV K H2 H' cs ys (Fs.take i)) ⟨n2.same, n2.at_, ⟨rfl, fun j v F h => by cases h⟩⟩ (fun i ys H' _ h => h.1.seq hse) ?_ ?_
  · rintro i u ys H' z hu ⟨s', hD, hk'⟩
    have hi : i < Fs.length := by rw [← hel]; exact (List.getElem?_eq_some_iff.mp hu).1
    have hF : Fs[i]? = some Fs[i] := List.getElem?_eq_getElem hi
    have hFm := List.mem_of_getElem? hF
    have hv : RatV K H' u (smF cs Fs[i]) := (hre.at_ i u _ hu (by rw [List.getElem?_map, hF]; rfl)).same s'
    obtain ⟨G, aG, eG⟩ := pf.af hρ nn hFm
    have bG := aG.sum_bd nn
    have eS : smF cs Fs[i] = Lr.sm (cs.map G) := by unfold smF; rw [eG]
    have hd2 : dueOf Ad cs (smF cs Fs[i]) = none := due_good h8 nn (by rw [eS]; exact bG.1) (by rw [eS]; exact bG.2)
    have hOb := pf.ob hO h8 hFm
    have hO2 : Ob (k + 5) (2 * D) (smF cs Fs[i] :: cs) := hOb.sub fun y hy => by
      rcases List.mem_cons.mp hy with rfl | hy
      · exact List.mem_cons_self
      · exact List.mem_cons_of_mem _ (List.mem_append_right _ hy)
    refine ⟨ρ, a, u, cs, smF cs Fs[i], k + 5, 2 * D, rfl, hρ, hL1.same s', hv, hO2, by omega, fun _ lp ps H3 s3 f3 hP hR _ => ?_, fun c hc => by rw [hd2] at hc; cases hc⟩
    have gd : Lr.Good cs (smF cs Fs[i]) := good_of hO2 nn (by rw [eS]; exact bG.1) (by rw [eS]; exact bG.2)
    have ePs : ps = cs.map Fs[i] := by rw [eG]; exact aG.shared hρ gd eS.symm hR
    refine fun pt H4 n4 => ⟨(s3.trans n4.same) _ _ hD, ?_, fun H5 c5 => ⟨?_, c5.at_, ?_⟩⟩
    · have := hk'.len
      rw [List.length_take] at this
      omega
    · exact c5.same (s'.trans (s3.trans n4.same)) n2.fr
    · have s35 : Same H' H4 := s3.trans n4.same
      have neD : ∀ b o, H4 b = some o → b ≠ D2 → H5 b = some o := fun b o e ne => (c5.oth b ne).trans e
      have hlt : ∀ b o, H4 b = some (.tup o) → b ≠ D2 := fun b o e z => by rw [z, s35 _ _ hD] at e; cases e
      have np : ∀ p : Addr, H2 p = none → p ≠ D2 := fun p f' z => by rw [z, n2.at_] at f'; cases f'
      have tsD := c5.ts (s35 _ _ hD)
      have kn5 : ∀ {v F}, KnV K H2 H4 cs v F → KnV K H2 H5 cs v F := fun {v F} ⟨t, p, w', e, a1, f', b, vp, ep, rp⟩ =>
        ⟨t, p, w', e, neD _ _ a1 (hlt t _ a1), f', b.ts tsD, vp, neD _ _ ep (np p f'), rp.ts tsD⟩
      have flp : H2 lp = none := by
        have ne : lp ≠ D2 := fun z => by rw [z, hD] at f3; cases f3
        rw [n2.oth lp ne]
        exact s'.free f3
      rw [List.take_add_one, hF]
      refine KnsV.snoc ⟨hk'.len, fun j v F a1 b1 => kn5 ((hk'.at_ j v F a1 b1).same s35)⟩ (kn5 ⟨pt, lp, u, rfl, n4.at_, flp, hv.same s35, ?_⟩)
      have := hP.same n4.same
      rw [ePs] at this
      exact this
  · rintro ys H' ⟨s', hD, hk'⟩
    rw [hel, List.take_length] at hk'
    exact q ρ hρ rfl hd D2 ys Fs H' (s1.trans s') (s1.free n2.fr) hD ⟨hk'.len, fun j v F a1 b1 => let ⟨t, p, w', e, x1, f', r⟩ := hk'.at_ j v F a1 b1; ⟨t, p, w', e, x1, (s1.trans n2.same).free f', r⟩⟩ pf
set_option maxHeartbeats 20000000 in
theorem cal_look_at_amount (F : Has K mg "look_at_amount" s_look_at_amount ["claims", "claimer", "amount"] f fd) (En : Env K mg Ad) (G_less : CalE P w K mg base "less" 1 ["one", "other"] (sp_less K)) : CalE P w K mg base "look_at_amount" 2 ["claims", "claimer", "amount"] (sp_lookA K Ad) := by
  refine F.calE (F.fn.okE sc_look_at_amount (fun vs H Q E h => ?_) (fun cdv A outer s H vs Q E hr h => ?_))
  · obtain ⟨a, i, v, cs, x, rfl, hL, hv, hz, hx, qC, qA⟩ := h
    rfl
  obtain ⟨a, i, v, cs, x, rfl, hL, hv, hz, hx, qC, qA⟩ := h
  refine ⟨_, (pss_cons (ps_if (PW.pt (pw_or (dt_cmp d_lt (dv 1) pe_int (nomark _)) (pw_or1 (dt_cmp d_ge (dv 1) (pe_callB d_len rfl En.b_len PySem.boot_len (pa_cons (dv 0) pa_nil)) (nomark _)))))
      (pss_one (ps_raise En.e_NoClaimer rfl (pa_cons (d_str (l := [116, 104, 101, 32, 110, 117, 109, 98, 101, 114, 32, 105, 115, 32, 110, 111, 32, 99, 108, 97, 105, 109, 101, 114, 39, 115]) (by decide +kernel)) pa_nil)))
      pss_nil)
    (pss_one (ps_if (PW.pt (pw_or (dt_val (pe_callP G_less hr (by decide) rfl (pa_cons (dv 2) (pa_cons (En.c_NOUGHT.pe rfl) pa_nil)))) (pw_or1 (dt_val (pe_callP G_less hr (by decide) rfl (pa_cons (pe_ix d_ixL (dv 0) (dv 1) (fun _ _ => rfl)) (pa_cons (dv 2) pa_nil)))))))
      (pss_one (ps_raise En.e_NoAmount rfl (pa_cons (d_str (l := [116, 104, 101, 32, 97, 109, 111, 117, 110, 116, 32, 105, 115, 32, 98, 101, 108, 111, 119, 32, 48, 32, 111, 114, 32, 97, 98, 111, 118, 101, 32, 116, 104, 101, 32, 99, 108, 97, 105, 109]) (by decide +kernel)) pa_nil)))
      pss_nil))), ?_⟩
  obtain ⟨vs, hs, hr, he⟩ := hL.sq
  have hl := hr.len
  refine br (fun c => ?_) (fun c => ?_)
  · exact ⟨by decide, qC (.inl c)⟩
  refine ⟨vs, .inl hs, ?_⟩
  refine br (fun c2 => ?_) (fun c2 => ?_)
  · exact ⟨by decide, qC (.inr (by omega))⟩
  obtain ⟨j, rfl⟩ : ∃ j : Nat, i = (j : Int) := ⟨i.toNat, by omega⟩
  have hj : j < vs.length := by omega
  have gv := List.getElem?_eq_getElem hj
  have hc : cs[j]? = some (cs[j]'(by omega)) := List.getElem?_eq_getElem _
  have rc := hr.at_ j _ _ gv hc
  obtain ⟨bad, good⟩ := qA j _ rfl hc
  generalize vs[j] = u at gv rc
  generalize hcc : cs[j]'(by omega) = c0 at *
  refine ⟨v, _, x, 0, rfl, hv, rat0 En, hx, Sz.zero.mono (by decide), ?_⟩
  refine br (fun c3 => ?_) (fun c3 => ?_)
  · exact ⟨by decide, bad (.inl c3)⟩
  refine ⟨vs, u, hs, atI_nat gv, u, v, c0, x, rfl, rc, hv, hz c0 (List.mem_of_getElem? hc), hx, ?_⟩
  refine br (fun c4 => ?_) (fun c4 => ?_)
  · exact ⟨by decide, bad (.inr c4)⟩
  exact good (by grind) (by grind)
set_option maxHeartbeats 20000000 in
theorem cal_estate_between (F : Has K mg "estate_between" s_estate_between ["knot", "later", "claimer", "amount"] f fd) (En : Env K mg Ad) (G_over : CalE P w K mg base "over" 3 ["one", "other"] (sp_over K)) (G_plus : CalE P w K mg base "plus" 3 ["one", "other"] (sp_plus K)) (G_minus : CalE P w K mg base "minus" 3 ["one", "other"] (sp_minus K)) (G_times : CalE P w K mg base "times" 3 ["one", "other"] (sp_times K)) : CalE P w K mg base "estate_between" 4 ["knot", "later", "claimer", "amount"] (sp_betw K) := by
  refine F.calE (F.fn.okE sc_estate_between (fun vs H Q E h => ?_) (fun cdv A outer s H vs Q E hr h => ?_))
  · obtain ⟨t, u, p, q', j, v, w1, w2, e1, e2, a', b', x, ps, qs, rfl, ht, hu, h1, h2, hp, hq, ha, hb, hv, z1, z2, z3, z4, z5, hne, q⟩ := h
    rfl
  obtain ⟨t, u, p, q', j, v, w1, w2, e1, e2, a', b', x, ps, qs, rfl, ht, hu, h1, h2, hp, hq, ha, hb, hv, z1, z2, z3, z4, z5, hne, q⟩ := h
  refine ⟨_, (pss_cons (ps_set (i := 4) sc_estate_between.nd rfl (Or.inl rfl) (pe_ix d_ixL (pe_ix d_ixT (dv 0) pe_int (fun _ _ => rfl)) (dv 2) (fun _ _ => rfl)))
    (pss_cons (ps_set (i := 5) sc_estate_between.nd rfl (Or.inl rfl) (pe_callP G_over hr (by decide) rfl (pa_cons (pe_callP G_minus hr (by decide) rfl (pa_cons (pe_ix d_ixT (dv 1) pe_int (fun _ _ => rfl)) (pa_cons (pe_ix d_ixT (dv 0) pe_int (fun _ _ => rfl)) pa_nil))) (pa_cons (pe_callP G_minus hr (by decide) rfl (pa_cons (pe_ix d_ixL (pe_ix d_ixT (dv 1) pe_int (fun _ _ => rfl)) (dv 2) (fun _ _ => rfl)) (pa_cons (dv 4) pa_nil))) pa_nil))))
    (pss_one (ps_ret (pe_callP G_plus hr (by decide) rfl (pa_cons (pe_ix d_ixT (dv 0) pe_int (fun _ _ => rfl)) (pa_cons (pe_callP G_times hr (by decide) rfl (pa_cons (pe_callP G_minus hr (by decide) rfl (pa_cons (dv 3) (pa_cons (dv 4) pa_nil))) (pa_cons (dv 5) pa_nil))) pa_nil))))))), ?_⟩
  obtain ⟨vp, hsp, hrp, hep⟩ := hp.sq
  obtain ⟨vq, hsq, hrq, heq⟩ := hq.sq
  have hjp : j < vp.length := by rw [hrp.len]; exact (List.getElem?_eq_some_iff.mp ha).1
  have hjq : j < vq.length := by rw [hrq.len]; exact (List.getElem?_eq_some_iff.mp hb).1
  have gp := List.getElem?_eq_getElem hjp
  have gq := List.getElem?_eq_getElem hjq
  have rp := hrp.at_ j _ _ gp ha
  have rq := hrq.at_ j _ _ gq hb
  generalize vp[j] = up at gp rp
  generalize vq[j] = uq at gq rq
  refine ⟨_, _, SqT.of ht, rfl, _, up, hsp, atI_nat gp, ?_⟩
  refine ⟨_, _, SqT.of hu, rfl, _, _, SqT.of ht, rfl, w2, w1, e2, e1, 800, 800, rfl, h2, h1, z2, z1, by decide, trivial, fun d1 H1 n1 => ?_⟩
  refine ⟨_, _, SqT.of (n1.same _ _ hu), rfl, _, uq, n1.same.seq hsq, atI_nat gq, ?_⟩
  refine ⟨uq, up, b', a', 800, 800, rfl, rq.same n1.same, rp.same n1.same, z4, z3, by decide, trivial, fun d2 H2 n2 => ?_⟩
  refine ⟨.ref d1, .ref d2, _, _, 1601, 1601, rfl, (RatV.new n1).same n2.same, .new n2, z2.sub z1, z4.sub z3, by decide, hne, fun d3 H3 n3 => ?_⟩
  have s3 := n1.same.trans (n2.same.trans n3.same)
  refine ⟨_, _, SqT.of (s3 _ _ ht), rfl, v, up, x, a', 800, 800, rfl, hv.same s3, rp.same s3, z5, z3, by decide, trivial, fun d4 H4 n4 => ?_⟩
  refine ⟨.ref d4, .ref d3, _, _, 1601, 3202, rfl, .new n4, (RatV.new n3).same n4.same, z5.sub z3, (z2.sub z1).div (z4.sub z3) hne, by decide, trivial, fun d5 H5 n5 => ?_⟩
  refine ⟨w1, .ref d5, _, _, 800, 4803, rfl, h1.same (s3.trans (n4.same.trans n5.same)), .new n5, z1, (z5.sub z3).mul ((z2.sub z1).div (z4.sub z3) hne), by decide, trivial, fun d6 H6 n6 => ?_⟩
  exact q d6 H6 (.inr ⟨s3.trans (n4.same.trans (n5.same.trans n6.same)), .new n6⟩)
set_option maxHeartbeats 20000000 in
theorem cal_needed (F : Has K mg "needed" s_needed ["rule", "claims", "claimer", "amount"] f fd) (En : Env K mg Ad) (G_path : CalE P w K mg base "path" 10 ["rule", "claims"] (sp_path K Ad)) (G_look_at_amount : CalE P w K mg base "look_at_amount" 2 ["claims", "claimer", "amount"] (sp_lookA K Ad)) (G_less : CalE P w K mg base "less" 1 ["one", "other"] (sp_less K)) (G_estate_between : CalE P w K mg base "estate_between" 4 ["knot", "later", "claimer", "amount"] (sp_betw K)) : CalE P w K mg base "needed" 11 ["rule", "claims", "claimer", "amount"] (sp_needed K Ad) := by
  refine F.calE (F.fn.okE sc_needed (fun vs H Q E h => ?_) (fun cdv A outer s H vs Q E hr h => ?_))
  · obtain ⟨s, a, i, v, cs, x, k, D, rfl, hL, hv, hO, hk, hx, q, qR, qE, qC, qA⟩ := h
    rfl
  obtain ⟨s, a, i, v, cs, x, k, D, rfl, hL, hv, hO, hk, hx, q, qR, qE, qC, qA⟩ := h
  refine ⟨_, (pss_cons (ps_set (i := 4) sc_needed.nd rfl (Or.inl rfl) (pe_callP G_path hr (by decide) rfl (pa_cons (dv 0) (pa_cons (dv 1) pa_nil))))
    (pss_cons (ps_expr (pe_callP G_look_at_amount hr (by decide) rfl (pa_cons (dv 1) (pa_cons (dv 2) (pa_cons (dv 3) pa_nil)))))
    (pss_cons (ps_set (i := 5) sc_needed.nd rfl (Or.inl rfl) pe_int)
    (pss_cons (ps_while PassesOwn.leaving (dt_val (pe_callP G_less hr (by decide) rfl (pa_cons (pe_ix d_ixL (pe_ix d_ixT (pe_ix d_ixL (dv 4) (dv 5) (fun _ _ => rfl)) pe_int (fun _ _ => rfl)) (dv 2) (fun _ _ => rfl)) (pa_cons (dv 3) pa_nil))))
      (pss_one (ps_set (i := 5) sc_needed.nd rfl (Or.inl rfl) (pe_op d_add (dv 5) pe_int))))
    (pss_cons (ps_if (dt_cmp d_eq (dv 5) pe_int (nomark _))
      (pss_one (ps_ret (En.c_NOUGHT.pe rfl)))
      pss_nil)
    (pss_one (ps_ret (pe_callP G_estate_between hr (by decide) rfl (pa_cons (pe_ix d_ixL (dv 4) (pe_op d_sub (dv 5) pe_int) (fun _ _ => rfl)) (pa_cons (pe_ix d_ixL (dv 4) (dv 5) (fun _ _ => rfl)) (pa_cons (dv 2) (pa_cons (dv 3) pa_nil)))))))))))), ?_⟩
  refine ⟨s, a, cs, k, D, rfl, hL, hO, hk, fun ρ hρ es hd l us Fs H1 s1 f1 hl hK pf => ?_, qR, qE⟩
  obtain ⟨h8, nn⟩ := dueC_none hd
  have hz : ∀ c ∈ cs, Sz 9000 c := fun c hc => (hO.sz (m := 700) (by omega) hc).mono (by decide)
  refine ⟨a, i, v, cs, x, rfl, hL.same s1, hv.same s1, hz, hx.mono (by decide), fun c => qC ⟨ρ, hρ, es⟩ hd c H1 s1, fun j c ei hc => ⟨fun z => qA j c ⟨ρ, hρ, es⟩ hd ei hc z H1 s1, fun x0 xc => ?_⟩⟩
  obtain ⟨F0, hF0, z0⟩ := pf.head hρ nn
  obtain ⟨FL, hFL, zL⟩ := pf.last hρ nn
  subst ei
  have hcm := List.mem_of_getElem? hc
  have hlen := hK.len
  have hv1 := hv.same s1
  have szF : ∀ F ∈ Fs, Sz 700 (smF cs F) ∧ Sz 700 (F c) := fun F hF => by
    have hb := pf.ob hO h8 hF
    exact ⟨hb.sz (by omega) List.mem_cons_self, hb.sz (by omega) (List.mem_cons_of_mem _ (List.mem_append_left _ (List.mem_map_of_mem hcm)))⟩
  have atF : ∀ (m : Nat) F, Fs[m]? = some F → ∃ (t p : Addr) (w' : V) (vp : List V) (up : V), us[m]? = some (.ref t) ∧ H1 t = some (.tup [w', .ref p]) ∧ RatV K H1 w' (smF cs F) ∧ RatL K H1 p (cs.map F) ∧ SqL K H1 p vp ∧ vp[j]? = some up ∧ RatV K H1 up (F c) := fun m F hF => by
    have hm : m < us.length := by rw [hlen]; exact Lr.lt_of_some hF
    have gu := List.getElem?_eq_getElem hm
    obtain ⟨t, p, w', e1, e2, _, e3, e4⟩ := hK.at_ m _ F gu hF
    obtain ⟨vp, hsp, hrp, hep⟩ := e4.sq
    have hjl : j < vp.length := by
      have := hrp.len
      rw [List.length_map] at this
      have := Lr.lt_of_some hc
      omega
    refine ⟨t, p, w', vp, vp[j], by rw [gu, e1], e2, e3, e4, hsp, List.getElem?_eq_getElem hjl, hrp.at_ j _ _ (List.getElem?_eq_getElem hjl) (by rw [List.getElem?_map, hc]; rfl)⟩
  refine whl (fun m σ H' => H' = H1 ∧ ∃ n : Nat, σ = [some (.str s), some (.ref a), some (.int (j : Int)), some v, some (.ref l), some (.int (n : Int))] ∧ n < Fs.length ∧ m = Fs.length - n ∧ ∀ n' F, n' < n → Fs[n']? = some F → F c < x) _ ⟨rfl, 0, rfl, Lr.lt_of_some hF0, rfl, fun n' F h => by omega⟩ ?_
  rintro m σ H' ⟨rfl, n, rfl, hn, rfl, hlow⟩
  have hFn : Fs[n]? = some Fs[n] := List.getElem?_eq_getElem hn
  obtain ⟨t, p, w', vp, up, g1, g2, g3, g4, g5, g6, g7⟩ := atF n _ hFn
  have szn := szF _ (List.mem_of_getElem? hFn)
  refine ⟨us, _, SqL.of hl, atI_nat g1, _, _, SqT.of g2, rfl, vp, up, g5, atI_nat g6, up, v, _, x, rfl, g7, hv1, szn.2.mono (by decide), hx.mono (by decide), ?_⟩
  refine br (fun cw => whl_in ?_) (fun cw => ?_)
  · have hn1 : n + 1 < Fs.length := by
      refine Classical.byContradiction fun z => ?_
      have e : n = Fs.length - 1 := by omega
      rw [← e, hFn] at hFL
      cases hFL
      have := zL c hcm
      grind
    refine ⟨_, by omega, rfl, n + 1, ?_, hn1, rfl, fun n' F h1 h2 => ?_⟩
    · show _ = _
      rw [show ((n + 1 : Nat) : Int) = (n : Int) + 1 by omega]
      rfl
    · by_cases e : n' = n
      · subst e
        rw [hFn] at h2
        cases h2
        exact cw
      · exact hlow n' F (by omega) h2
  · refine br (fun cz => ?_) (fun cz => ?_)
    · have n0 : n = 0 := by omega
      subst n0
      rw [hF0] at hFn
      have e0 := Option.some.inj hFn
      rw [← e0, z0 c hcm] at cw
      have ex : x = 0 := by grind
      refine q ρ j c hρ es hd rfl hc x0 xc _ H' s1 ?_
      unfold NeedV
      rw [if_pos ex]
      exact rat0 En
    · obtain ⟨n1, rfl⟩ : ∃ n1, n = n1 + 1 := ⟨n - 1, by omega⟩
      have hn1 : n1 < Fs.length := by omega
      have hFp : Fs[n1]? = some Fs[n1] := List.getElem?_eq_getElem hn1
      obtain ⟨t2, p2, w2, vp2, up2, k1, k2, k3, k4, k5, k6, k7⟩ := atF n1 _ hFp
      have szp := szF _ (List.mem_of_getElem? hFp)
      have lo := hlow n1 _ (by omega) hFp
      have S := pf.seg hρ nn n1 _ _ hFp hFn
      have hne : Fs[n1 + 1] c - Fs[n1] c ≠ 0 := by grind
      have ix : ((n1 + 1 : Nat) : Int) - 1 = ((n1 : Nat) : Int) := by omega
      refine ⟨us, .ref t2, SqL.of hl, by rw [ix]; exact atI_nat k1, us, _, SqL.of hl, atI_nat g1, ?_⟩
      have gA : (cs.map Fs[n1])[j]? = some (Fs[n1] c) := by rw [List.getElem?_map, hc]; rfl
      have gB : (cs.map Fs[n1 + 1])[j]? = some (Fs[n1 + 1] c) := by rw [List.getElem?_map, hc]; rfl
      refine ⟨t2, t, p2, p, j, v, w2, w', _, _, _, _, x, _, _, rfl, k2, g2, k3, g3, k4, g4, gA, gB, hv1, szp.1.mono (by decide), szn.1.mono (by decide), szp.2.mono (by decide), szn.2.mono (by decide), hx, hne, fun z H3 hz' => ?_⟩
      have sR : Same H' H3 ∧ RatV K H3 (.ref z) (smF cs Fs[n1] + (x - Fs[n1] c) * ((smF cs Fs[n1 + 1] - smF cs Fs[n1]) / (Fs[n1 + 1] c - Fs[n1] c))) := by
        rcases hz' with hz' | hz'
        · exact ⟨hz'.same, .new hz'⟩
        · exact hz'
      have hx0 : x ≠ 0 := by
        intro z
        have f0 : 0 ≤ Fs[n1] c := by
          obtain ⟨G, aG, eG⟩ := pf.af hρ nn (List.mem_of_getElem? hFp)
          have e1 : (cs.map Fs[n1])[j]? = (cs.map G)[j]? := by rw [eG]
          rw [List.getElem?_map, List.getElem?_map, hc] at e1
          have e2 : Fs[n1] c = G c := Option.some.inj e1
          rw [e2]
          exact aG.fam.b0 c (nn c hcm)
        grind
      refine q ρ j c hρ es hd rfl hc x0 xc _ H3 (s1.trans sR.1) ?_
      unfold NeedV
      rw [if_neg hx0]
      have := S.at_ hcm lo (by grind)
      unfold smF
      rw [← this]
      exact sR.2
theorem atL {ns : List Int} {k : Int} (h0 : 0 ≤ k) (h : k < (ns.length : Int)) : ∃ v : Int, atI (ns.map V.int) k = some (.int v) ∧ v ∈ ns := by
  have hk : k.toNat < ns.length := by omega
  have ek : k = ((k.toNat : Nat) : Int) := by omega
  refine ⟨ns[k.toNat], ?_, List.getElem_mem hk⟩
  have q : atI (ns.map V.int) ((k.toNat : Nat) : Int) = some (.int ns[k.toNat]) := atI_nat (by rw [List.getElem?_map, List.getElem?_eq_getElem hk] <;> rfl)
  rw [← ek] at q
  exact q
theorem cdiv {x y : Int} (h : y.natAbs < 2 ^ 200) (h0 : y ≠ 0) : CDivB x y := ⟨h0, (Bd.of_lt h).mono (by decide)⟩
theorem m250 {x y : Int} (hx : x.natAbs < 2 ^ 250) (hy : y.natAbs < 2 ^ 250) : CMulB x y := CMulB.of (m := 250) (Bd.of_lt hx) (Bd.of_lt hy) (by decide)
theorem cpow {x : Int} {k : Int} (h0 : 0 ≤ k) (hk : k ≤ 1000) (hx : x.natAbs < 2 ^ 64) : CPowB x k := by
  refine ⟨h0, ?_⟩
  have h1 : (Builtin.Int.intBits x : Int) ≤ 64 := by have : Bd 64 x := Bd.of_lt hx; omega
  have : (Builtin.Int.intBits x : Int) * k ≤ 64 * 1000 := Int.mul_le_mul h1 hk h0 (by decide)
  omega
set_option maxHeartbeats 20000000 in
theorem cal_l_cell_at (F : Has K mg "_law_cell_at" s_l_cell_at ["_law_script", "_law_k"] f fd) (En : Env K mg Ad) : CalE P w K mg base "_law_cell_at" 1 ["_law_script", "_law_k"] (sp_cell K) := by
  refine F.calE (F.fn.okE sc_l_cell_at (fun vs H Q E h => ?_) (fun cdv A outer s H vs Q E hr h => ?_))
  · obtain ⟨a, ns, k, rfl, hS, h0, q⟩ := h
    rfl
  obtain ⟨a, ns, k, rfl, hS, h0, q⟩ := h
  refine ⟨_, (pss_cons (ps_if (dt_cmp d_lt (dv 1) (pe_callB d_len rfl En.b_len PySem.boot_len (pa_cons (dv 0) pa_nil)) (nomark _))
      (pss_one (ps_ret (pe_ix d_ixL (dv 0) (dv 1) (fun _ _ => rfl))))
      pss_nil)
    (pss_one (ps_ret pe_int))), ?_⟩
  refine ⟨_, .inl hS, ?_⟩
  refine br (fun c => ?_) (fun c => ?_)
  · rw [List.length_map] at c
    obtain ⟨v, hv, _⟩ := atL h0 c
    exact ⟨_, _, hS, hv, q v⟩
  · exact q 0
theorem unit_bd : ∀ d : Nat, d < 12 → (55440 : Int).fdiv (1 + (d : Int)) % 2 = 0 ∧ 0 < (55440 : Int).fdiv (1 + (d : Int)) ∧ (55440 : Int).fdiv (1 + (d : Int)) ≤ 55440 := by decide +kernel
theorem unit_ok {r : Int} : (55440 : Int).fdiv (1 + r % 12) % 2 = 0 ∧ 0 < (55440 : Int).fdiv (1 + r % 12) ∧ (55440 : Int).fdiv (1 + r % 12) ≤ 55440 := by
  have h := unit_bd (r % 12).toNat (by omega)
  rw [show (((r % 12).toNat : Nat) : Int) = r % 12 by omega] at h
  exact h
theorem num_ok {x u M : Int} (x0 : 0 ≤ x) (x1 : x ≤ M) (u2 : u % 2 = 0) (u0 : 0 < u) (u1 : u ≤ 55440) (hM : M * 55440 < 10 ^ 36) : 0 ≤ x * u ∧ x * u < 10 ^ 36 ∧ x * u % 2 = 0 := by
  refine ⟨Int.mul_nonneg x0 (by omega), ?_, ?_⟩
  · have h1 : x * u ≤ M * 55440 := Int.mul_le_mul x1 u1 (by omega) (by omega)
    omega
  · rw [Int.mul_emod, u2]
    simp
set_option maxHeartbeats 20000000 in
theorem cal_l_claims (F : Has K mg "_law_claims" s_l_claims ["_law_script", "_law_start"] f fd) (En : Env K mg Ad) (G_l_cell_at : CalE P w K mg base "_law_cell_at" 1 ["_law_script", "_law_k"] (sp_cell K)) : CalE P w K mg base "_law_claims" 2 ["_law_script", "_law_start"] (sp_q_claims K) := by
  refine F.calE (F.fn.okE sc_l_claims (fun vs H Q E h => ?_) (fun cdv A outer s H vs Q E hr h => ?_))
  · obtain ⟨a, ns, st, rfl, hS, h0, q⟩ := h
    rfl
  obtain ⟨a, ns, st, rfl, hS, h0, q⟩ := h
  refine ⟨_, (pss_cons (ps_set (i := 2) sc_l_claims.nd rfl (Or.inl rfl) (d_lst pa_nil))
    (pss_cons (ps_set (i := 3) sc_l_claims.nd rfl (Or.inl rfl) (pe_op d_mod (pe_callP G_l_cell_at hr (by decide) rfl (pa_cons (dv 0) (pa_cons (dv 1) pa_nil))) pe_int))
    (pss_cons (ps_for PassesOwn.leaving rfl (pi_range1 rfl En.b_range (pa_cons (dv 3) pa_nil)) (pg_name (i := 4) sc_l_claims.nd rfl (Or.inl rfl))
      (pss_cons (ps_set (i := 5) sc_l_claims.nd rfl (Or.inl rfl) (pe_op d_add (pe_callP G_l_cell_at hr (by decide) rfl (pa_cons (dv 0) (pa_cons (pe_op d_add (pe_op d_add (dv 1) pe_int) (dv 4)) pa_nil))) (pe_op d_mul pe_int (dv 4))))
    (pss_cons (ps_set (i := 6) sc_l_claims.nd rfl (Or.inl rfl) (pe_op d_fdiv (dv 5) pe_int))
    (pss_cons (ps_set (i := 7) sc_l_claims.nd rfl (Or.inl rfl) (pe_op d_fdiv pe_int (pe_op d_add pe_int (pe_op d_mod (dv 6) pe_int))))
    (pss_cons (ps_set (i := 8) sc_l_claims.nd rfl (Or.inl rfl) (pe_op d_mul (pe_op d_add pe_int (pe_op d_mod (pe_op d_fdiv (dv 6) pe_int) pe_int)) (dv 7)))
    (pss_cons (ps_if (dt_cmp d_eq (pe_op d_mod (dv 5) pe_int) pe_int (nomark _))
      (pss_one (ps_set (i := 8) sc_l_claims.nd rfl (Or.inl rfl) (pe_op d_mul (pe_op d_mod (pe_op d_fdiv (dv 6) pe_int) (pe_op d_pow pe_int pe_int)) (dv 7))))
      pss_nil)
    (pss_cons (ps_if (PW.pt (pw_and (dt_cmp d_eq (pe_op d_mod (dv 5) pe_int) pe_int (nomark _)) (pw_and1 (dt_cmp d_gt (dv 4) pe_int (nomark _)))))
      (pss_one (ps_set (i := 8) sc_l_claims.nd rfl (Or.inl rfl) (pe_ix d_ixL (dv 2) (pe_op d_mod (dv 6) (dv 4)) (fun _ _ => rfl))))
      pss_nil)
    (pss_cons (ps_if (PW.pt (pw_and (dt_cmp d_eq (pe_op d_mod (dv 5) pe_int) pe_int (nomark _)) (pw_and1 (dt_cmp d_eq (pe_op d_mod (dv 6) pe_int) pe_int (nomark _)))))
      (pss_one (ps_set (i := 8) sc_l_claims.nd rfl (Or.inl rfl) pe_int))
      pss_nil)
    (pss_one (ps_expr (d_append (dv 2) (pa_cons (dv 8) pa_nil))))))))))))
    (pss_one (ps_ret (dv 2)))))), ?_⟩
  refine fun l H1 n1 => ?_
  refine ⟨a, ns, st, rfl, n1.same.seq hS, h0, fun v0 => ⟨by decide, ?_⟩⟩
  have r0 := Int.emod_nonneg v0 (show (9 : Int) ≠ 0 by decide)
  have r1 := Int.emod_lt_of_pos v0 (show (0 : Int) < 9 by decide)
  generalize v0 % 9 = n at r0 r1 ⊢
  refine ⟨_, rfl, by omega, by omega, ?_⟩
  refine for_range (fun i σ H2 => ∃ (ws : List Int) (x4 x5 x6 x7 x8 : Option V), σ = [some (.ref a), some (.int st), some (.ref l), some (.int n), x4, x5, x6, x7, x8] ∧ Same H H2 ∧ H2 l = some (.lst (ws.map V.int)) ∧ ws.length = i ∧ ∀ w ∈ ws, 0 ≤ w ∧ w < 10 ^ 36 ∧ w % 2 = 0)
    ⟨[], _, _, _, _, _, rfl, n1.same, n1.at_, rfl, by simp⟩ ?_ ?_
  · rintro i σ H2 hi ⟨ws, x4, x5, x6, x7, x8, rfl, s2, hl, hw, hr⟩
    have hi8 : i < 9 := by omega
    refine ⟨a, ns, _, rfl, s2.seq hS, by omega, fun v => ?_⟩
    refine ⟨m250 (by decide) (by omega), ?_⟩
    obtain ⟨cl, ecl⟩ : ∃ c, c = v + 16 * (0 + (i : Int)) := ⟨_, rfl⟩
    obtain ⟨re, ere⟩ : ∃ r, r = cl.fdiv 8 := ⟨_, rfl⟩
    have hu := unit_ok (r := re)
    obtain ⟨un, eun⟩ : ∃ u, u = (55440 : Int).fdiv (1 + re % 12) := ⟨_, rfl⟩
    rw [← eun] at hu
    refine ⟨cdiv (by decide) (by decide), by decide, ⟨by omega, (Bd.of_lt (n := 200) (by omega)).mono (by decide)⟩, ?_⟩
    rw [← ecl, ← ere, ← eun]
    refine ⟨cdiv (by decide) (by decide), by decide, ?_⟩
    have hx := num_ok (x := 1 + re.fdiv 12 % 12) (M := 12) (by omega) (by omega) hu.1 hu.2.1 hu.2.2 (by decide)
    refine ⟨m250 (by omega) (by omega), by decide, ?_⟩
    obtain ⟨nm, enm⟩ : ∃ u, u = (1 + re.fdiv 12 % 12) * un := ⟨_, rfl⟩
    rw [← enm] at hx ⊢
    refine ifS (fun σ H' => H' = H2 ∧ ∃ nm, σ = [some (.ref a), some (.int st), some (.ref l), some (.int n), some (.int (0 + (i : Int))), some (.int cl), some (.int re), some (.int un), some (.int nm)] ∧ 0 ≤ nm ∧ nm < 10 ^ 36 ∧ nm % 2 = 0) ?_ (fun _ => ⟨rfl, nm, rfl, hx⟩) (fun _ hgo => ?_)
    rotate_left
    · refine ⟨cdiv (by decide) (by decide), cpow (by decide) (by decide) (by decide), by decide, ?_⟩
      have f0 := Int.emod_nonneg (re.fdiv 12) (show (10 : Int) ^ ((30 : Int).toNat) ≠ 0 by decide)
      have f1 := Int.emod_lt_of_pos (re.fdiv 12) (show (0 : Int) < 10 ^ ((30 : Int).toNat) by decide)
      rw [show (30 : Int).toNat = 30 from rfl] at f0 f1
      have hy := num_ok (x := re.fdiv 12 % 10 ^ 30) (M := 10 ^ 30) f0 (by omega) hu.1 hu.2.1 hu.2.2 (by decide)
      exact ⟨m250 (show (re.fdiv 12 % 10 ^ 30).natAbs < 2 ^ 250 by omega) (by omega), hgo _ _ ⟨rfl, _, rfl, hy⟩⟩
    rintro σ H' ⟨eH, nm, rfl, hx⟩
    subst H'
    refine ⟨by decide, ?_⟩
    refine ifSA (fun σ H' => H' = H2 ∧ ∃ nm, σ = [some (.ref a), some (.int st), some (.ref l), some (.int n), some (.int (0 + (i : Int))), some (.int cl), some (.int re), some (.int un), some (.int nm)] ∧ 0 ≤ nm ∧ nm < 10 ^ 36 ∧ nm % 2 = 0) ?_ ⟨rfl, nm, rfl, hx⟩ (fun _ hgo => ?_)
    rotate_left
    · refine br (fun ck => ?_) (fun _ => hgo _ _ ⟨rfl, nm, rfl, hx⟩)
      have e0 := Int.emod_nonneg re (show (0 : Int) + (i : Int) ≠ 0 by omega)
      have e1 := Int.emod_lt_of_pos re (show (0 : Int) < 0 + (i : Int) by omega)
      obtain ⟨v', hv', hm'⟩ := atL (ns := ws) e0 (by omega)
      exact ⟨by omega, _, _, SqL.of hl, hv', hgo _ _ ⟨rfl, v', rfl, hr v' hm'⟩⟩
    rintro σ H' ⟨eH, nm, rfl, hx⟩
    subst H'
    refine ⟨by decide, ?_⟩
    refine ifSA (fun σ H' => H' = H2 ∧ ∃ nm, σ = [some (.ref a), some (.int st), some (.ref l), some (.int n), some (.int (0 + (i : Int))), some (.int cl), some (.int re), some (.int un), some (.int nm)] ∧ 0 ≤ nm ∧ nm < 10 ^ 36 ∧ nm % 2 = 0) ?_ ⟨rfl, nm, rfl, hx⟩ (fun _ hgo => ?_)
    rotate_left
    · refine ⟨by decide, ?_⟩
      refine br (fun _ => hgo _ _ ⟨rfl, 0, rfl, by decide⟩) (fun _ => hgo _ _ ⟨rfl, nm, rfl, hx⟩)
    rintro σ H' ⟨eH, nm, rfl, hx⟩
    subst H'
    refine ⟨⟨_, hl⟩, _, hl, (by rw [List.length_map]; omega), fun H3 ch => ⟨ws ++ [nm], _, _, _, _, _, rfl, ch.same s2 n1.fr, (by rw [ch.at_, List.map_append]; rfl), by rw [List.length_append, hw]; rfl, fun u hu' => ?_⟩⟩
    rcases List.mem_append.mp hu' with hu' | hu'
    · exact hr u hu'
    · rw [List.mem_singleton.mp hu']
      exact hx
  · rintro σ H2 ⟨ws, x4, x5, x6, x7, x8, rfl, s2, hl, hw, hr⟩
    exact q l ws H2 s2 n1.fr hl ⟨by omega, hr⟩
theorem gcd_absl {a b : Int} : Int.gcd (if a < 0 then -a else a) b = Int.gcd a b := by
  unfold Int.gcd
  congr 1
  split <;> omega
set_option maxHeartbeats 20000000 in
theorem cal_l_ratio (F : Has K mg "_law_ratio" s_l_ratio ["_law_number", "_law_parts"] f fd) (En : Env K mg Ad) : CalE P w K mg base "_law_ratio" 1 ["_law_number", "_law_parts"] (sp_l_ratio) := by
  refine F.calE (F.fn.okE sc_l_ratio (fun vs H Q E h => ?_) (fun cdv A outer s H vs Q E hr h => ?_))
  · obtain ⟨a, b, rfl, hb, h9, k⟩ := h
    rfl
  obtain ⟨a, b, rfl, hb, h9, k⟩ := h
  refine ⟨_, (pss_cons (ps_set (i := 2) sc_l_ratio.nd rfl (Or.inl rfl) (pe_callB d_abs rfl En.b_abs PyProof.Rows.boot_abs (pa_cons (dv 0) pa_nil)))
    (pss_cons (ps_set (i := 3) sc_l_ratio.nd rfl (Or.inl rfl) (dv 1))
    (pss_cons (ps_while PassesOwn.leaving (dt_cmp d_gt (dv 3) pe_int (nomark _))
      (pss_cons (ps_set (i := 4) sc_l_ratio.nd rfl (Or.inl rfl) (pe_op d_mod (dv 2) (dv 3)))
    (pss_cons (ps_set (i := 2) sc_l_ratio.nd rfl (Or.inl rfl) (dv 3))
    (pss_one (ps_set (i := 3) sc_l_ratio.nd rfl (Or.inl rfl) (dv 4))))))
    (pss_one (ps_ret (d_tup (pa_cons (pe_op d_fdiv (dv 0) (dv 2)) (pa_cons (pe_op d_fdiv (dv 1) (dv 2)) pa_nil)))))))), ?_⟩
  refine whl (fun m σ H' => H' = H ∧ ∃ (x y : Int) (z : Option V), σ = [some (.int a), some (.int b), some (.int x), some (.int y), z] ∧ 0 ≤ x ∧ 0 ≤ y ∧ Int.gcd x y = Int.gcd a b ∧ m = y.toNat) _ ⟨rfl, _, _, _, rfl, by split <;> omega, by omega, gcd_absl, rfl⟩ ?_
  rintro m σ H' ⟨rfl, x, y, z, rfl, hx, hy, hg, rfl⟩
  refine br (fun c => whl_in ?_) (fun c => ?_)
  · have q1 := Int.emod_nonneg x (show y ≠ 0 by omega)
    have q2 := Int.emod_lt_of_pos x c
    exact ⟨c, _, by omega, rfl, y, x % y, _, rfl, by omega, q1, by rw [Lm.gcd_turn]; exact hg, rfl⟩
  · have y0 : y = 0 := by omega
    subst y0
    have e : x = Lm.dv a b := by
      have : Lm.dv a b = (Int.gcd a b : Int) := if_neg (by omega)
      rw [this, ← hg, Int.gcd_zero_right]
      omega
    have nb : b ≠ 0 := by omega
    have d : CDivB a x := by rw [e]; exact ⟨Lm.dv_ne nb, dv_bd nb h9⟩
    have d' : CDivB b x := by rw [e]; exact ⟨Lm.dv_ne nb, dv_bd nb h9⟩
    refine ⟨d, d', fun p H1 n => k p H1 ?_⟩
    have e2 := Lr.rt_mk (a := a) nb
    rw [e] at n
    show New H' p (.tup [.int (Lr.rt a b).num, .int ((Lr.rt a b).den : Int)]) H1
    rw [← e2.1, ← e2.2]
    exact n
theorem first_at : ∀ {W : List Bool} {j : Nat}, j < 9 → W[j]? = some true → (∀ i, i < j → W[i]? = some false) → firstB W = (j : Int)
  | [], _, _, h, _ => by simp at h
  | b :: r, 0, _, h, _ => by
    cases h
    rfl
  | b :: r, j + 1, hj, h, hf => by
    have e : b = false := Option.some.inj (hf 0 (by omega))
    have ih := first_at (W := r) (j := j) (by omega) h fun i hi => hf (i + 1) (by omega)
    subst e
    show (if false = true then 0 else if firstB r = 9 then 9 else 1 + firstB r) = _
    rw [ih, if_neg (by decide), if_neg (by omega)]
    omega
theorem first_none : ∀ {W : List Bool}, (∀ i, i < W.length → W[i]? = some false) → firstB W = 9
  | [], _ => rfl
  | b :: r, hf => by
    have e : b = false := Option.some.inj (hf 0 (by simp))
    have ih := first_none (W := r) fun i hi => hf (i + 1) (by simpa using hi)
    subst e
    show (if false = true then 0 else if firstB r = 9 then 9 else 1 + firstB r) = _
    rw [ih, if_neg (by decide), if_pos rfl]
set_option maxHeartbeats 20000000 in
theorem cal_l_first (F : Has K mg "_law_first" s_l_first ["_law_wrongs"] f fd) (En : Env K mg Ad) : CalE P w K mg base "_law_first" 1 ["_law_wrongs"] (sp_n_first K) := by
  refine F.calE (F.fn.okE sc_l_first (fun vs H Q E h => ?_) (fun cdv A outer s H vs Q E hr h => ?_))
  · obtain ⟨l, W, rfl, hW, h5, q⟩ := h
    rfl
  obtain ⟨l, W, rfl, hW, h5, q⟩ := h
  refine ⟨_, (pss_cons (ps_for PassesOwn.leaving rfl (pi_range1 rfl En.b_range (pa_cons (pe_callB d_len rfl En.b_len PySem.boot_len (pa_cons (dv 0) pa_nil)) pa_nil)) (pg_name (i := 1) sc_l_first.nd rfl (Or.inl rfl))
      (pss_one (ps_if (dt_val (pe_ix d_ixL (dv 0) (dv 1) (fun _ _ => rfl)))
      (pss_one (ps_ret (dv 1)))
      pss_nil)))
    (pss_one (ps_ret pe_int))), ?_⟩
  refine ⟨_, .inl hW, _, rfl, by omega, (by rw [List.length_map]; omega), ?_⟩
  have hl : ((((W.map V.bl).length : Nat) : Int)).toNat = W.length := by rw [List.length_map]; omega
  refine for_range (fun j σ H1 => H1 = H ∧ ∃ z, σ = [some (.ref l), z] ∧ ∀ i, i < j → W[i]? = some false) ⟨rfl, _, rfl, fun i h => by omega⟩ ?_ ?_
  · rintro j σ H1 hj ⟨rfl, z, rfl, hf⟩
    rw [hl] at hj
    obtain ⟨b, hb⟩ : ∃ b, W[j]? = some b := ⟨_, List.getElem?_eq_getElem hj⟩
    have hat : atI (W.map V.bl) (0 + (j : Int)) = some (.bl b) := by
      rw [show 0 + (j : Int) = (j : Int) by omega]
      exact atI_nat (by rw [List.getElem?_map, hb]; rfl)
    refine ⟨_, _, hW, hat, ?_⟩
    cases b with
    | true =>
      show Q (.int (0 + (j : Int))) _
      rw [show 0 + (j : Int) = (j : Int) by omega, ← first_at (by omega) hb hf]
      exact q
    | false =>
      refine ⟨rfl, _, rfl, fun i hi => ?_⟩
      rcases Nat.lt_or_ge i j with h | h
      · exact hf i h
      · obtain rfl : i = j := by omega
        exact hb
  · rintro σ H1 ⟨rfl, z, rfl, hf⟩
    rw [hl] at hf
    show Q (.int 9) _
    rw [← first_none hf]
    exact q
noncomputable abbrev bsN (n : Int) : List Bool := [decide (n = 0), decide (n = 1), decide (n = 2), decide (n = 3), decide (n = 4), true, false]
theorem kindsN_ne {n : Int} (h : n ≠ 9) : kindsN n = (bsN n).map V.bl := by
  unfold kindsN
  rw [if_neg h]
  rfl
set_option maxHeartbeats 20000000 in
theorem cal_l_right (F : Has K mg "_law_right" s_l_right ["_law_kinds_here", "_law_due"] f fd) (En : Env K mg Ad) : CalE P w K mg base "_law_right" 1 ["_law_kinds_here", "_law_due"] (sp_n_right) := by
  refine F.calE (F.fn.okE sc_l_right (fun vs H Q E h => ?_) (fun cdv A outer s H vs Q E hr h => ?_))
  · obtain ⟨l, n, rfl, hl, hn, q⟩ := h
    rfl
  obtain ⟨l, n, rfl, hl, hn, q⟩ := h
  refine ⟨_, (pss_cons (ps_if (dt_cmp d_eq (dv 1) pe_int (nomark _))
      (pss_one (ps_ret (pe_cmpR (op_eqB hr.units0) (dv 0) (d_lst pa_nil) (nomark _))))
      pss_nil)
    (pss_one (ps_ret (pe_cmpR (op_eqB hr.units0) (dv 0) (pe_op d_cat (pe_comp (defScope s_l_right) ["_law_due"] [1] rfl (pi_range1 rfl En.b_range (pa_cons pe_int pa_nil)) (fun z => (pe_cmpR d_eq (dv 1) (dv 0) (nomark _)))) (d_lst (pa_cons pe_bl (pa_cons pe_bl pa_nil)))) (nomark _))))), ?_⟩
  refine br (fun c => ?_) (fun c => ?_)
  · subst c
    exact fun l1 H1 n1 => ⟨l, l1, [], rfl, rfl, SqL.of (n1.same _ _ hl), SqL.of n1.at_, q H1 n1.same⟩
  · rw [kindsN_ne c] at hl
    refine ⟨5, rfl, by decide, by decide, fun lc H1 n1 => ?_⟩
    refine comp_range (fun i ys H' => Same H H' ∧ H' lc = some (.lst ys) ∧ ys = (List.range i).map fun (k : Nat) => V.bl (decide (n = 0 + (k : Int)))) ⟨n1.same, n1.at_, rfl⟩ ?_ ?_
    · rintro i ys H' z hi ⟨s', h', rfl⟩
      refine ⟨h', (by rw [List.length_map, List.length_range]; have : ((5 : Int)).toNat = 5 := rfl; omega), fun H9 c9 => ⟨c9.same s' n1.fr, c9.at_, ?_⟩⟩
      rw [List.range_succ, List.map_append]
      rfl
    · rintro ys H2 ⟨s2, h2, rfl⟩
      refine fun l3 H3 n3 => ⟨_, _, n3.same _ _ h2, n3.at_, (by rw [List.length_map, List.length_range]; decide), fun l4 H4 n4 => ?_⟩
      refine ⟨l, l4, bsN n, rfl, rfl, SqL.of ((s2.trans (n3.same.trans n4.same)) _ _ hl), SqL.of (by rw [n4.at_]; rfl), q H4 (s2.trans (n3.same.trans n4.same))⟩
theorem kna0 {t : Value} : PySem.W.kitAny K t [] = some false := rfl
theorem kna {t c : Value} {cs : List Value} (h : PySem.W.kitOne K t c = some false) (r : PySem.W.kitAny K t cs = some false) : PySem.W.kitAny K t (c :: cs) = some false := by
  unfold PySem.W.kitAny
  rw [h]
  exact r
theorem dueW_is {A : My.Ad} {n : Int} {C : Addr} (h : dueW A n = some C) : (n = 0 ∧ C = A.aNoRule) ∨ (n = 1 ∧ C = A.aTooMany) ∨ (n = 2 ∧ C = A.aNoClaim) ∨ (n = 3 ∧ C = A.aNoClaimer) ∨ (n = 4 ∧ C = A.aNoAmount) := by
  unfold dueW at h
  split at h
  · exact .inl ⟨‹_›, (Option.some.inj h).symm⟩
  split at h
  · exact .inr (.inl ⟨‹_›, (Option.some.inj h).symm⟩)
  split at h
  · exact .inr (.inr (.inl ⟨‹_›, (Option.some.inj h).symm⟩))
  split at h
  · exact .inr (.inr (.inr (.inl ⟨‹_›, (Option.some.inj h).symm⟩)))
  split at h
  · exact .inr (.inr (.inr (.inr ⟨‹_›, (Option.some.inj h).symm⟩)))
  · cases h
theorem dueW_none {A : My.Ad} {n : Int} (h : n = 9 ∨ (0 ≤ n ∧ n ≤ 4)) (hd : dueW A n = none) : n = 9 := by
  rcases h with h | ⟨h1, h2⟩
  · exact h
  unfold dueW at hd
  split at hd
  · cases hd
  split at hd
  · cases hd
  split at hd
  · cases hd
  split at hd
  · cases hd
  split at hd
  · cases hd
  · omega
theorem path_due {A : My.Ad} {s : Str} {a : Addr} {cs : List Rat} {k : Nat} {D : Int} {d : Option Addr} {H : Hp} {Q : VK} {E : XK} (hL : RatL K H a cs) (hO : Ob k D cs) (hk : k ≤ 600) (hd : DueP A s cs d)
    (q : d = none → ∀ v H', Same H H' → Q v H') (qE : ∀ C, d = some C → ∀ H', Same H H' → E (.ref C) none H') : sp_path K A [.str s, .ref a] H Q E := by
  refine ⟨s, a, cs, k, D, rfl, hL, hO, hk, fun ρ h1 h2 hn l us Fs H' s' _ _ _ _ => ?_, fun h => ?_, fun c hρ hc => ?_⟩
  · rcases hd with ⟨h, _⟩ | ⟨_, e⟩
    · exact absurd h2 (h ρ h1)
    · exact q (e.symm.trans hn) _ H' s'
  · rcases hd with ⟨_, e⟩ | ⟨⟨ρ, h1, h2⟩, _⟩
    · exact qE _ e H (Same.refl H)
    · exact absurd h2 (h ρ h1)
  · obtain ⟨ρ, h1, h2⟩ := hρ
    rcases hd with ⟨h, _⟩ | ⟨_, e⟩
    · exact absurd h2 (h ρ h1)
    · exact qE c (e.symm.trans hc) H (Same.refl H)
theorem need_due {A : My.Ad} {s : Str} {a : Addr} {i : Int} {v : V} {cs : List Rat} {x : Rat} {k : Nat} {D : Int} {d : Option Addr} {H : Hp} {Q : VK} {E : XK} (hL : RatL K H a cs) (hv : RatV K H v x) (hO : Ob k D cs) (hk : k ≤ 600) (hz : Sz 800 x) (hd : DueN A s cs i x d)
    (q : d = none → ∀ v H', Same H H' → Q v H') (qE : ∀ C, d = some C → ∀ H', Same H H' → E (.ref C) none H') : sp_needed K A [.str s, .ref a, .int i, v] H Q E := by
  have no : ∀ ρ, ρ ≠ Lr.Rl.tu → s = word ρ → ¬ ((∀ ρ, ρ ≠ Lr.Rl.tu → s ≠ word ρ)) := fun ρ h1 h2 h => h ρ h1 h2
  refine ⟨s, a, i, v, cs, x, k, D, rfl, hL, hv, hO, hk, hz, fun ρ j c h1 h2 hn hi hj x0 x1 w' H' s' _ => ?_, fun h => ?_, fun c hρ hc => ?_, fun hρ hn hi H' s' => ?_, fun j c hρ hn hi hj hx H' s' => ?_⟩
  · rcases hd with ⟨⟨h, _⟩ | ⟨_, e⟩, ne⟩ | ⟨_, ⟨hi', _⟩ | ⟨j', c', hi', hj', ⟨hx', _⟩ | ⟨_, _, e⟩⟩⟩
    · exact absurd h (no ρ h1 h2)
    · exact absurd (e.symm.trans hn) ne
    · have := (List.getElem?_eq_some_iff.mp hj).1
      omega
    · obtain rfl : j = j' := by omega
      rw [hj] at hj'
      cases hj'
      grind
    · exact q e _ H' s'
  · rcases hd with ⟨⟨_, e⟩ | ⟨⟨ρ, h1, h2⟩, _⟩, ne⟩ | ⟨⟨_, e⟩ | ⟨⟨ρ, h1, h2⟩, _⟩, _⟩
    · exact qE _ e H (Same.refl H)
    · exact absurd h (no ρ h1 h2)
    · cases e
    · exact absurd h (no ρ h1 h2)
  · obtain ⟨ρ, h1, h2⟩ := hρ
    rcases hd with ⟨⟨h, _⟩ | ⟨_, e⟩, ne⟩ | ⟨⟨h, _⟩ | ⟨_, e⟩, _⟩
    · exact absurd h (no ρ h1 h2)
    · exact qE c (e.symm.trans hc) H (Same.refl H)
    · exact absurd h (no ρ h1 h2)
    · rw [hc] at e
      cases e
  · obtain ⟨ρ, h1, h2⟩ := hρ
    rcases hd with ⟨⟨h, _⟩ | ⟨_, e⟩, ne⟩ | ⟨_, ⟨_, e⟩ | ⟨j', c', hi', hj', _⟩⟩
    · exact absurd h (no ρ h1 h2)
    · exact absurd (e.symm.trans hn) ne
    · exact qE _ e H' s'
    · have := (List.getElem?_eq_some_iff.mp hj').1
      omega
  · obtain ⟨ρ, h1, h2⟩ := hρ
    rcases hd with ⟨⟨h, _⟩ | ⟨_, e⟩, ne⟩ | ⟨_, ⟨hi', _⟩ | ⟨j', c', hi', hj', ⟨_, e⟩ | ⟨x0, x1, _⟩⟩⟩
    · exact absurd h (no ρ h1 h2)
    · exact absurd (e.symm.trans hn) ne
    · have := (List.getElem?_eq_some_iff.mp hj).1
      omega
    · exact qE _ e H' s'
    · obtain rfl : j = j' := by omega
      rw [hj] at hj'
      cases hj'
      grind
set_option maxHeartbeats 20000000 in
theorem cal_l_kinds (F : Has K mg "_law_kinds" s_l_kinds ["_law_asked", "_law_rule", "_law_claims_here", "_law_claimer", "_law_amount"] f fd) (En : Env K mg Ad) (G_path : CalE P w K mg base "path" 10 ["rule", "claims"] (sp_path K Ad)) (G_needed : CalE P w K mg base "needed" 11 ["rule", "claims", "claimer", "amount"] (sp_needed K Ad)) : CalE P w K mg base "_law_kinds" 12 ["_law_asked", "_law_rule", "_law_claims_here", "_law_claimer", "_law_amount"] (sp_n_kinds K Ad) := by
  refine F.calE (F.fn.okE sc_l_kinds (fun vs H Q E h => ?_) (fun cdv A outer s H vs Q E hr h => ?_))
  · obtain ⟨t, s, a, i, v, cs, x, k, D, n, rfl, hL, hv, hO, hk, hz, hP, hN, h9, q⟩ := h
    rfl
  obtain ⟨t, s, a, i, v, cs, x, k, D, n, rfl, hL, hv, hO, hk, hz, hP, hN, h9, q⟩ := h
  refine ⟨_, (pss_cons (ps_set (i := 5) sc_l_kinds.nd rfl (Or.inl rfl) (d_lst pa_nil))
    (pss_cons (ps_set (i := 6) sc_l_kinds.nd rfl (Or.inl rfl) (pe_callTy d_list rfl En.b_list PyProof.Rows.boot_list (pa_cons (dv 2) pa_nil)))
    (pss_cons (ps_tryI (i := 7) (fun _ => (dt_cmp d_eq (dv 0) pe_int (nomark _))) hr G_path (by decide) rfl (fun _ => (pa_cons (dv 1) (pa_cons (dv 6) pa_nil))) G_needed (by decide) rfl (fun _ => (pa_cons (dv 1) (pa_cons (dv 6) (pa_cons (dv 3) (pa_cons (dv 4) pa_nil))))) rfl rfl rfl En.e_LeanError.at_ sc_l_kinds.nd rfl rfl
      (fun ea => (pss_cons (ps_set (i := 5) sc_l_kinds.nd rfl (Or.inl rfl) (d_lst (pa_cons (pe_callB call_isiO rfl En.b_isinstance PyProof.Rows.boot_isinstance (pa_cons (dv 7) (pa_cons (pe_cls rfl En.e_NoRule.at_) pa_nil))) (pa_cons (pe_callB call_isiO rfl En.b_isinstance PyProof.Rows.boot_isinstance (pa_cons (dv 7) (pa_cons (pe_cls rfl En.e_TooMany.at_) pa_nil))) (pa_cons (pe_callB call_isiO rfl En.b_isinstance PyProof.Rows.boot_isinstance (pa_cons (dv 7) (pa_cons (pe_cls rfl En.e_NoClaim.at_) pa_nil))) pa_nil)))))
    (pss_cons (ps_set (i := 5) sc_l_kinds.nd rfl (Or.inl rfl) (pe_op d_cat (dv 5) (d_lst (pa_cons (pe_callB call_isiO rfl En.b_isinstance PyProof.Rows.boot_isinstance (pa_cons (dv 7) (pa_cons (pe_cls rfl En.e_NoClaimer.at_) pa_nil))) (pa_cons (pe_callB call_isiO rfl En.b_isinstance PyProof.Rows.boot_isinstance (pa_cons (dv 7) (pa_cons (pe_cls rfl En.e_NoAmount.at_) pa_nil))) (pa_cons (pe_callB call_isiT rfl En.b_isinstance PyProof.Rows.boot_isinstance (pa_cons (dv 7) (pa_cons (pe_bltn (v := .ty "ValueError") rfl En.b_ValueError boot_ValueError rfl) pa_nil))) pa_nil))))))
    (pss_cons (ps_set (i := 8) sc_l_kinds.nd rfl (Or.inl rfl) (pe_callB call_isiA rfl En.b_isinstance PyProof.Rows.boot_isinstance (pa_cons (dv 7) (pa_cons (d_tup (pa_cons (pe_cls rfl En.e_Known.at_) (pa_cons (pe_cls rfl En.e_NoEstate.at_) (pa_cons (pe_cls rfl En.e_NoGroup.at_) (pa_cons (pe_cls rfl En.e_NoLine.at_) (pa_cons (pe_cls rfl En.e_NoName.at_) pa_nil)))))) pa_nil))))
    (pss_one (ps_expr (d_append (dv 5) (pa_cons (d_or (dv 8) (pe_one (pe_callB call_isiA rfl En.b_isinstance PyProof.Rows.boot_isinstance (pa_cons (dv 7) (pa_cons (d_tup (pa_cons (pe_cls rfl En.e_NoOrder.at_) (pa_cons (pe_cls rfl En.e_NoRatio.at_) (pa_cons (pe_cls rfl En.e_NoSharing.at_) (pa_cons (pe_cls rfl En.e_NoText.at_) pa_nil))))) pa_nil))))) pa_nil)))))))))
    (pss_cons (ps_if (dt_cmp (d_neRL (hu_of hr)) (dv 6) (dv 2) (nomark _))
      (pss_one (ps_ret pe_non))
      pss_nil)
    (pss_one (ps_ret (dv 5))))))), ?_⟩
  refine fun lk H1 n1 => ?_
  obtain ⟨vc, hsc, hrc, hec⟩ := (hL.same n1.same).sq
  refine ⟨vc, .inl hsc, fun lh H2 n2 => ?_⟩
  have s2 := n1.same.trans n2.same
  have hh2 : RatL K H2 lh cs := RatL.new n2 hrc
  refine br (fun c => ?_) (fun c => ?_)
  · refine path_due hh2 hO hk (hP c) (fun hd l3 H3 s3 => ?_) (fun C hC H7 s7 => ?_)
    · obtain rfl := dueW_none h9 hd
      refine ⟨cs, cs, hh2.same s3, hL.same (s2.trans s3), ?_⟩
      refine brN (fun z => absurd rfl z) (fun _ => ?_)
      exact q lk H3 (s2.trans s3) (s3 _ _ (n2.same _ _ n1.at_))
    · clear hP hN h9
      rcases dueW_is hC with ⟨rfl, rfl⟩ | ⟨rfl, rfl⟩ | ⟨rfl, rfl⟩ | ⟨rfl, rfl⟩ | ⟨rfl, rfl⟩
      · refine ⟨_, rfl, En.mx_NoRule, fun ea hea => ?_⟩
        have n8 := New.mk' (o := .ext (IsExc ea Ad.aNoRule)) hea
        generalize upd H7 ea (.ext (IsExc ea Ad.aNoRule)) = H8 at n8 ⊢
        have hx := n8.at_
        refine ⟨_, _, _, _, rfl, hx, En.ek_NoRule, En.k_NoRule_NoRule, _, _, _, _, rfl, hx, En.ek_NoRule, En.k_NoRule_TooMany, _, _, _, _, rfl, hx, En.ek_NoRule, En.k_NoRule_NoClaim, fun l1 H9 n9 => ?_⟩
        have hx9 := n9.same _ _ hx
        refine ⟨_, _, _, _, rfl, hx9, En.ek_NoRule, En.k_NoRule_NoClaimer, _, _, _, _, rfl, hx9, En.ek_NoRule, En.k_NoRule_NoAmount, _, _, _, _, rfl, hx9, En.ek_NoRule, En.kv_NoRule, fun l2 H10 n10 => ⟨_, _, n10.same _ _ n9.at_, n10.at_, by decide, fun l3 H11 n11 => ?_⟩⟩
        have hx11 := (n10.same.trans n11.same) _ _ hx9
        refine fun t4 H12 n12 => ⟨_, _, t4, [Ad.aKnown, Ad.aNoEstate, Ad.aNoGroup, Ad.aNoLine, Ad.aNoName], _, rfl, n12.same _ _ hx11, En.ek_NoRule, n12.at_, (kna En.k_NoRule_Known (kna En.k_NoRule_NoEstate (kna En.k_NoRule_NoGroup (kna En.k_NoRule_NoLine (kna En.k_NoRule_NoName kna0))))), ?_⟩
        refine ⟨⟨_, n12.same _ _ n11.at_⟩, ?_⟩
        refine fun t5 H13 n13 => ⟨_, _, t5, [Ad.aNoOrder, Ad.aNoRatio, Ad.aNoSharing, Ad.aNoText], _, rfl, (n12.same.trans n13.same) _ _ hx11, En.ek_NoRule, n13.at_, (kna En.k_NoRule_NoOrder (kna En.k_NoRule_NoRatio (kna En.k_NoRule_NoSharing (kna En.k_NoRule_NoText kna0)))), ?_⟩
        refine ⟨_, (n12.same.trans n13.same) _ _ n11.at_, (by decide), fun H14 c14 => ?_⟩
        have s811 : Same H8 H11 := n9.same.trans (n10.same.trans n11.same)
        have s14 := c14.same (s7.trans (n8.same.trans (s811.trans (n12.same.trans n13.same)))) ((s7.trans (n8.same.trans (n9.same.trans n10.same))).free n11.fr)
        refine ⟨cs, cs, hh2.same s14, hL.same (s2.trans s14), ?_⟩
        refine brN (fun z => absurd rfl z) (fun _ => ?_)
        exact q l3 H14 (s2.trans s14) (by rw [c14.at_, kindsN_ne (by decide)]; rfl)
      · refine ⟨_, rfl, En.mx_TooMany, fun ea hea => ?_⟩
        have n8 := New.mk' (o := .ext (IsExc ea Ad.aTooMany)) hea
        generalize upd H7 ea (.ext (IsExc ea Ad.aTooMany)) = H8 at n8 ⊢
        have hx := n8.at_
        refine ⟨_, _, _, _, rfl, hx, En.ek_TooMany, En.k_TooMany_NoRule, _, _, _, _, rfl, hx, En.ek_TooMany, En.k_TooMany_TooMany, _, _, _, _, rfl, hx, En.ek_TooMany, En.k_TooMany_NoClaim, fun l1 H9 n9 => ?_⟩
        have hx9 := n9.same _ _ hx
        refine ⟨_, _, _, _, rfl, hx9, En.ek_TooMany, En.k_TooMany_NoClaimer, _, _, _, _, rfl, hx9, En.ek_TooMany, En.k_TooMany_NoAmount, _, _, _, _, rfl, hx9, En.ek_TooMany, En.kv_TooMany, fun l2 H10 n10 => ⟨_, _, n10.same _ _ n9.at_, n10.at_, by decide, fun l3 H11 n11 => ?_⟩⟩
        have hx11 := (n10.same.trans n11.same) _ _ hx9
        refine fun t4 H12 n12 => ⟨_, _, t4, [Ad.aKnown, Ad.aNoEstate, Ad.aNoGroup, Ad.aNoLine, Ad.aNoName], _, rfl, n12.same _ _ hx11, En.ek_TooMany, n12.at_, (kna En.k_TooMany_Known (kna En.k_TooMany_NoEstate (kna En.k_TooMany_NoGroup (kna En.k_TooMany_NoLine (kna En.k_TooMany_NoName kna0))))), ?_⟩
        refine ⟨⟨_, n12.same _ _ n11.at_⟩, ?_⟩
        refine fun t5 H13 n13 => ⟨_, _, t5, [Ad.aNoOrder, Ad.aNoRatio, Ad.aNoSharing, Ad.aNoText], _, rfl, (n12.same.trans n13.same) _ _ hx11, En.ek_TooMany, n13.at_, (kna En.k_TooMany_NoOrder (kna En.k_TooMany_NoRatio (kna En.k_TooMany_NoSharing (kna En.k_TooMany_NoText kna0)))), ?_⟩
        refine ⟨_, (n12.same.trans n13.same) _ _ n11.at_, (by decide), fun H14 c14 => ?_⟩
        have s811 : Same H8 H11 := n9.same.trans (n10.same.trans n11.same)
        have s14 := c14.same (s7.trans (n8.same.trans (s811.trans (n12.same.trans n13.same)))) ((s7.trans (n8.same.trans (n9.same.trans n10.same))).free n11.fr)
        refine ⟨cs, cs, hh2.same s14, hL.same (s2.trans s14), ?_⟩
        refine brN (fun z => absurd rfl z) (fun _ => ?_)
        exact q l3 H14 (s2.trans s14) (by rw [c14.at_, kindsN_ne (by decide)]; rfl)
      · refine ⟨_, rfl, En.mx_NoClaim, fun ea hea => ?_⟩
        have n8 := New.mk' (o := .ext (IsExc ea Ad.aNoClaim)) hea
        generalize upd H7 ea (.ext (IsExc ea Ad.aNoClaim)) = H8 at n8 ⊢
        have hx := n8.at_
        refine ⟨_, _, _, _, rfl, hx, En.ek_NoClaim, En.k_NoClaim_NoRule, _, _, _, _, rfl, hx, En.ek_NoClaim, En.k_NoClaim_TooMany, _, _, _, _, rfl, hx, En.ek_NoClaim, En.k_NoClaim_NoClaim, fun l1 H9 n9 => ?_⟩
        have hx9 := n9.same _ _ hx
        refine ⟨_, _, _, _, rfl, hx9, En.ek_NoClaim, En.k_NoClaim_NoClaimer, _, _, _, _, rfl, hx9, En.ek_NoClaim, En.k_NoClaim_NoAmount, _, _, _, _, rfl, hx9, En.ek_NoClaim, En.kv_NoClaim, fun l2 H10 n10 => ⟨_, _, n10.same _ _ n9.at_, n10.at_, by decide, fun l3 H11 n11 => ?_⟩⟩
        have hx11 := (n10.same.trans n11.same) _ _ hx9
        refine fun t4 H12 n12 => ⟨_, _, t4, [Ad.aKnown, Ad.aNoEstate, Ad.aNoGroup, Ad.aNoLine, Ad.aNoName], _, rfl, n12.same _ _ hx11, En.ek_NoClaim, n12.at_, (kna En.k_NoClaim_Known (kna En.k_NoClaim_NoEstate (kna En.k_NoClaim_NoGroup (kna En.k_NoClaim_NoLine (kna En.k_NoClaim_NoName kna0))))), ?_⟩
        refine ⟨⟨_, n12.same _ _ n11.at_⟩, ?_⟩
        refine fun t5 H13 n13 => ⟨_, _, t5, [Ad.aNoOrder, Ad.aNoRatio, Ad.aNoSharing, Ad.aNoText], _, rfl, (n12.same.trans n13.same) _ _ hx11, En.ek_NoClaim, n13.at_, (kna En.k_NoClaim_NoOrder (kna En.k_NoClaim_NoRatio (kna En.k_NoClaim_NoSharing (kna En.k_NoClaim_NoText kna0)))), ?_⟩
        refine ⟨_, (n12.same.trans n13.same) _ _ n11.at_, (by decide), fun H14 c14 => ?_⟩
        have s811 : Same H8 H11 := n9.same.trans (n10.same.trans n11.same)
        have s14 := c14.same (s7.trans (n8.same.trans (s811.trans (n12.same.trans n13.same)))) ((s7.trans (n8.same.trans (n9.same.trans n10.same))).free n11.fr)
        refine ⟨cs, cs, hh2.same s14, hL.same (s2.trans s14), ?_⟩
        refine brN (fun z => absurd rfl z) (fun _ => ?_)
        exact q l3 H14 (s2.trans s14) (by rw [c14.at_, kindsN_ne (by decide)]; rfl)
      · refine ⟨_, rfl, En.mx_NoClaimer, fun ea hea => ?_⟩
        have n8 := New.mk' (o := .ext (IsExc ea Ad.aNoClaimer)) hea
        generalize upd H7 ea (.ext (IsExc ea Ad.aNoClaimer)) = H8 at n8 ⊢
        have hx := n8.at_
        refine ⟨_, _, _, _, rfl, hx, En.ek_NoClaimer, En.k_NoClaimer_NoRule, _, _, _, _, rfl, hx, En.ek_NoClaimer, En.k_NoClaimer_TooMany, _, _, _, _, rfl, hx, En.ek_NoClaimer, En.k_NoClaimer_NoClaim, fun l1 H9 n9 => ?_⟩
        have hx9 := n9.same _ _ hx
        refine ⟨_, _, _, _, rfl, hx9, En.ek_NoClaimer, En.k_NoClaimer_NoClaimer, _, _, _, _, rfl, hx9, En.ek_NoClaimer, En.k_NoClaimer_NoAmount, _, _, _, _, rfl, hx9, En.ek_NoClaimer, En.kv_NoClaimer, fun l2 H10 n10 => ⟨_, _, n10.same _ _ n9.at_, n10.at_, by decide, fun l3 H11 n11 => ?_⟩⟩
        have hx11 := (n10.same.trans n11.same) _ _ hx9
        refine fun t4 H12 n12 => ⟨_, _, t4, [Ad.aKnown, Ad.aNoEstate, Ad.aNoGroup, Ad.aNoLine, Ad.aNoName], _, rfl, n12.same _ _ hx11, En.ek_NoClaimer, n12.at_, (kna En.k_NoClaimer_Known (kna En.k_NoClaimer_NoEstate (kna En.k_NoClaimer_NoGroup (kna En.k_NoClaimer_NoLine (kna En.k_NoClaimer_NoName kna0))))), ?_⟩
        refine ⟨⟨_, n12.same _ _ n11.at_⟩, ?_⟩
        refine fun t5 H13 n13 => ⟨_, _, t5, [Ad.aNoOrder, Ad.aNoRatio, Ad.aNoSharing, Ad.aNoText], _, rfl, (n12.same.trans n13.same) _ _ hx11, En.ek_NoClaimer, n13.at_, (kna En.k_NoClaimer_NoOrder (kna En.k_NoClaimer_NoRatio (kna En.k_NoClaimer_NoSharing (kna En.k_NoClaimer_NoText kna0)))), ?_⟩
        refine ⟨_, (n12.same.trans n13.same) _ _ n11.at_, (by decide), fun H14 c14 => ?_⟩
        have s811 : Same H8 H11 := n9.same.trans (n10.same.trans n11.same)
        have s14 := c14.same (s7.trans (n8.same.trans (s811.trans (n12.same.trans n13.same)))) ((s7.trans (n8.same.trans (n9.same.trans n10.same))).free n11.fr)
        refine ⟨cs, cs, hh2.same s14, hL.same (s2.trans s14), ?_⟩
        refine brN (fun z => absurd rfl z) (fun _ => ?_)
        exact q l3 H14 (s2.trans s14) (by rw [c14.at_, kindsN_ne (by decide)]; rfl)
      · refine ⟨_, rfl, En.mx_NoAmount, fun ea hea => ?_⟩
        have n8 := New.mk' (o := .ext (IsExc ea Ad.aNoAmount)) hea
        generalize upd H7 ea (.ext (IsExc ea Ad.aNoAmount)) = H8 at n8 ⊢
        have hx := n8.at_
        refine ⟨_, _, _, _, rfl, hx, En.ek_NoAmount, En.k_NoAmount_NoRule, _, _, _, _, rfl, hx, En.ek_NoAmount, En.k_NoAmount_TooMany, _, _, _, _, rfl, hx, En.ek_NoAmount, En.k_NoAmount_NoClaim, fun l1 H9 n9 => ?_⟩
        have hx9 := n9.same _ _ hx
        refine ⟨_, _, _, _, rfl, hx9, En.ek_NoAmount, En.k_NoAmount_NoClaimer, _, _, _, _, rfl, hx9, En.ek_NoAmount, En.k_NoAmount_NoAmount, _, _, _, _, rfl, hx9, En.ek_NoAmount, En.kv_NoAmount, fun l2 H10 n10 => ⟨_, _, n10.same _ _ n9.at_, n10.at_, by decide, fun l3 H11 n11 => ?_⟩⟩
        have hx11 := (n10.same.trans n11.same) _ _ hx9
        refine fun t4 H12 n12 => ⟨_, _, t4, [Ad.aKnown, Ad.aNoEstate, Ad.aNoGroup, Ad.aNoLine, Ad.aNoName], _, rfl, n12.same _ _ hx11, En.ek_NoAmount, n12.at_, (kna En.k_NoAmount_Known (kna En.k_NoAmount_NoEstate (kna En.k_NoAmount_NoGroup (kna En.k_NoAmount_NoLine (kna En.k_NoAmount_NoName kna0))))), ?_⟩
        refine ⟨⟨_, n12.same _ _ n11.at_⟩, ?_⟩
        refine fun t5 H13 n13 => ⟨_, _, t5, [Ad.aNoOrder, Ad.aNoRatio, Ad.aNoSharing, Ad.aNoText], _, rfl, (n12.same.trans n13.same) _ _ hx11, En.ek_NoAmount, n13.at_, (kna En.k_NoAmount_NoOrder (kna En.k_NoAmount_NoRatio (kna En.k_NoAmount_NoSharing (kna En.k_NoAmount_NoText kna0)))), ?_⟩
        refine ⟨_, (n12.same.trans n13.same) _ _ n11.at_, (by decide), fun H14 c14 => ?_⟩
        have s811 : Same H8 H11 := n9.same.trans (n10.same.trans n11.same)
        have s14 := c14.same (s7.trans (n8.same.trans (s811.trans (n12.same.trans n13.same)))) ((s7.trans (n8.same.trans (n9.same.trans n10.same))).free n11.fr)
        refine ⟨cs, cs, hh2.same s14, hL.same (s2.trans s14), ?_⟩
        refine brN (fun z => absurd rfl z) (fun _ => ?_)
        exact q l3 H14 (s2.trans s14) (by rw [c14.at_, kindsN_ne (by decide)]; rfl)
  · refine need_due hh2 (hv.same s2) hO hk hz (hN c) (fun hd l3 H3 s3 => ?_) (fun C hC H7 s7 => ?_)
    · obtain rfl := dueW_none h9 hd
      refine ⟨cs, cs, hh2.same s3, hL.same (s2.trans s3), ?_⟩
      refine brN (fun z => absurd rfl z) (fun _ => ?_)
      exact q lk H3 (s2.trans s3) (s3 _ _ (n2.same _ _ n1.at_))
    · clear hP hN h9
      rcases dueW_is hC with ⟨rfl, rfl⟩ | ⟨rfl, rfl⟩ | ⟨rfl, rfl⟩ | ⟨rfl, rfl⟩ | ⟨rfl, rfl⟩
      · refine ⟨_, rfl, En.mx_NoRule, fun ea hea => ?_⟩
        have n8 := New.mk' (o := .ext (IsExc ea Ad.aNoRule)) hea
        generalize upd H7 ea (.ext (IsExc ea Ad.aNoRule)) = H8 at n8 ⊢
        have hx := n8.at_
        refine ⟨_, _, _, _, rfl, hx, En.ek_NoRule, En.k_NoRule_NoRule, _, _, _, _, rfl, hx, En.ek_NoRule, En.k_NoRule_TooMany, _, _, _, _, rfl, hx, En.ek_NoRule, En.k_NoRule_NoClaim, fun l1 H9 n9 => ?_⟩
        have hx9 := n9.same _ _ hx
        refine ⟨_, _, _, _, rfl, hx9, En.ek_NoRule, En.k_NoRule_NoClaimer, _, _, _, _, rfl, hx9, En.ek_NoRule, En.k_NoRule_NoAmount, _, _, _, _, rfl, hx9, En.ek_NoRule, En.kv_NoRule, fun l2 H10 n10 => ⟨_, _, n10.same _ _ n9.at_, n10.at_, by decide, fun l3 H11 n11 => ?_⟩⟩
        have hx11 := (n10.same.trans n11.same) _ _ hx9
        refine fun t4 H12 n12 => ⟨_, _, t4, [Ad.aKnown, Ad.aNoEstate, Ad.aNoGroup, Ad.aNoLine, Ad.aNoName], _, rfl, n12.same _ _ hx11, En.ek_NoRule, n12.at_, (kna En.k_NoRule_Known (kna En.k_NoRule_NoEstate (kna En.k_NoRule_NoGroup (kna En.k_NoRule_NoLine (kna En.k_NoRule_NoName kna0))))), ?_⟩
        refine ⟨⟨_, n12.same _ _ n11.at_⟩, ?_⟩
        refine fun t5 H13 n13 => ⟨_, _, t5, [Ad.aNoOrder, Ad.aNoRatio, Ad.aNoSharing, Ad.aNoText], _, rfl, (n12.same.trans n13.same) _ _ hx11, En.ek_NoRule, n13.at_, (kna En.k_NoRule_NoOrder (kna En.k_NoRule_NoRatio (kna En.k_NoRule_NoSharing (kna En.k_NoRule_NoText kna0)))), ?_⟩
        refine ⟨_, (n12.same.trans n13.same) _ _ n11.at_, (by decide), fun H14 c14 => ?_⟩
        have s811 : Same H8 H11 := n9.same.trans (n10.same.trans n11.same)
        have s14 := c14.same (s7.trans (n8.same.trans (s811.trans (n12.same.trans n13.same)))) ((s7.trans (n8.same.trans (n9.same.trans n10.same))).free n11.fr)
        refine ⟨cs, cs, hh2.same s14, hL.same (s2.trans s14), ?_⟩
        refine brN (fun z => absurd rfl z) (fun _ => ?_)
        exact q l3 H14 (s2.trans s14) (by rw [c14.at_, kindsN_ne (by decide)]; rfl)
      · refine ⟨_, rfl, En.mx_TooMany, fun ea hea => ?_⟩
        have n8 := New.mk' (o := .ext (IsExc ea Ad.aTooMany)) hea
        generalize upd H7 ea (.ext (IsExc ea Ad.aTooMany)) = H8 at n8 ⊢
        have hx := n8.at_
        refine ⟨_, _, _, _, rfl, hx, En.ek_TooMany, En.k_TooMany_NoRule, _, _, _, _, rfl, hx, En.ek_TooMany, En.k_TooMany_TooMany, _, _, _, _, rfl, hx, En.ek_TooMany, En.k_TooMany_NoClaim, fun l1 H9 n9 => ?_⟩
        have hx9 := n9.same _ _ hx
        refine ⟨_, _, _, _, rfl, hx9, En.ek_TooMany, En.k_TooMany_NoClaimer, _, _, _, _, rfl, hx9, En.ek_TooMany, En.k_TooMany_NoAmount, _, _, _, _, rfl, hx9, En.ek_TooMany, En.kv_TooMany, fun l2 H10 n10 => ⟨_, _, n10.same _ _ n9.at_, n10.at_, by decide, fun l3 H11 n11 => ?_⟩⟩
        have hx11 := (n10.same.trans n11.same) _ _ hx9
        refine fun t4 H12 n12 => ⟨_, _, t4, [Ad.aKnown, Ad.aNoEstate, Ad.aNoGroup, Ad.aNoLine, Ad.aNoName], _, rfl, n12.same _ _ hx11, En.ek_TooMany, n12.at_, (kna En.k_TooMany_Known (kna En.k_TooMany_NoEstate (kna En.k_TooMany_NoGroup (kna En.k_TooMany_NoLine (kna En.k_TooMany_NoName kna0))))), ?_⟩
        refine ⟨⟨_, n12.same _ _ n11.at_⟩, ?_⟩
        refine fun t5 H13 n13 => ⟨_, _, t5, [Ad.aNoOrder, Ad.aNoRatio, Ad.aNoSharing, Ad.aNoText], _, rfl, (n12.same.trans n13.same) _ _ hx11, En.ek_TooMany, n13.at_, (kna En.k_TooMany_NoOrder (kna En.k_TooMany_NoRatio (kna En.k_TooMany_NoSharing (kna En.k_TooMany_NoText kna0)))), ?_⟩
        refine ⟨_, (n12.same.trans n13.same) _ _ n11.at_, (by decide), fun H14 c14 => ?_⟩
        have s811 : Same H8 H11 := n9.same.trans (n10.same.trans n11.same)
        have s14 := c14.same (s7.trans (n8.same.trans (s811.trans (n12.same.trans n13.same)))) ((s7.trans (n8.same.trans (n9.same.trans n10.same))).free n11.fr)
        refine ⟨cs, cs, hh2.same s14, hL.same (s2.trans s14), ?_⟩
        refine brN (fun z => absurd rfl z) (fun _ => ?_)
        exact q l3 H14 (s2.trans s14) (by rw [c14.at_, kindsN_ne (by decide)]; rfl)
      · refine ⟨_, rfl, En.mx_NoClaim, fun ea hea => ?_⟩
        have n8 := New.mk' (o := .ext (IsExc ea Ad.aNoClaim)) hea
        generalize upd H7 ea (.ext (IsExc ea Ad.aNoClaim)) = H8 at n8 ⊢
        have hx := n8.at_
        refine ⟨_, _, _, _, rfl, hx, En.ek_NoClaim, En.k_NoClaim_NoRule, _, _, _, _, rfl, hx, En.ek_NoClaim, En.k_NoClaim_TooMany, _, _, _, _, rfl, hx, En.ek_NoClaim, En.k_NoClaim_NoClaim, fun l1 H9 n9 => ?_⟩
        have hx9 := n9.same _ _ hx
        refine ⟨_, _, _, _, rfl, hx9, En.ek_NoClaim, En.k_NoClaim_NoClaimer, _, _, _, _, rfl, hx9, En.ek_NoClaim, En.k_NoClaim_NoAmount, _, _, _, _, rfl, hx9, En.ek_NoClaim, En.kv_NoClaim, fun l2 H10 n10 => ⟨_, _, n10.same _ _ n9.at_, n10.at_, by decide, fun l3 H11 n11 => ?_⟩⟩
        have hx11 := (n10.same.trans n11.same) _ _ hx9
        refine fun t4 H12 n12 => ⟨_, _, t4, [Ad.aKnown, Ad.aNoEstate, Ad.aNoGroup, Ad.aNoLine, Ad.aNoName], _, rfl, n12.same _ _ hx11, En.ek_NoClaim, n12.at_, (kna En.k_NoClaim_Known (kna En.k_NoClaim_NoEstate (kna En.k_NoClaim_NoGroup (kna En.k_NoClaim_NoLine (kna En.k_NoClaim_NoName kna0))))), ?_⟩
        refine ⟨⟨_, n12.same _ _ n11.at_⟩, ?_⟩
        refine fun t5 H13 n13 => ⟨_, _, t5, [Ad.aNoOrder, Ad.aNoRatio, Ad.aNoSharing, Ad.aNoText], _, rfl, (n12.same.trans n13.same) _ _ hx11, En.ek_NoClaim, n13.at_, (kna En.k_NoClaim_NoOrder (kna En.k_NoClaim_NoRatio (kna En.k_NoClaim_NoSharing (kna En.k_NoClaim_NoText kna0)))), ?_⟩
        refine ⟨_, (n12.same.trans n13.same) _ _ n11.at_, (by decide), fun H14 c14 => ?_⟩
        have s811 : Same H8 H11 := n9.same.trans (n10.same.trans n11.same)
        have s14 := c14.same (s7.trans (n8.same.trans (s811.trans (n12.same.trans n13.same)))) ((s7.trans (n8.same.trans (n9.same.trans n10.same))).free n11.fr)
        refine ⟨cs, cs, hh2.same s14, hL.same (s2.trans s14), ?_⟩
        refine brN (fun z => absurd rfl z) (fun _ => ?_)
        exact q l3 H14 (s2.trans s14) (by rw [c14.at_, kindsN_ne (by decide)]; rfl)
      · refine ⟨_, rfl, En.mx_NoClaimer, fun ea hea => ?_⟩
        have n8 := New.mk' (o := .ext (IsExc ea Ad.aNoClaimer)) hea
        generalize upd H7 ea (.ext (IsExc ea Ad.aNoClaimer)) = H8 at n8 ⊢
        have hx := n8.at_
        refine ⟨_, _, _, _, rfl, hx, En.ek_NoClaimer, En.k_NoClaimer_NoRule, _, _, _, _, rfl, hx, En.ek_NoClaimer, En.k_NoClaimer_TooMany, _, _, _, _, rfl, hx, En.ek_NoClaimer, En.k_NoClaimer_NoClaim, fun l1 H9 n9 => ?_⟩
        have hx9 := n9.same _ _ hx
        refine ⟨_, _, _, _, rfl, hx9, En.ek_NoClaimer, En.k_NoClaimer_NoClaimer, _, _, _, _, rfl, hx9, En.ek_NoClaimer, En.k_NoClaimer_NoAmount, _, _, _, _, rfl, hx9, En.ek_NoClaimer, En.kv_NoClaimer, fun l2 H10 n10 => ⟨_, _, n10.same _ _ n9.at_, n10.at_, by decide, fun l3 H11 n11 => ?_⟩⟩
        have hx11 := (n10.same.trans n11.same) _ _ hx9
        refine fun t4 H12 n12 => ⟨_, _, t4, [Ad.aKnown, Ad.aNoEstate, Ad.aNoGroup, Ad.aNoLine, Ad.aNoName], _, rfl, n12.same _ _ hx11, En.ek_NoClaimer, n12.at_, (kna En.k_NoClaimer_Known (kna En.k_NoClaimer_NoEstate (kna En.k_NoClaimer_NoGroup (kna En.k_NoClaimer_NoLine (kna En.k_NoClaimer_NoName kna0))))), ?_⟩
        refine ⟨⟨_, n12.same _ _ n11.at_⟩, ?_⟩
        refine fun t5 H13 n13 => ⟨_, _, t5, [Ad.aNoOrder, Ad.aNoRatio, Ad.aNoSharing, Ad.aNoText], _, rfl, (n12.same.trans n13.same) _ _ hx11, En.ek_NoClaimer, n13.at_, (kna En.k_NoClaimer_NoOrder (kna En.k_NoClaimer_NoRatio (kna En.k_NoClaimer_NoSharing (kna En.k_NoClaimer_NoText kna0)))), ?_⟩
        refine ⟨_, (n12.same.trans n13.same) _ _ n11.at_, (by decide), fun H14 c14 => ?_⟩
        have s811 : Same H8 H11 := n9.same.trans (n10.same.trans n11.same)
        have s14 := c14.same (s7.trans (n8.same.trans (s811.trans (n12.same.trans n13.same)))) ((s7.trans (n8.same.trans (n9.same.trans n10.same))).free n11.fr)
        refine ⟨cs, cs, hh2.same s14, hL.same (s2.trans s14), ?_⟩
        refine brN (fun z => absurd rfl z) (fun _ => ?_)
        exact q l3 H14 (s2.trans s14) (by rw [c14.at_, kindsN_ne (by decide)]; rfl)
      · refine ⟨_, rfl, En.mx_NoAmount, fun ea hea => ?_⟩
        have n8 := New.mk' (o := .ext (IsExc ea Ad.aNoAmount)) hea
        generalize upd H7 ea (.ext (IsExc ea Ad.aNoAmount)) = H8 at n8 ⊢
        have hx := n8.at_
        refine ⟨_, _, _, _, rfl, hx, En.ek_NoAmount, En.k_NoAmount_NoRule, _, _, _, _, rfl, hx, En.ek_NoAmount, En.k_NoAmount_TooMany, _, _, _, _, rfl, hx, En.ek_NoAmount, En.k_NoAmount_NoClaim, fun l1 H9 n9 => ?_⟩
        have hx9 := n9.same _ _ hx
        refine ⟨_, _, _, _, rfl, hx9, En.ek_NoAmount, En.k_NoAmount_NoClaimer, _, _, _, _, rfl, hx9, En.ek_NoAmount, En.k_NoAmount_NoAmount, _, _, _, _, rfl, hx9, En.ek_NoAmount, En.kv_NoAmount, fun l2 H10 n10 => ⟨_, _, n10.same _ _ n9.at_, n10.at_, by decide, fun l3 H11 n11 => ?_⟩⟩
        have hx11 := (n10.same.trans n11.same) _ _ hx9
        refine fun t4 H12 n12 => ⟨_, _, t4, [Ad.aKnown, Ad.aNoEstate, Ad.aNoGroup, Ad.aNoLine, Ad.aNoName], _, rfl, n12.same _ _ hx11, En.ek_NoAmount, n12.at_, (kna En.k_NoAmount_Known (kna En.k_NoAmount_NoEstate (kna En.k_NoAmount_NoGroup (kna En.k_NoAmount_NoLine (kna En.k_NoAmount_NoName kna0))))), ?_⟩
        refine ⟨⟨_, n12.same _ _ n11.at_⟩, ?_⟩
        refine fun t5 H13 n13 => ⟨_, _, t5, [Ad.aNoOrder, Ad.aNoRatio, Ad.aNoSharing, Ad.aNoText], _, rfl, (n12.same.trans n13.same) _ _ hx11, En.ek_NoAmount, n13.at_, (kna En.k_NoAmount_NoOrder (kna En.k_NoAmount_NoRatio (kna En.k_NoAmount_NoSharing (kna En.k_NoAmount_NoText kna0)))), ?_⟩
        refine ⟨_, (n12.same.trans n13.same) _ _ n11.at_, (by decide), fun H14 c14 => ?_⟩
        have s811 : Same H8 H11 := n9.same.trans (n10.same.trans n11.same)
        have s14 := c14.same (s7.trans (n8.same.trans (s811.trans (n12.same.trans n13.same)))) ((s7.trans (n8.same.trans (n9.same.trans n10.same))).free n11.fr)
        refine ⟨cs, cs, hh2.same s14, hL.same (s2.trans s14), ?_⟩
        refine brN (fun z => absurd rfl z) (fun _ => ?_)
        exact q l3 H14 (s2.trans s14) (by rw [c14.at_, kindsN_ne (by decide)]; rfl)
theorem st0 {a : Addr} : L2.start ["_law_script", "_law_claims_here", "_law_first_here", "_law_cell", "_law_wrongs", "_law_rule", "_law_at", "_law_claimer", "_law_amount"] [V.ref a] = [some (.ref a), none, none, none, none, none, none, none, none] := rfl
theorem set0 {x y : Option V} {l : List (Option V)} : List.set (x :: l) 0 y = y :: l := rfl
theorem set1 {x y : Option V} {l : List (Option V)} {n : Nat} : List.set (x :: l) (n + 1) y = x :: List.set l n y := rfl
noncomputable def Ru (b : Bool) (s : Str) : Prop := (b = false → ∃ ρ, ρ ≠ Lr.Rl.tu ∧ s = word ρ) ∧ (b = true → ∀ ρ, ρ ≠ Lr.Rl.tu → s ≠ word ρ)
noncomputable def Ng (b : Bool) (ys : List Rat) : Prop := (b = false → ∀ c ∈ ys, 0 ≤ c) ∧ (b = true → ∃ c ∈ ys, c < 0)
noncomputable def Am (b3 b4 : Bool) (ys : List Rat) (cl : Int) (x : Rat) : Prop := (b3 = true → cl < 0 ∨ (ys.length : Int) ≤ cl) ∧ (b3 = false → ∃ (j : Nat) (c : Rat), cl = (j : Int) ∧ ys[j]? = some c ∧ (0 ≤ c → (b4 = false → 0 ≤ x ∧ x ≤ c) ∧ (b4 = true → x < 0 ∨ c < x)))
theorem dueC_of {A : My.Ad} {ys : List Rat} {b1 b2 : Bool} (h1 : b1 = decide (8 < ys.length)) (hn : Ng b2 ys) : dueC A ys = if b1 = true then some A.aTooMany else if b2 = true then some A.aNoClaim else none := by
  have hb2 : (ys.any fun c => decide (c < 0)) = b2 := by
    cases b2 with
    | true =>
      obtain ⟨c, hc, hlt⟩ := hn.2 rfl
      exact List.any_eq_true.mpr ⟨c, hc, decide_eq_true hlt⟩
    | false =>
      refine List.any_eq_false.mpr fun c hc z => ?_
      have := hn.1 rfl c hc
      have := of_decide_eq_true z
      grind
  unfold dueC
  rw [hb2]
  by_cases h8 : 8 < ys.length
  · obtain rfl : b1 = true := by rw [h1]; exact decide_eq_true h8
    rw [if_pos h8]
    rfl
  · obtain rfl : b1 = false := by rw [h1]; exact decide_eq_false h8
    rw [if_neg h8]
    rfl
theorem dueP_of {A : My.Ad} {s : Str} {ys : List Rat} {b0 b1 b2 : Bool} (hr : Ru b0 s) (h1 : b1 = decide (8 < ys.length)) (hn : Ng b2 ys) : DueP A s ys (dueW A (firstB [b0, b1, b2])) := by
  have e := dueC_of (A := A) h1 hn
  cases b0 with
  | true => exact .inl ⟨hr.2 rfl, rfl⟩
  | false =>
    refine .inr ⟨hr.1 rfl, e.trans ?_⟩
    cases b1 <;> cases b2 <;> rfl
theorem dueN_of {A : My.Ad} {s : Str} {ys : List Rat} {cl : Int} {x : Rat} {b0 b1 b2 b3 b4 : Bool} (hr : Ru b0 s) (h1 : b1 = decide (8 < ys.length)) (hn : Ng b2 ys) (ha : Am b3 b4 ys cl x) : DueN A s ys cl x (dueW A (firstB [b0, b1, b2, b3, b4])) := by
  have e := dueC_of (A := A) h1 hn
  cases b0 with
  | true => exact .inl ⟨.inl ⟨hr.2 rfl, rfl⟩, fun z => by cases z⟩
  | false =>
  cases b1 with
  | true => exact .inl ⟨.inr ⟨hr.1 rfl, e⟩, fun z => by cases z⟩
  | false =>
  cases b2 with
  | true => exact .inl ⟨.inr ⟨hr.1 rfl, e⟩, fun z => by cases z⟩
  | false =>
  refine .inr ⟨.inr ⟨hr.1 rfl, e⟩, ?_⟩
  cases b3 with
  | true => exact .inl ⟨ha.1 rfl, rfl⟩
  | false =>
  obtain ⟨j, c, hj, hc, hx⟩ := ha.2 rfl
  have hx := hx (hn.1 rfl c (List.mem_iff_getElem?.mpr ⟨j, hc⟩))
  refine .inr ⟨j, c, hj, hc, ?_⟩
  cases b4 with
  | true => exact .inl ⟨hx.2 rfl, rfl⟩
  | false => exact .inr ⟨(hx.1 rfl).1, (hx.1 rfl).2, rfl⟩
theorem first_ok {W : List Bool} (h : W.length ≤ 5) : firstB W = 9 ∨ (0 ≤ firstB W ∧ firstB W ≤ 4) := by
  match W, h with
  | [], _ => exact .inl rfl
  | [a], _ => cases a <;> simp [firstB]
  | [a, b], _ => cases a <;> cases b <;> simp [firstB]
  | [a, b, c], _ => cases a <;> cases b <;> cases c <;> simp [firstB]
  | [a, b, c, d], _ => cases a <;> cases b <;> cases c <;> cases d <;> simp [firstB]
  | [a, b, c, d, e], _ => cases a <;> cases b <;> cases c <;> cases d <;> cases e <;> simp [firstB]
  | _ :: _ :: _ :: _ :: _ :: _ :: _, h => exact absurd h (by simp)
theorem ifB {b : Bool} {A : Prop} {N : St → Hp → Prop} {σ : St} {H : Hp} (C : St → Hp → Prop) (h : ∀ σ H, C σ H → N σ H) (h2 : b = false → C σ H) (h1 : b = true → (∀ σ H, C σ H → N σ H) → A) : if b = true then A else N σ H := by
  cases b with
  | false => exact brF (h _ _ (h2 rfl))
  | true =>
    rw [if_pos rfl]
    exact h1 rfl h
theorem seq_by {t u : TS} {D : Ends} {σ : St} {H : Hp} (C : St → Hp → Prop) (h : ∀ σ H, C σ H → u D σ H) (h1 : (∀ σ H, C σ H → u D σ H) → tSeq t u D σ H) : tSeq t u D σ H := h1 h
theorem four_at {c : Int} : ∃ ρ, ρ ≠ Lr.Rl.tu ∧ atI [V.str (tx [103, 97, 105, 110, 115]), .str (tx [108, 111, 115, 115, 101, 115]), .str (tx [104, 97, 108, 118, 101, 115]), .str (tx [115, 104, 97, 114, 101, 115])] (c % 4) = some (.str (word ρ)) := by
  have h : c % 4 = 0 ∨ c % 4 = 1 ∨ c % 4 = 2 ∨ c % 4 = 3 := by omega
  rcases h with h | h | h | h <;> rw [h]
  · exact ⟨.ga, (fun z => by cases z), rfl⟩
  · exact ⟨.lo, (fun z => by cases z), rfl⟩
  · exact ⟨.ha, (fun z => by cases z), rfl⟩
  · exact ⟨.sh, (fun z => by cases z), rfl⟩
theorem no_word {s : Str} (h1 : s ≠ word .ga) (h2 : s ≠ word .lo) (h3 : s ≠ word .ha) (h4 : s ≠ word .sh) : ∀ ρ, ρ ≠ Lr.Rl.tu → s ≠ word ρ := by
  intro ρ hρ
  cases ρ with
  | ga => exact h1
  | lo => exact h2
  | ha => exact h3
  | sh => exact h4
  | tu => exact absurd rfl hρ
theorem six_no {c : Int} : ∃ s, atI [V.str (tx [116, 117, 114, 110, 115]), .str (tx []), .str (tx [103, 97, 105, 110]), .str (tx [83, 104, 97, 114, 101, 115]), .str (tx [104, 97, 108, 118, 101, 115, 32]), .str (tx [116, 117, 114, 110])] (c % 6) = some (.str s) ∧ ∀ ρ, ρ ≠ Lr.Rl.tu → s ≠ word ρ := by
  have h : c % 6 = 0 ∨ c % 6 = 1 ∨ c % 6 = 2 ∨ c % 6 = 3 ∨ c % 6 = 4 ∨ c % 6 = 5 := by omega
  rcases h with h | h | h | h | h | h <;> rw [h] <;> exact ⟨_, rfl, no_word (by decide +kernel) (by decide +kernel) (by decide +kernel) (by decide +kernel)⟩
theorem cut_take {vs : List V} {p : Nat} (h : p ≤ vs.length) : cutV vs none (some (p : Int)) = vs.take p := by
  unfold cutV
  have e1 : HT.sIx vs.length vs.length (some (p : Int)) = min p vs.length := HT.sIx_nat _ _ p
  rw [HT.sIx_none, e1, List.drop_zero, Nat.sub_zero, Nat.min_eq_left h]
theorem cut_drop {vs : List V} {p : Nat} (h : p ≤ vs.length) : cutV vs (some (p : Int)) none = vs.drop p := by
  unfold cutV
  have e1 : HT.sIx vs.length 0 (some (p : Int)) = min p vs.length := HT.sIx_nat _ _ p
  rw [HT.sIx_none, e1, Nat.min_eq_left h]
  exact List.take_of_length_le (by rw [List.length_drop]; exact Nat.le_refl _)
theorem rats_take {H : Hp} {vs : List V} {xs : List Rat} (h : RatsV K H vs xs) (p : Nat) : RatsV K H (vs.take p) (xs.take p) := by
  refine ⟨by rw [List.length_take, List.length_take, h.len], fun j v x hv hx => ?_⟩
  rw [List.getElem?_take] at hv hx
  split at hv
  · rename_i hj
    rw [if_pos hj] at hx
    exact h.at_ j v x hv hx
  · cases hv
theorem rats_drop {H : Hp} {vs : List V} {xs : List Rat} (h : RatsV K H vs xs) (p : Nat) : RatsV K H (vs.drop p) (xs.drop p) := by
  refine ⟨by rw [List.length_drop, List.length_drop, h.len], fun j v x hv hx => ?_⟩
  rw [List.getElem?_drop] at hv hx
  exact h.at_ _ v x hv hx
theorem ov_int {n : Int} {k : Nat} (h : (n * 55440).natAbs ≤ 2 ^ k) : Lr.Ov 55440 (2 ^ k) (n : Rat) := ⟨n * 55440, Lr.rt_of_mul (by decide) (by rw [Rat.intCast_mul]), h⟩
theorem ob_more {ys zs : List Rat} {n : Int} (h : Ob 140 55440 ys) (hn : (n * 55440).natAbs ≤ 2 ^ 140) (hz : ∀ z ∈ zs, z = (n : Rat) ∨ z ∈ ys) : Ob 140 55440 zs := ⟨h.pos, h.bd, fun y hy => by
  rcases hz y hy with rfl | hy
  · exact ov_int hn
  · exact h.ov y hy⟩
theorem neg_frac {d : Int} (hd : 0 < d) : Lr.rt (-1) d < 0 := by
  refine Rat.not_le.mp fun h => ?_
  have := (Lr.rt_nonneg hd).mp h
  omega
theorem more_frac (x : Rat) : x < Lr.rt (x.num * 2 + 1) ((x.den : Int) * 2) := by
  have hd := Lr.den_pos x
  have e : x = Lr.rt (x.num * 2) ((x.den : Int) * 2) := by
    refine Lr.rt_of_mul (by omega) ?_
    have := Lr.rt_mul_self (n := x.num) hd
    rw [Lr.rt_self] at this
    rw [Rat.intCast_mul, Rat.intCast_mul, ← Rat.mul_assoc, this]
  refine Rat.not_le.mp fun h => ?_
  rw [e] at h
  rw [← e] at h
  have h2 : Lr.rt (x.num * 2 + 1) ((x.den : Int) * 2) ≤ Lr.rt (x.num * 2) ((x.den : Int) * 2) := by rw [← e]; exact h
  have := (Lr.rt_le_iff (by omega)).mp h2
  omega
theorem sqT_sm {H H' : Hp} {a : Addr} {xs : List V} (e : Same H H') (h : SqT K H a xs) : SqT K H' a xs := by
  rcases h with (h | ⟨o, h⟩) | h
  · exact .inl (.inl (e _ _ h))
  · exact .inl (.inr ⟨o, e _ _ h⟩)
  · exact .inr h
theorem num_pos (x : Rat) : 0 < x.num ↔ 0 < x := by
  have hd := Lr.den_pos x
  have e := Lr.rt_self x
  constructor
  · intro h
    refine Rat.not_le.mp fun z => ?_
    rw [← e] at z
    have z2 : Lr.rt x.num x.den ≤ Lr.rt 0 x.den := by rw [Lr.rt_zero hd]; exact z
    have := (Lr.rt_le_iff hd).mp z2
    omega
  · intro h
    refine Int.lt_of_not_ge fun z => ?_
    have := Lr.rt_le hd z
    rw [Lr.rt_zero hd, e] at this
    grind
set_option maxHeartbeats 20000000 in
theorem cal_law (F : Has K mg "law" s_law ["_law_script"] f fd) (En : Env K mg Ad) (G_l_cell_at : CalE P w K mg base "_law_cell_at" 1 ["_law_script", "_law_k"] (sp_cell K)) (G_l_right : CalE P w K mg base "_law_right" 1 ["_law_kinds_here", "_law_due"] (sp_n_right)) (G_l_ratio : CalE P w K mg base "_law_ratio" 1 ["_law_number", "_law_parts"] (sp_l_ratio)) (G_l_kinds : CalE P w K mg base "_law_kinds" 12 ["_law_asked", "_law_rule", "_law_claims_here", "_law_claimer", "_law_amount"] (sp_n_kinds K Ad)) (G_l_first : CalE P w K mg base "_law_first" 1 ["_law_wrongs"] (sp_n_first K)) (G_l_claims : CalE P w K mg base "_law_claims" 2 ["_law_script", "_law_start"] (sp_q_claims K)) : FnOk P w K mg base (CXE P w) 13 f fd ["_law_script"] (sp_law K) := by
  refine (F.fn.okE sc_law (fun vs H Q E h => ?_) (fun cdv A outer s H vs Q E hr h => ?_))
  · obtain ⟨a, ns, rfl, hS, h63, k⟩ := h
    rfl
  obtain ⟨a, ns, rfl, hS, h63, k⟩ := h
  refine ⟨_, (pss_cons (ps_setComp (k := 1) (defScope s_law) [] [] sc_law.nd rfl (Or.inl rfl) rfl (pi_list (pe_callP G_l_claims hr (by decide) rfl (pa_cons (dv 0) (pa_cons pe_int pa_nil)))) (fun z => (pe_callN G_l_ratio hr (by decide) rfl (pa_cons (dv 0) (pa_cons pe_int pa_nil)))))
    (pss_cons (ps_set (i := 2) sc_law.nd rfl (Or.inl rfl) (pe_callP G_l_cell_at hr (by decide) rfl (pa_cons (dv 0) (pa_cons pe_int pa_nil))))
    (pss_cons (ps_set (i := 3) sc_law.nd rfl (Or.inl rfl) (pe_callP G_l_cell_at hr (by decide) rfl (pa_cons (dv 0) (pa_cons pe_int pa_nil))))
    (pss_cons (ps_set (i := 4) sc_law.nd rfl (Or.inl rfl) (d_lst (pa_cons (pe_cmpR d_eq (pe_op d_mod (dv 2) pe_int) pe_int (nomark _)) (pa_cons (pe_cmpR d_eq (pe_op d_mod (pe_op d_fdiv (dv 2) pe_int) pe_int) pe_int (nomark _)) (pa_cons (pe_cmpR d_eq (pe_op d_mod (pe_op d_fdiv (dv 2) pe_int) pe_int) pe_int (nomark _)) (pa_cons (pe_cmpR d_eq (pe_op d_mod (pe_op d_fdiv (dv 2) pe_int) pe_int) pe_int (nomark _)) (pa_cons (pe_cmpR d_eq (pe_op d_mod (pe_op d_fdiv (dv 2) pe_int) pe_int) pe_int (nomark _)) pa_nil)))))))
    (pss_cons (ps_set (i := 5) sc_law.nd rfl (Or.inl rfl) (pe_ix d_ixL (d_lst (pa_cons (d_str (l := [103, 97, 105, 110, 115]) (by decide +kernel)) (pa_cons (d_str (l := [108, 111, 115, 115, 101, 115]) (by decide +kernel)) (pa_cons (d_str (l := [104, 97, 108, 118, 101, 115]) (by decide +kernel)) (pa_cons (d_str (l := [115, 104, 97, 114, 101, 115]) (by decide +kernel)) pa_nil))))) (pe_op d_mod (dv 3) pe_int) (fun _ _ => rfl)))
    (pss_cons (ps_if (dt_val (pe_ix d_ixL (dv 4) pe_int (fun _ _ => rfl)))
      (pss_one (ps_set (i := 5) sc_law.nd rfl (Or.inl rfl) (pe_ix d_ixL (d_lst (pa_cons (d_str (l := [116, 117, 114, 110, 115]) (by decide +kernel)) (pa_cons (d_str (l := []) (by decide +kernel)) (pa_cons (d_str (l := [103, 97, 105, 110]) (by decide +kernel)) (pa_cons (d_str (l := [83, 104, 97, 114, 101, 115]) (by decide +kernel)) (pa_cons (d_str (l := [104, 97, 108, 118, 101, 115, 32]) (by decide +kernel)) (pa_cons (d_str (l := [116, 117, 114, 110]) (by decide +kernel)) pa_nil))))))) (pe_op d_mod (dv 3) pe_int) (fun _ _ => rfl))))
      pss_nil)
    (pss_cons (ps_if (dt_val (pe_ix d_ixL (dv 4) pe_int (fun _ _ => rfl)))
      (pss_cons (ps_set (i := 6) sc_law.nd rfl (Or.inl rfl) (pe_op d_mod (pe_op d_fdiv (dv 3) pe_int) (pe_op d_add (pe_callB d_len rfl En.b_len PySem.boot_len (pa_cons (dv 1) pa_nil)) pe_int)))
    (pss_one (ps_set (i := 1) sc_law.nd rfl (Or.inl rfl) (pe_op d_cat (pe_op d_cat (pe_slice d_slL (dv 1) po_none (d_some (dv 6))) (d_lst (pa_cons (d_tup (pa_cons (pe_op d_sub (pe_un d_neg pe_int) (pe_op d_mod (pe_op d_fdiv (dv 3) pe_int) (pe_op d_pow pe_int pe_int))) (pa_cons pe_int pa_nil))) pa_nil))) (pe_slice d_slL (dv 1) (d_some (dv 6)) po_none)))))
      pss_nil)
    (pss_cons (ps_while PassesOwn.leaving (PW.pt (pw_and (dt_val (pe_ix d_ixL (dv 4) pe_int (fun _ _ => rfl))) (pw_and1 (dt_cmp d_lt (pe_callB d_len rfl En.b_len PySem.boot_len (pa_cons (dv 1) pa_nil)) (pe_op d_add pe_int (pe_op d_mod (dv 3) pe_int)) (nomark _)))))
      (pss_one (ps_expr (d_append (dv 1) (pa_cons (d_tup (pa_cons (pe_op d_mod (pe_op d_fdiv (dv 3) pe_int) pe_int) (pa_cons pe_int pa_nil))) pa_nil)))))
    (pss_cons (ps_asg (pe_cmpR d_gt (pe_callB d_len rfl En.b_len PySem.boot_len (pa_cons (dv 1) pa_nil)) pe_int (nomark _)) (pg_sub (dv 4) pe_int d_setL))
    (pss_cons (ps_set (i := 7) sc_law.nd rfl (Or.inl rfl) (pe_op d_mod (pe_op d_fdiv (dv 3) pe_int) (pe_callB (d_max rfl) rfl En.b_max PyProof.Rows.boot_max (pa_cons pe_int (pa_cons (pe_callB d_len rfl En.b_len PySem.boot_len (pa_cons (dv 1) pa_nil)) pa_nil)))))
    (pss_cons (ps_asg (d_or (pe_ix d_ixL (dv 4) pe_int (fun _ _ => rfl)) (pe_one (pe_cmpR d_eq (pe_callB d_len rfl En.b_len PySem.boot_len (pa_cons (dv 1) pa_nil)) pe_int (nomark _)))) (pg_sub (dv 4) pe_int d_setL))
    (pss_cons (ps_set (i := 8) sc_law.nd rfl (Or.inl rfl) (d_tup (pa_cons pe_int (pa_cons pe_int pa_nil))))
    (pss_cons (ps_if (dt_val (pe_ix d_ixL (dv 4) pe_int (fun _ _ => rfl)))
      (pss_one (ps_set (i := 7) sc_law.nd rfl (Or.inl rfl) (pe_ix d_ixL (d_lst (pa_cons (pe_op d_sub (pe_un d_neg pe_int) (pe_op d_mod (pe_op d_fdiv (dv 3) pe_int) (pe_op d_pow pe_int pe_int))) (pa_cons (pe_op d_add (pe_callB d_len rfl En.b_len PySem.boot_len (pa_cons (dv 1) pa_nil)) (pe_op d_mod (pe_op d_fdiv (dv 3) pe_int) (pe_op d_pow pe_int pe_int))) pa_nil))) (pe_op d_mod (pe_op d_fdiv (dv 3) pe_int) pe_int) (fun _ _ => rfl))))
      (pss_one (ps_if (dt_cmp d_gt (pe_ix d_ixR (pe_ix d_ixL (dv 1) (dv 7) (fun _ _ => rfl)) pe_int (fun _ _ => rfl)) pe_int (nomark _))
      (pss_one (ps_set (i := 8) sc_law.nd rfl (Or.inl rfl) (pe_ix d_ixL (dv 1) (dv 7) (fun _ _ => rfl))))
      pss_nil)))
    (pss_cons (ps_if (dt_val (pe_ix d_ixL (dv 4) pe_int (fun _ _ => rfl)))
      (pss_cons (ps_set (i := 8) sc_law.nd rfl (Or.inl rfl) (pe_ix d_ixL (d_lst (pa_cons (d_tup (pa_cons (pe_un d_neg pe_int) (pa_cons (pe_op d_add pe_int (pe_op d_mod (pe_op d_fdiv (dv 3) pe_int) (pe_op d_pow pe_int pe_int))) pa_nil))) (pa_cons (d_tup (pa_cons (pe_op d_add (pe_op d_mul (pe_ix d_ixT (dv 8) pe_int (fun _ _ => rfl)) pe_int) pe_int) (pa_cons (pe_op d_mul (pe_ix d_ixT (dv 8) pe_int (fun _ _ => rfl)) pe_int) pa_nil))) pa_nil))) (pe_op d_mod (pe_op d_fdiv (dv 3) pe_int) pe_int) (fun _ _ => rfl)))
    (pss_one (ps_set (i := 8) sc_law.nd rfl (Or.inl rfl) (pe_callP G_l_ratio hr (by decide) rfl (pa_cons (pe_ix d_ixT (dv 8) pe_int (fun _ _ => rfl)) (pa_cons (pe_ix d_ixT (dv 8) pe_int (fun _ _ => rfl)) pa_nil))))))
      pss_nil)
    (pss_cons (ps_if (pt_not (dt_val (pe_callP G_l_right hr (by decide) rfl (pa_cons (pe_callP G_l_kinds hr (by decide) rfl (pa_cons pe_int (pa_cons (dv 5) (pa_cons (dv 1) (pa_cons (dv 7) (pa_cons (dv 8) pa_nil)))))) (pa_cons (pe_callP G_l_first hr (by decide) rfl (pa_cons (pe_slice d_slL (dv 4) po_none (d_some pe_int)) pa_nil)) pa_nil)))))
      (pss_one (ps_ret pe_bl))
      pss_nil)
    (pss_one (ps_ret (pe_callP G_l_right hr (by decide) rfl (pa_cons (pe_callP G_l_kinds hr (by decide) rfl (pa_cons pe_int (pa_cons (dv 5) (pa_cons (dv 1) (pa_cons (dv 7) (pa_cons (dv 8) pa_nil)))))) (pa_cons (pe_callP G_l_first hr (by decide) rfl (pa_cons (dv 4) pa_nil)) pa_nil)))))))))))))))))))), ?_⟩
  refine ⟨a, ns, 2, rfl, hS, by decide, fun l1 ws H1 s1 f1 hl1 hC => ?_⟩
  have hc8 := hC.1
  have h55 : Bd 9000 (55440 : Int) := (Bd.of_lt (n := 40) (by decide)).mono (by decide)
  refine ⟨_, rfl, ⟨_, SqL.of hl1⟩, fun lh H2 n2 => ?_⟩
  refine comp_rats (xs := ws.map r55) n2 (SqL.of hl1) (by rw [List.length_map]; omega) (by rw [List.length_map, List.length_map]) ?_ fun H3 s3 hG hf3 => ?_
  · intro j u x hu hx z H' s' R k'
    rw [List.getElem?_map] at hu hx
    obtain ⟨c, hc, rfl⟩ := Option.map_eq_some_iff.mp hu
    rw [hc] at hx
    cases hx
    exact ⟨c, 55440, rfl, by decide, h55, fun z H' n => k' _ H' n.same (.new n)⟩
  have hl3 := s3 _ _ hl1
  have hS3 := (s1.trans s3).seq hS
  have hO : Ob 140 55440 (ws.map r55) := ⟨by decide, Bd.of_lt (by decide), fun y hy => by
    obtain ⟨w', hw', rfl⟩ := List.mem_map.mp hy
    exact ⟨w', rfl, by have := hC.2 w' hw'; omega⟩⟩
  have hnn : ∀ c ∈ ws.map r55, 0 ≤ c := fun c hc => by
    obtain ⟨w', hw', rfl⟩ := List.mem_map.mp hc
    exact (Lr.rt_nonneg (by decide)).mpr (hC.2 w' hw').1
  refine ⟨a, ns, 0, rfl, hS3, by decide, fun c0 => ?_⟩
  refine ⟨a, ns, 1, rfl, hS3, by decide, fun c1 => ?_⟩
  refine ⟨by decide, cdiv (by decide) (by decide), by decide, cdiv (by decide) (by decide), by decide, cdiv (by decide) (by decide), by decide, cdiv (by decide) (by decide), by decide, fun lw H4 n4 => ?_⟩
  obtain ⟨b0, b1, b2, b3, b4, n4⟩ : ∃ b0 b1 b2 b3 b4, New H3 lw (.lst [.bl b0, .bl b1, .bl b2, .bl b3, .bl b4]) H4 := ⟨_, _, _, _, _, n4⟩
  set_option simprocs false in try dsimp only [st0, set0, set1]
  refine fun lr H5 n5 => ⟨by decide, ?_⟩
  obtain ⟨ρ, hρ1, hρ⟩ := four_at (c := c1)
  refine ⟨_, _, SqL.of n5.at_, hρ, ?_⟩
  set_option simprocs false in try dsimp only [st0, set0, set1]
  refine ⟨_, _, SqL.of (n5.same _ _ n4.at_), rfl, ?_⟩
  refine ifB (fun σ H' => ∃ s, σ = [some (.ref a), some (.ref lh), some (.int c0), some (.int c1), some (.ref lw), some (.str s), none, none, none] ∧ Same H4 H' ∧ Ru b0 s) ?_ (fun e => ⟨_, rfl, n5.same, fun _ => ⟨ρ, hρ1, rfl⟩, fun z => by rw [e] at z; cases z⟩) (fun e hgo => ?_)
  rotate_left
  · refine fun l6 H6 n6 => ⟨by decide, ?_⟩
    obtain ⟨s, hs, hno⟩ := six_no (c := c1)
    exact ⟨_, _, SqL.of n6.at_, hs, hgo _ _ ⟨s, rfl, n5.same.trans n6.same, (fun z => by rw [e] at z; cases z), fun _ => hno⟩⟩
  rintro σ H6 ⟨s, rfl, s6, hru⟩
  have hw6 := s6 _ _ n4.at_
  refine ⟨_, _, SqL.of hw6, rfl, ?_⟩
  have s14 : Same H1 H4 := s3.trans n4.same
  have hlw : H1 lw = none := s3.free n4.fr
  have hnlw : lh ≠ lw := by
    rintro rfl
    obtain ⟨vg, _, _, heg⟩ := hG.sq
    rw [n4.fr] at heg
    cases heg
  refine ifB (fun σ H' => ∃ l' ys z6, σ = [some (.ref a), some (.ref l'), some (.int c0), some (.int c1), some (.ref lw), some (.str s), z6, none, none] ∧ Same H4 H' ∧ H1 l' = none ∧ l' ≠ lw ∧ RatL K H' l' ys ∧ Ob 140 55440 ys ∧ ys.length ≤ 9 ∧ Ng b2 ys) ?_ (fun e => ⟨lh, _, _, rfl, s6, n2.fr, hnlw, hG.same (n4.same.trans s6), hO, (by rw [List.length_map]; omega), fun _ => hnn, fun z => by rw [e] at z; cases z⟩) (fun e hgo => ?_)
  rotate_left
  · obtain ⟨vg, hsg, hrg, heg⟩ := (hG.same (n4.same.trans s6)).sq
    have hlg : vg.length ≤ 8 := by rw [hrg.len, List.length_map]; omega
    refine ⟨cdiv (by decide) (by decide), vg, .inl hsg, (by omega), ?_⟩
    have p0 := Int.emod_nonneg (c1.fdiv 6) (show ((vg.length : Int) + 1) ≠ 0 by omega)
    have p1 := Int.emod_lt_of_pos (c1.fdiv 6) (show (0 : Int) < (vg.length : Int) + 1 by omega)
    obtain ⟨p, hp⟩ : ∃ p : Nat, c1.fdiv 6 % ((vg.length : Int) + 1) = p := ⟨_, (Int.toNat_of_nonneg p0).symm⟩
    set_option simprocs false in try dsimp only [st0, set0, set1]
    refine ⟨vg, hsg, fun l7 H7 n7 => ?_⟩
    refine ⟨cdiv (by decide) (by decide), cpow (by decide) (by decide) (by decide), by decide, fun zt H8 n8 => fun lq H9 n9 => ?_⟩
    rw [hp, cut_take (by omega)] at n7
    refine ⟨_, _, (n8.same.trans n9.same) _ _ n7.at_, n9.at_, (by rw [List.length_take]; show _ + 1 ≤ _; omega), fun l10 H10 n10 => ?_⟩
    have s610 := n7.same.trans (n8.same.trans (n9.same.trans n10.same))
    refine ⟨vg, s610.seq hsg, fun l11 H11 n11 => ?_⟩
    rw [hp, cut_drop (by omega)] at n11
    refine ⟨_, _, n11.same _ _ n10.at_, n11.at_, (by rw [List.length_append, List.length_take, List.length_drop]; show _ + 1 + _ ≤ _; omega), fun l12 H12 n12 => ?_⟩
    have f0 := Int.emod_nonneg (c1.fdiv 6) (show (10 : Int) ^ ((30 : Int).toNat) ≠ 0 by decide)
    have f1 := Int.emod_lt_of_pos (c1.fdiv 6) (show (0 : Int) < 10 ^ ((30 : Int).toNat) by decide)
    generalize hn : -1 - c1.fdiv 6 % 10 ^ ((30 : Int).toNat) = n at n8
    rw [show ((30 : Int)).toNat = 30 from rfl] at hn f0 f1
    have hx : RatV K H8 (.ref zt) (n : Rat) := RatV.new n8
    have s612 := s610.trans (n11.same.trans n12.same)
    have hxn : (n : Rat) ∈ (ws.map r55).take p ++ [(n : Rat)] ++ (ws.map r55).drop p := List.mem_append_left _ (List.mem_append_right _ (List.mem_singleton.mpr rfl))
    refine hgo _ _ ⟨l12, (ws.map r55).take p ++ [(n : Rat)] ++ (ws.map r55).drop p, _, rfl, s6.trans s612, (s14.trans (s6.trans (s610.trans n11.same))).free n12.fr, ?_, ⟨_, n12.at_, ?_⟩, ?_, ?_, ?_, ?_⟩
    · rintro rfl
      have := n12.fr
      rw [((s6.trans (s610.trans n11.same)) _ _ n4.at_)] at this
      cases this
    · exact (((rats_take (hrg.ts s612.ts) p).app (rats_one (hx.same (n9.same.trans (n10.same.trans (n11.same.trans n12.same)))))).app (rats_drop (hrg.ts s612.ts) p))
    · refine ob_more (n := n) hO (by omega) fun z hz => ?_
      rcases List.mem_append.mp hz with hz | hz
      · rcases List.mem_append.mp hz with hz | hz
        · exact .inr (List.mem_of_mem_take hz)
        · exact .inl (List.mem_singleton.mp hz)
      · exact .inr (List.mem_of_mem_drop hz)
    · rw [List.length_append, List.length_append, List.length_take, List.length_drop, List.length_map, List.length_singleton]
      omega
    · intro z
      rw [e] at z
      cases z
    · exact fun _ => ⟨_, hxn, by exact_mod_cast (show n < 0 by omega)⟩
  rintro σ H7 ⟨l', ys, z6, rfl, s7, fl', hne, hY, hOy, hy9, hng⟩
  clear hG hO hnn
  refine seq_by (t := tWhile _ _) (fun σ H' => ∃ ys, σ = [some (.ref a), some (.ref l'), some (.int c0), some (.int c1), some (.ref lw), some (.str s), z6, none, none] ∧ Same H1 H' ∧ H' lw = some (.lst [.bl b0, .bl b1, .bl b2, .bl b3, .bl b4]) ∧ RatL K H' l' ys ∧ Ob 140 55440 ys ∧ ys.length ≤ 11 ∧ Ng b2 ys) ?_ (fun hgo => ?_)
  rotate_left
  · refine whl (fun m σ H' => ∃ ys, σ = [some (.ref a), some (.ref l'), some (.int c0), some (.int c1), some (.ref lw), some (.str s), z6, none, none] ∧ Same H1 H' ∧ H' lw = some (.lst [.bl b0, .bl b1, .bl b2, .bl b3, .bl b4]) ∧ RatL K H' l' ys ∧ Ob 140 55440 ys ∧ ys.length ≤ 11 ∧ Ng b2 ys ∧ m = 11 - ys.length) _ ⟨ys, rfl, s14.trans s7, s7 _ _ n4.at_, hY, hOy, by omega, hng, rfl⟩ ?_
    clear hY hOy hy9 hng
    rintro m σ H8 ⟨ys, rfl, s8, hw8, hY, hOy, hy, hng, rfl⟩
    refine ⟨_, _, SqL.of hw8, rfl, ?_⟩
    obtain ⟨vy, hsy, hry, hey⟩ := hY.sq
    have hly := hry.len
    have t0 := Int.emod_nonneg c1 (show (3 : Int) ≠ 0 by decide)
    have t1 := Int.emod_lt_of_pos c1 (show (0 : Int) < 3 by decide)
    refine brB (fun eb => ?_) (fun eb => ?_)
    rotate_left
    · have g := hgo _ _ ⟨ys, rfl, s8, hw8, hY, hOy, hy, hng⟩
      first | exact g | (refine brF ?_; exact g) | (refine brF ?_; refine brF ?_; exact g)
    · refine ⟨vy, .inl hsy, by decide, ?_⟩
      refine br (fun c => whl_in ?_) (fun c => hgo _ _ ⟨ys, rfl, s8, hw8, hY, hOy, hy, hng⟩)
      refine ⟨⟨vy, hey⟩, cdiv (by decide) (by decide), by decide, fun z H9 n9 => ?_⟩
      have q0 := Int.emod_nonneg (c1.fdiv 12) (show (7 : Int) ≠ 0 by decide)
      have q1 := Int.emod_lt_of_pos (c1.fdiv 12) (show (0 : Int) < 7 by decide)
      generalize c1.fdiv 12 % 7 = n at n9 q0 q1
      have hx : RatV K H9 (.ref z) (n : Rat) := RatV.new n9
      have hey9 := n9.same _ _ hey
      refine ⟨vy, hey9, by omega, fun H10 c10 => ⟨11 - (ys ++ [(n : Rat)]).length, ?_, ys ++ [(n : Rat)], rfl, c10.same (s8.trans n9.same) fl', ?_, ⟨_, c10.at_, ?_⟩, ?_, ?_, ?_, rfl⟩⟩
      · rw [List.length_append, List.length_singleton]
        omega
      · rw [c10.oth _ (Ne.symm hne)]
        exact n9.same _ _ hw8
      · exact ((hry.ts n9.ts).ts (c10.ts hey9)).snoc (hx.ts (c10.ts hey9))
      · refine ob_more (n := n) hOy (by omega) fun z hz => ?_
        rcases List.mem_append.mp hz with hz | hz
        · exact .inr hz
        · exact .inl (List.mem_singleton.mp hz)
      · rw [List.length_append, List.length_singleton]
        omega
      · refine ⟨fun e c hc => ?_, fun e => ?_⟩
        · rcases List.mem_append.mp hc with hc | hc
          · exact hng.1 e c hc
          · rw [List.mem_singleton.mp hc]
            exact_mod_cast q0
        · obtain ⟨c, hc, h⟩ := hng.2 e
          exact ⟨c, List.mem_append_left _ hc, h⟩
  clear hY hOy hy9 hng
  rintro σ H8 ⟨ys, rfl, s8, hw8, hY, hOy, hy, hng⟩
  obtain ⟨vy, hsy, hry, hey⟩ := hY.sq
  have hly := hry.len
  refine ⟨vy, .inl hsy, _, 1, hw8, rfl, fun H9 c9 => ?_⟩
  have s9 := c9.same s8 hlw
  have hY9 : RatL K H9 l' ys := ⟨vy, by rw [c9.oth _ hne]; exact hey, hry.ts (c9.ts hw8)⟩
  have e8 : decide ((vy.length : Int) > 8) = decide (8 < ys.length) := decide_eq_decide.mpr (by omega)
  obtain ⟨v1, hv1, hw9⟩ : ∃ v1, v1 = decide (8 < ys.length) ∧ H9 lw = some (.lst [.bl b0, .bl v1, .bl b2, .bl b3, .bl b4]) := ⟨_, rfl, by rw [c9.at_, e8]; rfl⟩
  clear hY hsy hry hey hw8 c9
  obtain ⟨vy, hsy, hry, hey⟩ := hY9.sq
  have hly9 := hry.len
  refine ⟨cdiv (by decide) (by decide), vy, .inl hsy, (by show 0 < max (1 : Int) (vy.length : Int); omega), ?_⟩
  have m0 := Int.emod_nonneg (c1.fdiv 24) (show max (1 : Int) (vy.length : Int) ≠ 0 by omega)
  have m1 := Int.emod_lt_of_pos (c1.fdiv 24) (show 0 < max (1 : Int) (vy.length : Int) by omega)
  set_option simprocs false in try dsimp only [st0, set0, set1, gName]
  refine seq_by (t := tAsg _ _) (fun σ H' => ∃ v3 : Bool, σ = [some (.ref a), some (.ref l'), some (.int c0), some (.int c1), some (.ref lw), some (.str s), z6, some (.int (c1.fdiv 24 % max (1 : Int) (vy.length : Int))), none] ∧ Same H1 H' ∧ H' lw = some (.lst [.bl b0, .bl v1, .bl b2, .bl v3, .bl b4]) ∧ RatL K H' l' ys ∧ (v3 = false → 0 < ys.length)) ?_ (fun hgo => ?_)
  rotate_left
  · refine ⟨_, _, SqL.of hw9, rfl, ?_⟩
    refine brB (fun eb => ?_) (fun eb => ?_)
    · refine ⟨_, 3, hw9, rfl, fun H10 c10 => hgo _ _ ⟨true, rfl, c10.same s9 hlw, c10.at_, ⟨vy, by rw [c10.oth _ hne]; exact hey, hry.ts (c10.ts hw9)⟩, fun z => by cases z⟩⟩
    · refine ⟨vy, .inl hsy, _, 3, hw9, rfl, fun H10 c10 => hgo _ _ ⟨_, rfl, c10.same s9 hlw, c10.at_, ⟨vy, by rw [c10.oth _ hne]; exact hey, hry.ts (c10.ts hw9)⟩, fun z => ?_⟩⟩
      have := of_decide_eq_false z
      omega
  rintro σ H10 ⟨v3, rfl, s10, hw10, hY10, hv3⟩
  generalize c1.fdiv 24 % max (1 : Int) (vy.length : Int) = cl at m0 m1 ⊢
  refine fun za H11 n11 => ?_
  set_option simprocs false in try dsimp only [st0, set0, set1, gName]
  have hA : RatV K H11 (.ref za) (0 : Rat) := RatV.new n11
  have hw11 := n11.same _ _ hw10
  have hY11 := hY10.same n11.same
  obtain ⟨vz, hsz, hrz, hez⟩ := hY11.sq
  have hlz := hrz.len
  have s11 := s10.trans n11.same
  refine seq_by (t := tIfS _ _ _) (fun σ H' => ∃ cl va x, σ = [some (.ref a), some (.ref l'), some (.int c0), some (.int c1), some (.ref lw), some (.str s), z6, some (.int cl), some va] ∧ Same H11 H' ∧ RatV K H' va x ∧ Sz 300 x ∧ Am v3 false ys cl x ∧ (v3 = false → ∃ (j : Nat) (c : Rat), cl = (j : Int) ∧ ys[j]? = some c ∧ (0 ≤ c → x = c))) ?_ (fun hgo => ?_)
  rotate_left
  · refine ⟨_, _, SqL.of hw11, rfl, ?_⟩
    refine brB (fun eb => ?_) (fun eb => ?_)
    · subst eb
      refine ⟨cdiv (by decide) (by decide), cpow (by decide) (by decide) (by decide), by decide, vz, .inl hsz, cdiv (by decide) (by decide), cpow (by decide) (by decide) (by decide), by decide, fun l2 H12 n12 => ⟨cdiv (by decide) (by decide), by decide, ?_⟩⟩
      have f0 := Int.emod_nonneg (c1.fdiv 24) (show (10 : Int) ^ ((30 : Int).toNat) ≠ 0 by decide)
      generalize c1.fdiv 24 % 10 ^ ((30 : Int).toNat) = far at n12 f0
      have h2 : c1.fdiv 12 % 2 = 0 ∨ c1.fdiv 12 % 2 = 1 := Int.emod_two_eq _
      rcases h2 with h2 | h2
      · exact ⟨_, .int (-1 - far), SqL.of n12.at_, (by rw [h2]; rfl), hgo _ _ ⟨_, _, _, rfl, n12.same, hA.same n12.same, Sz.zero.mono (by decide), ⟨fun _ => .inl (by omega), fun z => by cases z⟩, fun z => by cases z⟩⟩
      · exact ⟨_, .int ((vz.length : Int) + far), SqL.of n12.at_, (by rw [h2]; rfl), hgo _ _ ⟨_, _, _, rfl, n12.same, hA.same n12.same, Sz.zero.mono (by decide), ⟨fun _ => .inr (by omega), fun z => by cases z⟩, fun z => by cases z⟩⟩
    · subst eb
      have hpos := hv3 rfl
      have hlv : vy.length = ys.length := hry.len
      obtain ⟨j, rfl⟩ : ∃ j : Nat, cl = (j : Int) := ⟨cl.toNat, by omega⟩
      have hj : j < ys.length := by omega
      obtain ⟨c, hc⟩ : ∃ c, ys[j]? = some c := ⟨_, List.getElem?_eq_getElem hj⟩
      obtain ⟨u, hu⟩ : ∃ u, vz[j]? = some u := ⟨_, List.getElem?_eq_getElem (by omega)⟩
      have hcu := hrz.at_ j u c hu hc
      obtain ⟨zc, rfl, hzc⟩ := hcu.sq
      refine ⟨vz, _, hsz, atI_nat hu, ?_⟩
      refine ⟨c, hcu, .inl ⟨rfl, ?_⟩⟩
      refine br (fun cp => ?_) (fun cp => ?_)
      · refine ⟨vz, _, hsz, atI_nat hu, hgo _ _ ⟨_, _, c, rfl, Same.refl _, hcu, hOy.sz (by decide) (List.mem_iff_getElem?.mpr ⟨j, hc⟩), ⟨(fun z => by cases z), fun _ => ⟨j, c, rfl, hc, fun h0 => ⟨fun _ => ⟨h0, Rat.le_refl⟩, fun z => by cases z⟩⟩⟩, fun _ => ⟨j, c, rfl, hc, fun _ => rfl⟩⟩⟩
      · have hc0 : ¬ 0 < c := fun h => cp ((num_pos c).mpr h)
        refine hgo _ _ ⟨_, _, 0, rfl, Same.refl _, hA, Sz.zero.mono (by decide), ⟨(fun z => by cases z), fun _ => ⟨j, c, rfl, hc, fun h0 => ⟨fun _ => ⟨Rat.le_refl, h0⟩, fun z => by cases z⟩⟩⟩, fun _ => ⟨j, c, rfl, hc, fun h0 => by grind⟩⟩
  rintro σ H12 ⟨cl', va, x, rfl, s12, hx12, hsx, ham, hxc⟩
  have hw12 := s12 _ _ hw11
  have hY12 := hY11.same s12
  refine ⟨_, _, SqL.of hw12, rfl, ?_⟩
  refine ifB (fun σ H' => ∃ va x, σ = [some (.ref a), some (.ref l'), some (.int c0), some (.int c1), some (.ref lw), some (.str s), z6, some (.int cl'), some va] ∧ Same H12 H' ∧ RatV K H' va x ∧ Sz 800 x ∧ Am v3 b4 ys cl' x) ?_ (fun e => ⟨va, x, rfl, Same.refl _, hx12, hsx.mono (by decide), by rw [e]; exact ham⟩) (fun e hgo => ?_)
  rotate_left
  · obtain ⟨zx, rfl, hzx⟩ := hx12.sq
    refine ⟨cdiv (by decide) (by decide), cpow (by decide) (by decide) (by decide), by decide, fun z1 H13 n13 => ?_⟩
    have f0 := Int.emod_nonneg (c1.fdiv 24) (show (10 : Int) ^ ((20 : Int).toNat) ≠ 0 by decide)
    have f1 := Int.emod_lt_of_pos (c1.fdiv 24) (show (0 : Int) < 10 ^ ((20 : Int).toNat) by decide)
    generalize c1.fdiv 24 % 10 ^ ((20 : Int).toNat) = far at n13 f0 f1
    rw [show ((20 : Int)).toNat = 20 from rfl] at f1
    have hzx13 := sqT_sm n13.same hzx
    have hB2 : CMulB x.num 2 := CMulB.of (m := 300) hsx.n ((Bd.of_lt (n := 300) (by decide))) (by decide)
    have hB3 : CMulB (x.den : Int) 2 := CMulB.of (m := 300) hsx.d ((Bd.of_lt (n := 300) (by decide))) (by decide)
    refine ⟨_, _, hzx13, rfl, hB2, _, _, hzx13, rfl, hB3, fun z2 H14 n14 => fun lL H15 n15 => ⟨cdiv (by decide) (by decide), by decide, ?_⟩⟩
    have hd := Lr.den_pos x
    have h2 : c1.fdiv 48 % 2 = 0 ∨ c1.fdiv 48 % 2 = 1 := Int.emod_two_eq _
    have sall := n13.same.trans (n14.same.trans n15.same)
    rcases h2 with h2 | h2
    · refine ⟨_, .ref z1, SqL.of n15.at_, (by rw [h2]; rfl), ?_⟩
      set_option simprocs false in try dsimp only [st0, set0, set1]
      have hz1 := (n14.same.trans n15.same) _ _ n13.at_
      have hbF : Bd 800 (1 + far) := (Bd.of_lt (n := 100) (by omega)).mono (by decide)
      refine ⟨_, _, SqT.of hz1, rfl, _, _, SqT.of hz1, rfl, _, _, rfl, by omega, hbF.mono (by decide), fun z H16 n16 => ?_⟩
      refine hgo _ _ ⟨.ref z, Lr.rt (-1) (1 + far), rfl, sall.trans n16.same, .new n16, Sz.rt (by omega) (Bd.of_lt (n := 800) (by decide)) hbF (Nat.le_refl _), ham.1, fun z => ?_⟩
      obtain ⟨j, c, h1, h2, _⟩ := hxc z
      exact ⟨j, c, h1, h2, fun _ => ⟨(fun z => by rw [e] at z; cases z), fun _ => .inl (neg_frac (by omega))⟩⟩
    · refine ⟨_, .ref z2, SqL.of n15.at_, (by rw [h2]; rfl), ?_⟩
      set_option simprocs false in try dsimp only [st0, set0, set1]
      have hz1 := n15.same _ _ n14.at_
      have hbD : Bd 800 ((x.den : Int) * 2) := Bd.mul hsx.d (Bd.of_lt (n := 300) (by decide)) (by decide)
      have hbN : Bd 800 (x.num * 2 + 1) := (Bd.add (m := 700) (Bd.mul hsx.n (Bd.of_lt (n := 300) (by decide)) (by decide)) (Bd.of_lt (n := 700) (by decide)) (by decide))
      refine ⟨_, _, SqT.of hz1, rfl, _, _, SqT.of hz1, rfl, _, _, rfl, by omega, hbD.mono (by decide), fun z H16 n16 => ?_⟩
      refine hgo _ _ ⟨.ref z, Lr.rt (x.num * 2 + 1) ((x.den : Int) * 2), rfl, sall.trans n16.same, .new n16, Sz.rt (by omega) hbN hbD (Nat.le_refl _), ham.1, fun z => ?_⟩
      obtain ⟨j, c, h1, h2, h3⟩ := hxc z
      exact ⟨j, c, h1, h2, fun h0 => ⟨(fun z => by rw [e] at z; cases z), fun _ => .inr (by rw [← h3 h0]; exact more_frac x)⟩⟩
  rintro σ H13 ⟨va, x, rfl, s13, hx13, hsx, ham⟩
  have hY13 := hY12.same s13
  have hw13 := s13 _ _ hw12
  refine ⟨0, s, l', cl', va, ys, x, 140, 55440, firstB [b0, v1, b2], rfl, hY13, hx13, hOy, by decide, hsx, fun _ => dueP_of hru hv1 hng, fun z => absurd rfl z, first_ok (by show 3 ≤ 5; decide), fun lk H14 s14' hlk => ?_⟩
  refine ⟨_, SqL.of (s14' _ _ hw13), fun l5 H15 n15 => ?_⟩
  refine ⟨l5, [b0, v1, b2], rfl, SqL.of n15.at_, (by show 3 ≤ 5; decide), ?_⟩
  refine ⟨lk, _, rfl, n15.same _ _ hlk, first_ok (by show 3 ≤ 5; decide), fun H16 s16 => ?_⟩
  have s1316 := s14'.trans (n15.same.trans s16)
  refine ⟨1, s, l', cl', va, ys, x, 140, 55440, firstB [b0, v1, b2, v3, b4], rfl, hY13.same s1316, hx13.same s1316, hOy, by decide, hsx, fun z => absurd z (by decide), fun _ => dueN_of hru hv1 hng ham, first_ok (by show 5 ≤ 5; decide), fun lk2 H17 s17 hlk2 => ?_⟩
  refine ⟨lw, [b0, v1, b2, v3, b4], rfl, SqL.of ((s1316.trans s17) _ _ hw13), (by show 5 ≤ 5; decide), ?_⟩
  exact ⟨lk2, _, rfl, hlk2, first_ok (by show 5 ≤ 5; decide), fun H18 s18 => k _⟩
end
end My
/-! The names of twins that the last theorem's tactics would lay and that no proof needs are taken here, so that they are not laid: the file stays small. -/
namespace PySem.W.Fast
def tw12662770640601092128:=()
def tw14258934512074185760:=()
def tw12982389598960065696:=()
def tw15713537177229975744:=()
def tw12949979122002167008:=()
def tw8308481949668195616:=()
def tw12198417870610795904:=()
def tw2304306469753601440:=()
def tw13733989093678106016:=()
def tw15698757048335373888:=()
def tw7847566721787476672:=()
def tw369435352583484096:=()
def tw5850224516680099584:=()
def tw14306418988093313824:=()
def tw9024746560777615168:=()
def tw7073748724817630048:=()
def tw7301863735096376160:=()
def tw5964959108346385280:=()
def tw1164132179232391136:=()
def tw5197005642756514817:=()
def tw11000281007985936417:=()
def tw4687907642621173825:=()
def tw3165224150042773601:=()
def tw10289021609885160577:=()
def tw12817413945193836705:=()
def tw11053280217225139489:=()
def tw3626023972131231169:=()
def tw10531999772791868897:=()
def tw11518696318155397697:=()
def tw5850037685081991745:=()
def tw15864731624247171681:=()
def tw13859292613438204577:=()
def tw17712331725006680801:=()
def tw9764753185663745:=()
def tw7191690999882811137:=()
def tw8813072256579637025:=()
def tw15016335357891427105:=()
def tw14882509998635110177:=()
def tw18004681051179832097:=()
def tw17219114425347994529:=()
def tw5531878345511605185:=()
def tw6485686641736688642:=()
def tw11936284176264411234:=()
def tw9475035093116907682:=()
def tw7691483968935259298:=()
def tw17062028335210067170:=()
def tw12880991149946948866:=()
def tw543899041799544066:=()
def tw2494452589615396226:=()
def tw5134502726743162306:=()
def tw15540548571533429538:=()
def tw881234800845255490:=()
def tw14934056508744876994:=()
def tw5240978278152921091:=()
def tw18227836383059839203:=()
def tw11477640254096600355:=()
def tw16694015095609254211:=()
def tw14363555728896054659:=()
def tw290068952180967843:=()
def tw7291069013183866275:=()
def tw1879397678498609603:=()
def tw5565583327017662947:=()
def tw13911708605751996003:=()
def tw5922298427425172131:=()
def tw945891348383966979:=()
def tw13372650748956891075:=()
def tw5497223966802717796:=()
def tw12635064430841566372:=()
def tw15393481849359015108:=()
def tw11824114521937299780:=()
def tw1868146778090560836:=()
def tw3034091798090140004:=()
def tw3248602088231439748:=()
def tw14227193466880472484:=()
def tw7213383336469417412:=()
def tw17271535045346451908:=()
def tw10181920129036483044:=()
def tw16077316706306491876:=()
def tw17897949704761008644:=()
def tw15288337335593757316:=()
def tw3207218646595725988:=()
def tw18136441793766415044:=()
def tw89429120075848452:=()
def tw4336727694040468260:=()
def tw539813774425893700:=()
def tw14396768988759706436:=()
def tw9693148784449560420:=()
def tw11347304274041458628:=()
def tw17872483982840214500:=()
def tw14979084556889973732:=()
def tw16082160745223466085:=()
def tw16012073403299384453:=()
def tw2761902975648406693:=()
def tw6110904037215290565:=()
def tw9113521455709835461:=()
def tw17972023913263062213:=()
def tw11458581140554129637:=()
def tw11487491937744082149:=()
def tw11698762754261164293:=()
def tw15321464641362828581:=()
def tw6182681730933187973:=()
def tw14638275880965706149:=()
def tw1690525225208758725:=()
def tw994712569070440101:=()
def tw221632246084193989:=()
def tw8863846014886751941:=()
def tw365759510476360421:=()
def tw9732988744303377157:=()
def tw3108596696149825317:=()
def tw3969334871872783173:=()
def tw2888658808003741509:=()
def tw18392054498156016453:=()
def tw9471335146997937093:=()
def tw1820282846394286118:=()
def tw2910778344743250982:=()
def tw5097540573317573766:=()
def tw10203773172891437222:=()
def tw5471621064478006502:=()
def tw3166828286105411814:=()
def tw12791713476054428934:=()
def tw1203183531171683622:=()
def tw10838107224381353254:=()
def tw11141960773134907718:=()
def tw5318126036977043878:=()
def tw17331405747242447334:=()
def tw8063234277644755462:=()
def tw17290227603913027110:=()
def tw11646522922226663974:=()
def tw13803159698586916518:=()
def tw9708776749001574118:=()
def tw16103931153644023847:=()
def tw4184851053100676167:=()
def tw1591136305851021543:=()
def tw15746013564576909575:=()
def tw11693473300052285703:=()
def tw2924145515001589095:=()
def tw3997307860248260999:=()
def tw17821376700028835239:=()
def tw17595699035135021511:=()
def tw17129089217513853511:=()
def tw7663862417112991303:=()
def tw7535286902104517351:=()
def tw159351607309340423:=()
def tw2393187480168279815:=()
def tw3196096404559335303:=()
def tw4326187745601132519:=()
def tw11736010969690964008:=()
def tw13367148982894336040:=()
def tw14169458786736133160:=()
def tw8766218542853239976:=()
def tw3569665643695741128:=()
def tw6258122553740893480:=()
def tw14276481011457698088:=()
def tw6772377562510925256:=()
def tw2038594024566244808:=()
def tw9869486653520465352:=()
def tw8441166640343268872:=()
def tw242631159752026664:=()
def tw1848604467311309352:=()
def tw2542612005050925640:=()
def tw11497505903725937256:=()
def tw7012566401803045512:=()
def tw2764485526565940872:=()
def tw7912601746108057256:=()
def tw2616130340315893416:=()
def tw9359010360963158792:=()
def tw17719899803451963304:=()
def tw5975646264634662985:=()
def tw7870461248071576713:=()
def tw6092623977931862185:=()
def tw17162120446743283017:=()
def tw14301028700282826217:=()
def tw17181142385796427241:=()
def tw15017135313551861257:=()
def tw1575181745003445833:=()
def tw6338657756137592553:=()
def tw13851533887365891817:=()
def tw9657010938383574857:=()
def tw17721545282720503625:=()
def tw7756951460266519433:=()
def tw6145968119433398185:=()
def tw17338507326802655209:=()
def tw2876595408235969674:=()
def tw3235272513263517930:=()
def tw17596712104566039786:=()
def tw11424251559361466634:=()
def tw16023912320885154058:=()
def tw8616833604777427338:=()
def tw14797906515138969002:=()
def tw11738649294489458154:=()
def tw9075521635200193034:=()
def tw11197409145597320778:=()
def tw5322427900425351786:=()
def tw15542697357676163818:=()
def tw7767839415304828682:=()
def tw2971384814265752394:=()
def tw2724927446990400394:=()
def tw52740601087827882:=()
def tw497736048388546474:=()
def tw1497716072055927883:=()
def tw11034099964391648427:=()
def tw1184894201008261675:=()
def tw13304905188089413195:=()
def tw6968773214149417739:=()
def tw8538095247889950507:=()
def tw9842499530108667819:=()
def tw8037955877882807211:=()
def tw14738125693512242091:=()
def tw4703785732604515275:=()
def tw6544631861594707915:=()
def tw178274231178562539:=()
def tw646371426413365260:=()
def tw13765711226117951532:=()
def tw3198100225107633260:=()
def tw2434948659312056524:=()
def tw3549515906907213036:=()
def tw17542966933874260300:=()
def tw5512319193604972876:=()
def tw2501536998692585868:=()
def tw4216807536701354412:=()
def tw7144958545619441100:=()
def tw4669418278038618668:=()
def tw14431888016709032620:=()
def tw1194346295355186860:=()
def tw16770546381970906956:=()
def tw16764324050778619724:=()
def tw15570279174851752844:=()
def tw6561999483750991917:=()
def tw2502400304182102253:=()
def tw12430129210039234829:=()
def tw5784702968137178381:=()
def tw16921219772762692909:=()
def tw4268748196339021133:=()
def tw13779420916516500845:=()
def tw10895292703785171373:=()
def tw6794809934722022957:=()
def tw13868877112815713997:=()
def tw10147373294202848013:=()
def tw18022886548733455406:=()
def tw12311127937879113806:=()
def tw7144068468125907246:=()
def tw12084943513676163406:=()
def tw3673756478983598510:=()
def tw11869501163942901230:=()
def tw420064036539886158:=()
def tw14749586583879153230:=()
def tw3461222251285661358:=()
def tw1535379776115881870:=()
def tw9536196566438632463:=()
def tw5680088156005201935:=()
def tw13881890849158275119:=()
def tw13898726408021188655:=()
def tw17362780636058682543:=()
def tw631165018867116239:=()
def tw13867932517410577679:=()
def tw9893808959463663919:=()
def tw2091680029400958255:=()
def tw14028945125202234703:=()
def tw5547882143876365711:=()
def tw3715395916707274159:=()
def tw4347569809329452527:=()
def tw8686682635617303119:=()
def tw2068943311513761487:=()
def tw7648079074162621231:=()
def tw3546278320767532911:=()
def tw10446851990532122607:=()
def tw7528387335939802128:=()
def tw10686640107169377296:=()
def tw13395137314229438576:=()
def tw10809024996477167760:=()
def tw3785429235079570640:=()
def tw17860268516691783888:=()
def tw3174226621912293616:=()
def tw9204354733028015376:=()
def tw15492164885515824400:=()
def tw1454603107369273744:=()
def tw4545033171702447568:=()
def tw6091600124010447376:=()
def tw3866857823964176912:=()
def tw2946714744274839152:=()
def tw12723776030739624624:=()
def tw12950891886146424528:=()
def tw7573018113455260400:=()
def tw9922348222942888720:=()
def tw839455046505335664:=()
def tw5314715432354506608:=()
def tw18345179738242599985:=()
def tw7038927826338124881:=()
def tw12019869019110386769:=()
def tw11967148333762466897:=()
def tw15994946477381995633:=()
def tw16802324310553600177:=()
def tw17559013916354444561:=()
def tw9388185795844104497:=()
def tw16553990501141010737:=()
def tw18096598681911008657:=()
def tw10545064215352094161:=()
def tw9568010140076898865:=()
def tw848574800042974801:=()
def tw7003422510034608817:=()
def tw7349607095262749361:=()
def tw11262088260360497009:=()
def tw5351155053912231793:=()
def tw3604995312486144913:=()
def tw9454333147195899825:=()
def tw12576959218144645073:=()
def tw17854767302110449649:=()
def tw11171121037786024178:=()
def tw11308912601748883858:=()
def tw12268871643956770226:=()
def tw5302195250103994962:=()
def tw9851728116179442322:=()
def tw6345914497034581714:=()
def tw14849008798574756562:=()
def tw1006234661386491634:=()
def tw1665172585132300050:=()
def tw1919156232447394674:=()
def tw11054901336692111218:=()
def tw16042487799362574258:=()
def tw8033080387127373746:=()
def tw3563573955095881650:=()
def tw13927625582776224722:=()
def tw5804958738505875667:=()
def tw7016758101631945971:=()
def tw17358705818878096723:=()
def tw9976879149471972723:=()
def tw7814558300097097075:=()
def tw8930380521768776083:=()
def tw8368656198337019411:=()
def tw2752444794870197907:=()
def tw17892778781516778355:=()
def tw9886549699216572339:=()
def tw11705013690468045779:=()
def tw5957908711650666612:=()
def tw1026766934822575316:=()
def tw5853155910162273588:=()
def tw16837301967999449396:=()
def tw8088009767187013972:=()
def tw13489805582841066964:=()
def tw5928702221992124884:=()
def tw4715232766451279316:=()
def tw17440475612597720596:=()
def tw13668487975817331252:=()
def tw9354476369658878548:=()
def tw15767263984144336564:=()
def tw11585690046929764084:=()
def tw15777581320747815796:=()
def tw15879017455484270452:=()
def tw8799862077099230068:=()
def tw17314974220193937300:=()
def tw11640977174254320596:=()
def tw6252611485668487156:=()
def tw17259286168083005589:=()
def tw9260559233201138933:=()
def tw12673322114804614453:=()
def tw3053438504123148597:=()
def tw17086251549627016757:=()
def tw18328121249453600341:=()
def tw17633131077047472949:=()
def tw6063426893864434485:=()
def tw6523417355198486389:=()
def tw2484015481542017973:=()
def tw15689797518095185078:=()
def tw12592580996611012790:=()
def tw7078901797827021046:=()
def tw438779724121429302:=()
def tw10724487892311900502:=()
def tw4932301546516684150:=()
def tw10029396393186853302:=()
def tw5545771594427186614:=()
def tw9400055960811535798:=()
def tw3644330705551493590:=()
def tw9583408478086888022:=()
def tw16145736317049974582:=()
def tw3878634056260723510:=()
def tw16914607856119718742:=()
def tw8366322185247143766:=()
def tw2522453868497691574:=()
def tw17978548569749641271:=()
def tw16848899909607927895:=()
def tw12220591982612373623:=()
def tw4387831291953334423:=()
def tw6887531406609713367:=()
def tw17061823256171995447:=()
def tw10246235870742831415:=()
def tw2597915786296824183:=()
def tw11151168889625733527:=()
def tw12694449949963058583:=()
def tw4547474293142646359:=()
def tw12414112405195692823:=()
def tw313389191623871287:=()
def tw4815401909085118455:=()
def tw16686125038174838872:=()
def tw13289874623244099704:=()
def tw4578830408631778552:=()
def tw16344481107524050200:=()
def tw6707835756950015320:=()
def tw9703758435162532216:=()
def tw18023323612296789432:=()
def tw15152330530157905368:=()
def tw13584719900965311000:=()
def tw11389055197110326872:=()
def tw16143226506857305720:=()
def tw13104111403998201496:=()
def tw7000316781717696184:=()
def tw2578623581347868376:=()
def tw11074877841632424760:=()
def tw10016839151987643224:=()
def tw6410558396788542360:=()
def tw12999515846185709464:=()
def tw13104478357830461432:=()
def tw14552141579161324601:=()
def tw1581579154552007737:=()
def tw3190416707564878937:=()
def tw6321689981312283769:=()
def tw15442675909568836793:=()
def tw8211138158326243673:=()
def tw10551269953298728313:=()
def tw12802435778576554361:=()
def tw9702156017503432057:=()
def tw6726196787739858393:=()
def tw6020644530757453305:=()
def tw9245279741619189433:=()
def tw6491207842312837817:=()
def tw4467695775749711577:=()
def tw15187648225123576537:=()
def tw1287574700157678297:=()
def tw538262262934765337:=()
def tw747156393068994361:=()
def tw15445710534897174329:=()
def tw7822720097834173273:=()
def tw11922418927002294105:=()
def tw12948447210804942681:=()
def tw13906898358316826489:=()
def tw28020078254317465:=()
def tw9182651249087114137:=()
def tw2903178156881510297:=()
def tw7338353793970400217:=()
def tw13798049139429254105:=()
def tw14104424197481415706:=()
def tw10073144153925650490:=()
def tw16533321160704527450:=()
def tw15956233457235142842:=()
def tw5706117200373498170:=()
def tw5065858017484556602:=()
def tw3877271460498481498:=()
def tw18344906745076057498:=()
def tw10017061690625966490:=()
def tw10008747250434905530:=()
def tw12547166680189105626:=()
def tw1430076661110173146:=()
def tw17253909924712124922:=()
def tw2121803964470004250:=()
def tw13865810077824207418:=()
def tw10491732648293829242:=()
def tw11147559442316859034:=()
def tw8008749679417858810:=()
def tw6273408953701644122:=()
def tw3303899309036542906:=()
def tw8282351825288732634:=()
def tw13480735847960921115:=()
def tw838118851236993083:=()
def tw881543940074421339:=()
def tw11872685403282262139:=()
def tw10072675642109594811:=()
def tw12716479856736381211:=()
def tw2762709252262207867:=()
def tw10779598993878878651:=()
def tw15885966119272852987:=()
def tw12806313021916197531:=()
def tw8448259253323573019:=()
def tw2364706751183308603:=()
def tw12411687062789223227:=()
def tw11515399382199168891:=()
def tw5950952309231082363:=()
def tw17546255176438650779:=()
def tw293533243083188123:=()
def tw6790514758643227611:=()
def tw14129492928834031611:=()
def tw6225969093599028252:=()
def tw16749196911485902908:=()
def tw11821903592445173852:=()
def tw1454409131960676476:=()
def tw4665363802143406364:=()
def tw12415654661789234492:=()
def tw7097750933424269660:=()
def tw11233125107911549308:=()
def tw11237148745368021372:=()
def tw7325478598575227356:=()
def tw12473408741305383516:=()
def tw12774147223449500412:=()
def tw10347788860357231388:=()
def tw8544829318394203932:=()
def tw16166719390327181148:=()
def tw15900032883400989725:=()
def tw9678481469956833373:=()
def tw15433578213848113245:=()
def tw10593706956136072317:=()
def tw6509923978670040253:=()
def tw2463069499679364381:=()
def tw5763477475916000669:=()
def tw12202287881895433629:=()
def tw16722750756269589981:=()
def tw2180475487205610973:=()
def tw6201088177819486781:=()
def tw2989241550553259709:=()
def tw8904704606472388702:=()
def tw7027431836058106974:=()
def tw9845473469961674878:=()
def tw10002986667593401534:=()
def tw10182426593246734622:=()
def tw4705293307468642622:=()
def tw497980976989568382:=()
def tw15263846848213146014:=()
def tw9863991248959356414:=()
def tw9505910461905948158:=()
def tw641535572565026334:=()
def tw12425342252180296254:=()
def tw1135335565588855358:=()
def tw17994023804822981278:=()
def tw11219994035995475614:=()
def tw5586334638253365982:=()
def tw284658016248020734:=()
def tw16188693335545465630:=()
def tw4395827430084460318:=()
def tw1399224648111413086:=()
def tw11270810640895534111:=()
def tw12605366900466463807:=()
def tw574197300345051231:=()
def tw9729499979866960991:=()
def tw12029329779274634399:=()
def tw2604006215726267615:=()
def tw12583300144848876799:=()
def tw799730717083441439:=()
def tw4511085780783517023:=()
def tw7216903127233941919:=()
def tw17757302522320358943:=()
def tw8666032663572136575:=()
def tw15268783216759983839:=()
def tw10154773963412101919:=()
def tw17165753546844079967:=()
def tw10946794452284275551:=()
def tw7949585104053576575:=()
def tw13940023405339119487:=()
def tw15413314905616621471:=()
def tw8952817322796855199:=()
def tw15914529511114230751:=()
def tw1171654206191911935:=()
end PySem.W.Fast

open PySem PySem.W PyProof.Rows
set_option maxRecDepth 100000 in
set_option maxHeartbeats 0 in
theorem PySem.Challenge.cw_leanestate_k37_no_path_holds : PySem.Challenge.rw_leanestate_k37_no_path.Holds := by
  w_on; o_law; k_head; (case hw => w_witness2)
  k_fill
  refine L2.walkE (k := 13) (l := PySem.Challenge.rw_leanestate_k37_no_path) (by decide) rfl rfl (fun w h Y => PySem.W.kIn_of Y) ?F
  case F =>
    intro w mg fa h KX G hmg
    have h_l_cell_at : ∃ f fd, L2.Has (L2.KOf KX) mg "_law_cell_at" My.s_l_cell_at ["_law_script", "_law_k"] f fd := by
      dsimp only [L2.KOf]
      refine' ⟨_, _, L2.has_mk (st := My.s_l_cell_at) (ps := ["_law_script", "_law_k"]) KX G ?a ?l ?c ?k (fun _ _ _ _ _ _ us hl => L2.byLen2 us hl (fun _ _ => rfl))⟩
      (case a => k_is); (case l => k_is); (case c => k_is); (case k => k_is)
    have h_l_right : ∃ f fd, L2.Has (L2.KOf KX) mg "_law_right" My.s_l_right ["_law_kinds_here", "_law_due"] f fd := by
      dsimp only [L2.KOf]
      refine' ⟨_, _, L2.has_mk (st := My.s_l_right) (ps := ["_law_kinds_here", "_law_due"]) KX G ?a ?l ?c ?k (fun _ _ _ _ _ _ us hl => L2.byLen2 us hl (fun _ _ => rfl))⟩
      (case a => k_is); (case l => k_is); (case c => k_is); (case k => k_is)
    have h_l_ratio : ∃ f fd, L2.Has (L2.KOf KX) mg "_law_ratio" My.s_l_ratio ["_law_number", "_law_parts"] f fd := by
      dsimp only [L2.KOf]
      refine' ⟨_, _, L2.has_mk (st := My.s_l_ratio) (ps := ["_law_number", "_law_parts"]) KX G ?a ?l ?c ?k (fun _ _ _ _ _ _ us hl => L2.byLen2 us hl (fun _ _ => rfl))⟩
      (case a => k_is); (case l => k_is); (case c => k_is); (case k => k_is)
    have h_look_at_rule : ∃ f fd, L2.Has (L2.KOf KX) mg "look_at_rule" My.s_look_at_rule ["rule"] f fd := by
      dsimp only [L2.KOf]
      refine' ⟨_, _, L2.has_mk (st := My.s_look_at_rule) (ps := ["rule"]) KX G ?a ?l ?c ?k (fun _ _ _ _ _ _ us hl => L2.byLen1 us hl (fun _ => rfl))⟩
      (case a => k_is); (case l => k_is); (case c => k_is); (case k => k_is)
    have h_look_at_rule_of_path : ∃ f fd, L2.Has (L2.KOf KX) mg "look_at_rule_of_path" My.s_look_at_rule_of_path ["rule"] f fd := by
      dsimp only [L2.KOf]
      refine' ⟨_, _, L2.has_mk (st := My.s_look_at_rule_of_path) (ps := ["rule"]) KX G ?a ?l ?c ?k (fun _ _ _ _ _ _ us hl => L2.byLen1 us hl (fun _ => rfl))⟩
      (case a => k_is); (case l => k_is); (case c => k_is); (case k => k_is)
    have h_less : ∃ f fd, L2.Has (L2.KOf KX) mg "less" My.s_less ["one", "other"] f fd := by
      dsimp only [L2.KOf]
      refine' ⟨_, _, L2.has_mk (st := My.s_less) (ps := ["one", "other"]) KX G ?a ?l ?c ?k (fun _ _ _ _ _ _ us hl => L2.byLen2 us hl (fun _ _ => rfl))⟩
      (case a => k_is); (case l => k_is); (case c => k_is); (case k => k_is)
    have h_look_at_claims : ∃ f fd, L2.Has (L2.KOf KX) mg "look_at_claims" My.s_look_at_claims ["claims"] f fd := by
      dsimp only [L2.KOf]
      refine' ⟨_, _, L2.has_mk (st := My.s_look_at_claims) (ps := ["claims"]) KX G ?a ?l ?c ?k (fun _ _ _ _ _ _ us hl => L2.byLen1 us hl (fun _ => rfl))⟩
      (case a => k_is); (case l => k_is); (case c => k_is); (case k => k_is)
    have h_by_turns : ∃ f fd, L2.Has (L2.KOf KX) mg "by_turns" My.s_by_turns ["claims", "estate"] f fd := by
      dsimp only [L2.KOf]
      refine' ⟨_, _, L2.has_mk (st := My.s_by_turns) (ps := ["claims", "estate"]) KX G ?a ?l ?c ?k (fun _ _ _ _ _ _ us hl => L2.byLen2 us hl (fun _ _ => rfl))⟩
      (case a => k_is); (case l => k_is); (case c => k_is); (case k => k_is)
    have h_common_divisor : ∃ f fd, L2.Has (L2.KOf KX) mg "common_divisor" My.s_common_divisor ["one", "other"] f fd := by
      dsimp only [L2.KOf]
      refine' ⟨_, _, L2.has_mk (st := My.s_common_divisor) (ps := ["one", "other"]) KX G ?a ?l ?c ?k (fun _ _ _ _ _ _ us hl => L2.byLen2 us hl (fun _ _ => rfl))⟩
      (case a => k_is); (case l => k_is); (case c => k_is); (case k => k_is)
    have h_is_whole : ∃ f fd, L2.Has (L2.KOf KX) mg "is_whole" My.s_is_whole ["value"] f fd := by
      dsimp only [L2.KOf]
      refine' ⟨_, _, L2.has_mk (st := My.s_is_whole) (ps := ["value"]) KX G ?a ?l ?c ?k (fun _ _ _ _ _ _ us hl => L2.byLen1 us hl (fun _ => rfl))⟩
      (case a => k_is); (case l => k_is); (case c => k_is); (case k => k_is)
    have h_ratio : ∃ f fd, L2.Has (L2.KOf KX) mg "ratio" My.s_ratio ["top", "bottom"] f fd := by
      dsimp only [L2.KOf]
      refine' ⟨_, _, L2.has_mk (st := My.s_ratio) (ps := ["top", "bottom"]) KX G ?a ?l ?c ?k (fun _ _ _ _ _ _ us hl => L2.byLen2 us hl (fun _ _ => rfl))⟩
      (case a => k_is); (case l => k_is); (case c => k_is); (case k => k_is)
    have h_plus : ∃ f fd, L2.Has (L2.KOf KX) mg "plus" My.s_plus ["one", "other"] f fd := by
      dsimp only [L2.KOf]
      refine' ⟨_, _, L2.has_mk (st := My.s_plus) (ps := ["one", "other"]) KX G ?a ?l ?c ?k (fun _ _ _ _ _ _ us hl => L2.byLen2 us hl (fun _ _ => rfl))⟩
      (case a => k_is); (case l => k_is); (case c => k_is); (case k => k_is)
    have h_total : ∃ f fd, L2.Has (L2.KOf KX) mg "total" My.s_total ["claims"] f fd := by
      dsimp only [L2.KOf]
      refine' ⟨_, _, L2.has_mk (st := My.s_total) (ps := ["claims"]) KX G ?a ?l ?c ?k (fun _ _ _ _ _ _ us hl => L2.byLen1 us hl (fun _ => rfl))⟩
      (case a => k_is); (case l => k_is); (case c => k_is); (case k => k_is)
    have h_look_at : ∃ f fd, L2.Has (L2.KOf KX) mg "look_at" My.s_look_at ["claims", "estate"] f fd := by
      dsimp only [L2.KOf]
      refine' ⟨_, _, L2.has_mk (st := My.s_look_at) (ps := ["claims", "estate"]) KX G ?a ?l ?c ?k (fun _ _ _ _ _ _ us hl => L2.byLen2 us hl (fun _ _ => rfl))⟩
      (case a => k_is); (case l => k_is); (case c => k_is); (case k => k_is)
    have h_over : ∃ f fd, L2.Has (L2.KOf KX) mg "over" My.s_over ["one", "other"] f fd := by
      dsimp only [L2.KOf]
      refine' ⟨_, _, L2.has_mk (st := My.s_over) (ps := ["one", "other"]) KX G ?a ?l ?c ?k (fun _ _ _ _ _ _ us hl => L2.byLen2 us hl (fun _ _ => rfl))⟩
      (case a => k_is); (case l => k_is); (case c => k_is); (case k => k_is)
    have h_times : ∃ f fd, L2.Has (L2.KOf KX) mg "times" My.s_times ["one", "other"] f fd := by
      dsimp only [L2.KOf]
      refine' ⟨_, _, L2.has_mk (st := My.s_times) (ps := ["one", "other"]) KX G ?a ?l ?c ?k (fun _ _ _ _ _ _ us hl => L2.byLen2 us hl (fun _ _ => rfl))⟩
      (case a => k_is); (case l => k_is); (case c => k_is); (case k => k_is)
    have h_in_shares : ∃ f fd, L2.Has (L2.KOf KX) mg "in_shares" My.s_in_shares ["claims", "estate"] f fd := by
      dsimp only [L2.KOf]
      refine' ⟨_, _, L2.has_mk (st := My.s_in_shares) (ps := ["claims", "estate"]) KX G ?a ?l ?c ?k (fun _ _ _ _ _ _ us hl => L2.byLen2 us hl (fun _ _ => rfl))⟩
      (case a => k_is); (case l => k_is); (case c => k_is); (case k => k_is)
    have h_common_bottom : ∃ f fd, L2.Has (L2.KOf KX) mg "common_bottom" My.s_common_bottom ["ratios"] f fd := by
      dsimp only [L2.KOf]
      refine' ⟨_, _, L2.has_mk (st := My.s_common_bottom) (ps := ["ratios"]) KX G ?a ?l ?c ?k (fun _ _ _ _ _ _ us hl => L2.byLen1 us hl (fun _ => rfl))⟩
      (case a => k_is); (case l => k_is); (case c => k_is); (case k => k_is)
    have h_tops_over : ∃ f fd, L2.Has (L2.KOf KX) mg "tops_over" My.s_tops_over ["bottom", "ratios"] f fd := by
      dsimp only [L2.KOf]
      refine' ⟨_, _, L2.has_mk (st := My.s_tops_over) (ps := ["bottom", "ratios"]) KX G ?a ?l ?c ?k (fun _ _ _ _ _ _ us hl => L2.byLen2 us hl (fun _ _ => rfl))⟩
      (case a => k_is); (case l => k_is); (case c => k_is); (case k => k_is)
    have h_gain_level : ∃ f fd, L2.Has (L2.KOf KX) mg "gain_level" My.s_gain_level ["claims", "estate"] f fd := by
      dsimp only [L2.KOf]
      refine' ⟨_, _, L2.has_mk (st := My.s_gain_level) (ps := ["claims", "estate"]) KX G ?a ?l ?c ?k (fun _ _ _ _ _ _ us hl => L2.byLen2 us hl (fun _ _ => rfl))⟩
      (case a => k_is); (case l => k_is); (case c => k_is); (case k => k_is)
    have h_lesser_of : ∃ f fd, L2.Has (L2.KOf KX) mg "lesser_of" My.s_lesser_of ["one", "other"] f fd := by
      dsimp only [L2.KOf]
      refine' ⟨_, _, L2.has_mk (st := My.s_lesser_of) (ps := ["one", "other"]) KX G ?a ?l ?c ?k (fun _ _ _ _ _ _ us hl => L2.byLen2 us hl (fun _ _ => rfl))⟩
      (case a => k_is); (case l => k_is); (case c => k_is); (case k => k_is)
    have h_by_gains : ∃ f fd, L2.Has (L2.KOf KX) mg "by_gains" My.s_by_gains ["claims", "estate"] f fd := by
      dsimp only [L2.KOf]
      refine' ⟨_, _, L2.has_mk (st := My.s_by_gains) (ps := ["claims", "estate"]) KX G ?a ?l ?c ?k (fun _ _ _ _ _ _ us hl => L2.byLen2 us hl (fun _ _ => rfl))⟩
      (case a => k_is); (case l => k_is); (case c => k_is); (case k => k_is)
    have h_minus : ∃ f fd, L2.Has (L2.KOf KX) mg "minus" My.s_minus ["one", "other"] f fd := by
      dsimp only [L2.KOf]
      refine' ⟨_, _, L2.has_mk (st := My.s_minus) (ps := ["one", "other"]) KX G ?a ?l ?c ?k (fun _ _ _ _ _ _ us hl => L2.byLen2 us hl (fun _ _ => rfl))⟩
      (case a => k_is); (case l => k_is); (case c => k_is); (case k => k_is)
    have h_lack : ∃ f fd, L2.Has (L2.KOf KX) mg "lack" My.s_lack ["claims", "estate"] f fd := by
      dsimp only [L2.KOf]
      refine' ⟨_, _, L2.has_mk (st := My.s_lack) (ps := ["claims", "estate"]) KX G ?a ?l ?c ?k (fun _ _ _ _ _ _ us hl => L2.byLen2 us hl (fun _ _ => rfl))⟩
      (case a => k_is); (case l => k_is); (case c => k_is); (case k => k_is)
    have h_loss_level : ∃ f fd, L2.Has (L2.KOf KX) mg "loss_level" My.s_loss_level ["claims", "estate"] f fd := by
      dsimp only [L2.KOf]
      refine' ⟨_, _, L2.has_mk (st := My.s_loss_level) (ps := ["claims", "estate"]) KX G ?a ?l ?c ?k (fun _ _ _ _ _ _ us hl => L2.byLen2 us hl (fun _ _ => rfl))⟩
      (case a => k_is); (case l => k_is); (case c => k_is); (case k => k_is)
    have h_claims_less : ∃ f fd, L2.Has (L2.KOf KX) mg "claims_less" My.s_claims_less ["claims", "parts"] f fd := by
      dsimp only [L2.KOf]
      refine' ⟨_, _, L2.has_mk (st := My.s_claims_less) (ps := ["claims", "parts"]) KX G ?a ?l ?c ?k (fun _ _ _ _ _ _ us hl => L2.byLen2 us hl (fun _ _ => rfl))⟩
      (case a => k_is); (case l => k_is); (case c => k_is); (case k => k_is)
    have h_by_losses : ∃ f fd, L2.Has (L2.KOf KX) mg "by_losses" My.s_by_losses ["claims", "estate"] f fd := by
      dsimp only [L2.KOf]
      refine' ⟨_, _, L2.has_mk (st := My.s_by_losses) (ps := ["claims", "estate"]) KX G ?a ?l ?c ?k (fun _ _ _ _ _ _ us hl => L2.byLen2 us hl (fun _ _ => rfl))⟩
      (case a => k_is); (case l => k_is); (case c => k_is); (case k => k_is)
    have h_by_halves : ∃ f fd, L2.Has (L2.KOf KX) mg "by_halves" My.s_by_halves ["claims", "estate"] f fd := by
      dsimp only [L2.KOf]
      refine' ⟨_, _, L2.has_mk (st := My.s_by_halves) (ps := ["claims", "estate"]) KX G ?a ?l ?c ?k (fun _ _ _ _ _ _ us hl => L2.byLen2 us hl (fun _ _ => rfl))⟩
      (case a => k_is); (case l => k_is); (case c => k_is); (case k => k_is)
    have h_shared : ∃ f fd, L2.Has (L2.KOf KX) mg "shared" My.s_shared ["rule", "claims", "estate"] f fd := by
      dsimp only [L2.KOf]
      refine' ⟨_, _, L2.has_mk (st := My.s_shared) (ps := ["rule", "claims", "estate"]) KX G ?a ?l ?c ?k (fun _ _ _ _ _ _ us hl => L2.byLen3 us hl (fun _ _ _ => rfl))⟩
      (case a => k_is); (case l => k_is); (case c => k_is); (case k => k_is)
    have h_estates_at_claims : ∃ f fd, L2.Has (L2.KOf KX) mg "estates_at_claims" My.s_estates_at_claims ["claims"] f fd := by
      dsimp only [L2.KOf]
      refine' ⟨_, _, L2.has_mk (st := My.s_estates_at_claims) (ps := ["claims"]) KX G ?a ?l ?c ?k (fun _ _ _ _ _ _ us hl => L2.byLen1 us hl (fun _ => rfl))⟩
      (case a => k_is); (case l => k_is); (case c => k_is); (case k => k_is)
    have h_turned_round : ∃ f fd, L2.Has (L2.KOf KX) mg "turned_round" My.s_turned_round ["claimed", "estates"] f fd := by
      dsimp only [L2.KOf]
      refine' ⟨_, _, L2.has_mk (st := My.s_turned_round) (ps := ["claimed", "estates"]) KX G ?a ?l ?c ?k (fun _ _ _ _ _ _ us hl => L2.byLen2 us hl (fun _ _ => rfl))⟩
      (case a => k_is); (case l => k_is); (case c => k_is); (case k => k_is)
    have h_estates_of_knots : ∃ f fd, L2.Has (L2.KOf KX) mg "estates_of_knots" My.s_estates_of_knots ["rule", "claims"] f fd := by
      dsimp only [L2.KOf]
      refine' ⟨_, _, L2.has_mk (st := My.s_estates_of_knots) (ps := ["rule", "claims"]) KX G ?a ?l ?c ?k (fun _ _ _ _ _ _ us hl => L2.byLen2 us hl (fun _ _ => rfl))⟩
      (case a => k_is); (case l => k_is); (case c => k_is); (case k => k_is)
    have h_path : ∃ f fd, L2.Has (L2.KOf KX) mg "path" My.s_path ["rule", "claims"] f fd := by
      dsimp only [L2.KOf]
      refine' ⟨_, _, L2.has_mk (st := My.s_path) (ps := ["rule", "claims"]) KX G ?a ?l ?c ?k (fun _ _ _ _ _ _ us hl => L2.byLen2 us hl (fun _ _ => rfl))⟩
      (case a => k_is); (case l => k_is); (case c => k_is); (case k => k_is)
    have h_look_at_amount : ∃ f fd, L2.Has (L2.KOf KX) mg "look_at_amount" My.s_look_at_amount ["claims", "claimer", "amount"] f fd := by
      dsimp only [L2.KOf]
      refine' ⟨_, _, L2.has_mk (st := My.s_look_at_amount) (ps := ["claims", "claimer", "amount"]) KX G ?a ?l ?c ?k (fun _ _ _ _ _ _ us hl => L2.byLen3 us hl (fun _ _ _ => rfl))⟩
      (case a => k_is); (case l => k_is); (case c => k_is); (case k => k_is)
    have h_estate_between : ∃ f fd, L2.Has (L2.KOf KX) mg "estate_between" My.s_estate_between ["knot", "later", "claimer", "amount"] f fd := by
      dsimp only [L2.KOf]
      refine' ⟨_, _, L2.has_mk (st := My.s_estate_between) (ps := ["knot", "later", "claimer", "amount"]) KX G ?a ?l ?c ?k (fun _ _ _ _ _ _ us hl => L2.byLen4 us hl (fun _ _ _ _ => rfl))⟩
      (case a => k_is); (case l => k_is); (case c => k_is); (case k => k_is)
    have h_needed : ∃ f fd, L2.Has (L2.KOf KX) mg "needed" My.s_needed ["rule", "claims", "claimer", "amount"] f fd := by
      dsimp only [L2.KOf]
      refine' ⟨_, _, L2.has_mk (st := My.s_needed) (ps := ["rule", "claims", "claimer", "amount"]) KX G ?a ?l ?c ?k (fun _ _ _ _ _ _ us hl => L2.byLen4 us hl (fun _ _ _ _ => rfl))⟩
      (case a => k_is); (case l => k_is); (case c => k_is); (case k => k_is)
    have h_l_kinds : ∃ f fd, L2.Has (L2.KOf KX) mg "_law_kinds" My.s_l_kinds ["_law_asked", "_law_rule", "_law_claims_here", "_law_claimer", "_law_amount"] f fd := by
      dsimp only [L2.KOf]
      refine' ⟨_, _, L2.has_mk (st := My.s_l_kinds) (ps := ["_law_asked", "_law_rule", "_law_claims_here", "_law_claimer", "_law_amount"]) KX G ?a ?l ?c ?k (fun _ _ _ _ _ _ us hl => L2.byLen5 us hl (fun _ _ _ _ _ => rfl))⟩
      (case a => k_is); (case l => k_is); (case c => k_is); (case k => k_is)
    have h_l_first : ∃ f fd, L2.Has (L2.KOf KX) mg "_law_first" My.s_l_first ["_law_wrongs"] f fd := by
      dsimp only [L2.KOf]
      refine' ⟨_, _, L2.has_mk (st := My.s_l_first) (ps := ["_law_wrongs"]) KX G ?a ?l ?c ?k (fun _ _ _ _ _ _ us hl => L2.byLen1 us hl (fun _ => rfl))⟩
      (case a => k_is); (case l => k_is); (case c => k_is); (case k => k_is)
    have h_l_claims : ∃ f fd, L2.Has (L2.KOf KX) mg "_law_claims" My.s_l_claims ["_law_script", "_law_start"] f fd := by
      dsimp only [L2.KOf]
      refine' ⟨_, _, L2.has_mk (st := My.s_l_claims) (ps := ["_law_script", "_law_start"]) KX G ?a ?l ?c ?k (fun _ _ _ _ _ _ us hl => L2.byLen2 us hl (fun _ _ => rfl))⟩
      (case a => k_is); (case l => k_is); (case c => k_is); (case k => k_is)
    have h_law : ∃ f fd, L2.Has (L2.KOf KX) mg "law" My.s_law ["_law_script"] f fd := by
      dsimp only [L2.KOf]
      refine' ⟨_, _, L2.has_mk (st := My.s_law) (ps := ["_law_script"]) KX G ?a ?l ?c ?k (fun _ _ _ _ _ _ us hl => L2.byLen1 us hl (fun _ => rfl))⟩
      (case a => k_is); (case l => k_is); (case c => k_is); (case k => k_is)
    have T : L2.Kt (L2.KOf KX) := by
      dsimp only [L2.KOf]
      refine' ⟨?t0, ?t1, ?t2, ?t3, ?t4, ?t5, ?t6⟩
      (case t0 => kit_is)
      (case t1 => kit_is)
      (case t2 => kit_is)
      (case t3 => kit_is)
      (case t4 => kit_is)
      (case t5 => kit_is)
      (case t6 => kit_is)
    have En : ∃ Ad, My.Env (L2.KOf KX) mg Ad := by
      dsimp only [L2.KOf] at T ⊢
      refine' My.env_mk T KX G ?n_LeanError ?n_NoRatio ?n_NoText ?n_TooMany ?n_NoClaim ?n_NoEstate ?n_NoRule ?n_NoOrder ?n_NoSharing ?n_NoClaimer ?n_NoAmount ?n_NoGroup ?n_NoLine ?n_NoName ?n_Known ?x_LeanError ?x_NoRatio ?x_NoText ?x_TooMany ?x_NoClaim ?x_NoEstate ?x_NoRule ?x_NoOrder ?x_NoSharing ?x_NoClaimer ?x_NoAmount ?x_NoGroup ?x_NoLine ?x_NoName ?x_Known ?z_len ?z_abs ?z_range ?z_isinstance ?z_int ?z_bool ?z_list ?z_sum ?z_min ?z_max ?z_reversed ?z_sorted ?z_zip ?z_set ?z_ValueError ?c0_NOUGHT ?c1_NOUGHT ?c2_NOUGHT ?c3_NOUGHT ?c4_NOUGHT ?c5_NOUGHT ?c0_MOST_CLAIMS ?c1_MOST_CLAIMS ?c0_HALF ?c1_HALF ?c2_HALF ?c3_HALF ?c4_HALF ?c5_HALF ?c0_WORDS ?c1_WORDS ?c2_WORDS ?c3_WORDS ?c40_WORDS ?c41_WORDS ?c42_WORDS ?c43_WORDS ?c44_WORDS ?m1_NoRule ?m2_NoRule ?m3_NoRule ?kga_NoRule ?kgt_NoRule ?kcl_NoRule ?ksg_NoRule ?ktk_NoRule ?kmo_NoRule ?kmb_NoRule ?v_NoRule ?p_NoRule_Known ?p_NoRule_NoEstate ?p_NoRule_NoGroup ?p_NoRule_NoLine ?p_NoRule_NoName ?p_NoRule_NoRule ?p_NoRule_TooMany ?p_NoRule_NoClaim ?p_NoRule_NoClaimer ?p_NoRule_NoAmount ?p_NoRule_NoOrder ?p_NoRule_NoRatio ?p_NoRule_NoSharing ?p_NoRule_NoText ?m1_TooMany ?m2_TooMany ?m3_TooMany ?kga_TooMany ?kgt_TooMany ?kcl_TooMany ?ksg_TooMany ?ktk_TooMany ?kmo_TooMany ?kmb_TooMany ?v_TooMany ?p_TooMany_Known ?p_TooMany_NoEstate ?p_TooMany_NoGroup ?p_TooMany_NoLine ?p_TooMany_NoName ?p_TooMany_NoRule ?p_TooMany_TooMany ?p_TooMany_NoClaim ?p_TooMany_NoClaimer ?p_TooMany_NoAmount ?p_TooMany_NoOrder ?p_TooMany_NoRatio ?p_TooMany_NoSharing ?p_TooMany_NoText ?m1_NoClaim ?m2_NoClaim ?m3_NoClaim ?kga_NoClaim ?kgt_NoClaim ?kcl_NoClaim ?ksg_NoClaim ?ktk_NoClaim ?kmo_NoClaim ?kmb_NoClaim ?v_NoClaim ?p_NoClaim_Known ?p_NoClaim_NoEstate ?p_NoClaim_NoGroup ?p_NoClaim_NoLine ?p_NoClaim_NoName ?p_NoClaim_NoRule ?p_NoClaim_TooMany ?p_NoClaim_NoClaim ?p_NoClaim_NoClaimer ?p_NoClaim_NoAmount ?p_NoClaim_NoOrder ?p_NoClaim_NoRatio ?p_NoClaim_NoSharing ?p_NoClaim_NoText ?m1_NoClaimer ?m2_NoClaimer ?m3_NoClaimer ?kga_NoClaimer ?kgt_NoClaimer ?kcl_NoClaimer ?ksg_NoClaimer ?ktk_NoClaimer ?kmo_NoClaimer ?kmb_NoClaimer ?v_NoClaimer ?p_NoClaimer_Known ?p_NoClaimer_NoEstate ?p_NoClaimer_NoGroup ?p_NoClaimer_NoLine ?p_NoClaimer_NoName ?p_NoClaimer_NoRule ?p_NoClaimer_TooMany ?p_NoClaimer_NoClaim ?p_NoClaimer_NoClaimer ?p_NoClaimer_NoAmount ?p_NoClaimer_NoOrder ?p_NoClaimer_NoRatio ?p_NoClaimer_NoSharing ?p_NoClaimer_NoText ?m1_NoAmount ?m2_NoAmount ?m3_NoAmount ?kga_NoAmount ?kgt_NoAmount ?kcl_NoAmount ?ksg_NoAmount ?ktk_NoAmount ?kmo_NoAmount ?kmb_NoAmount ?v_NoAmount ?p_NoAmount_Known ?p_NoAmount_NoEstate ?p_NoAmount_NoGroup ?p_NoAmount_NoLine ?p_NoAmount_NoName ?p_NoAmount_NoRule ?p_NoAmount_TooMany ?p_NoAmount_NoClaim ?p_NoAmount_NoClaimer ?p_NoAmount_NoAmount ?p_NoAmount_NoOrder ?p_NoAmount_NoRatio ?p_NoAmount_NoSharing ?p_NoAmount_NoText
      (case n_LeanError => k_is)
      (case n_NoRatio => k_is)
      (case n_NoText => k_is)
      (case n_TooMany => k_is)
      (case n_NoClaim => k_is)
      (case n_NoEstate => k_is)
      (case n_NoRule => k_is)
      (case n_NoOrder => k_is)
      (case n_NoSharing => k_is)
      (case n_NoClaimer => k_is)
      (case n_NoAmount => k_is)
      (case n_NoGroup => k_is)
      (case n_NoLine => k_is)
      (case n_NoName => k_is)
      (case n_Known => k_is)
      (case x_LeanError => k_exc)
      (case x_NoRatio => k_exc)
      (case x_NoText => k_exc)
      (case x_TooMany => k_exc)
      (case x_NoClaim => k_exc)
      (case x_NoEstate => k_exc)
      (case x_NoRule => k_exc)
      (case x_NoOrder => k_exc)
      (case x_NoSharing => k_exc)
      (case x_NoClaimer => k_exc)
      (case x_NoAmount => k_exc)
      (case x_NoGroup => k_exc)
      (case x_NoLine => k_exc)
      (case x_NoName => k_exc)
      (case x_Known => k_exc)
      (case z_len => k_is)
      (case z_abs => k_is)
      (case z_range => k_is)
      (case z_isinstance => k_is)
      (case z_int => k_is)
      (case z_bool => k_is)
      (case z_list => k_is)
      (case z_sum => k_is)
      (case z_min => k_is)
      (case z_max => k_is)
      (case z_reversed => k_is)
      (case z_sorted => k_is)
      (case z_zip => k_is)
      (case z_set => k_is)
      (case z_ValueError => k_is)
      (case c0_NOUGHT => k_is)
      (case c1_NOUGHT => k_is)
      (case c2_NOUGHT => rfl)
      (case c3_NOUGHT => rfl)
      (case c4_NOUGHT => decide)
      (case c5_NOUGHT => decide)
      (case c0_MOST_CLAIMS => k_is)
      (case c1_MOST_CLAIMS => decide +kernel)
      (case c0_HALF => k_is)
      (case c1_HALF => k_is)
      (case c2_HALF => rfl)
      (case c3_HALF => rfl)
      (case c4_HALF => decide)
      (case c5_HALF => decide)
      (case c0_WORDS => k_is)
      (case c1_WORDS => k_is)
      (case c2_WORDS => rfl)
      (case c3_WORDS => rfl)
      (case c40_WORDS => decide +kernel)
      (case c41_WORDS => decide +kernel)
      (case c42_WORDS => decide +kernel)
      (case c43_WORDS => decide +kernel)
      (case c44_WORDS => decide +kernel)
      (case m1_NoRule => k_is)
      (case m2_NoRule => kit_is)
      (case m3_NoRule => decide)
      (case kga_NoRule => k_is)
      (case kgt_NoRule => k_is)
      (case kcl_NoRule => k_is)
      (case ksg_NoRule => k_is)
      (case ktk_NoRule => k_is)
      (case kmo_NoRule => k_is)
      (case kmb_NoRule => k_is)
      (case v_NoRule => kit_is)
      (case p_NoRule_Known => kit_is)
      (case p_NoRule_NoEstate => kit_is)
      (case p_NoRule_NoGroup => kit_is)
      (case p_NoRule_NoLine => kit_is)
      (case p_NoRule_NoName => kit_is)
      (case p_NoRule_NoRule => kit_is)
      (case p_NoRule_TooMany => kit_is)
      (case p_NoRule_NoClaim => kit_is)
      (case p_NoRule_NoClaimer => kit_is)
      (case p_NoRule_NoAmount => kit_is)
      (case p_NoRule_NoOrder => kit_is)
      (case p_NoRule_NoRatio => kit_is)
      (case p_NoRule_NoSharing => kit_is)
      (case p_NoRule_NoText => kit_is)
      (case m1_TooMany => k_is)
      (case m2_TooMany => kit_is)
      (case m3_TooMany => decide)
      (case kga_TooMany => k_is)
      (case kgt_TooMany => k_is)
      (case kcl_TooMany => k_is)
      (case ksg_TooMany => k_is)
      (case ktk_TooMany => k_is)
      (case kmo_TooMany => k_is)
      (case kmb_TooMany => k_is)
      (case v_TooMany => kit_is)
      (case p_TooMany_Known => kit_is)
      (case p_TooMany_NoEstate => kit_is)
      (case p_TooMany_NoGroup => kit_is)
      (case p_TooMany_NoLine => kit_is)
      (case p_TooMany_NoName => kit_is)
      (case p_TooMany_NoRule => kit_is)
      (case p_TooMany_TooMany => kit_is)
      (case p_TooMany_NoClaim => kit_is)
      (case p_TooMany_NoClaimer => kit_is)
      (case p_TooMany_NoAmount => kit_is)
      (case p_TooMany_NoOrder => kit_is)
      (case p_TooMany_NoRatio => kit_is)
      (case p_TooMany_NoSharing => kit_is)
      (case p_TooMany_NoText => kit_is)
      (case m1_NoClaim => k_is)
      (case m2_NoClaim => kit_is)
      (case m3_NoClaim => decide)
      (case kga_NoClaim => k_is)
      (case kgt_NoClaim => k_is)
      (case kcl_NoClaim => k_is)
      (case ksg_NoClaim => k_is)
      (case ktk_NoClaim => k_is)
      (case kmo_NoClaim => k_is)
      (case kmb_NoClaim => k_is)
      (case v_NoClaim => kit_is)
      (case p_NoClaim_Known => kit_is)
      (case p_NoClaim_NoEstate => kit_is)
      (case p_NoClaim_NoGroup => kit_is)
      (case p_NoClaim_NoLine => kit_is)
      (case p_NoClaim_NoName => kit_is)
      (case p_NoClaim_NoRule => kit_is)
      (case p_NoClaim_TooMany => kit_is)
      (case p_NoClaim_NoClaim => kit_is)
      (case p_NoClaim_NoClaimer => kit_is)
      (case p_NoClaim_NoAmount => kit_is)
      (case p_NoClaim_NoOrder => kit_is)
      (case p_NoClaim_NoRatio => kit_is)
      (case p_NoClaim_NoSharing => kit_is)
      (case p_NoClaim_NoText => kit_is)
      (case m1_NoClaimer => k_is)
      (case m2_NoClaimer => kit_is)
      (case m3_NoClaimer => decide)
      (case kga_NoClaimer => k_is)
      (case kgt_NoClaimer => k_is)
      (case kcl_NoClaimer => k_is)
      (case ksg_NoClaimer => k_is)
      (case ktk_NoClaimer => k_is)
      (case kmo_NoClaimer => k_is)
      (case kmb_NoClaimer => k_is)
      (case v_NoClaimer => kit_is)
      (case p_NoClaimer_Known => kit_is)
      (case p_NoClaimer_NoEstate => kit_is)
      (case p_NoClaimer_NoGroup => kit_is)
      (case p_NoClaimer_NoLine => kit_is)
      (case p_NoClaimer_NoName => kit_is)
      (case p_NoClaimer_NoRule => kit_is)
      (case p_NoClaimer_TooMany => kit_is)
      (case p_NoClaimer_NoClaim => kit_is)
      (case p_NoClaimer_NoClaimer => kit_is)
      (case p_NoClaimer_NoAmount => kit_is)
      (case p_NoClaimer_NoOrder => kit_is)
      (case p_NoClaimer_NoRatio => kit_is)
      (case p_NoClaimer_NoSharing => kit_is)
      (case p_NoClaimer_NoText => kit_is)
      (case m1_NoAmount => k_is)
      (case m2_NoAmount => kit_is)
      (case m3_NoAmount => decide)
      (case kga_NoAmount => k_is)
      (case kgt_NoAmount => k_is)
      (case kcl_NoAmount => k_is)
      (case ksg_NoAmount => k_is)
      (case ktk_NoAmount => k_is)
      (case kmo_NoAmount => k_is)
      (case kmb_NoAmount => k_is)
      (case v_NoAmount => kit_is)
      (case p_NoAmount_Known => kit_is)
      (case p_NoAmount_NoEstate => kit_is)
      (case p_NoAmount_NoGroup => kit_is)
      (case p_NoAmount_NoLine => kit_is)
      (case p_NoAmount_NoName => kit_is)
      (case p_NoAmount_NoRule => kit_is)
      (case p_NoAmount_TooMany => kit_is)
      (case p_NoAmount_NoClaim => kit_is)
      (case p_NoAmount_NoClaimer => kit_is)
      (case p_NoAmount_NoAmount => kit_is)
      (case p_NoAmount_NoOrder => kit_is)
      (case p_NoAmount_NoRatio => kit_is)
      (case p_NoAmount_NoSharing => kit_is)
      (case p_NoAmount_NoText => kit_is)
    obtain ⟨Ad, En⟩ := En
    obtain ⟨f_l_cell_at, d_l_cell_at, h_l_cell_at⟩ := h_l_cell_at
    obtain ⟨f_l_right, d_l_right, h_l_right⟩ := h_l_right
    obtain ⟨f_l_ratio, d_l_ratio, h_l_ratio⟩ := h_l_ratio
    obtain ⟨f_look_at_rule, d_look_at_rule, h_look_at_rule⟩ := h_look_at_rule
    obtain ⟨f_look_at_rule_of_path, d_look_at_rule_of_path, h_look_at_rule_of_path⟩ := h_look_at_rule_of_path
    obtain ⟨f_less, d_less, h_less⟩ := h_less
    obtain ⟨f_look_at_claims, d_look_at_claims, h_look_at_claims⟩ := h_look_at_claims
    obtain ⟨f_by_turns, d_by_turns, h_by_turns⟩ := h_by_turns
    obtain ⟨f_common_divisor, d_common_divisor, h_common_divisor⟩ := h_common_divisor
    obtain ⟨f_is_whole, d_is_whole, h_is_whole⟩ := h_is_whole
    obtain ⟨f_ratio, d_ratio, h_ratio⟩ := h_ratio
    obtain ⟨f_plus, d_plus, h_plus⟩ := h_plus
    obtain ⟨f_total, d_total, h_total⟩ := h_total
    obtain ⟨f_look_at, d_look_at, h_look_at⟩ := h_look_at
    obtain ⟨f_over, d_over, h_over⟩ := h_over
    obtain ⟨f_times, d_times, h_times⟩ := h_times
    obtain ⟨f_in_shares, d_in_shares, h_in_shares⟩ := h_in_shares
    obtain ⟨f_common_bottom, d_common_bottom, h_common_bottom⟩ := h_common_bottom
    obtain ⟨f_tops_over, d_tops_over, h_tops_over⟩ := h_tops_over
    obtain ⟨f_gain_level, d_gain_level, h_gain_level⟩ := h_gain_level
    obtain ⟨f_lesser_of, d_lesser_of, h_lesser_of⟩ := h_lesser_of
    obtain ⟨f_by_gains, d_by_gains, h_by_gains⟩ := h_by_gains
    obtain ⟨f_minus, d_minus, h_minus⟩ := h_minus
    obtain ⟨f_lack, d_lack, h_lack⟩ := h_lack
    obtain ⟨f_loss_level, d_loss_level, h_loss_level⟩ := h_loss_level
    obtain ⟨f_claims_less, d_claims_less, h_claims_less⟩ := h_claims_less
    obtain ⟨f_by_losses, d_by_losses, h_by_losses⟩ := h_by_losses
    obtain ⟨f_by_halves, d_by_halves, h_by_halves⟩ := h_by_halves
    obtain ⟨f_shared, d_shared, h_shared⟩ := h_shared
    obtain ⟨f_estates_at_claims, d_estates_at_claims, h_estates_at_claims⟩ := h_estates_at_claims
    obtain ⟨f_turned_round, d_turned_round, h_turned_round⟩ := h_turned_round
    obtain ⟨f_estates_of_knots, d_estates_of_knots, h_estates_of_knots⟩ := h_estates_of_knots
    obtain ⟨f_path, d_path, h_path⟩ := h_path
    obtain ⟨f_look_at_amount, d_look_at_amount, h_look_at_amount⟩ := h_look_at_amount
    obtain ⟨f_estate_between, d_estate_between, h_estate_between⟩ := h_estate_between
    obtain ⟨f_needed, d_needed, h_needed⟩ := h_needed
    obtain ⟨f_l_kinds, d_l_kinds, h_l_kinds⟩ := h_l_kinds
    obtain ⟨f_l_first, d_l_first, h_l_first⟩ := h_l_first
    obtain ⟨f_l_claims, d_l_claims, h_l_claims⟩ := h_l_claims
    obtain ⟨f_law, d_law, h_law⟩ := h_law
    have e0 := hmg.symm.trans h_law.at_
    cases e0
    refine ⟨d_law, fun s u => ?_, fun base _ _ => ?_⟩
    · exact .of_eq (h_law.bd [u] rfl)
    · have g_l_cell_at := My.cal_l_cell_at (P := PySem.Challenge.rw_leanestate_k37_no_path.prog) (w := w) (base := base) h_l_cell_at En
      have g_l_right := My.cal_l_right (P := PySem.Challenge.rw_leanestate_k37_no_path.prog) (w := w) (base := base) h_l_right En
      have g_l_ratio := My.cal_l_ratio (P := PySem.Challenge.rw_leanestate_k37_no_path.prog) (w := w) (base := base) h_l_ratio En
      have g_look_at_rule := My.cal_look_at_rule (P := PySem.Challenge.rw_leanestate_k37_no_path.prog) (w := w) (base := base) h_look_at_rule En
      have g_look_at_rule_of_path := My.cal_look_at_rule_of_path (P := PySem.Challenge.rw_leanestate_k37_no_path.prog) (w := w) (base := base) h_look_at_rule_of_path En g_look_at_rule
      have g_less := My.cal_less (P := PySem.Challenge.rw_leanestate_k37_no_path.prog) (w := w) (base := base) h_less En
      have g_look_at_claims := My.cal_look_at_claims (P := PySem.Challenge.rw_leanestate_k37_no_path.prog) (w := w) (base := base) h_look_at_claims En g_less
      have g_by_turns := My.cal_by_turns (P := PySem.Challenge.rw_leanestate_k37_no_path.prog) (w := w) (base := base) h_by_turns En
      have g_common_divisor := My.cal_common_divisor (P := PySem.Challenge.rw_leanestate_k37_no_path.prog) (w := w) (base := base) h_common_divisor En
      have g_is_whole := My.cal_is_whole (P := PySem.Challenge.rw_leanestate_k37_no_path.prog) (w := w) (base := base) h_is_whole En
      have g_ratio := My.cal_ratio (P := PySem.Challenge.rw_leanestate_k37_no_path.prog) (w := w) (base := base) h_ratio En g_common_divisor g_is_whole
      have g_plus := My.cal_plus (P := PySem.Challenge.rw_leanestate_k37_no_path.prog) (w := w) (base := base) h_plus En g_ratio
      have g_total := My.cal_total (P := PySem.Challenge.rw_leanestate_k37_no_path.prog) (w := w) (base := base) h_total En g_plus
      have g_look_at := My.cal_look_at (P := PySem.Challenge.rw_leanestate_k37_no_path.prog) (w := w) (base := base) h_look_at En g_look_at_claims g_less g_total
      have g_over := My.cal_over (P := PySem.Challenge.rw_leanestate_k37_no_path.prog) (w := w) (base := base) h_over En g_ratio
      have g_times := My.cal_times (P := PySem.Challenge.rw_leanestate_k37_no_path.prog) (w := w) (base := base) h_times En g_ratio
      have g_in_shares := My.cal_in_shares (P := PySem.Challenge.rw_leanestate_k37_no_path.prog) (w := w) (base := base) h_in_shares En g_look_at g_total g_over g_times
      have g_common_bottom := My.cal_common_bottom (P := PySem.Challenge.rw_leanestate_k37_no_path.prog) (w := w) (base := base) h_common_bottom En g_common_divisor
      have g_tops_over := My.cal_tops_over (P := PySem.Challenge.rw_leanestate_k37_no_path.prog) (w := w) (base := base) h_tops_over En
      have g_gain_level := My.cal_gain_level (P := PySem.Challenge.rw_leanestate_k37_no_path.prog) (w := w) (base := base) h_gain_level En g_look_at g_common_bottom g_tops_over g_ratio
      have g_lesser_of := My.cal_lesser_of (P := PySem.Challenge.rw_leanestate_k37_no_path.prog) (w := w) (base := base) h_lesser_of En g_less
      have g_by_gains := My.cal_by_gains (P := PySem.Challenge.rw_leanestate_k37_no_path.prog) (w := w) (base := base) h_by_gains En g_gain_level g_lesser_of
      have g_minus := My.cal_minus (P := PySem.Challenge.rw_leanestate_k37_no_path.prog) (w := w) (base := base) h_minus En g_ratio
      have g_lack := My.cal_lack (P := PySem.Challenge.rw_leanestate_k37_no_path.prog) (w := w) (base := base) h_lack En g_look_at g_minus g_total
      have g_loss_level := My.cal_loss_level (P := PySem.Challenge.rw_leanestate_k37_no_path.prog) (w := w) (base := base) h_loss_level En g_gain_level g_lack
      have g_claims_less := My.cal_claims_less (P := PySem.Challenge.rw_leanestate_k37_no_path.prog) (w := w) (base := base) h_claims_less En g_minus
      have g_by_losses := My.cal_by_losses (P := PySem.Challenge.rw_leanestate_k37_no_path.prog) (w := w) (base := base) h_by_losses En g_loss_level g_claims_less g_lesser_of
      have g_by_halves := My.cal_by_halves (P := PySem.Challenge.rw_leanestate_k37_no_path.prog) (w := w) (base := base) h_by_halves En g_lack g_claims_less g_times g_less g_by_gains
      have g_shared := My.cal_shared (P := PySem.Challenge.rw_leanestate_k37_no_path.prog) (w := w) (base := base) h_shared En g_look_at_rule g_by_turns g_in_shares g_by_gains g_by_losses g_by_halves
      have g_estates_at_claims := My.cal_estates_at_claims (P := PySem.Challenge.rw_leanestate_k37_no_path.prog) (w := w) (base := base) h_estates_at_claims En g_common_bottom g_tops_over g_ratio
      have g_turned_round := My.cal_turned_round (P := PySem.Challenge.rw_leanestate_k37_no_path.prog) (w := w) (base := base) h_turned_round En g_minus
      have g_estates_of_knots := My.cal_estates_of_knots (P := PySem.Challenge.rw_leanestate_k37_no_path.prog) (w := w) (base := base) h_estates_of_knots En g_total g_estates_at_claims g_turned_round g_times
      have g_path := My.cal_path (P := PySem.Challenge.rw_leanestate_k37_no_path.prog) (w := w) (base := base) h_path En g_look_at_rule_of_path g_look_at_claims g_shared g_estates_of_knots
      have g_look_at_amount := My.cal_look_at_amount (P := PySem.Challenge.rw_leanestate_k37_no_path.prog) (w := w) (base := base) h_look_at_amount En g_less
      have g_estate_between := My.cal_estate_between (P := PySem.Challenge.rw_leanestate_k37_no_path.prog) (w := w) (base := base) h_estate_between En g_over g_plus g_minus g_times
      have g_needed := My.cal_needed (P := PySem.Challenge.rw_leanestate_k37_no_path.prog) (w := w) (base := base) h_needed En g_path g_look_at_amount g_less g_estate_between
      have g_l_kinds := My.cal_l_kinds (P := PySem.Challenge.rw_leanestate_k37_no_path.prog) (w := w) (base := base) h_l_kinds En g_path g_needed
      have g_l_first := My.cal_l_first (P := PySem.Challenge.rw_leanestate_k37_no_path.prog) (w := w) (base := base) h_l_first En
      have g_l_claims := My.cal_l_claims (P := PySem.Challenge.rw_leanestate_k37_no_path.prog) (w := w) (base := base) h_l_claims En g_l_cell_at
      have g_law := My.cal_law (P := PySem.Challenge.rw_leanestate_k37_no_path.prog) (w := w) (base := base) h_law En g_l_cell_at g_l_right g_l_ratio g_l_kinds g_l_first g_l_claims
      exact g_law
