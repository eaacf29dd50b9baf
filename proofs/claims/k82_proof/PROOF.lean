import PyProof.Rows.All
import Wide.All
import OpenK.AllK
import Wide.FinOn
import Lean
import PyProof.EqAt
import PyProof.EqKinds
import PyProof.TupleCall
import PySem.Challenge.RW_postroad_k82_no_plan_text

set_option Elab.async false
set_option linter.all false
set_option maxRecDepth 100000
namespace L2
open PySem PySem.Spec PyProof.Rows

noncomputable abbrev Key := Sum Int Str
noncomputable def keyIs : Key → Value → Bool
  | .inl k, v => Value.isInt k v
  | .inr x, v => Value.isStrOf x v
noncomputable def keyH (w : World) : Key → Int
  | .inl k => hashInt k
  | .inr x => hashStr w x
theorem keyIs_shape : ∀ {k : Key} {v : Value}, keyIs k v = true → (∃ i t, k = Sum.inl i ∧ v = Value.int i t) ∨ (∃ x t, k = Sum.inr x ∧ v = Value.str x t)
  | .inl i, v, h => by
    obtain ⟨t, e⟩ := Value.isInt_shape (k := i) (v := v) h
    exact .inl ⟨i, t, rfl, e⟩
  | .inr x, v, h => by
    obtain ⟨t, e⟩ := Value.isStrOf_shape (x := x) (v := v) h
    exact .inr ⟨x, t, rfl, e⟩
theorem key_ll (a b : Int) : decide ((Sum.inl a : Key) = Sum.inl b) = (a == b) := by
  by_cases e : a = b
  · subst e; simp
  · have h : ¬ (Sum.inl a : Key) = Sum.inl b := fun q => e (Sum.inl.inj q)
    rw [decide_eq_false h]
    exact (beq_eq_false_iff_ne.mpr e).symm
theorem key_rr (a b : Str) : decide ((Sum.inr a : Key) = Sum.inr b) = decide (a = b) := by
  by_cases e : a = b
  · subst e; simp
  · have h : ¬ (Sum.inr a : Key) = Sum.inr b := fun q => e (Sum.inr.inj q)
    rw [decide_eq_false h, decide_eq_false e]
theorem key_lr (a : Int) (b : Str) : decide ((Sum.inl a : Key) = Sum.inr b) = false := decide_eq_false (fun q => nomatch q)
theorem key_rl (a : Str) (b : Int) : decide ((Sum.inr a : Key) = Sum.inl b) = false := decide_eq_false (fun q => nomatch q)

noncomputable def mixKind (prog : Program) (w : World) : PySem.KeyKind prog w Key where
  is := keyIs
  hash := keyH w
  inj := fun v a b ha hb => by
    rcases keyIs_shape ha with ⟨i, t, rfl, rfl⟩ | ⟨x, t, rfl, rfl⟩
    · rcases keyIs_shape hb with ⟨j, u, rfl, e⟩ | ⟨y, u, rfl, e⟩
      · injection e with e1 _; rw [e1]
      · exact nomatch e
    · rcases keyIs_shape hb with ⟨j, u, rfl, e⟩ | ⟨y, u, rfl, e⟩
      · exact nomatch e
      · injection e with e1 _; rw [e1]
  byValue := fun k v h => by
    rcases keyIs_shape h with ⟨i, t, rfl, rfl⟩ | ⟨x, t, rfl, rfl⟩ <;> rfl
  pyHash := fun hv h => by
    rcases keyIs_shape hv with ⟨i, t, rfl, rfl⟩ | ⟨x, t, rfl, rfl⟩
    · exact wpAny_pyHash_int h
    · exact wpAny_pyHash_str h
  eqBool := fun hu hv h => by
    rcases keyIs_shape hu with ⟨i, t, rfl, rfl⟩ | ⟨x, t, rfl, rfl⟩
    · rcases keyIs_shape hv with ⟨j, u, rfl, rfl⟩ | ⟨y, u, rfl, rfl⟩
      · rw [key_ll] at h; exact wpAny_eqBool_int h
      · rw [key_lr] at h; exact SeqAt.EqAt.int_str i t y u _ _ _ _ h
    · rcases keyIs_shape hv with ⟨j, u, rfl, rfl⟩ | ⟨y, u, rfl, rfl⟩
      · rw [key_rl] at h; exact SeqAt.EqAt.str_int x t j u _ _ _ _ h
      · rw [key_rr] at h; exact wpAny_eqBool_str h
  «strs» := fun k x t v h => by
    rcases keyIs_shape h with ⟨i, u, rfl, e⟩ | ⟨y, u, rfl, e⟩
    · exact nomatch e
    · injection e with e1 _
      subst e1
      cases v <;> rfl

end L2

namespace L2
open PySem PySem.Spec PyProof.Rows

inductive V where
  | non | bl (b : Bool) | int (i : Int) | str (x : Str) | byt (b : Array UInt8) | flt (b : UInt64) | ref (a : Addr) | ty (n : String)
  deriving DecidableEq

noncomputable def RelV : V → Value → Prop
  | .non, u => u = Value.none
  | .bl b, u => u = Value.bool b
  | .int i, u => ∃ t, u = Value.int i t
  | .str x, u => ∃ t, u = Value.str x t
  | .byt b, u => ∃ t, u = Value.bytes b t
  | .flt b, u => ∃ t, u = Value.float b t
  | .ref a, u => u = Value.ref a
  | .ty n, u => u = Value.type n

noncomputable abbrev Vals : List V → List Value → Prop := Paired RelV
theorem Vals.length {xs : List V} {us : List Value} (r : Vals xs us) : xs.length = us.length := Paired.length r
theorem Vals.get : ∀ {xs : List V} {us : List Value} {i : Nat} {x : V}, Vals xs us → xs[i]? = some x → ∃ u, us[i]? = some u ∧ RelV x u
  | _, _, _, _, .nil, e => by simp at e
  | _, _, 0, _, .cons r _, e => by simp at e; subst e; exact ⟨_, rfl, r⟩
  | _, _, i + 1, x, .cons _ t, e => by
    obtain ⟨u, h1, h2⟩ := Vals.get (i := i) (x := x) t (by simpa using e)
    exact ⟨u, by simpa using h1, h2⟩
theorem Vals.append : ∀ {xs ys : List V} {us ws : List Value}, Vals xs us → Vals ys ws → Vals (xs ++ ys) (us ++ ws)
  | _, _, _, _, .nil, s => s
  | _, _, _, _, .cons r t, s => .cons r (Vals.append t s)
theorem Vals.take : ∀ {xs : List V} {us : List Value} (n : Nat), Vals xs us → Vals (xs.take n) (us.take n)
  | _, _, 0, _ => .nil
  | _, _, _ + 1, .nil => .nil
  | _, _, n + 1, .cons r t => .cons r (Vals.take n t)
theorem Vals.drop : ∀ {xs : List V} {us : List Value} (n : Nat), Vals xs us → Vals (xs.drop n) (us.drop n)
  | _, _, 0, r => r
  | _, _, _ + 1, .nil => .nil
  | _, _, n + 1, .cons _ t => Vals.drop n t
noncomputable def RelO : Option V → Option Value → Prop
  | some v, some u => RelV v u
  | none, none => True
  | _, _ => False
noncomputable def KV {κ : Type} : List (κ × V) → List (κ × Value) → Prop := Paired fun (p : κ × V) (q : κ × Value) => p.1 = q.1 ∧ RelV p.2 q.2

noncomputable def kV : Key → V
  | .inl i => .int i
  | .inr x => .str x

inductive HO where
  /-- a list -/
  | lst (xs : List V)
  /-- a tuple (never changes) -/
  | tup (xs : List V)
  /-- a dict whose keys are ints and texts; one whose keys are tuples of ints and texts (the empty one is both) -/
  | dK (kvs : List (Key × V)) | dT (kvs : List (List Key × V))
  /-- a set of ints: its members, its size -/
  | set (S : Int → Bool) (n : Nat)
  /-- an instance of the class at C, its dict at dx, its attributes -/
  | ins (C dx : Addr) (fs : List (Str × V))
  /-- the dict of the instance at x -/
  | own (x : Addr)
  /-- the dict of an exception -/
  | xd (fs : List (Str × V))
  /-- a bound method, f of x -/
  | met (f x : Addr)
  /-- a range object lo, lo + 1, .. below hi -/
  | rng (lo hi : Int)
  /-- a thing that is known to the object (the script; a dict while a loop walks it): read, never written while it is so -/
  | frz (o : Obj) (u : HO)
  /-- a code object's table -/
  | tbl (ps : Array Value)
  /-- any other thing, by what is true of its one object (a def of one's own: SetO a S n := HO.ext fun h => ..) -/
  | ext (φ : Heap → Prop)

noncomputable abbrev Hp := Addr → Option HO
noncomputable def upd (H : Hp) (a : Addr) (o : HO) : Hp := fun b => if b = a then some o else H b
theorem upd_same {H : Hp} {a : Addr} {o : HO} : upd H a o a = some o := by unfold upd; rw [if_pos rfl]
theorem upd_ne {H : Hp} {a b : Addr} {o : HO} (h : b ≠ a) : upd H a o b = H b := by unfold upd; rw [if_neg h]
theorem ne_of {H : Hp} {a b : Addr} {o u : HO} (h : H a = some o) (h' : H b = some u) (d : o ≠ u) : a ≠ b := by
  intro e; subst e; rw [h] at h'; exact d (Option.some.inj h')
theorem ne_of_none {H : Hp} {a b : Addr} {o : HO} (h : H a = some o) (h' : H b = none) : a ≠ b := by
  intro e; subst e; rw [h] at h'; cases h'

section
variable (P : Program) (w : World)
noncomputable def ObjOk (H : Hp) (h : Heap) (a : Addr) : HO → Prop
  | .lst xs => xs.length ≤ sizeLine ∧ ∃ (its : List Value) (n : Nat), Vals xs its ∧ h.get? a = some { cls := .type "list", data := .seq its.toArray n }
  | .tup xs => xs.length ≤ sizeLine ∧ ∃ its : List Value, Vals xs its ∧ IsTup h a its.toArray
  | .dK kvs => kvs.length ≤ sizeLine ∧ (a == sysModules) = false ∧ ∃ vs, KV kvs vs ∧ h.DictOf (mixKind P w) a vs
  | .dT kvs => kvs.length ≤ sizeLine ∧ (a == sysModules) = false ∧ ∃ xs : List (List Key × Addr × Value),
      Paired (fun (p : List Key × V) (q : List Key × Addr × Value) => p.1 = q.1 ∧ H q.2.1 = some (.tup (p.1.map kV)) ∧ RelV p.2 q.2.2) kvs xs ∧
      ∃ o es ep, h.get? a = some o ∧ o.ExactDict ∧ o.data = .dict es ep ∧ es.toList = xs.map (entryOfKey (tupleKind (mixKind P w))) ∧ (xs.map (·.1)).Nodup
  | .set S n => h.SetOf (intKind P w) a S n
  | .ins C dx fs => H dx = some (.own a) ∧ fs.length ≤ 1000 ∧ dx ≠ a ∧ h.get? a = some (PySem.W.instObj C dx) ∧
      ∃ mA, h.Ns1 dx mA ∧ (∀ f, RelO (fs.lookup f) (mA f)) ∧ PySem.Within mA (fs.map (·.1))
  | .own _ => ∃ o, h.get? a = some o
  | .xd fs => ∃ mA, h.Ns1 a mA ∧ ∀ f, RelO (fs.lookup f) (mA f)
  | .rng lo hi => ∃ t u v, h.get? a = some { cls := .type "range", data := .fields #[.int lo t, .int hi u, .int 1 v] }
  | .frz o u => h.get? a = some o ∧ ObjOk H h a u
  | .tbl ps => h.get? a = some { cls := .none, data := .fields ps }
  | .met f x => h.get? a = some (PySem.W.methodObj (.ref f) (.ref x))
  | .ext φ => φ h ∧ (∃ o, h.get? a = some o) ∧ ∀ h1 h2 : Heap, φ h1 → (∀ o, h1.get? a = some o → h2.get? a = some o) → φ h2
noncomputable def HOk (H : Hp) (h : Heap) : Prop := ∀ a o, H a = some o → ObjOk P w H h a o
end

section
variable {P : Program} {w : World} {H H' : Hp} {h h' : Heap} {a : Addr} {o : HO}
theorem ObjOk.lt (x : ObjOk P w H h a o) : a < h.objs.size := by
  cases o with
  | lst xs => obtain ⟨_, _, _, _, e⟩ := x; exact Heap.lt_size e
  | tup xs => obtain ⟨_, _, _, p⟩ := x; exact p.lt
  | dK kvs => obtain ⟨_, _, _, _, o, _, _, e, _⟩ := x; exact Heap.lt_size e
  | dT kvs => obtain ⟨_, _, _, _, o, _, _, e, _⟩ := x; exact Heap.lt_size e
  | set S n => obtain ⟨o, _, _, _, e, _⟩ := x; exact Heap.lt_size e
  | ins C dx fs => obtain ⟨_, _, _, e, _⟩ := x; exact Heap.lt_size e
  | own y => obtain ⟨_, e⟩ := x; exact Heap.lt_size e
  | xd fs => obtain ⟨_, ⟨_, _, _, e, _⟩, _⟩ := x; exact Heap.lt_size e
  | rng lo hi => obtain ⟨_, _, _, e⟩ := x; exact Heap.lt_size e
  | frz ob u => obtain ⟨e, _⟩ := x; exact Heap.lt_size e
  | tbl ps => exact Heap.lt_size (show h.get? a = some _ from x)
  | met f y => exact Heap.lt_size (show h.get? a = some _ from x)
  | ext φ => obtain ⟨_, ⟨_, e⟩, _⟩ := x; exact Heap.lt_size e
theorem Paired.mapP {α β : Type} {F G : α → β → Prop} : ∀ {l₁ : List α} {l₂ : List β}, Paired F l₁ l₂ → (∀ a b, F a b → G a b) → Paired G l₁ l₂
  | _, _, .nil, _ => .nil
  | _, _, .cons r t, f => .cons (f _ _ r) (Paired.mapP t f)
theorem ObjOk.stay (x : ObjOk P w H h a o) (k : ∀ b u, (b = a ∨ H b = some (.own a)) → h.get? b = some u → h'.get? b = some u)
    (ho : ∀ b, H b = some (.own a) → H' b = some (.own a)) (ht : ∀ b xs, H b = some (.tup xs) → H' b = some (.tup xs)) : ObjOk P w H' h' a o := by
  induction o with
  | lst xs => obtain ⟨z, its, n, r, e⟩ := x; exact ⟨z, its, n, r, k _ _ (.inl rfl) e⟩
  | tup xs => obtain ⟨z, its, r, ob, e, c⟩ := x; exact ⟨z, its, r, ob, k _ _ (.inl rfl) e, c⟩
  | dK kvs => obtain ⟨z, y, vs, r, ob, es, ep, e, c⟩ := x; exact ⟨z, y, vs, r, ob, es, ep, k _ _ (.inl rfl) e, c⟩
  | dT kvs =>
    obtain ⟨z, y, xs, r, ob, es, ep, e, c⟩ := x
    exact ⟨z, y, xs, Paired.mapP r fun p q z => ⟨z.1, ht _ _ z.2.1, z.2.2⟩, ob, es, ep, k _ _ (.inl rfl) e, c⟩
  | set S n => obtain ⟨ob, es, ep, t, e, c⟩ := x; exact ⟨ob, es, ep, t, k _ _ (.inl rfl) e, c⟩
  | ins C dx fs =>
    obtain ⟨d, z, ne, e, mA, ⟨od, es, ep, e2, c⟩, r⟩ := x
    exact ⟨ho _ d, z, ne, k _ _ (.inl rfl) e, mA, ⟨od, es, ep, k _ _ (.inr d) e2, c⟩, r⟩
  | own y => obtain ⟨ob, e⟩ := x; exact ⟨ob, k _ _ (.inl rfl) e⟩
  | xd fs => obtain ⟨mA, ⟨od, es, ep, e, c⟩, r⟩ := x; exact ⟨mA, ⟨od, es, ep, k _ _ (.inl rfl) e, c⟩, r⟩
  | rng lo hi => obtain ⟨t, u, v, e⟩ := x; exact ⟨t, u, v, k _ _ (.inl rfl) e⟩
  | frz ob u ih => obtain ⟨e, q⟩ := x; exact ⟨k _ _ (.inl rfl) e, ih q⟩
  | tbl ps =>
    have e : h.get? a = some { cls := .none, data := .fields ps } := x
    show h'.get? a = some { cls := .none, data := .fields ps }
    exact k a _ (.inl rfl) e
  | met f y =>
    have e : h.get? a = some (PySem.W.methodObj (.ref f) (.ref y)) := x
    show h'.get? a = some (PySem.W.methodObj (.ref f) (.ref y))
    exact k a _ (.inl rfl) e
  | ext φ => obtain ⟨p, ⟨o, e⟩, st⟩ := x; exact ⟨st _ _ p fun o q => k _ _ (.inl rfl) q, ⟨o, k _ _ (.inl rfl) e⟩, st⟩
theorem HOk.lt (x : HOk P w H h) (e : H a = some o) : a < h.objs.size := (x a o e).lt
theorem HOk.fresh (x : HOk P w H h) (e : h.objs.size ≤ a) : H a = none := by
  cases q : H a with
  | none => rfl
  | some u => exact absurd (Nat.lt_of_lt_of_le (x.lt q) e) (Nat.lt_irrefl _)
theorem HOk.kept (x : HOk P w H h) (k : ∀ b u, h.get? b = some u → h'.get? b = some u) : HOk P w H h' := fun a o e =>
  (x a o e).stay (fun b u _ q => k b u q) (fun _ q => q) fun _ _ q => q
theorem HOk.laid (x : HOk P w H h) (k : ∀ b u, h.get? b = some u → h'.get? b = some u) (hp : h.objs.size ≤ a) (new : ObjOk P w (upd H a o) h' a o) : HOk P w (upd H a o) h' := fun b u e => by
  have hn := x.fresh hp
  by_cases hb : b = a
  · subst hb; rw [upd_same] at e; cases e; exact new
  · rw [upd_ne hb] at e
    exact (x b u e).stay (fun c v _ q => k c v q) (fun c q => by rw [upd_ne (ne_of_none q hn)]; exact q) fun c xs q => by rw [upd_ne (ne_of_none q hn)]; exact q
end

noncomputable def Rd (H : Hp) (a : Addr) (u : HO) : Prop := H a = some u ∨ ∃ o, H a = some (.frz o u)
theorem Rd.ok {P : Program} {w : World} {H : Hp} {h : Heap} {a : Addr} {u : HO} (r : Rd H a u) (x : HOk P w H h) : ObjOk P w H h a u := by
  rcases r with r | ⟨o, r⟩
  · exact x a u r
  · obtain ⟨_, q⟩ := x a _ r
    exact q
noncomputable def Mut : Option HO → Prop
  | some (.lst _) => True
  | some (.dK _) => True
  | some (.dT _) => True
  | some (.set _ _) => True
  | some (.ins _ _ _) => True
  | some (.ext _) => True
  | _ => False
section
variable {P : Program} {w : World} {H : Hp} {h h' : Heap} {x e : Addr} {o' : HO}
theorem HOk.write (ok : HOk P w H h) (mu : Mut (H x)) (he : e = x ∨ H e = some (.own x)) (k : ∀ b u, b ≠ e → h.get? b = some u → h'.get? b = some u) (heo : ∃ u, h'.get? e = some u)
    (new : ObjOk P w (upd H x o') h' x o') : HOk P w (upd H x o') h' := fun b u q => by
  have nown : ∀ c y, H c = some (.own y) → c ≠ x := fun c y r z => by subst z; rw [r] at mu; exact mu
  have ntup : ∀ c xs, H c = some (.tup xs) → c ≠ x := fun c xs r z => by subst z; rw [r] at mu; exact mu
  by_cases hb : b = x
  · subst hb; rw [upd_same] at q; cases q; exact new
  · rw [upd_ne hb] at q
    by_cases hbe : b = e
    · have q' : H b = some (.own x) := by
        rcases he with z | z
        · exact absurd (hbe.trans z) hb
        · rw [hbe]; exact z
      rw [q] at q'; cases q'
      obtain ⟨v, hv⟩ := heo
      exact ⟨v, by rw [hbe]; exact hv⟩
    · refine (ok b u q).stay (fun c v hc r => k c v ?_ r) (fun c r => by rw [upd_ne (nown c b r)]; exact r) fun c xs r => by rw [upd_ne (ntup c xs r)]; exact r
      rcases hc with rfl | hc
      · exact hbe
      · rintro rfl
        rcases he with z | z
        · exact nown c b hc z
        · rw [hc] at z; cases z; exact hb rfl
end

structure Un (fs ex : List Addr) (H H' : Hp) (h h' : Heap) : Prop where
  keep : ∀ b o, h.get? b = some o → H b = none → b ∉ fs → b ∉ ex → h'.get? b = some o
  slot : ∀ b o, h.get? b = some o → H b = none → b ∈ fs → b ∉ ex → ∃ sl, h'.get? b = some { o with slots := sl }
  free : ∀ b o, h.get? b = some o → H b = none → b ∉ ex → H' b = none
  there : ∀ b o, h.get? b = some o → b ∉ ex → ∃ o', h'.get? b = some o'
  tups : ∀ b xs, H b = some (.tup xs) → H' b = some (.tup xs)
  frzs : ∀ b o u, H b = some (.frz o u) → H' b = some (.frz o u)
  tbls : ∀ b ps, H b = some (.tbl ps) → ∃ more, H' b = some (.tbl (ps ++ more))
section
variable {fs fs' ex ex' : List Addr} {H H1 H2 : Hp} {h h1 h2 h' : Heap} {a x e : Addr} {o : HO}
theorem Un.any (u : Un fs ex H H1 h h1) {b : Addr} {ob : Obj} (q : h.get? b = some ob) (n : H b = none) (hx : b ∉ ex) : ∃ sl, h1.get? b = some { ob with slots := sl } := by
  by_cases hb : b ∈ fs
  · exact u.slot b ob q n hb hx
  · exact ⟨ob.slots, u.keep b ob q n hb hx⟩
theorem Un.kept (k : ∀ b u, h.get? b = some u → h'.get? b = some u) : Un fs ex H H h h' :=
  ⟨fun b ob q _ _ _ => k b ob q, fun b ob q _ _ _ => ⟨ob.slots, k b ob q⟩, fun _ _ _ n _ => n, fun b ob q _ => ⟨ob, k b ob q⟩, fun _ _ q => q, fun _ _ _ q => q, fun _ ps q => ⟨#[], by rw [q]; simp⟩⟩
theorem Un.refl : Un fs ex H H h h := Un.kept fun _ _ q => q
theorem Un.laid (k : ∀ b u, h.get? b = some u → h'.get? b = some u) (hp : h.objs.size ≤ a) (hn : H a = none) : Un fs ex H (upd H a o) h h' where
  keep := fun b u q _ _ _ => k b u q
  slot := fun b u q _ _ _ => ⟨u.slots, k b u q⟩
  free := fun b u q n _ => by rw [upd_ne (Nat.ne_of_lt (Nat.lt_of_lt_of_le (Heap.lt_size q) hp))]; exact n
  there := fun b u q _ => ⟨u, k b u q⟩
  tups := fun b xs q => by rw [upd_ne (ne_of_none q hn)]; exact q
  frzs := fun b u xs q => by rw [upd_ne (ne_of_none q hn)]; exact q
  tbls := fun b ps q => ⟨#[], by rw [upd_ne (ne_of_none q hn), q]; simp⟩
theorem Un.write (mu : Mut (H x)) (he : e = x ∨ H e = some (.own x)) (k : ∀ b u, b ≠ e → h.get? b = some u → h'.get? b = some u) (heo : ∃ u, h'.get? e = some u) : Un fs ex H (upd H x o) h h' := by
  have hx : ∀ b, H b = none → b ≠ x := fun b n z => by subst z; rw [n] at mu; exact mu
  have hb : ∀ b, H b = none → b ≠ e := fun b n z => by
    subst z
    rcases he with r | r
    · exact hx b n r
    · rw [n] at r; cases r
  have hm : ∀ b u, H b = some u → ¬ Mut (some u) → b ≠ x := fun b u q nm z => by subst z; rw [q] at mu; exact nm mu
  refine ⟨fun b u q n _ _ => k b u (hb b n) q, fun b u q n _ _ => ⟨u.slots, k b u (hb b n) q⟩, fun b u q n _ => by rw [upd_ne (hx b n)]; exact n, fun b u q _ => ?_,
    fun b xs q => by rw [upd_ne (hm b _ q fun z => z)]; exact q, fun b u xs q => by rw [upd_ne (hm b _ q fun z => z)]; exact q, fun b ps q => ⟨#[], by rw [upd_ne (hm b _ q fun z => z), q]; simp⟩⟩
  by_cases hbe : b = e
  · subst hbe; exact heo
  · exact ⟨u, k b u hbe q⟩
end

noncomputable def trk (h : Heap) (H : Hp) : List Addr := (List.range h.objs.size).filter fun a => (H a).isSome
noncomputable def hidT (h : Heap) (H : Hp) : Heap := PySem.W.hideAll h (trk h H)
theorem hidT_size (h : Heap) (H : Hp) : (hidT h H).objs.size = h.objs.size := PySem.W.hideAll_size _ _
theorem hidT_get {h : Heap} {H : Hp} {b : Addr} {o : Obj} (e : h.get? b = some o) (n : H b = none) : (hidT h H).get? b = some o :=
  PySem.W.hideAll_get _ e fun hm => by
    have q : (H b).isSome = true := (List.mem_filter.mp hm).2
    rw [n] at q; simp at q
theorem of_hidT {h : Heap} {H : Hp} {b : Addr} {o : Obj} (e : (hidT h H).get? b = some o) : h.get? b = some o ∧ H b = none := by
  have e' : h.get? b = some o := PySem.W.of_hideAll (trk h H) e
  refine ⟨e', ?_⟩
  cases q : H b with
  | none => rfl
  | some x =>
    have hm : b ∈ trk h H := List.mem_filter.mpr ⟨List.mem_range.mpr (Heap.lt_size e'), by simp [q]⟩
    have z : (hidT h H).get? b = none := PySem.W.hideAll_none (trk h H) hm
    rw [z] at e; cases e

noncomputable def allNews (g h : Heap) (L : Addr) : List (Addr × Obj) := (List.range h.objs.size).filterMap fun a => if a = L ∨ (g.get? a).isSome = true then none else (h.get? a).map fun o => (a, o)
noncomputable def rest (g h : Heap) (L d : Addr) : List (Addr × Obj) := (allNews g h L).filter fun p => decide (p.1 ≠ d)
end L2

namespace L2
open PySem PySem.Spec PyProof.Rows

structure Mod (K : PySem.W.Frag) (mg : Str → Option Value) (base : Heap) : Prop where
  kin : K.In base
  glob : base.Ns mainGlobals mg
  blt : ∃ mb, base.Ns builtinsNs mb ∧ ∀ x : Str, x ≠ "__name__" → mb x = bootBuiltins x
  nolimit : base.NoLimit

structure Cx where
  prog : Program
  w : World
  K : PySem.W.Frag
  mg : Str → Option Value
  base : Heap
  A : Around
  N : List Str
  s₀ : Shared
  H₀ : Hp
  env : Env
  outer : List Env
  stack : List Env
  ex : List Addr
  fn : Str → Bool
  calm : Bool
  pn : List (Addr × Obj)
  xe : Value → Shared → Prop
noncomputable def frs (l : List Env) : List Addr := l.filterMap (·.frame)
noncomputable abbrev Cx.fs (X : Cx) : List Addr := frs X.outer

noncomputable def Vis (sc : Scope) (x : Str) : Prop := sc.names.lookup x = some .local ∨ sc.names.lookup x = some .cell ∨ sc.names.lookup x = some .free
noncomputable def Loc (sc : Scope) (x : Str) : Prop := sc.names.lookup x = some .local ∨ sc.names.lookup x = some .cell
noncomputable def Look (env : Env) (h : Heap) (m : Str → Option Value) (x : Str) (u : Value) : Prop :=
  (env.kindOf x = some .local ∧ m x = some u) ∨ ((env.kindOf x = some .cell ∨ env.kindOf x = some .free) ∧ ∃ c, env.cells.lookup x = some c ∧ h.IsCell c (some u))

structure Cx.Ok (X : Cx) : Prop where
  mod : Mod X.K X.mg X.base
  kind : X.env.scope.kind = .function
  glob : X.env.globals = mainGlobals
  blt : X.env.builtins = builtinsNs
  above : X.s₀.heap.objs.size ≤ X.env.locals
  inj : ∀ x y c, X.env.cells.lookup x = some c → X.env.cells.lookup y = some c → x = y
  has : ∀ x, (X.env.kindOf x = some .cell ∨ X.env.kindOf x = some .free) → ∃ c, X.env.cells.lookup x = some c
  cab : ∀ x c, X.fn x = true → X.env.cells.lookup x = some c → X.s₀.heap.objs.size ≤ c
  hd : X.calm = true → X.A.handled = none
  frames : X.A.frames = some X.stack
  stk : X.stack = X.outer ∨ (X.stack = X.env :: X.outer ∧ X.env.frame = some X.env.locals)
  exf : ∀ b ∈ X.ex, b ≠ X.env.locals ∧ ∀ x c, X.env.cells.lookup x = some c → c ≠ b
  bs : ∀ b o, X.base.get? b = some o → X.s₀.heap.get? b = some o ∧ X.H₀ b = none
  bsz : X.base.objs.size ≤ X.s₀.heap.objs.size
  noex : ∀ b o, X.base.get? b = some o → b ∉ X.ex
  exfs : ∀ b ∈ X.ex, b ∉ X.fs
  funs : X.s₀.heap.FunFrames X.base X.outer
  frf : ∀ b ∈ X.fs, X.H₀ b = none

structure Inv (X : Cx) (pins : List (Addr × Obj)) (σ : List (Option V)) (H : Hp) (s : Shared) : Prop where
  ok : X.Ok
  os : s.os = X.s₀.os
  bare : AllBare s.gens
  base : Un X.fs X.ex X.H₀ H X.s₀.heap s.heap
  loc : ∃ m, s.heap.Ns X.env.locals m ∧ ∀ (i : Nat) (x : Str) (v : V), X.N[i]? = some x → σ[i]? = some (some v) → Vis X.env.scope x → ∃ u, RelV v u ∧ Look X.env s.heap m x u
  cell : ∀ x c, X.env.cells.lookup x = some c → ∃ v, s.heap.IsCell c v
  free : H X.env.locals = none
  freeC : ∀ x c, X.env.cells.lookup x = some c → H c = none
  pin : ∀ p ∈ X.pn ++ pins, s.heap.get? p.1 = some p.2 ∧ H p.1 = none ∧ p.1 ≠ X.env.locals ∧ p.1 ∉ X.fs ∧ ∀ v, p.2.data ≠ .cell v
  hok : HOk X.prog X.w H s.heap
  len : σ.length = X.N.length

section
variable {X : Cx} {pins : List (Addr × Obj)} {σ : List (Option V)} {H H' : Hp} {s : Shared} {h' : Heap}

theorem Cx.Ok.nofr (ok : X.Ok) {b : Addr} {o : Obj} (e : X.base.get? b = some o) : b ∉ X.fs := fun hb => by
  have := (ok.funs.mem hb).1
  rw [e] at this; cases this
theorem Inv.bs (I : Inv X pins σ H s) : ∀ b o, X.base.get? b = some o → s.heap.get? b = some o ∧ H b = none := fun b o e =>
  ⟨I.base.keep b o (I.ok.bs b o e).1 (I.ok.bs b o e).2 (I.ok.nofr e) (I.ok.noex b o e), I.base.free b o (I.ok.bs b o e).1 (I.ok.bs b o e).2 (I.ok.noex b o e)⟩
theorem Inv.bk (I : Inv X pins σ H s) : ∀ b o, X.base.get? b = some o → s.heap.get? b = some o := fun b o e => (I.bs b o e).1
theorem Inv.mod (I : Inv X pins σ H s) : Mod X.K X.mg X.base := I.ok.mod
theorem Inv.kIn (I : Inv X pins σ H s) : X.K.In s.heap := I.ok.mod.kin.keeps I.bk
theorem Inv.lt (I : Inv X pins σ H s) : X.env.locals < s.heap.objs.size := let ⟨_, hn, _⟩ := I.loc; hn.lt
theorem Inv.sz (I : Inv X pins σ H s) : X.s₀.heap.objs.size ≤ s.heap.objs.size := Nat.le_trans I.ok.above (Nat.le_of_lt I.lt)
theorem Inv.nofs (I : Inv X pins σ H s) {a : Addr} (h : s.heap.objs.size ≤ a) : a ∉ X.fs := fun hb => by
  obtain ⟨_, o, ho, _⟩ := I.ok.funs.mem hb
  exact absurd (Nat.lt_of_lt_of_le (Heap.lt_size ho) (Nat.le_trans I.sz h)) (Nat.lt_irrefl _)
theorem Inv.cne (I : Inv X pins σ H s) : ∀ x c, X.env.cells.lookup x = some c → c ≠ X.env.locals := fun x c e z => by
  obtain ⟨v, o, ho, hd⟩ := I.cell x c e
  obtain ⟨m, ⟨o', es, ep, ho', hd', _⟩, _⟩ := I.loc
  rw [z, ho'] at ho; cases ho; rw [hd'] at hd; cases hd
theorem Inv.funs (I : Inv X pins σ H s) : s.heap.FunFrames X.base X.outer := by
  have all : ∀ (l : List Env), (∀ b ∈ frs l, b ∈ X.fs) → X.s₀.heap.FunFrames X.base l → s.heap.FunFrames X.base l := by
    intro l
    induction l with
    | nil => intro _ _; trivial
    | cons env r ih =>
      intro hs hl
      obtain ⟨hk, ⟨L, o, hf, hn, ho, hd⟩, hr⟩ := hl
      have hL : L ∈ X.fs := hs L (by unfold frs; rw [List.filterMap_cons, hf]; exact List.mem_cons_self)
      obtain ⟨sl, e⟩ := I.base.slot L o ho (I.ok.frf L hL) hL fun z => I.ok.exfs L z hL
      exact ⟨hk, ⟨L, _, hf, hn, e, hd⟩, ih (fun b hb => hs b (by unfold frs; rw [List.filterMap_cons, hf]; exact List.mem_cons_of_mem _ hb)) hr⟩
  exact all X.outer (fun _ hb => hb) I.ok.funs

theorem Inv.stack (I : Inv X pins σ H s) : s.heap.FunFrames X.base X.stack := by
  rcases I.ok.stk with e | ⟨e, hf⟩
  · rw [e]; exact I.funs
  · rw [e]
    obtain ⟨m, hn, _⟩ := I.loc
    refine .cons (by rw [I.ok.kind]; decide) hf hn ?_ I.funs
    exact Heap.get?_none_of_le (Nat.le_trans I.ok.bsz I.ok.above)
theorem Inv.stkSub (I : Inv X pins σ H s) : ∀ b ∈ frs X.stack, b ∈ X.env.locals :: X.fs := fun b hb => by
  rcases I.ok.stk with e | ⟨e, hf⟩
  · rw [e] at hb; exact List.mem_cons_of_mem _ hb
  · rw [e] at hb
    unfold frs at hb
    rw [List.filterMap_cons, hf] at hb
    exact hb
theorem Inv.stkFree (I : Inv X pins σ H s) : ∀ b ∈ frs X.stack, H b = none := fun b hb => by
  rcases List.mem_cons.mp (I.stkSub b hb) with e | hb
  · rw [e]; exact I.free
  · obtain ⟨_, o, ho, _⟩ := I.ok.funs.mem hb
    exact I.base.free b o ho (I.ok.frf b hb) fun z => I.ok.exfs b z hb

theorem Inv.step {g' : Array GenState} {t' : Nat} {d' : Drawn} {ch : List Addr} (I : Inv X pins σ H s)
    (hch : ∀ b ∈ ch, (b ∈ X.ex ∨ X.s₀.heap.objs.size ≤ b) ∧ b ≠ X.env.locals ∧ (∀ x c, X.env.cells.lookup x = some c → c ≠ b) ∧ ∀ p ∈ X.pn ++ pins, p.1 ≠ b)
    (keep : ∀ b o, b ≠ X.env.locals → b ∉ X.fs → b ∉ ch → s.heap.get? b = some o → H b = none → h'.get? b = some o)
    (slot : ∀ b o, b ≠ X.env.locals → b ∈ X.fs → b ∉ ch → s.heap.get? b = some o → H b = none → ∃ sl, h'.get? b = some { o with slots := sl }) (free : ∀ b o, b ∉ ch → s.heap.get? b = some o → H b = none → H' b = none)
    (there : ∀ b o, b ∉ ch → s.heap.get? b = some o → ∃ o', h'.get? b = some o')
    (tups : ∀ b xs, H b = some (.tup xs) → H' b = some (.tup xs)) (frzs : ∀ b o u, H b = some (.frz o u) → H' b = some (.frz o u)) (tbls : ∀ b ps, H b = some (.tbl ps) → ∃ more, H' b = some (.tbl (ps ++ more)))
    (ns : ∀ m, s.heap.Ns X.env.locals m → h'.Ns X.env.locals m) (hok : HOk X.prog X.w H' h') (hg : AllBare g') :
    Inv X pins σ H' { s with heap := h', gens := g', drawn := d', toks := t' } := by
  have neL : ∀ b o, X.s₀.heap.get? b = some o → b ≠ X.env.locals := fun b o e => Nat.ne_of_lt (Nat.lt_of_lt_of_le (Heap.lt_size e) I.ok.above)
  have neC : ∀ b o, X.s₀.heap.get? b = some o → b ∉ X.ex → b ∉ ch := fun b o e hx hb => by
    rcases (hch b hb).1 with z | z
    · exact hx z
    · exact absurd (Nat.lt_of_lt_of_le (Heap.lt_size e) z) (Nat.lt_irrefl _)
  have cellK : ∀ x c, X.env.cells.lookup x = some c → ∀ v, s.heap.IsCell c v → h'.IsCell c v := fun x c e v ⟨o, ho, hd⟩ => by
    have nch : c ∉ ch := fun z => (hch c z).2.2.1 x c e rfl
    by_cases hc : c ∈ X.fs
    · obtain ⟨sl, q⟩ := slot c o (I.cne x c e) hc nch ho (I.freeC x c e)
      exact ⟨_, q, hd⟩
    · exact ⟨o, keep c o (I.cne x c e) hc nch ho (I.freeC x c e), hd⟩
  refine ⟨I.ok, I.os, hg, ⟨fun b o e n hb hx => ?_, fun b o e n hb hx => ?_, fun b o e n hx => ?_, fun b o e hx => ?_, fun b xs e => tups b xs (I.base.tups b xs e), fun b o xs e => frzs b o xs (I.base.frzs b o xs e), fun b ps e => ?_⟩, ?_, fun x c e => ?_, ?_, fun x c e => ?_, fun p hp => ?_, hok, I.len⟩
  · exact keep b o (neL b o e) hb (neC b o e hx) (I.base.keep b o e n hb hx) (I.base.free b o e n hx)
  · obtain ⟨sl, e1⟩ := I.base.slot b o e n hb hx
    obtain ⟨sl', e2⟩ := slot b _ (neL b o e) hb (neC b o e hx) e1 (I.base.free b o e n hx)
    exact ⟨sl', e2⟩
  · obtain ⟨o', e1⟩ := I.base.there b o e hx
    exact free b o' (neC b o e hx) e1 (I.base.free b o e n hx)
  · obtain ⟨o', e1⟩ := I.base.there b o e hx
    exact there b o' (neC b o e hx) e1
  · obtain ⟨m1, e1⟩ := I.base.tbls b ps e
    obtain ⟨m2, e2⟩ := tbls b _ e1
    exact ⟨m1 ++ m2, by rw [e2, Array.append_assoc]⟩
  · obtain ⟨m, hn, hl⟩ := I.loc
    refine ⟨m, ns m hn, fun i x v e1 e2 e3 => ?_⟩
    obtain ⟨u, r, l⟩ := hl i x v e1 e2 e3
    refine ⟨u, r, ?_⟩
    rcases l with l | ⟨k, c, e, z⟩
    · exact .inl l
    · exact .inr ⟨k, c, e, cellK x c e _ z⟩
  · obtain ⟨v, z⟩ := I.cell x c e
    exact ⟨v, cellK x c e v z⟩
  · obtain ⟨m, ⟨o, _, _, ho, _⟩, _⟩ := I.loc
    exact free _ o (fun z => (hch _ z).2.1 rfl) ho I.free
  · obtain ⟨v, o, ho, hd⟩ := I.cell x c e
    exact free c o (fun z => (hch c z).2.2.1 x c e rfl) ho (I.freeC x c e)
  · obtain ⟨e, n, ne, nf, d⟩ := I.pin p hp
    have nch : p.1 ∉ ch := fun z => (hch p.1 z).2.2.2 p hp rfl
    exact ⟨keep p.1 p.2 ne nf nch e n, free p.1 p.2 nch e n, ne, nf, d⟩
theorem Inv.un {t' : Nat} (I : Inv X pins σ H s) (u : Un X.fs [] H H' s.heap h') (hok : HOk X.prog X.w H' h') : Inv X pins σ H' { s with heap := h', toks := t' } := by
  obtain ⟨m, ⟨o, es, ep, ho, r⟩, _⟩ := id I.loc
  obtain ⟨sl, hL⟩ := u.any ho I.free (by simp)
  exact I.step (g' := s.gens) (d' := s.drawn) (ch := []) (fun _ z => nomatch z) (fun b o _ hb _ e n => u.keep b o e n hb (by simp)) (fun b o _ hb _ e n => u.slot b o e n hb (by simp)) (fun b o _ e n => u.free b o e n (by simp)) (fun b o _ e => u.there b o e (by simp)) u.tups u.frzs u.tbls (fun m' hm => by
    obtain ⟨o', es', ep', ho', r'⟩ := hm
    rw [ho] at ho'; cases ho'
    exact ⟨_, es', ep', hL, r'⟩) hok I.bare
theorem Inv.call {g' : Array GenState} {t' : Nat} {d' : Drawn} {ch : List Addr} (I : Inv X pins σ H s) (u : Un (frs X.stack) ch H H' s.heap h') (hok : HOk X.prog X.w H' h') (hg : AllBare g')
    (hch : ∀ b ∈ ch, (b ∈ X.ex ∨ X.s₀.heap.objs.size ≤ b) ∧ b ≠ X.env.locals ∧ (∀ x c, X.env.cells.lookup x = some c → c ≠ b) ∧ ∀ p ∈ X.pn ++ pins, p.1 ≠ b) :
    Inv X pins σ H' { s with heap := h', gens := g', drawn := d', toks := t' } := by
  obtain ⟨m, ⟨o, es, ep, ho, r⟩, _⟩ := id I.loc
  obtain ⟨sl, hL⟩ := u.any ho I.free fun z => (hch _ z).2.1 rfl
  exact I.step (ch := ch) hch (fun b o hL hb hc e n => u.keep b o e n (fun z => (List.mem_cons.mp (I.stkSub b z)).elim hL hb) hc) (fun b o _ _ hc e n => u.any e n hc) (fun b o hc e n => u.free b o e n hc) (fun b o hc e => u.there b o e hc) u.tups u.frzs u.tbls (fun m' hm => by
    obtain ⟨o', es', ep', ho', r'⟩ := hm
    rw [ho] at ho'; cases ho'
    exact ⟨_, es', ep', hL, r'⟩) hok hg
theorem Inv.turned {t' : Nat} {it : Addr} (I : Inv X pins σ H s) (k : ∀ b o, b ≠ it → s.heap.get? b = some o → h'.get? b = some o) (hn : H it = none) (hL : it ≠ X.env.locals)
    (h1 : it ∈ X.ex ∨ X.s₀.heap.objs.size ≤ it) (h2 : ∀ x c, X.env.cells.lookup x = some c → c ≠ it) (h3 : ∀ p ∈ X.pn ++ pins, p.1 ≠ it) : Inv X pins σ H { s with heap := h', toks := t' } := by
  have nit : ∀ b u, H b = some u → b ≠ it := fun b u e z => by rw [z, hn] at e; cases e
  refine I.step (g' := s.gens) (d' := s.drawn) (ch := [it]) (fun b hb => ?_) (fun b o _ _ hc e _ => k b o (fun z => hc (by simp [z])) e) (fun b o _ _ hc e _ => ⟨o.slots, k b o (fun z => hc (by simp [z])) e⟩) (fun _ _ _ _ n => n)
    (fun b o hc e => ⟨o, k b o (fun z => hc (by simp [z])) e⟩) (fun _ _ e => e) (fun _ _ _ e => e) (fun b ps e => ⟨#[], by rw [e]; simp⟩) (fun m hm => ?_) (fun b u e => ?_) I.bare
  · have e : b = it := by simpa using hb
    subst e
    exact ⟨h1, hL, h2, h3⟩
  · obtain ⟨o, es, ep, ho, r⟩ := hm
    exact ⟨o, es, ep, k _ o (Ne.symm hL) ho, r⟩
  · refine (I.hok b u e).stay (fun c v hc q => k c v ?_ q) (fun _ q => q) fun _ _ q => q
    rcases hc with z | z
    · rw [z]; exact nit b u e
    · exact nit c _ z
theorem Inv.tok (I : Inv X pins σ H s) (t : Nat) : Inv X pins σ H { s with toks := t } := I.un (h' := s.heap) (t' := t) Un.refl I.hok
theorem Inv.kept {t' : Nat} (I : Inv X pins σ H s) (k : ∀ b u, s.heap.get? b = some u → h'.get? b = some u) : Inv X pins σ H { s with heap := h', toks := t' } := I.un (Un.kept k) (I.hok.kept k)
theorem Inv.laid {a : Addr} {o : HO} {t' : Nat} (I : Inv X pins σ H s) (k : ∀ b u, s.heap.get? b = some u → h'.get? b = some u) (hp : s.heap.objs.size ≤ a) (new : ObjOk X.prog X.w (upd H a o) h' a o) :
    Inv X pins σ (upd H a o) { s with heap := h', toks := t' } := I.un (Un.laid k hp (I.hok.fresh hp)) (I.hok.laid k hp new)
theorem Inv.write {x e : Addr} {o : HO} {t' : Nat} (I : Inv X pins σ H s) (mu : Mut (H x)) (he : e = x ∨ H e = some (.own x)) (k : ∀ b u, b ≠ e → s.heap.get? b = some u → h'.get? b = some u) (heo : ∃ u, h'.get? e = some u)
    (new : ObjOk X.prog X.w (upd H x o) h' x o) : Inv X pins σ (upd H x o) { s with heap := h', toks := t' } := I.un (Un.write mu he k heo) (I.hok.write mu he k heo new)
theorem Inv.pins_of {pins' : List (Addr × Obj)} (I : Inv X pins σ H s) (h : ∀ p ∈ pins', s.heap.get? p.1 = some p.2 ∧ H p.1 = none ∧ p.1 ≠ X.env.locals ∧ p.1 ∉ X.fs ∧ ∀ v, p.2.data ≠ .cell v) : Inv X pins' σ H s :=
  ⟨I.ok, I.os, I.bare, I.base, I.loc, I.cell, I.free, I.freeC, fun p hp => (List.mem_append.mp hp).elim (fun z => I.pin p (List.mem_append_left _ z)) (h p), I.hok, I.len⟩

theorem nodup_ix {N : List Str} (hN : N.Nodup) {i j : Nat} {x : Str} (a : N[i]? = some x) (b : N[j]? = some x) : i = j := by
  obtain ⟨h1, e1⟩ := List.getElem?_eq_some_iff.mp a
  obtain ⟨h2, e2⟩ := List.getElem?_eq_some_iff.mp b
  exact (List.getElem_inj hN).mp (e1.trans e2.symm)

theorem store_ok2 {M : Model} {A : Around} {E : Value → Shared → Prop} {i : Nat} {x : Str} {v : V} {u : Value} {Q : Unit → Shared → Prop} (I : Inv X pins σ H s) (hN : X.N.Nodup) (hi : X.N[i]? = some x) (hx : Loc X.env.scope x) (r : RelV v u)
    (h : ∀ s', Inv X pins (σ.set i (some v)) H s' → (∃ a, Heap.SameBut a s.heap s'.heap ∧ (a = X.env.locals ∨ X.env.cells.lookup x = some a)) → Q () s') (hf : X.fn x = true ∨ X.env.scope.names.lookup x = some .local := by first | exact .inl rfl | exact .inr rfl | assumption) : wpAny M A (storeName X.env x u) Q E s := by
  obtain ⟨m, hn, hl⟩ := id I.loc
  have hcls : (X.env.scope.kind == .class || (X.env.scope.kind == .module && X.env.locals != X.env.globals)) = false := by rw [I.ok.kind]; rfl
  have hiσ : i < σ.length := by rw [I.len]; exact (List.getElem?_eq_some_iff.mp hi).1
  have cne := I.cne
  have tracked : ∀ {a : Addr} {h' : Heap}, (∃ o, s.heap.get? a = some o ∧ H a = none) → Heap.SameBut a s.heap h' → HOk X.prog X.w H h' := fun {a h'} ha hs b ob e => by
    obtain ⟨_, _, hfree⟩ := ha
    refine (I.hok b ob e).stay (fun c w' hc q => (hs.2 c ?_).trans q) (fun _ q => q) fun _ _ q => q
    rintro rfl
    rcases hc with rfl | hc
    · rw [hfree] at e; cases e
    · rw [hfree] at hc; cases hc
  rcases hx with hk | hk
  · refine wpAny_storeName_local hk hn (fun h' hn' hs => ?_) hcls
    obtain ⟨oL, _, _, hoL, _⟩ := id hn
    refine h _ ⟨I.ok, I.os, I.bare, ⟨fun b o e n hb hx => ?_, fun b o e n hb hx => ?_, I.base.free, fun b o e hx => ?_, I.base.tups, I.base.frzs, I.base.tbls⟩, ⟨_, hn', fun j y v' e1 e2 e3 => ?_⟩, fun y c e => ?_, I.free, I.freeC, fun p hp => ?_, tracked ⟨oL, hoL, I.free⟩ hs, by simpa using I.len⟩ ⟨_, hs, .inl rfl⟩
    · exact (hs.2 b (Nat.ne_of_lt (Nat.lt_of_lt_of_le (Heap.lt_size e) I.ok.above))).trans (I.base.keep b o e n hb hx)
    · obtain ⟨sl, e1⟩ := I.base.slot b o e n hb hx
      exact ⟨sl, (hs.2 b (Nat.ne_of_lt (Nat.lt_of_lt_of_le (Heap.lt_size e) I.ok.above))).trans e1⟩
    · obtain ⟨o', e1⟩ := I.base.there b o e hx
      exact ⟨o', (hs.2 b (Nat.ne_of_lt (Nat.lt_of_lt_of_le (Heap.lt_size e) I.ok.above))).trans e1⟩
    · by_cases hj : j = i
      · subst hj
        rw [hi] at e1; cases e1
        rw [List.getElem?_set_self hiσ] at e2
        cases e2
        exact ⟨u, r, .inl ⟨hk, by simp⟩⟩
      · rw [List.getElem?_set_ne (Ne.symm hj)] at e2
        obtain ⟨u', r', q⟩ := hl j y v' e1 e2 e3
        refine ⟨u', r', ?_⟩
        rcases q with ⟨k, e⟩ | ⟨k, c, e, z⟩
        · refine .inl ⟨k, ?_⟩
          have : y ≠ x := fun e => hj (nodup_ix hN e1 (e ▸ hi))
          simp [this, e]
        · exact .inr ⟨k, c, e, z.sameBut hs (cne y c e)⟩
    · obtain ⟨w', z⟩ := I.cell y c e
      exact ⟨w', z.sameBut hs (cne y c e)⟩
    · obtain ⟨e, n, ne, nf, d⟩ := I.pin p hp
      exact ⟨(hs.2 p.1 ne).trans e, n, ne, nf, d⟩
  · have hfn : X.fn x = true := by
      rcases hf with z | z
      · exact z
      · rw [z] at hk; cases hk
    obtain ⟨c, hc⟩ := I.ok.has x (.inl hk)
    obtain ⟨w', z⟩ := I.cell x c hc
    refine wpAny_storeName_cell I.ok.kind hk hc z (fun h' hc' hs => ?_)
    obtain ⟨oc, hoc, hocd⟩ := id z
    refine h { s with heap := h' } ⟨I.ok, I.os, I.bare, ⟨fun b o e n hb hx => ?_, fun b o e n hb hx => ?_, I.base.free, fun b o e hx => ?_, I.base.tups, I.base.frzs, I.base.tbls⟩, ⟨m, hn.sameBut hs (Ne.symm (cne x c hc)), fun j y v' e1 e2 e3 => ?_⟩, fun y c' e => ?_, I.free, I.freeC, fun p hp => ?_, tracked ⟨oc, hoc, I.freeC x c hc⟩ hs, by simpa using I.len⟩ ⟨c, hs, .inr hc⟩
    · exact (hs.2 b (Nat.ne_of_lt (Nat.lt_of_lt_of_le (Heap.lt_size e) (I.ok.cab x c hfn hc)))).trans (I.base.keep b o e n hb hx)
    · obtain ⟨sl, e1⟩ := I.base.slot b o e n hb hx
      exact ⟨sl, (hs.2 b (Nat.ne_of_lt (Nat.lt_of_lt_of_le (Heap.lt_size e) (I.ok.cab x c hfn hc)))).trans e1⟩
    · obtain ⟨o', e1⟩ := I.base.there b o e hx
      exact ⟨o', (hs.2 b (Nat.ne_of_lt (Nat.lt_of_lt_of_le (Heap.lt_size e) (I.ok.cab x c hfn hc)))).trans e1⟩
    · by_cases hj : j = i
      · subst hj
        rw [hi] at e1; cases e1
        rw [List.getElem?_set_self hiσ] at e2
        cases e2
        exact ⟨u, r, .inr ⟨.inl hk, c, hc, hc'⟩⟩
      · rw [List.getElem?_set_ne (Ne.symm hj)] at e2
        obtain ⟨u', r', q⟩ := hl j y v' e1 e2 e3
        refine ⟨u', r', ?_⟩
        rcases q with q | ⟨k, c', e, z'⟩
        · exact .inl q
        · refine .inr ⟨k, c', e, z'.sameBut hs ?_⟩
          rintro rfl
          exact hj (nodup_ix hN e1 (I.ok.inj _ _ _ e hc ▸ hi))
    · by_cases hcc : c' = c
      · subst hcc; exact ⟨_, hc'⟩
      · obtain ⟨w2, z2⟩ := I.cell y c' e
        exact ⟨w2, z2.sameBut hs hcc⟩
    · obtain ⟨e, n, ne, nf, d⟩ := I.pin p hp
      refine ⟨(hs.2 p.1 ?_).trans e, n, ne, nf, d⟩
      intro q
      rw [q, hoc] at e
      have q' : oc = p.2 := Option.some.inj e
      exact d w' (by rw [← q']; exact hocd)
theorem store_ok {M : Model} {A : Around} {E : Value → Shared → Prop} {i : Nat} {x : Str} {v : V} {u : Value} {Q : Unit → Shared → Prop} (I : Inv X pins σ H s) (hN : X.N.Nodup) (hi : X.N[i]? = some x) (hx : Loc X.env.scope x) (r : RelV v u)
    (h : ∀ s', Inv X pins (σ.set i (some v)) H s' → Q () s') (hf : X.fn x = true ∨ X.env.scope.names.lookup x = some .local := by first | exact .inl rfl | exact .inr rfl | assumption) : wpAny M A (storeName X.env x u) Q E s :=
  store_ok2 I hN hi hx r (fun s' I' _ => h s' I') hf
theorem Inv.call' {s' : Shared} {ch : List Addr} (I : Inv X pins σ H s) (ho : s'.os = s.os) (u : Un (frs X.stack) ch H H' s.heap s'.heap) (hok : HOk X.prog X.w H' s'.heap) (hg : AllBare s'.gens)
    (hch : ∀ b ∈ ch, (b ∈ X.ex ∨ X.s₀.heap.objs.size ≤ b) ∧ b ≠ X.env.locals ∧ (∀ x c, X.env.cells.lookup x = some c → c ≠ b) ∧ ∀ p ∈ X.pn ++ pins, p.1 ≠ b) : Inv X pins σ H' s' := by
  obtain ⟨h', g', d', t', o'⟩ := s'
  have e : o' = s.os := ho
  subst e
  exact I.call (g' := g') (t' := t') (d' := d') u hok hg hch
end

noncomputable abbrev XK := Value → Option Addr → Hp → Prop
noncomputable abbrev St := List (Option V)
noncomputable abbrev VK := V → Hp → Prop
noncomputable abbrev TE := St → Hp → VK → Prop
noncomputable abbrev TT := St → Hp → (Bool → Hp → Prop) → Prop
noncomputable abbrev TA := St → Hp → (List V → Hp → Prop) → Prop
structure Ends where
  nx : St → Hp → Prop
  rt : VK
  bk : St → Hp → Prop := fun _ _ => False
  ct : St → Hp → Prop := fun _ _ => False
noncomputable abbrev TS := Ends → St → Hp → Prop

noncomputable def EP (X : Cx) (pins : List (Addr × Obj)) (σ : St) (Q : VK) (u : Value) (s' : Shared) : Prop := ∃ v H', Inv X pins σ H' s' ∧ RelV v u ∧ Q v H'
noncomputable def TP (X : Cx) (pins : List (Addr × Obj)) (σ : St) (Q : Bool → Hp → Prop) (b : Bool) (s' : Shared) : Prop := ∃ H', Inv X pins σ H' s' ∧ Q b H'
noncomputable def AP (X : Cx) (pins : List (Addr × Obj)) (σ : St) (Q : List V → Hp → Prop) (us : List Value) (s' : Shared) : Prop := ∃ vs H', Inv X pins σ H' s' ∧ Vals vs us ∧ Q vs H'
noncomputable def SP (X : Cx) (pins : List (Addr × Obj)) (D : Ends) (f : Flow) (s' : Shared) : Prop :=
  match f with
  | .next => ∃ σ' H', Inv X pins σ' H' s' ∧ D.nx σ' H'
  | .brk => ∃ σ' H', Inv X pins σ' H' s' ∧ D.bk σ' H'
  | .cont => ∃ σ' H', Inv X pins σ' H' s' ∧ D.ct σ' H'
  | .ret u => ∃ v σ' H', Inv X pins σ' H' s' ∧ RelV v u ∧ D.rt v H'

noncomputable def PE (X : Cx) (e : Expr) (t : TE) : Prop :=
  ∀ (pins : List (Addr × Obj)) (s : Shared) (σ : St) (H : Hp) (Q : VK), Inv X pins σ H s → t σ H Q → wpAny (model X.prog X.w) X.A (eval e X.env) (EP X pins σ Q) X.xe s
noncomputable def PT (X : Cx) (e : Expr) (t : TT) : Prop :=
  ∀ (pins : List (Addr × Obj)) (s : Shared) (σ : St) (H : Hp) (Q : Bool → Hp → Prop), Inv X pins σ H s → t σ H Q → wpAny (model X.prog X.w) X.A (isTrue e X.env (eval e X.env)) (TP X pins σ Q) X.xe s
noncomputable def PW (X : Cx) (e : Expr) (t : TT) : Prop :=
  ∀ (whole : Sem Value) (pins : List (Addr × Obj)) (s : Shared) (σ : St) (H : Hp) (Q : Bool → Hp → Prop), Inv X pins σ H s → t σ H Q → wpAny (model X.prog X.w) X.A (isTrue e X.env whole) (TP X pins σ Q) X.xe s
theorem PW.pt {X : Cx} {e : Expr} {t : TT} (h : PW X e t) : PT X e t := h _
noncomputable def PA (X : Cx) (es : List Expr) (t : TA) : Prop :=
  ∀ (pos : Pos) (pins : List (Addr × Obj)) (s : Shared) (σ : St) (H : Hp) (Q : List V → Hp → Prop), Inv X pins σ H s → t σ H Q → wpAny (model X.prog X.w) X.A (spliced (backTo pos (starEach es X.env))) (AP X pins σ Q) X.xe s
noncomputable def PS (X : Cx) (st : Stmt) (t : TS) : Prop :=
  ∀ (pins : List (Addr × Obj)) (s : Shared) (σ : St) (H : Hp) (D : Ends), Inv X pins σ H s → t D σ H → wpAny (model X.prog X.w) X.A (exec st X.env) (SP X pins D) X.xe s
noncomputable def PSs (X : Cx) (st : List Stmt) (t : TS) : Prop :=
  ∀ (pins : List (Addr × Obj)) (s : Shared) (σ : St) (H : Hp) (D : Ends), Inv X pins σ H s → t D σ H → wpAny (model X.prog X.w) X.A (execs st X.env) (SP X pins D) X.xe s
theorem thn {α : Type} {t : Sem α} {Q Q' : α → Shared → Prop} {M : Model} {A : Around} {E : Value → Shared → Prop} {s : Shared} (h : wpAny M A t Q E s) (hQ : ∀ a s, Q a s → Q' a s) : wpAny M A t Q' E s := wpAny_mono h hQ fun _ _ x => x
end L2

namespace L2
open PySem PySem.Spec PyProof.Rows
section
variable {X : Cx}

theorem bin {a b : Expr} {ta tb : TE} (ha : PE X a ta) (hb : PE X b tb) {pins : List (Addr × Obj)} {s : Shared} {σ : St} {H : Hp} {R : V → V → Hp → Prop} (I : Inv X pins σ H s) (h : ta σ H fun x H1 => tb σ H1 fun y H2 => R x y H2)
    {α : Type} {Q : α → Shared → Prop} {f : Value → Value → Sem α}
    (hf : ∀ v u s2 x y H2, Inv X pins σ H2 s2 → RelV x v → RelV y u → R x y H2 → wpAny (model X.prog X.w) X.A (f v u) Q X.xe s2) :
    wpAny (model X.prog X.w) X.A (eval a X.env) (fun v s₁ => wpAny (model X.prog X.w) X.A (eval b X.env) (fun u s₂ => wpAny (model X.prog X.w) X.A (f v u) Q X.xe s₂) X.xe s₁) X.xe s := by
  refine thn (ha pins s σ H _ I h) fun v s1 ⟨x, H1, I1, r1, q1⟩ => ?_
  refine thn (hb pins s1 σ H1 _ I1 q1) fun u s2 ⟨y, H2, I2, r2, q2⟩ => ?_
  exact hf v u s2 x y H2 I2 r1 r2 q2

noncomputable def tVar (i : Nat) : TE := fun σ H Q => ∃ v, σ[i]? = some (some v) ∧ Q v H
noncomputable def tC (v : V) : TE := fun _ H Q => Q v H
theorem pe_var {i : Nat} {x : Str} {pos : Pos} (hN : X.N[i]? = some x) (hv : Vis X.env.scope x) (hd : (x == ("__debug__" : Str)) = false := by decide) (hcd : (x == ("__classdict__" : Str)) = false := by decide) : PE X (.Name x pos) (tVar i) := by
  intro pins s σ H Q I h
  obtain ⟨v, e, h⟩ := h
  obtain ⟨m, hn, hl⟩ := I.loc
  obtain ⟨u, r, l⟩ := hl i x v hN e hv
  have fin : EP X pins σ Q u s := ⟨v, H, I, r, h⟩
  rcases l with ⟨hk, hm⟩ | ⟨hk, c, hc, hcell⟩
  · exact wpAny_Name (wpAny_loadName_local I.ok.kind hk hn hm fin) hd
  · rcases hk with hk | hk
    · exact wpAny_Name (wpAny_loadName_cell I.ok.kind hk hc hcell fin) hd
    · exact wpAny_Name (wpAny_loadName_free I.ok.kind hk hc hcell fin hcd) hd
theorem pe_int {i j pos} : PE X (.Constant (.int i) j pos) (tC (.int i)) := fun _ _ _ H _ I h => wpAny_Constant_int ⟨.int i, H, I.tok _, ⟨_, rfl⟩, h⟩
theorem pe_bl {b j pos} : PE X (.Constant (.bool b) j pos) (tC (.bl b)) := fun _ _ _ H _ I h => Constant_bool ⟨.bl b, H, I, rfl, h⟩
theorem pe_non {j pos} : PE X (.Constant .none j pos) (tC .non) := fun _ _ _ H _ I h => Constant_none ⟨.non, H, I, rfl, h⟩
theorem pe_str {x j pos} : PE X (.Constant (.str x) j pos) (tC (.str x)) := fun _ _ _ H _ I h => Calls.Constant_str ⟨.str x, H, I.tok _, ⟨_, rfl⟩, h⟩

noncomputable def Gl (X : Cx) (x : Str) : Prop := X.env.kindOf x = some .globalImplicit
theorem ld_glob {E : Value → Shared → Prop} {pins : List (Addr × Obj)} {s : Shared} {σ : St} {H : Hp} {x : Str} {u : Value} {pos : Pos} {Q : Value → Shared → Prop} (I : Inv X pins σ H s) (hg : Gl X x) (hm : X.mg x = some u) (h : Q u s)
    (hd : (x == ("__debug__" : Str)) = false := by decide) : wpAny (model X.prog X.w) X.A (eval (.Name x pos) X.env) Q E s :=
  Calls.Name_function_global I.ok.kind hg (Calls.loadGlobal_global (by rw [I.ok.glob]; exact I.mod.glob.keeps I.bk) hm h) hd
theorem ld_blt {E : Value → Shared → Prop} {pins : List (Addr × Obj)} {s : Shared} {σ : St} {H : Hp} {x : Str} {u : Value} {pos : Pos} {Q : Value → Shared → Prop} (I : Inv X pins σ H s) (hg : Gl X x) (hm : X.mg x = none) (hv : bootBuiltins x = some u) (h : Q u s)
    (hn : x ≠ "__name__" := by decide) (hd : (x == ("__debug__" : Str)) = false := by decide) : wpAny (model X.prog X.w) X.A (eval (.Name x pos) X.env) Q E s := by
  obtain ⟨mb, h1, h2⟩ := I.mod.blt
  exact Calls.Name_function_global I.ok.kind hg (Calls.loadGlobal_builtin (by rw [I.ok.glob]; exact I.mod.glob.keeps I.bk) hm (by rw [I.ok.blt]; exact h1.keeps I.bk) ((h2 x hn).trans hv) h) hd
theorem pe_glob {x : Str} {v : V} {u : Value} {pos : Pos} (hg : Gl X x) (hm : X.mg x = some u) (r : RelV v u) (hd : (x == ("__debug__" : Str)) = false := by decide) : PE X (.Name x pos) (tC v) :=
  fun _ _ _ H _ I h => ld_glob I hg hm ⟨v, H, I, r, h⟩ hd
theorem pe_bltn {x : Str} {v : V} {u : Value} {pos : Pos} (hg : Gl X x) (hm : X.mg x = none) (hv : bootBuiltins x = some u) (r : RelV v u) (hn : x ≠ "__name__" := by decide) (hd : (x == ("__debug__" : Str)) = false := by decide) : PE X (.Name x pos) (tC v) :=
  fun _ _ _ H _ I h => ld_blt I hg hm hv ⟨v, H, I, r, h⟩ hn hd

variable {a b : Expr} {ta tb : TE} {pos : Pos}
noncomputable def PC (X : Cx) (op : CmpOp) (a b : Expr) (t : TE) : Prop :=
  ∀ (pins : List (Addr × Obj)) (s : Shared) (σ : St) (H : Hp) (Q : VK), Inv X pins σ H s → t σ H Q →
    wpAny (model X.prog X.w) X.A (eval a X.env) (fun v s₁ => wpAny (model X.prog X.w) X.A (eval b X.env) (fun u s₂ => wpAny (model X.prog X.w) X.A (compareOp op v u) (EP X pins σ Q) X.xe s₂) X.xe s₁) X.xe s
theorem nobehind (b : Expr) {op : CmpOp} (h : op ≠ .In) (h2 : op ≠ .NotIn) : behindInMarks op b = false := by
  have e1 : (op == CmpOp.In) = false := by cases op <;> first | rfl | exact absurd rfl h
  have e2 : (op == CmpOp.NotIn) = false := by cases op <;> first | rfl | exact absurd rfl h2
  cases b <;> simp [behindInMarks, e1, e2]
noncomputable def tB (t : TE) : TT := fun σ H Q => t σ H fun x H1 => ∃ c, x = .bl c ∧ Q c H1
theorem pt_cmp {op : CmpOp} {t : TE} (h : PC X op a b t) (h1 : behindInMarks op b = false := by first | exact nobehind _ (by decide) (by decide) | rfl) : PT X (.Compare a [op] [b] pos) (tB t) := by
  intro pins s σ H Q I hw
  refine wpAny_isTrue_Compare1 (thn (h pins s σ H _ I hw) fun v s1 h1 => thn h1 fun u s2 h2 => thn h2 fun c s3 ⟨x, H1, I1, r1, q1⟩ => ?_) h1
  obtain ⟨d, rfl, q⟩ := q1
  cases r1
  exact wpAny_truthy_bool ⟨H1, I1, q⟩
theorem pt_val {e : Expr} {t : TE} (h : PE X e t) (he : ∀ whole, isTrue e X.env whole = (do let v ← whole; standAt e.pos; holding [v] (truthy v)) := by intro _; rfl) : PT X e (tB t) := by
  intro pins s σ H Q I hw
  refine isTrue_plain (thn (h pins s σ H _ I hw) fun v s1 ⟨x, H1, I1, r1, q1⟩ => ?_) (he _)
  obtain ⟨d, rfl, q⟩ := q1
  cases r1
  exact wpAny_truthy_bool ⟨H1, I1, q⟩

variable {tA tB' : TT} {rest : List Expr}
noncomputable def tAnd (t u : TT) : TT := fun σ H Q => t σ H fun c H1 => if c = true then u σ H1 Q else Q false H1
noncomputable def tOr (t u : TT) : TT := fun σ H Q => t σ H fun c H1 => if c = true then Q true H1 else u σ H1 Q
noncomputable def tNot (t : TT) : TT := fun σ H Q => t σ H fun c H1 => Q (!c) H1
theorem pw_and1 (ha : PT X a tA) : PW X (.BoolOp .And [a] pos) tA := by
  intro wh pins s σ H Q I h
  refine isTrue_and (thn (ha pins s σ H Q I h) fun c s1 e => ?_)
  cases c with
  | true => exact isTrue_and_nil e
  | false => exact e
theorem pw_or1 (ha : PT X a tA) : PW X (.BoolOp .Or [a] pos) tA := by
  intro wh pins s σ H Q I h
  refine isTrue_or (thn (ha pins s σ H Q I h) fun c s1 e => ?_)
  cases c with
  | false => exact isTrue_or_nil e
  | true => exact e
theorem pw_and (ha : PT X a tA) (hb : PW X (.BoolOp .And (b :: rest) pos) tB') : PW X (.BoolOp .And (a :: b :: rest) pos) (tAnd tA tB') := by
  intro wh pins s σ H Q I h
  refine isTrue_and (thn (ha pins s σ H _ I h) fun c s1 ⟨H1, I1, q1⟩ => ?_)
  cases c with
  | true => exact hb wh pins s1 σ H1 Q I1 q1
  | false => exact ⟨H1, I1, q1⟩
theorem pw_or (ha : PT X a tA) (hb : PW X (.BoolOp .Or (b :: rest) pos) tB') : PW X (.BoolOp .Or (a :: b :: rest) pos) (tOr tA tB') := by
  intro wh pins s σ H Q I h
  refine isTrue_or (thn (ha pins s σ H _ I h) fun c s1 ⟨H1, I1, q1⟩ => ?_)
  cases c with
  | true => exact ⟨H1, I1, q1⟩
  | false => exact hb wh pins s1 σ H1 Q I1 q1
theorem pt_not (ha : PT X a tA) : PT X (.UnaryOp .Not a pos) (tNot tA) := by
  intro pins s σ H Q I h
  exact isTrue_not (ha pins s σ H (fun c H1 => Q (!c) H1) I h)
noncomputable def tAndV (ta tb : TE) : TE := fun σ H Q => ta σ H fun x H1 => ∃ c, x = .bl c ∧ if c = true then tb σ H1 Q else Q (.bl false) H1
theorem pe_one {op} {t : TE} (h : PE X a t) : PE X (.BoolOp op [a] pos) t := fun pins s σ H Q I hw => BoolOp_one (h pins s σ H Q I hw)
theorem pe_and (ha : PE X a ta) (hb : PE X (.BoolOp .And (b :: rest) pos) tb) : PE X (.BoolOp .And (a :: b :: rest) pos) (tAndV ta tb) := by
  intro pins s σ H Q I h
  refine BoolOp_and (thn (ha pins s σ H _ I h) fun v s1 ⟨x, H1, I1, r1, q1⟩ => ?_)
  obtain ⟨c, rfl, q1⟩ := q1
  cases r1
  refine wpAny_truthy_bool ?_
  cases c with
  | true => exact hb pins s1 σ H1 Q I1 q1
  | false => exact ⟨.bl false, H1, I1, rfl, q1⟩
end
end L2

namespace L2
open PySem PySem.Spec PyProof.Rows

noncomputable def SqL (K : PySem.W.Frag) (H : Hp) (a : Addr) (xs : List V) : Prop :=
  Rd H a (.lst xs) ∨
    ∃ (o : Obj) (its : Array Value) (n : Nat), K.lookup a = some o ∧ o.cls = .type "list" ∧ o.dict = none ∧ o.data = .seq its n ∧ its.size ≤ sizeLine ∧ Vals xs its.toList
noncomputable def SqT (K : PySem.W.Frag) (H : Hp) (a : Addr) (xs : List V) : Prop :=
  Rd H a (.tup xs) ∨
    ∃ (o : Obj) (its : Array Value) (n : Nat), K.lookup a = some o ∧ o.cls = .type "tuple" ∧ o.data = .seq its n ∧ its.size ≤ sizeLine ∧ Vals xs its.toList
noncomputable def absV : Value → Option V
  | .none => some .non
  | .bool b => some (.bl b)
  | .int i _ => some (.int i)
  | .str x _ => some (.str x)
  | .bytes b _ => some (.byt b)
  | .float b _ => some (.flt b)
  | .ref a => some (.ref a)
  | .type n => some (.ty n)
  | _ => none
theorem RelV.abs {x : V} {u : Value} (r : RelV x u) : absV u = some x := by
  cases x with
  | non => cases r; rfl
  | bl _ => cases r; rfl
  | int _ => obtain ⟨t, rfl⟩ := r; rfl
  | str _ => obtain ⟨t, rfl⟩ := r; rfl
  | byt _ => obtain ⟨t, rfl⟩ := r; rfl
  | flt _ => obtain ⟨t, rfl⟩ := r; rfl
  | ref _ => cases r; rfl
  | ty _ => cases r; rfl
theorem RelV.inj {x y : V} {u : Value} (r : RelV x u) (q : RelV y u) : x = y := Option.some.inj (r.abs.symm.trans q.abs)
theorem Vals.inj : ∀ {xs ys : List V} {us : List Value}, Vals xs us → Vals ys us → xs = ys
  | _, _, _, .nil, .nil => rfl
  | _, _, _, .cons r t, .cons r' t' => by rw [r.inj r', Vals.inj t t']
section
variable {X : Cx} {pins : List (Addr × Obj)} {σ : St} {H : Hp} {s : Shared} {a : Addr} {xs ys : List V}
theorem SqL.of {K : PySem.W.Frag} (h : H a = some (.lst xs)) : SqL K H a xs := .inl (.inl h)
theorem SqT.of {K : PySem.W.Frag} (h : H a = some (.tup xs)) : SqT K H a xs := .inl (.inl h)
theorem Inv.list (I : Inv X pins σ H s) (h : SqL X.K H a xs) : ∃ its : List Value, Vals xs its ∧ PlainL s.heap a its.toArray ∧ xs.length ≤ sizeLine := by
  rcases h with h | ⟨o, its, n, hk, hc, hd, hs, hz, r⟩
  · obtain ⟨z, its, n, r, e⟩ := h.ok I.hok
    exact ⟨its, r, ⟨_, n, e, rfl, rfl, rfl⟩, z⟩
  · refine ⟨its.toList, r, ⟨o, n, I.kIn a o hk, hc, hd, by simpa using hs⟩, ?_⟩
    have e := r.length
    simp only [Array.length_toList] at e
    omega
theorem Inv.tuple (I : Inv X pins σ H s) (h : SqT X.K H a xs) : ∃ its : List Value, Vals xs its ∧ IsTup s.heap a its.toArray ∧ xs.length ≤ sizeLine := by
  rcases h with h | ⟨o, its, n, hk, hc, hs, hz, r⟩
  · obtain ⟨z, its, r, p⟩ := h.ok I.hok
    exact ⟨its, r, p, z⟩
  · refine ⟨its.toList, r, ⟨o, I.kIn a o hk, hc, n, by simpa using hs⟩, ?_⟩
    have e := r.length
    simp only [Array.length_toList] at e
    omega
theorem Inv.list_inj (I : Inv X pins σ H s) (h : SqL X.K H a xs) (h' : SqL X.K H a ys) : xs = ys := by
  obtain ⟨its, r, ⟨o, n, e, _, _, d⟩, _⟩ := I.list h
  obtain ⟨its', r', ⟨o', n', e', _, _, d'⟩, _⟩ := I.list h'
  rw [e] at e'; cases e'
  rw [d] at d'
  injection d' with d1 _
  have : its = its' := by simpa using congrArg Array.toList d1
  subst this
  exact r.inj r'
theorem Inv.tuple_inj (I : Inv X pins σ H s) (h : SqT X.K H a xs) (h' : SqT X.K H a ys) : xs = ys := by
  obtain ⟨its, r, ⟨o, e, _, n, d⟩, _⟩ := I.tuple h
  obtain ⟨its', r', ⟨o', e', _, n', d'⟩, _⟩ := I.tuple h'
  rw [e] at e'; cases e'
  rw [d] at d'
  injection d' with d1 _
  have : its = its' := by simpa using congrArg Array.toList d1
  subst this
  exact r.inj r'
end

noncomputable abbrev Cx.wish (X : Cx) (E : Value → Shared → Prop) : Cx := { X with xe := E }
noncomputable abbrev Cx.nox (X : Cx) : Cx := X.wish fun _ _ => False
theorem Cx.Ok.wish {X : Cx} (ok : X.Ok) (E : Value → Shared → Prop) : (X.wish E).Ok :=
  ⟨ok.mod, ok.kind, ok.glob, ok.blt, ok.above, ok.inj, ok.has, ok.cab, ok.hd, ok.frames, ok.stk, ok.exf, ok.bs, ok.bsz, ok.noex, ok.exfs, ok.funs, ok.frf⟩
theorem Cx.Ok.unwish {X : Cx} {E : Value → Shared → Prop} (ok : (X.wish E).Ok) : X.Ok :=
  ⟨ok.mod, ok.kind, ok.glob, ok.blt, ok.above, ok.inj, ok.has, ok.cab, ok.hd, ok.frames, ok.stk, ok.exf, ok.bs, ok.bsz, ok.noex, ok.exfs, ok.funs, ok.frf⟩
section
variable {X : Cx} {pins : List (Addr × Obj)} {σ : St} {H : Hp} {s : Shared} {E : Value → Shared → Prop}
theorem Inv.wish (I : Inv X pins σ H s) (E : Value → Shared → Prop) : Inv (X.wish E) pins σ H s := ⟨I.ok.wish E, I.os, I.bare, I.base, I.loc, I.cell, I.free, I.freeC, I.pin, I.hok, I.len⟩
theorem Inv.unwish (I : Inv (X.wish E) pins σ H s) : Inv X pins σ H s := ⟨I.ok.unwish, I.os, I.bare, I.base, I.loc, I.cell, I.free, I.freeC, I.pin, I.hok, I.len⟩
theorem SP.unwish {D : Ends} {f : Flow} {s' : Shared} (h : SP (X.wish E) pins D f s') : SP X pins D f s' := by
  cases f with
  | next => obtain ⟨σ', H', I, q⟩ := h; exact ⟨σ', H', I.unwish, q⟩
  | brk => obtain ⟨σ', H', I, q⟩ := h; exact ⟨σ', H', I.unwish, q⟩
  | cont => obtain ⟨σ', H', I, q⟩ := h; exact ⟨σ', H', I.unwish, q⟩
  | ret u => obtain ⟨v, σ', H', I, r, q⟩ := h; exact ⟨v, σ', H', I.unwish, r, q⟩
theorem PSs.nox {st : List Stmt} {t : TS} (h : PSs X.nox st t) : PSs X st t := fun pins s σ H D I hw =>
  wpAny_mono (h pins s σ H D (I.wish _) hw) (fun _ _ q => q.unwish) fun _ _ z => False.elim z
end

section
variable {X : Cx} {st : Stmt} {rest : List Stmt} {t u : TS} {e : Expr} {te : TE} {pos : Pos}
noncomputable def tNext : TS := fun D σ H => D.nx σ H
noncomputable def tSeq (t u : TS) : TS := fun D σ H => t { D with nx := u D } σ H
theorem pss_nil : PSs X [] tNext := fun _ _ σ H _ I h => wpAny_execs_nil ⟨σ, H, I, h⟩
theorem pss_cons (h1 : PS X st t) (h2 : PSs X rest u) : PSs X (st :: rest) (tSeq t u) := by
  intro pins s σ H D I h
  refine wpAny_execs_cons (thn (h1 pins s σ H { D with nx := u D } I h) fun f s1 q => ?_)
  cases f with
  | next =>
    obtain ⟨σ', H', I', q⟩ := q
    exact h2 pins s1 σ' H' D I' q
  | ret v => exact q
  | brk => exact q
  | cont => exact q
theorem pss_one (h1 : PS X st t) : PSs X [st] t := by
  intro pins s σ H D I h
  refine wpAny_execs_cons (thn (h1 pins s σ H D I h) fun f s1 q => ?_)
  cases f with
  | next => exact wpAny_execs_nil q
  | ret v => exact q
  | brk => exact q
  | cont => exact q
theorem Inv.quiet {pins : List (Addr × Obj)} {σ : St} {H : Hp} {s : Shared} (I : Inv X pins σ H s) : interactive X.env = false := by simp [interactive, I.ok.kind]
noncomputable def tDrop (te : TE) : TS := fun D σ H => te σ H fun _ H1 => D.nx σ H1
theorem ps_expr (he : PE X e te) (hs : swapsWith e none pos.line X.env = pure false := by rfl) : PS X (.Expr e pos) (tDrop te) := by
  intro pins s σ H D I h
  exact wpAny_Expr_any (thn (he pins s σ H _ I h) fun v s1 ⟨x, H1, I1, r1, q1⟩ => ⟨σ, H1, I1, q1⟩) I.quiet hs
noncomputable def tRet (te : TE) : TS := fun D σ H => te σ H D.rt
theorem ps_ret (he : PE X e te) : PS X (.Return (some e) pos) (tRet te) := by
  intro pins s σ H D I h
  exact wpAny_Return_some (thn (he pins s σ H _ I h) fun v s1 ⟨x, H1, I1, r1, q1⟩ => ⟨x, σ, H1, I1, r1, q1⟩)
noncomputable def tIfS (c : TT) (t u : TS) : TS := fun D σ H => c σ H fun b H1 => if b = true then t D σ H1 else u D σ H1
theorem ps_if {c : Expr} {a b : List Stmt} {tc : TT} (hc : PT X c tc) (ha : PSs X a t) (hb : PSs X b u) : PS X (.If c a b pos) (tIfS tc t u) := by
  intro pins s σ H D I h
  refine wpAny_If (thn (hc pins s σ H _ I h) fun d s1 ⟨H1, I1, q1⟩ => ?_)
  cases d with
  | true => exact ha pins s1 σ H1 D I1 q1
  | false => exact hb pins s1 σ H1 D I1 q1
end

noncomputable abbrev TG := V → St → Hp → (St → Hp → Prop) → Prop
noncomputable def PG (X : Cx) (target : Expr) (t : TG) : Prop :=
  ∀ (pins : List (Addr × Obj)) (s : Shared) (σ : St) (H : Hp) (v : V) (u : Value) (Q : St → Hp → Prop), Inv X pins σ H s → RelV v u → t v σ H Q →
    wpAny (model X.prog X.w) X.A (assign target X.env u) (fun _ s' => ∃ σ' H', Inv X pins σ' H' s' ∧ Q σ' H') X.xe s
section
variable {X : Cx} {pos : Pos}
noncomputable def gName (i : Nat) : TG := fun v σ H Q => Q (σ.set i (some v)) H
theorem pg_name {i : Nat} {x : Str} (hN : X.N.Nodup) (hi : X.N[i]? = some x) (hx : Loc X.env.scope x) (hf : X.fn x = true ∨ X.env.scope.names.lookup x = some .local := by first | exact .inl rfl | exact .inr rfl | assumption) : PG X (.Name x pos) (gName i) := by
  intro pins s σ H v u Q I r h
  exact wpAny_assign_Name (store_ok I hN hi hx r (fun s' I' => ⟨_, H, I', h⟩) hf)
noncomputable def tAsg (te : TE) (g : TG) : TS := fun D σ H => te σ H fun x H1 => g x σ H1 D.nx
theorem ps_set {i : Nat} {x : Str} {e : Expr} {te : TE} {pos' : Pos} (hN : X.N.Nodup) (hi : X.N[i]? = some x) (hx : Loc X.env.scope x) (he : PE X e te) (hs : swapsWith e (some (.Name x pos')) pos.line X.env = pure false := by rfl) (hf : X.fn x = true ∨ X.env.scope.names.lookup x = some .local := by first | exact .inl rfl | exact .inr rfl | assumption) :
    PS X (.Assign [.Name x pos'] e pos) (tAsg te (gName i)) := by
  intro pins s σ H D I h
  refine wpAny_Assign_Name (thn (he pins s σ H _ I h) fun v s1 ⟨y, H1, I1, r1, q1⟩ => ?_) hs
  exact store_ok I1 hN hi hx r1 (fun s2 I2 => ⟨_, H1, I2, q1⟩) hf
end

section
variable {X : Cx} {pos : Pos}
end

structure It where
  go : Nat → Hp → Prop
  yld : Nat → Hp → V → Hp → Prop
  stop : Nat → Hp → Prop
noncomputable def FpOk (X : Cx) (pins : List (Addr × Obj)) (H : Hp) (b : Addr) : Prop :=
  H b = none ∧ b ≠ X.env.locals ∧ b ∉ X.fs ∧ (b ∈ X.ex ∨ X.s₀.heap.objs.size ≤ b) ∧ (∀ x c, X.env.cells.lookup x = some c → c ≠ b) ∧ ∀ p ∈ X.pn ++ pins, p.1 ≠ b
theorem Inv.fpOk {X : Cx} {pins : List (Addr × Obj)} {σ : St} {H H' : Hp} {s : Shared} {b : Addr} (I : Inv X pins σ H s) (hb : s.heap.objs.size ≤ b) (hn : H' b = none) : FpOk X pins H' b := by
  refine ⟨hn, Nat.ne_of_gt (Nat.lt_of_lt_of_le I.lt hb), I.nofs hb, .inr (Nat.le_trans I.sz hb), fun x c e z => ?_, fun p hp z => ?_⟩
  · obtain ⟨v, q⟩ := I.cell x c e
    exact absurd (Nat.lt_of_lt_of_le q.lt (by rw [z]; exact hb)) (Nat.lt_irrefl _)
  · exact absurd (Nat.lt_of_lt_of_le (Heap.lt_size (I.pin p hp).1) (by rw [z]; exact hb)) (Nat.lt_irrefl _)
structure Turn (P : Program) (w : World) (K : PySem.W.Frag) (tg : Expr) (J : It) (fp : List Addr) (it : Addr) (tn : Nat → Heap → Prop) : Prop where
  mem : it ∈ fp
  obj : ∀ i h, tn i h → ∀ b ∈ fp, ∃ o, h.get? b = some o ∧ ∀ v, o.data ≠ .cell v
  keep : ∀ i h h', tn i h → (∀ b ∈ fp, ∀ o, h.get? b = some o → h'.get? b = some o) → tn i h'
  item : ∀ (X : Cx), X.prog = P → X.w = w → X.K = K → X.calm = true → ∀ (i : Nat) (pins : List (Addr × Obj)) (s : Shared) (σ : St) (H : Hp) (E : Value → Shared → Prop), Inv X pins σ H s → (∀ b ∈ fp, FpOk X pins H b) → tn i s.heap → J.go i H →
    wpAny (model P w) X.A (pyNext (.ref it)) (fun r s1 => ∃ u, r = some u ∧
      wpAny (model P w) X.A (letOwnedTupleGo tg (.ref it) u) (fun _ s2 => ∃ x H', Inv X pins σ H' s2 ∧ RelV x u ∧ J.yld i H x H' ∧ tn (i + 1) s2.heap ∧ ∀ b ∈ fp, H' b = none) E s1) E s
  done : ∀ (X : Cx), X.prog = P → X.w = w → X.K = K → X.calm = true → ∀ (i : Nat) (pins : List (Addr × Obj)) (s : Shared) (σ : St) (H : Hp) (E : Value → Shared → Prop), Inv X pins σ H s → (∀ b ∈ fp, FpOk X pins H b) → tn i s.heap → J.stop i H →
    wpAny (model P w) X.A (pyNext (.ref it)) (fun r s1 => r = none ∧ Inv X pins σ H s1) E s
  self : ∀ (A : Around) (i : Nat) (s : Shared) (Q : Value → Shared → Prop) (E : Value → Shared → Prop), tn i s.heap → Q (.ref it) s → wpAny (model P w) A (pyIter (.ref it)) Q E s
noncomputable abbrev TI := St → Hp → (It → Hp → Prop) → Prop
noncomputable def PIE (X : Cx) (pins : List (Addr × Obj)) (σ : St) (tg : Expr) (R : It → Hp → Prop) (itv : Value) (s2 : Shared) : Prop :=
  ∃ (it : Addr) (fp : List Addr) (tn : Nat → Heap → Prop) (J : It) (H' : Hp), itv = .ref it ∧ Inv X pins σ H' s2 ∧ Turn X.prog X.w X.K tg J fp it tn ∧ tn 0 s2.heap ∧ (∀ b ∈ fp, FpOk X pins H' b) ∧ R J H'
noncomputable def PI (X : Cx) (tg iter : Expr) (wi : TI) : Prop :=
  ∀ (pins : List (Addr × Obj)) (s : Shared) (σ : St) (H : Hp) (R : It → Hp → Prop), Inv X pins σ H s → wi σ H R →
    wpAny (model X.prog X.w) X.A (eval iter X.env) (fun v s1 => wpAny (model X.prog X.w) X.A (pyIter v) (PIE X pins σ tg R) X.xe s1) X.xe s

theorem go_of {M : Model} {A : Around} {E : Value → Shared → Prop} {s : Shared} {tg : Expr} {it : Addr} {u : Value} {o : Obj} {n : String} {vs : Array Value} {Q : Unit → Shared → Prop} (ho : s.heap.get? it = some o) (hc : o.cls = .type n) (hd : o.data = .fields vs)
    (hn : ["enumerate", "zip", "dict_itemiterator", "dict_reverseitemiterator", "odict_iterator", "itertools.zip_longest", "itertools.pairwise"].contains n = false) (hQ : Q () s) : wpAny M A (letOwnedTupleGo tg (.ref it) u) Q E s := by
  unfold letOwnedTupleGo
  cases tg <;> first
    | exact wpAny_pure hQ
    | (cases u <;> first
        | exact wpAny_pure hQ
        | (refine wpAny_bind (wpAny_load ho ?_)
           rw [hc, hd]
           show wpAny M A (if (["enumerate", "zip", "dict_itemiterator", "dict_reverseitemiterator", "odict_iterator", "itertools.zip_longest", "itertools.pairwise"].contains n && vs[0]? == some (rawInt _)) = true then _ else _) Q E s
           rw [if_neg (by intro h; rw [hn, Bool.false_and] at h; cases h)]
           exact wpAny_pure hQ))

noncomputable def Itl (K : PySem.W.Frag) (a : Addr) : It :=
  ⟨fun i H => ∃ xs x, SqL K H a xs ∧ xs[i]? = some x, fun i H x H' => H' = H ∧ ∀ xs, SqL K H a xs → xs[i]? = some x, fun i H => ∃ xs, SqL K H a xs ∧ xs.length ≤ i⟩
noncomputable def Itt (K : PySem.W.Frag) (a : Addr) : It :=
  ⟨fun i H => ∃ xs x, SqT K H a xs ∧ xs[i]? = some x, fun i H x H' => H' = H ∧ ∀ xs, SqT K H a xs → xs[i]? = some x, fun i H => ∃ xs, SqT K H a xs ∧ xs.length ≤ i⟩
theorem turn_list {P : Program} {w : World} {K : PySem.W.Frag} {tg : Expr} (a it : Addr) : Turn P w K tg (Itl K a) [it] it (fun i h => h.IsListIter it a i) where
  mem := by simp
  obj := fun i h st b hb => by
    have e : b = it := by simpa using hb
    subst e
    obtain ⟨o, e, c, d⟩ := st
    exact ⟨o, e, fun v z => by rw [d] at z; cases z⟩
  keep := fun i h h' st k => st.at fun o e => k it (by simp) o e
  item := by
    intro X hP hw hK hc i pins s σ H E I hf st hg
    subst hP hw hK
    obtain ⟨xs, x, hq, hx⟩ := hg
    obtain ⟨its, rv, p, hz⟩ := I.list hq
    obtain ⟨u, hu, ru⟩ := rv.get hx
    obtain ⟨f0, f1, f2, f3, f4, f5⟩ := hf it (by simp)
    refine wpAny_pyNext_list_item st p.isList (x := u) (by simpa using hu) fun h' st' sb => ?_
    have I1 : Inv X pins σ H { s with heap := h' } := I.turned (t' := s.toks) (fun b o hb e => (sb.2 b hb).trans e) f0 f1 f3 f4 f5
    obtain ⟨o, e, c, d⟩ := id st'
    exact ⟨u, rfl, go_of (s := { s with heap := h' }) e c d (by decide) ⟨x, H, I1, ru, ⟨rfl, fun ys hy => by rw [I.list_inj hy hq]; exact hx⟩, st', fun b hb => (hf b hb).1⟩⟩
  done := by
    intro X hP hw hK hc i pins s σ H E I hf st hg
    subst hP hw hK
    obtain ⟨xs, hq, hx⟩ := hg
    obtain ⟨its, rv, p, hz⟩ := I.list hq
    obtain ⟨f0, f1, f2, f3, f4, f5⟩ := hf it (by simp)
    have hl := rv.length
    exact wpAny_pyNext_list_end (I.ok.hd hc) st p.isList (by simp; omega) fun h' eb => ⟨rfl, I.turned (t' := s.toks) (fun b o hb e => eb b o hb e) f0 f1 f3 f4 f5⟩
  self := fun _ _ _ _ _ st h => wpAny_pyIter_listiter st h
theorem turn_tuple {P : Program} {w : World} {K : PySem.W.Frag} {tg : Expr} (a it : Addr) : Turn P w K tg (Itt K a) [it] it (fun i h => h.IsTupleIter it a i) where
  mem := by simp
  obj := fun i h st b hb => by
    have e : b = it := by simpa using hb
    subst e
    obtain ⟨o, e, c, d⟩ := st
    exact ⟨o, e, fun v z => by rw [d] at z; cases z⟩
  keep := fun i h h' st k => st.at fun o e => k it (by simp) o e
  item := by
    intro X hP hw hK hc i pins s σ H E I hf st hg
    subst hP hw hK
    obtain ⟨xs, x, hq, hx⟩ := hg
    obtain ⟨its, rv, p, hz⟩ := I.tuple hq
    obtain ⟨u, hu, ru⟩ := rv.get hx
    obtain ⟨f0, f1, f2, f3, f4, f5⟩ := hf it (by simp)
    refine wpAny_pyNext_tuple_item st (show s.heap.IsTuple a its.toArray from p) (x := u) (by simpa using hu) fun h' st' sb => ?_
    have I1 : Inv X pins σ H { s with heap := h' } := I.turned (t' := s.toks) (fun b o hb e => (sb.2 b hb).trans e) f0 f1 f3 f4 f5
    obtain ⟨o, e, c, d⟩ := id st'
    exact ⟨u, rfl, go_of (s := { s with heap := h' }) e c d (by decide) ⟨x, H, I1, ru, ⟨rfl, fun ys hy => by rw [I.tuple_inj hy hq]; exact hx⟩, st', fun b hb => (hf b hb).1⟩⟩
  done := by
    intro X hP hw hK hc i pins s σ H E I hf st hg
    subst hP hw hK
    obtain ⟨xs, hq, hx⟩ := hg
    obtain ⟨its, rv, p, hz⟩ := I.tuple hq
    obtain ⟨f0, f1, f2, f3, f4, f5⟩ := hf it (by simp)
    have hl := rv.length
    exact wpAny_pyNext_tuple_end (I.ok.hd hc) st (show s.heap.IsTuple a its.toArray from p) (by simp; omega) fun h' eb => ⟨rfl, I.turned (t' := s.toks) (fun b o hb e => eb b o hb e) f0 f1 f3 f4 f5⟩
  self := fun _ _ _ _ _ st h => wpAny_pyIter_tupleiter st h
end L2

namespace L2
open PySem PySem.Spec PyProof.Rows
section
variable {X : Cx} {tg : Expr}
noncomputable def iList (K : PySem.W.Frag) (tl : TE) : TI := fun σ H R => tl σ H fun x H1 => ∃ a, x = .ref a ∧ (∃ xs, SqL K H1 a xs) ∧ R (Itl K a) H1
noncomputable def iTup (K : PySem.W.Frag) (tl : TE) : TI := fun σ H R => tl σ H fun x H1 => ∃ a, x = .ref a ∧ (∃ xs, SqT K H1 a xs) ∧ R (Itt K a) H1
theorem pi_list {l : Expr} {tl : TE} (hl : PE X l tl) : PI X tg l (iList X.K tl) := by
  intro pins s σ H R I h
  refine thn (hl pins s σ H _ I h) fun v s1 ⟨x, H1, I1, r1, q1⟩ => ?_
  obtain ⟨a, e, ⟨xs, hq⟩, q⟩ := q1
  subst e
  cases r1
  obtain ⟨its, rv, p, hz⟩ := I1.list hq
  refine wpAny_pyIter_list p.isList ?_
  refine ⟨s1.heap.objs.size, [s1.heap.objs.size], _, _, H1, rfl, I1.kept (t' := s1.toks) fun b o e => Heap.get?_push_of_some _ e, turn_list a _, ⟨_, Heap.get?_push_size _ rfl, rfl, rfl⟩, fun b hb => ?_, q⟩
  have e : b = s1.heap.objs.size := by simpa using hb
  subst e
  exact I1.fpOk (Nat.le_refl _) (I1.hok.fresh (Nat.le_refl _))
theorem pi_tup {l : Expr} {tl : TE} (hl : PE X l tl) : PI X tg l (iTup X.K tl) := by
  intro pins s σ H R I h
  refine thn (hl pins s σ H _ I h) fun v s1 ⟨x, H1, I1, r1, q1⟩ => ?_
  obtain ⟨a, e, ⟨xs, hq⟩, q⟩ := q1
  subst e
  cases r1
  obtain ⟨its, rv, p, hz⟩ := I1.tuple hq
  refine wpAny_pyIter_tuple (show s1.heap.IsTuple a its.toArray from p) ?_
  refine ⟨s1.heap.objs.size, [s1.heap.objs.size], _, _, H1, rfl, I1.kept (t' := s1.toks) fun b o e => Heap.get?_push_of_some _ e, turn_tuple a _, ⟨_, Heap.get?_push_size _ rfl, rfl, rfl⟩, fun b hb => ?_, q⟩
  have e : b = s1.heap.objs.size := by simpa using hb
  subst e
  exact I1.fpOk (Nat.le_refl _) (I1.hok.fresh (Nat.le_refl _))
noncomputable def tFor (wi : TI) (g : TG) (tb : TS) : TS := fun D σ H => wi σ H fun J H1 => ∃ W : Nat → Nat → St → Hp → Prop, (∃ m, W 0 m σ H1) ∧ ∀ i m σ H, W i m σ H →
  (J.stop i H ∧ D.nx σ H) ∨ (J.go i H ∧ ∃ N : St → Hp → Prop, (∀ σ' H', N σ' H' → ∃ m', m' < m ∧ W (i + 1) m' σ' H') ∧ ∀ x H', J.yld i H x H' → g x σ H' fun σ2 H2 => tb { D with nx := N, ct := N, bk := D.nx } σ2 H2)
noncomputable def pinsAt (fp : List Addr) (h : Heap) : List (Addr × Obj) := fp.filterMap fun b => (h.get? b).map fun o => (b, o)
theorem mem_pinsAt {fp : List Addr} {h : Heap} {b : Addr} {o : Obj} (hb : b ∈ fp) (e : h.get? b = some o) : (b, o) ∈ pinsAt fp h := List.mem_filterMap.mpr ⟨b, hb, by rw [e]; rfl⟩
theorem of_pinsAt {fp : List Addr} {h : Heap} {p : Addr × Obj} (hp : p ∈ pinsAt fp h) : p.1 ∈ fp ∧ h.get? p.1 = some p.2 := by
  obtain ⟨b, hb, e⟩ := List.mem_filterMap.mp hp
  cases q : h.get? b with
  | none => rw [q] at e; cases e
  | some o =>
    rw [q] at e
    have e' : (b, o) = p := Option.some.inj e
    subst e'
    exact ⟨hb, q⟩
theorem Inv.pinned {pins : List (Addr × Obj)} {σ : St} {H : Hp} {s : Shared} {fp : List Addr} (I : Inv X pins σ H s) (hf : ∀ b ∈ fp, FpOk X pins H b) (ho : ∀ b ∈ fp, ∃ o, s.heap.get? b = some o ∧ ∀ v, o.data ≠ .cell v) : Inv X (pins ++ pinsAt fp s.heap) σ H s :=
  I.pins_of fun p hp => (List.mem_append.mp hp).elim (fun z => I.pin p (List.mem_append_right _ z)) fun z => by
    obtain ⟨hb, e⟩ := of_pinsAt z
    obtain ⟨f0, f1, f2, _⟩ := hf p.1 hb
    obtain ⟨o, e', d⟩ := ho p.1 hb
    rw [e] at e'; cases e'
    exact ⟨e, f0, f1, f2, d⟩
theorem Inv.unpinned {pins pl : List (Addr × Obj)} {σ : St} {H : Hp} {s : Shared} (I : Inv X (pins ++ pl) σ H s) : Inv X pins σ H s := I.pins_of fun p hp => I.pin p (List.mem_append_right _ (List.mem_append_left _ hp))
theorem ps_for {iter : Expr} {body : List Stmt} {wi : TI} {g : TG} {tb : TS} {pos : Pos} (hp : PassesOwn (model X.prog X.w) X.A X.env X.xe) (hc : X.calm = true) (hi : PI X tg iter wi) (hg : PG X tg g) (hb : PSs X body tb)
    (hs : ∀ x, foldedSetIterable iter X.env x = pure x := by intro _; rfl) : PS X (.For tg iter body [] pos) (tFor wi g tb) := by
  intro pins s σ H D I h
  refine wpAny_For (thn (hi pins s σ H _ I h) fun v s1 h1 => thn h1 fun itv s2 h2 => ?_) hs
  obtain ⟨it, fp, tn, J, H2, e, I2, T, st2, f2, W, ⟨m0, w0⟩, turn⟩ := h2
  subst e
  -- what stays true of the iterator's objects through the loop
  have stat : ∀ {H' : Hp}, (∀ b ∈ fp, H' b = none) → ∀ b ∈ fp, FpOk X pins H' b := fun hn b hb => ⟨hn b hb, (f2 b hb).2⟩
  refine codeAny_forLoop_any (fun n s' => ∃ i σ' H', Inv X pins σ' H' s' ∧ tn i s'.heap ∧ (∀ b ∈ fp, H' b = none) ∧ W i n σ' H') ?_ m0 ⟨0, σ, H2, I2, st2, fun b hb => (f2 b hb).1, w0⟩
  rintro n s3 ⟨i, σ3, H3, I3, st3, fr3, w3⟩
  rcases turn i n σ3 H3 w3 with ⟨stop, qn⟩ | ⟨go, N, hN, step⟩
  · refine wpAny_passesOwn hp (thn (T.done X rfl rfl rfl hc i pins s3 σ3 H3 X.xe I3 (stat fr3) st3 stop) fun r s4 ⟨hr, I4⟩ => ?_)
    subst hr
    exact wpAny_execs_nil ⟨σ3, H3, I4, qn⟩
  · refine wpAny_passesOwn hp (thn (T.item X rfl rfl rfl hc i pins s3 σ3 H3 X.xe I3 (stat fr3) st3 go) fun r s4 ⟨u, hr, h4⟩ => ?_)
    subst hr
    refine wpAny_passesOwn hp (thn h4 fun _ s5 ⟨x, H5, I5, r5, y5, st5, fr5⟩ => ?_)
    have I5' := I5.pinned (stat fr5) (T.obj _ _ st5)
    refine wpAny_passesOwn hp (thn (hg _ s5 σ3 H5 x u _ I5' r5 (step x H5 y5)) fun _ s6 ⟨σ6, H6, I6, q6⟩ => ?_)
    refine wpAny_passesOwn hp (thn (hb _ s6 σ6 H6 _ I6 q6) fun f s7 q7 => ?_)
    have again : ∀ {σ7 : St} {H7 : Hp}, Inv X (pins ++ pinsAt fp s5.heap) σ7 H7 s7 → N σ7 H7 → ∃ m, m < n ∧ ∃ i σ' H', Inv X pins σ' H' s7 ∧ tn i s7.heap ∧ (∀ b ∈ fp, H' b = none) ∧ W i m σ' H' := fun {σ7 H7} I7 n7 => by
      obtain ⟨m', hm, w7⟩ := hN σ7 H7 n7
      refine ⟨m', hm, i + 1, σ7, H7, I7.unpinned, T.keep _ _ _ st5 fun b hb o e => (I7.pin (b, o) (List.mem_append_right _ (List.mem_append_right _ (mem_pinsAt hb e)))).1, fun b hb => ?_, w7⟩
      obtain ⟨o, e, d⟩ := T.obj _ _ st5 b hb
      exact (I7.pin (b, o) (List.mem_append_right _ (List.mem_append_right _ (mem_pinsAt hb e)))).2.1
    cases f with
    | next => obtain ⟨σ7, H7, I7, n7⟩ := q7; exact again I7 n7
    | cont => obtain ⟨σ7, H7, I7, n7⟩ := q7; exact again I7 n7
    | brk => obtain ⟨σ7, H7, I7, q7⟩ := q7; exact ⟨σ7, H7, I7.unpinned, q7⟩
    | ret v => obtain ⟨x7, σ7, H7, I7, r7, q7⟩ := q7; exact ⟨x7, σ7, H7, I7.unpinned, r7, q7⟩
end

theorem for_list {K : PySem.W.Frag} {a : Addr} {xs : List V} {g : TG} {tb : TS} {D : Ends} {σ : St} {H : Hp} (Pv : Nat → St → Hp → Prop) (h0 : Pv 0 σ H) (hl : ∀ i σ H, i ≤ xs.length → Pv i σ H → SqL K H a xs)
    (hs : ∀ i x σ H, xs[i]? = some x → Pv i σ H → g x σ H fun σ2 H2 => tb { D with nx := Pv (i + 1), ct := Pv (i + 1), bk := D.nx } σ2 H2) (hd : ∀ σ H, Pv xs.length σ H → D.nx σ H) :
    ∃ W : Nat → Nat → St → Hp → Prop, (∃ m, W 0 m σ H) ∧ ∀ i m σ H, W i m σ H →
      ((Itl K a).stop i H ∧ D.nx σ H) ∨ ((Itl K a).go i H ∧ ∃ N : St → Hp → Prop, (∀ σ' H', N σ' H' → ∃ m', m' < m ∧ W (i + 1) m' σ' H') ∧ ∀ x H', (Itl K a).yld i H x H' → g x σ H' fun σ2 H2 => tb { D with nx := N, ct := N, bk := D.nx } σ2 H2) := by
  refine ⟨fun i m σ H => m = xs.length - i ∧ i ≤ xs.length ∧ Pv i σ H, ⟨xs.length, by simp, Nat.zero_le _, h0⟩, ?_⟩
  rintro i m σ H ⟨rfl, hi, p⟩
  have q := hl i σ H hi p
  by_cases hlt : i < xs.length
  · refine .inr ⟨⟨xs, xs[i], q, by simp [hlt]⟩, Pv (i + 1), fun σ' H' p' => ⟨xs.length - (i + 1), by omega, rfl, hlt, p'⟩, fun x H' y => ?_⟩
    obtain ⟨e, y⟩ := y
    subst e
    exact hs i x σ _ (y xs q) p
  · have e : i = xs.length := by omega
    subst e
    exact .inl ⟨⟨xs, q, Nat.le_refl _⟩, hd σ H p⟩
end L2

namespace L2
open PySem PySem.Spec PyProof.Rows

noncomputable abbrev R2 := V → V → Hp → VK → Prop
noncomputable def OpR (X : Cx) (f : Value → Value → Sem Value) (r : R2) : Prop :=
  ∀ (pins : List (Addr × Obj)) (s : Shared) (σ : St) (H : Hp) (x y : V) (v u : Value) (Q : VK), Inv X pins σ H s → RelV x v → RelV y u → r x y H Q →
    wpAny (model X.prog X.w) X.A (f v u) (EP X pins σ Q) X.xe s
noncomputable def UnR (X : Cx) (f : Value → Sem Value) (r : V → Hp → VK → Prop) : Prop :=
  ∀ (pins : List (Addr × Obj)) (s : Shared) (σ : St) (H : Hp) (x : V) (v : Value) (Q : VK), Inv X pins σ H s → RelV x v → r x H Q →
    wpAny (model X.prog X.w) X.A (f v) (EP X pins σ Q) X.xe s
noncomputable def CallR (X : Cx) (f : Value) (r : List V → Hp → VK → Prop) : Prop :=
  ∀ (pins : List (Addr × Obj)) (s : Shared) (σ : St) (H : Hp) (xs : List V) (us : List Value) (Q : VK), Inv X pins σ H s → Vals xs us → r xs H Q →
    wpAny (model X.prog X.w) X.A (call f us) (EP X pins σ Q) X.xe s
noncomputable def tOp (r : R2) (ta tb : TE) : TE := fun σ H Q => ta σ H fun x H1 => tb σ H1 fun y H2 => r x y H2 Q
noncomputable def tUn (r : V → Hp → VK → Prop) (ta : TE) : TE := fun σ H Q => ta σ H fun x H1 => r x H1 Q
noncomputable def rI (C : Int → Int → Prop) (g : Int → Int → V) : R2 := fun x y H Q => ∃ i j, x = .int i ∧ y = .int j ∧ C i j ∧ Q (g i j) H
noncomputable def rI0 (g : Int → Int → V) : R2 := fun x y H Q => ∃ i j, x = .int i ∧ y = .int j ∧ Q (g i j) H
noncomputable def rU (g : Int → V) : V → Hp → VK → Prop := fun x H Q => ∃ i, x = .int i ∧ Q (g i) H

section
variable {X : Cx} {a b c : Expr} {ta tb tc : TE} {pos : Pos}

theorem binT (ha : PE X a ta) (hb : PE X b tb) {pins : List (Addr × Obj)} {s : Shared} {σ : St} {H : Hp} {R : V → V → Hp → Prop} (I : Inv X pins σ H s)
    (h : ta σ H fun x H1 => tb σ H1 fun y H2 => R x y H2) {Q : Value → Shared → Prop} {f : Value → Value → Sem Value}
    (hf : ∀ v u s2 x y H2, Inv X pins σ H2 s2 → RelV x v → RelV y u → R x y H2 → wpAny (model X.prog X.w) X.A (f v u) Q X.xe s2) :
    wpAny (model X.prog X.w) X.A (eval a X.env) (fun v s₁ => wpAny (model X.prog X.w) X.A (eval b X.env) (fun u s₂ => wpAny (model X.prog X.w) X.A (f v u) Q X.xe s₂) X.xe s₁) X.xe s := by
  refine thn (ha pins s σ H _ I h) fun v s1 ⟨x, H1, I1, r1, q1⟩ => ?_
  refine thn (hb pins s1 σ H1 _ I1 q1) fun u s2 ⟨y, H2, I2, r2, q2⟩ => ?_
  exact hf v u s2 x y H2 I2 r1 r2 q2

theorem pe_op {op : Operator} {r : R2} (ho : OpR X (binaryOp op) r) (ha : PE X a ta) (hb : PE X b tb) : PE X (.BinOp a op b pos) (tOp r ta tb) := by
  intro pins s σ H Q I h
  exact wpAny_BinOp (binT ha hb I h fun v u s2 x y H2 I2 rx ry q => ho pins s2 σ H2 x y v u Q I2 rx ry q)
theorem pe_un {op : UnaryOp} {r : V → Hp → VK → Prop} (ho : UnR X (unaryOp op) r) (ha : PE X a ta) : PE X (.UnaryOp op a pos) (tUn r ta) := by
  intro pins s σ H Q I h
  exact UnaryOp_ (thn (ha pins s σ H _ I h) fun v s1 ⟨x, H1, I1, r1, q1⟩ => ho pins s1 σ H1 x v Q I1 r1 q1)
theorem opI {f : Value → Value → Sem Value} {C : Int → Int → Prop} {g : Int → Int → Int}
    (rule : ∀ (i j : Int) (t u : Tok) (s : Shared) (Q : Value → Shared → Prop) (E : Value → Shared → Prop), C i j → Q (.int (g i j) s.toks) { s with toks := s.toks + 1 } → wpAny (model X.prog X.w) X.A (f (.int i t) (.int j u)) Q E s) :
    OpR X f (rI C fun i j => .int (g i j)) := by
  intro pins s σ H x y v u Q I rx ry h
  obtain ⟨i, j, rfl, rfl, hc, q⟩ := h
  obtain ⟨t, rfl⟩ := rx
  obtain ⟨t', rfl⟩ := ry
  exact rule i j t t' s _ _ hc ⟨.int (g i j), H, I.tok _, ⟨_, rfl⟩, q⟩
theorem opI0 {f : Value → Value → Sem Value} {g : Int → Int → Int}
    (rule : ∀ (i j : Int) (t u : Tok) (s : Shared) (Q : Value → Shared → Prop) (E : Value → Shared → Prop), Q (.int (g i j) s.toks) { s with toks := s.toks + 1 } → wpAny (model X.prog X.w) X.A (f (.int i t) (.int j u)) Q E s) :
    OpR X f (rI0 fun i j => .int (g i j)) := by
  intro pins s σ H x y v u Q I rx ry h
  obtain ⟨i, j, rfl, rfl, q⟩ := h
  obtain ⟨t, rfl⟩ := rx
  obtain ⟨t', rfl⟩ := ry
  exact rule i j t t' s _ _ ⟨.int (g i j), H, I.tok _, ⟨_, rfl⟩, q⟩
theorem opB0 {f : Value → Value → Sem Value} {g : Int → Int → Bool}
    (rule : ∀ (i j : Int) (t u : Tok) (s : Shared) (Q : Value → Shared → Prop) (E : Value → Shared → Prop), Q (.bool (g i j)) s → wpAny (model X.prog X.w) X.A (f (.int i t) (.int j u)) Q E s) :
    OpR X f (rI0 fun i j => .bl (g i j)) := by
  intro pins s σ H x y v u Q I rx ry h
  obtain ⟨i, j, rfl, rfl, q⟩ := h
  obtain ⟨t, rfl⟩ := rx
  obtain ⟨t', rfl⟩ := ry
  exact rule i j t t' s _ _ ⟨.bl (g i j), H, I, rfl, q⟩

noncomputable def CDiv (i j : Int) : Prop := 0 < j ∧ j < 1073741824
noncomputable def CPow (i j : Int) : Prop := 0 ≤ j ∧ j ≤ 1000000 ∧ i.natAbs < 2 ^ 64
noncomputable def CMul (i j : Int) : Prop := (-(2 ^ 64) < i ∧ i < 2 ^ 64) ∨ (-(2 ^ 64) < j ∧ j < 2 ^ 64)
theorem CMul.ok {i j : Int} (h : CMul i j) : IntMulOk i j := by
  rcases h with ⟨h1, h2⟩ | ⟨h1, h2⟩
  · exact .of_left (intBits_le_64 h1 h2)
  · exact .of_right (intBits_le_64 h1 h2)
theorem op_add : OpR X (binaryOp .Add) (rI0 fun i j => .int (i + j)) := opI0 fun _ _ _ _ _ _ _ q => add_int q
theorem op_mul : OpR X (binaryOp .Mult) (rI CMul fun i j => .int (i * j)) := opI fun _ _ _ _ _ _ _ hc q => mul_int q hc.ok
theorem op_fdiv : OpR X (binaryOp .FloorDiv) (rI CDiv fun i j => .int (i / j)) := opI fun i j _ _ _ _ _ hc q => by
  have h1 : (0 : Int) < j := hc.1
  have h2 : j < 1073741824 := hc.2
  exact floordiv_int (by omega) (by rw [Int.fdiv_eq_ediv_of_nonneg i (by omega)]; exact q) (.inl (PyProof.noPylong_small (by omega)))
theorem op_mod : OpR X (binaryOp .Mod) (rI (fun _ j => 0 < j) fun i j => .int (i % j)) := opI fun i j _ _ _ _ _ hc q => by
  have h1 : (0 : Int) < j := hc
  exact mod_int' (by omega) (by rw [Int.fmod_eq_emod_of_nonneg i (by omega)]; exact q)
theorem op_pow : OpR X (binaryOp .Pow) (rI CPow fun i j => .int (i ^ j.toNat)) := opI fun _ _ _ _ _ _ _ hc q => pow_int_small hc.1 hc.2.1 hc.2.2 q
theorem unI {f : Value → Sem Value} {g : Int → Int}
    (rule : ∀ (i : Int) (t : Tok) (s : Shared) (Q : Value → Shared → Prop) (E : Value → Shared → Prop), Q (.int (g i) s.toks) { s with toks := s.toks + 1 } → wpAny (model X.prog X.w) X.A (f (.int i t)) Q E s) :
    UnR X f (rU fun i => .int (g i)) := by
  intro pins s σ H x v Q I rx h
  obtain ⟨i, rfl, q⟩ := h
  obtain ⟨t, rfl⟩ := rx
  exact rule i t s _ _ ⟨.int (g i), H, I.tok _, ⟨_, rfl⟩, q⟩
theorem un_neg : UnR X (unaryOp .USub) (rU fun i => .int (-i)) := unI fun _ _ _ _ _ q => neg_int q
end

noncomputable def scal : V → V → Bool
  | .non, .non => true | .non, .int _ => true | .int _, .non => true | .non, .bl _ => true | .bl _, .non => true | .non, .str _ => true | .str _, .non => true
  | .int _, .int _ => true | .bl _, .bl _ => true | .str _, .str _ => true | .byt _, .byt _ => true
  | .int _, .str _ => true | .str _, .int _ => true | .bl _, .str _ => true | .str _, .bl _ => true
  | _, _ => false
noncomputable def rEq : R2 := fun x y H Q => scal x y = true ∧ Q (.bl (decide (x = y))) H
noncomputable def rNe : R2 := fun x y H Q => scal x y = true ∧ Q (.bl (!decide (x = y))) H

theorem dec_int {i j : Int} : decide (V.int i = V.int j) = (i == j) := by
  rw [Bool.eq_iff_iff]
  simp
theorem dec_bl {i j : Bool} : decide (V.bl i = V.bl j) = (i == j) := by
  rw [Bool.eq_iff_iff]
  simp
theorem dec_str {i j : Str} : decide (V.str i = V.str j) = (i == j) := by
  rw [Bool.eq_iff_iff]
  simp
theorem dec_byt {i j : Array UInt8} : decide (V.byt i = V.byt j) = (i.toList == j.toList) := by
  rw [Bool.eq_iff_iff]
  cases i
  cases j
  simp

section
variable {X : Cx} {a b c : Expr} {ta tb tc : TE} {pos : Pos}
theorem fin_bl {pins : List (Addr × Obj)} {σ : St} {H : Hp} {s : Shared} {Q : VK} {k k' : Bool} (I : Inv X pins σ H s) (q : Q (.bl k) H) (e : k = k') : EP X pins σ Q (.bool k') s := by
  subst e
  exact ⟨.bl k, H, I, rfl, q⟩
theorem op_eq : OpR X (compareOp .Eq) rEq := by
  intro pins s σ H x y v u Q I rx ry h
  obtain ⟨hs, q⟩ := h
  cases x with
  | non =>
    cases rx
    cases y with
    | non => cases ry; exact PySem.EqNone.eq_none_none (fin_bl I q (by simp))
    | bl j => cases ry; exact PySem.EqNone.eq_none_bool (fin_bl I q (by simp))
    | int j => obtain ⟨t', rfl⟩ := ry; exact PySem.EqNone.eq_none_int (fin_bl I q (by simp))
    | str j => obtain ⟨t', rfl⟩ := ry; exact PySem.EqNone.eq_none_str (fin_bl I q (by simp))
    | _ => exact absurd (show false = true from hs) Bool.false_ne_true
  | bl i =>
    cases rx
    cases y with
    | non => cases ry; exact PySem.EqNone.eq_bool_none (fin_bl I q (by simp))
    | bl j => cases ry; exact eq_bool (fin_bl I q dec_bl)
    | str j => obtain ⟨t', rfl⟩ := ry; exact PySem.EqMixed.eq_bool_str (fin_bl I q (by simp))
    | _ => exact absurd (show false = true from hs) Bool.false_ne_true
  | int i =>
    obtain ⟨t, rfl⟩ := rx
    cases y with
    | non => cases ry; exact PySem.EqNone.eq_int_none (fin_bl I q (by simp))
    | int j => obtain ⟨t', rfl⟩ := ry; exact eq_int (fin_bl I q dec_int)
    | str j => obtain ⟨t', rfl⟩ := ry; exact PySem.EqMixed.eq_int_str (fin_bl I q (by simp))
    | _ => exact absurd (show false = true from hs) Bool.false_ne_true
  | str i =>
    obtain ⟨t, rfl⟩ := rx
    cases y with
    | non => cases ry; exact PySem.EqNone.eq_str_none (fin_bl I q (by simp))
    | bl j => cases ry; exact PySem.EqMixed.eq_str_bool (fin_bl I q (by simp))
    | int j => obtain ⟨t', rfl⟩ := ry; exact PySem.EqMixed.eq_str_int (fin_bl I q (by simp))
    | str j => obtain ⟨t', rfl⟩ := ry; exact eq_str (fin_bl I q dec_str)
    | _ => exact absurd (show false = true from hs) Bool.false_ne_true
  | byt i =>
    obtain ⟨t, rfl⟩ := rx
    cases y with
    | byt j => obtain ⟨t', rfl⟩ := ry; exact PySem.W.eq_bytes (fin_bl I q dec_byt)
    | _ => exact absurd (show false = true from hs) Bool.false_ne_true
  | _ => cases y <;> exact absurd (show false = true from hs) Bool.false_ne_true
theorem op_ne : OpR X (compareOp .NotEq) rNe := by
  intro pins s σ H x y v u Q I rx ry h
  obtain ⟨hs, q⟩ := h
  cases x with
  | non =>
    cases rx
    cases y with
    | non => cases ry; exact PySem.EqNone.ne_none_none (fin_bl I q (by simp))
    | bl j => cases ry; exact PySem.EqNone.ne_none_bool (fin_bl I q (by simp))
    | int j => obtain ⟨t', rfl⟩ := ry; exact PySem.EqNone.ne_none_int (fin_bl I q (by simp))
    | str j => obtain ⟨t', rfl⟩ := ry; exact PySem.EqNone.ne_none_str (fin_bl I q (by simp))
    | _ => exact absurd (show false = true from hs) Bool.false_ne_true
  | bl i =>
    cases rx
    cases y with
    | non => cases ry; exact PySem.EqNone.ne_bool_none (fin_bl I q (by simp))
    | bl j => cases ry; exact ne_bool (fin_bl I q (congrArg not dec_bl))
    | str j => obtain ⟨t', rfl⟩ := ry; exact PySem.EqMixed.ne_bool_str (fin_bl I q (by simp))
    | _ => exact absurd (show false = true from hs) Bool.false_ne_true
  | int i =>
    obtain ⟨t, rfl⟩ := rx
    cases y with
    | non => cases ry; exact PySem.EqNone.ne_int_none (fin_bl I q (by simp))
    | int j => obtain ⟨t', rfl⟩ := ry; exact ne_int (fin_bl I q (congrArg not dec_int))
    | str j => obtain ⟨t', rfl⟩ := ry; exact PySem.EqMixed.ne_int_str (fin_bl I q (by simp))
    | _ => exact absurd (show false = true from hs) Bool.false_ne_true
  | str i =>
    obtain ⟨t, rfl⟩ := rx
    cases y with
    | non => cases ry; exact PySem.EqNone.ne_str_none (fin_bl I q (by simp))
    | bl j => cases ry; exact PySem.EqMixed.ne_str_bool (fin_bl I q (by simp))
    | int j => obtain ⟨t', rfl⟩ := ry; exact PySem.EqMixed.ne_str_int (fin_bl I q (by simp))
    | str j => obtain ⟨t', rfl⟩ := ry; exact ne_str (fin_bl I q (congrArg not dec_str))
    | _ => exact absurd (show false = true from hs) Bool.false_ne_true
  | byt i =>
    obtain ⟨t, rfl⟩ := rx
    cases y with
    | byt j => obtain ⟨t', rfl⟩ := ry; exact PySem.W.ne_bytes (fin_bl I q (congrArg not dec_byt))
    | _ => exact absurd (show false = true from hs) Bool.false_ne_true
  | _ => cases y <;> exact absurd (show false = true from hs) Bool.false_ne_true

theorem op_lt : OpR X (compareOp .Lt) (rI0 fun i j => .bl (decide (i < j))) := opB0 fun _ _ _ _ _ _ _ q => lt_int q
theorem op_le : OpR X (compareOp .LtE) (rI0 fun i j => .bl (decide (i ≤ j))) := opB0 fun _ _ _ _ _ _ _ q => le_int q
theorem nomark (b : Expr) {op : CmpOp} (h : op ≠ .In := by decide) (h2 : op ≠ .NotIn := by decide) : behindInMarks op b = false := by
  have e1 : (op == CmpOp.In) = false := by cases op <;> first | rfl | exact absurd rfl h
  have e2 : (op == CmpOp.NotIn) = false := by cases op <;> first | rfl | exact absurd rfl h2
  cases b <;> simp [behindInMarks, e1, e2]
theorem pe_cmpR {op : CmpOp} {r : R2} (ho : OpR X (compareOp op) r) (ha : PE X a ta) (hb : PE X b tb) (hm : behindInMarks op b = false) : PE X (.Compare a [op] [b] pos) (tOp r ta tb) := by
  intro pins s σ H Q I h
  exact wpAny_Compare1 (binT ha hb I h fun v u s2 x y H2 I2 rx ry q => ho pins s2 σ H2 x y v u Q I2 rx ry q) hm
noncomputable def tTest (t : TE) : TT := fun σ H Q => t σ H fun x H' => ∃ k, x = .bl k ∧ Q k H'
theorem pt_cmpR {op : CmpOp} {r : R2} (ho : OpR X (compareOp op) r) (ha : PE X a ta) (hb : PE X b tb) (hm : behindInMarks op b = false) : PT X (.Compare a [op] [b] pos) (tTest (tOp r ta tb)) := by
  intro pins s σ H Q I h
  refine wpAny_isTrue_Compare1 (thn (ha pins s σ H _ I h) fun v s1 ⟨x, H1, I1, r1, q1⟩ => thn (hb pins s1 σ H1 _ I1 q1) fun u s2 ⟨y, H2, I2, r2, q2⟩ =>
    thn (ho pins s2 σ H2 x y v u _ I2 r1 r2 q2) fun c s3 ⟨z, H3, I3, r3, k, e, q3⟩ => ?_) hm
  subst e
  cases r3
  exact wpAny_truthy_bool ⟨H3, I3, q3⟩
noncomputable def tChain (r r' : R2) (ta tb tc : TE) : TE := fun σ H Q => ta σ H fun x H1 => tb σ H1 fun y H2 => r x y H2 fun z H3 => ∃ k, z = .bl k ∧
  (if k = true then tc σ H3 fun w' H4 => r' y w' H4 Q else Q (.bl false) H3)
theorem pe_chain {op op' : CmpOp} {r r' : R2} (ho : OpR X (compareOp op) r) (ho' : OpR X (compareOp op') r') (ha : PE X a ta) (hb : PE X b tb) (hc : PE X c tc)
    (hm : lastMarks [op, op'] [b, c] = false := by with_unfolding_all rfl) : PE X (.Compare a [op, op'] [b, c] pos) (tChain r r' ta tb tc) := by
  intro pins s σ H Q I h
  refine Compare_chain (thn (ha pins s σ H _ I h) fun v s1 ⟨x, H1, I1, r1, q1⟩ => chain_link (thn (hb pins s1 σ H1 _ I1 q1) fun u s2 ⟨y, H2, I2, r2, q2⟩ =>
    thn (ho pins s2 σ H2 x y v u _ I2 r1 r2 q2) fun d s3 ⟨z, H3, I3, r3, k, e, q3⟩ => ?_)) hm
  subst e
  cases r3
  refine wpAny_truthy_bool ?_
  cases k with
  | false => exact ite_ff ⟨.bl false, H3, I3, rfl, q3⟩
  | true => exact ite_tt (chain_last (thn (hc pins s3 σ H3 _ I3 q3) fun w' s4 ⟨z', H4, I4, r4, q4⟩ => ho' pins s4 σ H4 y z' u w' Q I4 r2 r4 q4))
theorem pt_chain {op op' : CmpOp} {r r' : R2} (ho : OpR X (compareOp op) r) (ho' : OpR X (compareOp op') r') (ha : PE X a ta) (hb : PE X b tb) (hc : PE X c tc)
    (hm : lastMarks [op, op'] [b, c] = false := by with_unfolding_all rfl) : PT X (.Compare a [op, op'] [b, c] pos) (tTest (tChain r r' ta tb tc)) := by
  intro pins s σ H Q I h
  refine isTrue_chain (thn (ha pins s σ H _ I h) fun v s1 ⟨x, H1, I1, r1, q1⟩ => test_link (thn (hb pins s1 σ H1 _ I1 q1) fun u s2 ⟨y, H2, I2, r2, q2⟩ =>
    thn (ho pins s2 σ H2 x y v u _ I2 r1 r2 q2) fun d s3 ⟨z, H3, I3, r3, k, e, q3⟩ => ?_)) hm
  subst e
  cases r3
  refine wpAny_truthy_bool ?_
  cases k with
  | false =>
    obtain ⟨k', e', q'⟩ := q3
    cases e'
    exact ite_ff ⟨H3, I3, q'⟩
  | true =>
    refine ite_tt (test_last (thn (hc pins s3 σ H3 _ I3 q3) fun w' s4 ⟨z', H4, I4, r4, q4⟩ => thn (ho' pins s4 σ H4 y z' u w' _ I4 r2 r4 q4) fun d' s5 ⟨z2, H5, I5, r5, k2, e2, q5⟩ => ?_))
    subst e2
    cases r5
    exact wpAny_truthy_bool ⟨H5, I5, q5⟩

theorem line63 : (sizeLine : Nat) < 2 ^ 63 := by rw [sizeLine_eq]; decide
theorem op_add_str : OpR X (binaryOp .Add) (fun x y H Q => ∃ i j, x = .str i ∧ y = .str j ∧ i.length + j.length ≤ sizeLine ∧ Q (.str (i ++ j)) H) := by
  intro pins s σ H x y v u Q I rx ry h
  obtain ⟨i, j, rfl, rfl, hz, q⟩ := h
  obtain ⟨t, rfl⟩ := rx
  obtain ⟨t', rfl⟩ := ry
  exact add_str (fun t' tk => ⟨.str (i ++ j), H, I.tok _, ⟨_, rfl⟩, q⟩) hz
theorem vals1 {x : V} {us : List Value} (r : Vals [x] us) : ∃ u, us = [u] ∧ RelV x u := by
  cases r with
  | cons r1 r2 => cases r2; exact ⟨_, rfl, r1⟩
theorem vals2 {x y : V} {us : List Value} (r : Vals [x, y] us) : ∃ u w', us = [u, w'] ∧ RelV x u ∧ RelV y w' := by
  cases r with
  | cons r1 r2 =>
    cases r2 with
    | cons r3 r4 => cases r4; exact ⟨_, _, rfl, r1, r3⟩
theorem call_str_int : CallR X (.type "str") (fun xs H Q => ∃ i, xs = [.int i] ∧ i.natAbs.log2 < 1920 ∧ Q (.str (toString i)) H) := by
  intro pins s σ H xs us Q I r h
  obtain ⟨i, rfl, hz, q⟩ := h
  obtain ⟨u, rfl, t, rfl⟩ := vals1 r
  exact PySem.P.str_of_int hz ⟨.str _, H, I.tok _, ⟨_, rfl⟩, q⟩
end
end L2

namespace L2
open PySem PySem.Spec PyProof.Rows

section
variable {prog : Program} {w : World} {A : Around} {E : Value → Shared → Prop} {s : Shared} {K : PySem.W.Frag} {x dx C f : Addr} {mA : Str → Option Value} {name : Str} {v : Value}

end

section
variable {P : Program} {w : World} {H H' : Hp} {h h' : Heap} {a C dx : Addr} {fs fs' : List (Str × V)}
end

section
variable {X : Cx} {pins : List (Addr × Obj)} {σ : St} {H : Hp} {s : Shared} {a C dx : Addr} {fs : List (Str × V)} {f : Str} {v : V} {A : Around} {E : Value → Shared → Prop}

end

section
variable {X : Cx} {o e value : Expr} {f : Str} {pos pos' tpos : Pos} {ta tv : TE}
end

section
variable {X : Cx} {pins : List (Addr × Obj)} {σ : St} {H : Hp} {s : Shared} {A : Around} {E : Value → Shared → Prop} {Q : Value → Shared → Prop} {c : Value} {b : Bool}
end
end L2

namespace L2
open PySem PySem.Spec PyProof.Rows

structure Room (k : Nat) (A : Around) : Prop where
  hd : A.handled = none
  dp : A.depth + 3 * k + 5 < recursionLimit
  un : A.units + 16 * k + 200 < cLine
theorem Room.mono {j k : Nat} {A : Around} (r : Room k A) (h : j ≤ k) : Room j A := ⟨r.hd, by have := r.dp; omega, by have := r.un; omega⟩
theorem Room.deeper {k : Nat} {A : Around} (r : Room (k + 1) A) (env : Env) : Room k (A.deeper env) :=
  ⟨r.hd, by have := r.dp; show A.depth + 1 + 3 * k + 5 < _; omega, by have := r.un; show A.units + 3 + 16 * k + 200 < _; omega⟩
theorem Room.depth {k : Nat} {A : Around} (r : Room k A) : A.depth < recursionLimit := by have := r.dp; omega
theorem Room.units {k : Nat} {A : Around} (r : Room k A) : A.units + 64 < cLine := by have := r.un; omega
noncomputable def tNil : TA := fun _ H Q => Q [] H
noncomputable def tCons (ta : TE) (tr : TA) : TA := fun σ H Q => ta σ H fun x H1 => tr σ H1 fun xs H2 => Q (x :: xs) H2
section
variable {X : Cx} {e : Expr} {es : List Expr} {te : TE} {t : TA} {pos : Pos}
theorem pa_nil : PA X [] tNil := fun _ _ _ _ H Q I h => Calls.spliced_nil ⟨[], H, I, .nil, h⟩
theorem pa_cons (ha : PE X e te) (hr : PA X es t) (hs : starEach (e :: es) X.env = (false, eval e X.env) :: starEach es X.env := by rfl) : PA X (e :: es) (tCons te t) := by
  intro pos pins s σ H Q I h
  rw [hs]
  show wpAny _ _ (spliced ((false, eval e X.env) :: backTo pos (starEach es X.env))) _ _ s
  refine Calls.spliced_cons (thn (ha pins s σ H _ I h) fun u s1 ⟨x, H1, I1, r1, q1⟩ => ?_)
  exact thn (hr pos pins s1 σ H1 _ I1 q1) fun us s2 ⟨xs, H2, I2, r2, q2⟩ => ⟨x :: xs, H2, I2, .cons r1 r2, q2⟩

noncomputable def tTup (t : TA) : TE := fun σ H Q => t σ H fun xs H1 => xs.length ≤ sizeLine ∧ ∀ p, H1 p = none → Q (.ref p) (upd H1 p (.tup xs))
noncomputable def tLst (t : TA) : TE := fun σ H Q => t σ H fun xs H1 => xs.length ≤ sizeLine ∧ ∀ p, H1 p = none → Q (.ref p) (upd H1 p (.lst xs))
theorem pe_tup {x1} (h : PA X es t) : PE X (.Tuple es x1 pos) (tTup t) := by
  intro pins s σ H Q I hq
  refine wpAny_Tuple_spliced (thn (h pos pins s σ H _ I hq) fun us s1 ⟨xs, H1, I1, r, z, q⟩ => ⟨by rw [← r.length]; exact z, ?_⟩)
  have hf : H1 s1.heap.objs.size = none := I1.hok.fresh (Nat.le_refl _)
  refine ⟨.ref s1.heap.objs.size, upd H1 s1.heap.objs.size (.tup xs), I1.laid (t' := s1.toks) (fun b u e => Heap.get?_push_of_some _ e) (Nat.le_refl _) ?_, rfl, q _ hf⟩
  exact ⟨z, us, r, ⟨_, Heap.get?_push_size _ rfl, rfl, _, rfl⟩⟩
theorem pe_lst (h : PA X es t) : PE X (.List es pos) (tLst t) := by
  intro pins s σ H Q I hq
  refine wpAny_List_spliced (thn (h pos pins s σ H _ I hq) fun us s1 ⟨xs, H1, I1, r, z, q⟩ => ⟨by rw [← r.length]; exact z, ?_⟩)
  have hf : H1 s1.heap.objs.size = none := I1.hok.fresh (Nat.le_refl _)
  refine ⟨.ref s1.heap.objs.size, upd H1 s1.heap.objs.size (.lst xs), I1.laid (t' := s1.toks) (fun b u e => Heap.get?_push_of_some _ e) (Nat.le_refl _) ?_, rfl, q _ hf⟩
  exact ⟨z, us, 0, r, Heap.get?_push_size _ rfl⟩
end

noncomputable abbrev Sp := List V → Hp → VK → XK → Prop
noncomputable abbrev CXT := List Env → Hp → Shared → XK → Value → Shared → Prop

structure Env0 (P : Program) (w : World) (K : PySem.W.Frag) (mg : Str → Option Value) (base : Heap) (A : Around) (outer : List Env) (s : Shared) (H : Hp) : Prop where
  frames : A.frames = some outer
  mod : Mod K mg base
  bs : ∀ b o, base.get? b = some o → s.heap.get? b = some o ∧ H b = none
  bsz : base.objs.size ≤ s.heap.objs.size
  funs : s.heap.FunFrames base outer
  frf : ∀ b ∈ frs outer, H b = none
  hok : HOk P w H s.heap
  bare : AllBare s.gens
noncomputable def CE (outer : List Env) (P : Program) (w : World) (H : Hp) (s : Shared) (Q : VK) (u : Value) (s' : Shared) : Prop :=
  ∃ v H', s'.os = s.os ∧ AllBare s'.gens ∧ Un (frs outer) [] H H' s.heap s'.heap ∧ HOk P w H' s'.heap ∧ RelV v u ∧ Q v H'
noncomputable def CR (CX : CXT) (outer : List Env) (P : Program) (w : World) (H : Hp) (s : Shared) (Q : VK) (E : XK) (r : Result) (s' : Shared) : Prop :=
  match r with
  | .ok (.ret u) => CE outer P w H s Q u s'
  | .ok _ => False
  | .error e => CX outer H s E e s'
structure FnOk (P : Program) (w : World) (K : PySem.W.Frag) (mg : Str → Option Value) (base : Heap) (CX : CXT) (k : Nat) (f : Addr) (fd : FuncData) (ps : List Str) (sp : Sp) : Prop where
  len : ∀ vs H Q E, sp vs H Q E → vs.length = ps.length
  run : ∀ (A : Around) (outer : List Env) (s : Shared) (H : Hp) (args : Args) (us : List Value) (vs : List V) (Q : VK) (E : XK), Room k A → Env0 P w K mg base A outer s H → BindsTo s fd args (ps.zip us) → Vals vs us → sp vs H Q E →
    codeAny (model P w) A (.call (.ref f) args) (CR CX outer P w H s Q E) s
section
variable {X : Cx} {pins : List (Addr × Obj)} {σ : St} {H : Hp} {s s' : Shared}
theorem Inv.env0 (I : Inv X pins σ H s) : Env0 X.prog X.w X.K X.mg X.base X.A X.stack s H :=
  ⟨I.ok.frames, I.ok.mod, I.bs, Nat.le_trans I.ok.bsz I.sz, I.stack, I.stkFree, I.hok, I.bare⟩
theorem Inv.after {Q : VK} {u : Value} (I : Inv X pins σ H s) (h : CE X.stack X.prog X.w H s Q u s') : EP X pins σ Q u s' := by
  obtain ⟨v, H', os, bare, un, hok, r, q⟩ := h
  obtain ⟨hh, g, d, t, os'⟩ := s'
  obtain rfl : os' = s.os := os
  exact ⟨v, H', I.call (h' := hh) (g' := g) (d' := d) (t' := t) (ch := []) un hok bare (fun b z => absurd z (by simp)), r, q⟩
end

noncomputable def tCall (sp : Sp) (dvs : List V) (E : XK) (t : TA) : TE := fun σ H Q => t σ H fun vs H1 => sp (vs ++ dvs) H1 Q E
noncomputable def Binds (K : PySem.W.Frag) (fd : FuncData) (ps : List Str) (ds : List Value) : Prop :=
  ∀ (s : Shared) (us : List Value), K.In s.heap → (us ++ ds).length = ps.length → BindsTo s fd ⟨us, []⟩ (ps.zip (us ++ ds))
theorem Binds.all {K : PySem.W.Frag} {fd : FuncData} {ps : List Str} (h : ∀ us : List Value, us.length = ps.length → bindArgs fd ⟨us, []⟩ = pure (ps.zip us)) : Binds K fd ps [] := fun s us _ hl => by
  rw [List.append_nil] at hl ⊢
  exact .of_eq (h us hl)

noncomputable def Passes (CX : CXT) (X : Cx) (E : XK) : Prop := ∀ (pins : List (Addr × Obj)) (σ : St) (H : Hp) (s : Shared) (e : Value) (s' : Shared), Inv X pins σ H s → CX X.stack H s E e s' → X.xe e s'

section
variable {X : Cx} {CX : CXT} {k : Nat} {f C : Addr} {fd : FuncData} {ps : List Str} {sp : Sp} {dvs : List V} {ds : List Value} {E : XK} {x m : Str} {p pos apos : Pos} {e o : Expr} {es : List Expr} {ta : TE} {t : TA}

theorem run_fn {pins : List (Addr × Obj)} {σ : St} {H : Hp} {s : Shared} {Q : VK} {us : List Value} {vs : List V} (F : FnOk X.prog X.w X.K X.mg X.base CX k f fd ps sp) (hr : Room k X.A) (hb : Binds X.K fd ps ds) (hd : Vals dvs ds) (hx : Passes CX X E)
    (I : Inv X pins σ H s) (r : Vals vs us) (h : sp (vs ++ dvs) H Q E) : wpAny (model X.prog X.w) X.A (call (.ref f) us) (EP X pins σ Q) X.xe s := by
  have r2 : Vals (vs ++ dvs) (us ++ ds) := r.append hd
  have hl : (us ++ ds).length = ps.length := by rw [← r2.length]; exact F.len _ _ _ _ h
  refine wpAny_call (codeAny_mono (F.run X.A X.stack s H ⟨us, []⟩ (us ++ ds) (vs ++ dvs) Q E hr I.env0 (hb s us I.kIn hl) r2 h) fun r s' hq => ?_)
  cases r with
  | error e => exact hx pins σ H s e s' I hq
  | ok fl =>
    cases fl with
    | ret u => exact I.after hq
    | next => exact False.elim hq
    | brk => exact False.elim hq
    | cont => exact False.elim hq

theorem pe_call (F : FnOk X.prog X.w X.K X.mg X.base CX k f fd ps sp) (hr : Room k X.A) (hg : Gl X x) (hm : X.mg x = some (.ref f)) (hk : PySem.W.keepIn X.K (.ref f) = true) (hb : Binds X.K fd ps ds) (hd : Vals dvs ds) (hx : Passes CX X E)
    (ha : PA X (e :: es) t) (hdb : (x == ("__debug__" : Str)) = false := by decide) (he : starEach (e :: es) X.env = (false, eval e X.env) :: starEach es X.env := by rfl) (hpl : (backTo pos (starEach es X.env)).any (·.1) = false := by rfl) :
    PE X (.Call (.Name x p) (e :: es) [] pos) (tCall sp dvs E t) := by
  intro pins s σ H Q I h
  refine wpAny_Call_Name_kw (ld_glob I hg hm ?_ hdb)
  refine PySem.W.callWith_K (h₀ := X.base) I.ok.mod.kin hk (thn (ha pos pins s σ H _ I h) fun us s1 ⟨vs, H1, I1, r, q⟩ => ⟨I1.kIn, ?_⟩) he hpl
  exact run_fn F hr hb hd hx I1 r q
end

section
variable {X : Cx} {CX : CXT} {k : Nat} {f C : Addr} {fd : FuncData} {ps ks : List Str} {sp : Sp} {E : XK} {x m : Str} {p pos apos kpos : Pos} {e o : Expr} {es : List Expr} {kws : List Keyword} {te ta : TE} {t tk : TA} {nm : Option Str}
variable {g : List Value → List Value → List Value} {gV : List V → List V → List V}
end

structure FnScope (N P : List Str) (sc : Scope) : Prop where
  kind : sc.kind = .function
  co : sc.isCoroutine = false
  gen : sc.isGenerator = false
  nd : N.Nodup
  pre : N.take P.length = P
  par : ∀ x ∈ P, sc.names.lookup x = some .local ∨ sc.names.lookup x = some .cell
  nofree : ∀ y ∈ sc.names, y.2 ≠ .free

theorem bindL_out {kindOf : Str → Option NameKind} {x : Str} : ∀ {binds : List (Str × Value)} {m : Str → Option Value}, (∀ v, (x, v) ∉ binds) → bindL kindOf binds m x = m x
  | [], _, _ => rfl
  | (n, v) :: r, m, h => by
    unfold bindL
    rw [bindL_out fun w hw => h w (List.mem_cons_of_mem _ hw)]
    split
    · have : x ≠ n := by rintro rfl; exact h v List.mem_cons_self
      simp [this]
    · rfl
theorem bindC_out {kindOf : Str → Option NameKind} {x : Str} : ∀ {binds : List (Str × Value)} {m : Str → Option Value}, (∀ v, (x, v) ∉ binds) → bindC kindOf binds m x = m x
  | [], _, _ => rfl
  | (n, v) :: r, m, h => by
    unfold bindC
    rw [bindC_out fun w hw => h w (List.mem_cons_of_mem _ hw)]
    split
    · rfl
    · have : x ≠ n := by rintro rfl; exact h v List.mem_cons_self
      simp [this]
theorem bindL_get {kindOf : Str → Option NameKind} {x : Str} {v : Value} : ∀ {P : List Str} {vs : List Value} {i : Nat} {m : Str → Option Value}, P.Nodup → P[i]? = some x → vs[i]? = some v → kindOf x = some .local →
    bindL kindOf (P.zip vs) m x = some v
  | [], _, _, _, _, h, _, _ => by simp at h
  | _ :: _, [], _, _, _, _, h, _ => by simp at h
  | p :: P, w :: vs, 0, m, nd, h1, h2, hk => by
    simp at h1 h2; subst h1; subst h2
    show bindL kindOf ((p, w) :: P.zip vs) m p = _
    unfold bindL
    rw [bindL_out fun v hv => (List.nodup_cons.mp nd).1 (List.of_mem_zip hv).1, if_pos hk]
    simp
  | p :: P, w :: vs, i + 1, m, nd, h1, h2, hk => by
    show bindL kindOf ((p, w) :: P.zip vs) m x = _
    unfold bindL
    exact bindL_get (i := i) (List.nodup_cons.mp nd).2 (by simpa using h1) (by simpa using h2) hk
theorem bindC_get {kindOf : Str → Option NameKind} {x : Str} {v : Value} : ∀ {P : List Str} {vs : List Value} {i : Nat} {m : Str → Option Value}, P.Nodup → P[i]? = some x → vs[i]? = some v → kindOf x ≠ some .local →
    bindC kindOf (P.zip vs) m x = some v
  | [], _, _, _, _, h, _, _ => by simp at h
  | _ :: _, [], _, _, _, _, h, _ => by simp at h
  | p :: P, w :: vs, 0, m, nd, h1, h2, hk => by
    simp at h1 h2; subst h1; subst h2
    show bindC kindOf ((p, w) :: P.zip vs) m p = _
    unfold bindC
    rw [bindC_out fun v hv => (List.nodup_cons.mp nd).1 (List.of_mem_zip hv).1, if_neg hk]
    simp
  | p :: P, w :: vs, i + 1, m, nd, h1, h2, hk => by
    show bindC kindOf ((p, w) :: P.zip vs) m x = _
    unfold bindC
    exact bindC_get (i := i) (List.nodup_cons.mp nd).2 (by simpa using h1) (by simpa using h2) hk

noncomputable def start (N : List Str) (vs : List V) : St := vs.map some ++ List.replicate (N.length - vs.length) none

noncomputable def cxOf (CX : CXT) (P : Program) (w : World) (K : PySem.W.Frag) (mg : Str → Option Value) (base : Heap) (N : List Str) (qual : Str) (scope : Scope) (f : Addr) (cd : Value) (A : Around) (outer : List Env) (s : Shared) (H : Hp) (E : XK) : Cx where
  prog := P
  w := w
  K := K
  mg := mg
  base := base
  A := A.deeper (envOfC qual scope s.heap.objs.size f cd)
  N := N
  s₀ := s
  H₀ := H
  env := envOfC qual scope s.heap.objs.size f cd
  outer := outer
  stack := envOfC qual scope s.heap.objs.size f cd :: outer
  ex := []
  calm := true
  fn := fun _ => true
  pn := []
  xe := fun e s' => wpAny (model P w) (A.deeper (envOfC qual scope s.heap.objs.size f cd)) (leaving (envOfC qual scope s.heap.objs.size f cd) e) (fun _ s'' => CX outer H s E e s'') (fun e' s'' => CX outer H s E e' s'') s'

theorem cell_has {sc : Scope} {n : Nat} {x : Str} (h : sc.names.lookup x = some .cell) : ∃ c, (cellsFrom n sc.names []).lookup x = some c := by
  have q := PySem.W.cellsFrom_some sc.names n [] (.inl h)
  exact Option.isSome_iff_exists.mp q

theorem inv_start {CX : CXT} {P : Program} {w : World} {K : PySem.W.Frag} {mg : Str → Option Value} {base : Heap} {N ps : List Str} {qual : Str} {scope : Scope} {f : Addr} {cd : Value} {A : Around} {outer : List Env} {s s1 : Shared} {H : Hp} {E : XK} {us : List Value} {vs : List V}
    (S : FnScope N ps scope) (hd : A.handled = none) (e0 : Env0 P w K mg base A outer s H) (hl : vs.length = ps.length) (r : Vals vs us)
    (x : InCallC s s.heap.objs.size (bindL (envOfC qual scope s.heap.objs.size f cd).kindOf (ps.zip us) fun _ => none) (cellsFrom (s.heap.objs.size + 1) scope.names []) (bindC (envOfC qual scope s.heap.objs.size f cd).kindOf (ps.zip us) fun _ => none) s1) :
    Inv (cxOf CX P w K mg base N qual scope f cd A outer s H E) [] (start N vs) H s1 := by
  have hpl : ps.length ≤ N.length := by have := congrArg List.length S.pre; rw [List.length_take] at this; omega
  obtain ⟨h1, tk, rfl, hk⟩ := x.done
  have noA : ∀ b : Addr, b ∉ (cxOf CX P w K mg base N qual scope f cd A outer s H E).ex := fun b z => absurd (show b ∈ ([] : List Addr) from z) (by simp)
  refine ⟨⟨e0.mod, S.kind, rfl, rfl, Nat.le_refl _, fun y z c h1 h2 => ?_, fun y hy => ?_, fun y c _ h => ?_, fun _ => hd, Around.frames_deeper e0.frames, .inr ⟨rfl, rfl⟩, fun b z => absurd z (noA b), e0.bs, e0.bsz, fun b _ _ => noA b, fun b z => absurd z (noA b), e0.funs, e0.frf⟩,
    rfl, e0.bare, Un.kept hk, ⟨_, x.toInCall.ns, fun i y v h1 h2 h3 => ?_⟩, fun y c h => ⟨_, x.cell y c h⟩, e0.hok.fresh (Nat.le_refl _), fun y c h => ?_, fun p hp => absurd (show p ∈ ([] : List (Addr × Obj)) from hp) (by simp), e0.hok.kept hk, ?_⟩
  · exact name_of_addr x.apart (PySem.mem_of_lookup h1) (PySem.mem_of_lookup h2)
  · have hy : scope.names.lookup y = some .cell ∨ scope.names.lookup y = some .free := hy
    rcases hy with hy | hy
    · exact cell_has hy
    · exact absurd rfl (S.nofree _ (PySem.mem_of_lookup hy))
  · exact Nat.le_of_lt (x.above y c (PySem.mem_of_lookup h))
  · have hi : i < vs.length := by
      unfold start at h2
      by_cases hi : i < vs.length
      · exact hi
      · rw [List.getElem?_append_right (by simpa using hi)] at h2
        rw [List.getElem?_replicate] at h2
        split at h2 <;> cases h2
    have ha : vs[i]? = some v := by
      unfold start at h2
      rw [List.getElem?_append_left (by simpa using hi), List.getElem?_map] at h2
      cases e : vs[i]? with
      | none => rw [e] at h2; cases h2
      | some a => rw [e] at h2; cases h2; rfl
    obtain ⟨u, hu, rv⟩ := r.get ha
    have hp : ps[i]? = some y := by
      rw [← S.pre, List.getElem?_take_of_lt (by omega)]; exact h1
    have ndP : ps.Nodup := by rw [← S.pre]; exact S.nd.sublist (List.take_sublist _ _)
    refine ⟨u, rv, ?_⟩
    rcases S.par y (List.mem_of_getElem? hp) with k | k
    · exact .inl ⟨k, bindL_get ndP hp hu k⟩
    · obtain ⟨c, e⟩ := cell_has (n := s.heap.objs.size + 1) k
      refine .inr ⟨.inl k, c, e, ?_⟩
      have q := x.cell y c e
      rw [bindC_get ndP hp hu (by show scope.names.lookup y ≠ _; rw [k]; decide)] at q
      exact q
  · exact e0.hok.fresh (Nat.le_of_lt (x.above y c (PySem.mem_of_lookup h)))
  · unfold start
    show _ = N.length
    rw [List.length_append, List.length_map, List.length_replicate]
    omega

theorem fn_of {CX : CXT} {P : Program} {w : World} {K : PySem.W.Frag} {mg : Str → Option Value} {base : Heap} {k : Nat} {f : Addr} {name qual : Str} {params : Arguments} {body : List Stmt} {scope : Scope} {dV kV doc pm cdv ct oc : Value} {an od : Option Addr}
    {osl : Array (Option Value)} {N ps : List Str} {sp : Sp} (lk : K.lookup f = some ⟨oc, od, .func (PySem.W.fnOf name qual params body scope dV kV doc pm an cdv ct), osl⟩) (hcd : PySem.W.codeIn K cdv qual = true) (S : FnScope N ps scope)
    (len : ∀ vs H Q E, sp vs H Q E → vs.length = ps.length)
    (hbody : ∀ (A : Around) (outer : List Env) (s : Shared) (H : Hp) (vs : List V) (Q : VK) (E : XK), Room k (A.deeper (envOfC qual scope s.heap.objs.size f cdv)) → sp vs H Q E →
      ∃ t, PSs (cxOf CX P w K mg base N qual scope f cdv A outer s H E) body t ∧ t { nx := fun _ H' => Q .non H', rt := Q } (start N vs) H) :
    FnOk P w K mg base CX (k + 1) f (PySem.W.fnOf name qual params body scope dV kV doc pm an cdv ct) ps sp := by
  refine ⟨len, fun A outer s H args us vs Q E hr e0 hb r hsp => ?_⟩
  have hl := len _ _ _ _ hsp
  have KX : K.In s.heap := e0.mod.kin.keeps fun b o e => (e0.bs b o e).1
  have lim : s.heap.NoLimit := e0.mod.nolimit.keeps fun b o e => (e0.bs b o e).1
  have hkind : ∀ y ∈ ps.zip us, scope.names.lookup y.1 = some .local ∨ (scope.names.lookup y.1 = some .cell ∧ ((cellsFrom (s.heap.objs.size + 1) scope.names []).lookup y.1).isSome = true) := fun ⟨n, v⟩ hy => by
    rcases S.par n (List.of_mem_zip hy).1 with q | q
    · exact .inl q
    · exact .inr ⟨q, PySem.W.cellsFrom_some _ _ _ (.inl q)⟩
  refine codeAny_call_function hr.depth (KX _ _ lk) rfl S.co S.gen rfl (PySem.W.codeRec_of KX hcd) (hb _ _ _ _ ?_)
  refine wpAny_newFunctionEnv_cells S.kind hkind fun env he s1 x => ?_
  subst he
  refine ⟨lim.keeps x.toInCall.keep, codeAny_func ?_⟩
  obtain ⟨t, ht, hq⟩ := hbody A outer s H vs Q E (hr.deeper _) hsp
  have I : Inv (cxOf CX P w K mg base N qual scope f cdv A outer s H E) [] (start N vs) H s1 := inv_start S hr.hd e0 hl r x
  refine wpAny_mono (ht [] s1 (start N vs) H _ I hq) (fun fl s' hs => ?_) fun e s' hs => hs
  have fin : ∀ {σ' : St} {H' : Hp} {v : V} {u : Value}, Inv (cxOf CX P w K mg base N qual scope f cdv A outer s H E) [] σ' H' s' → RelV v u → Q v H' → CE outer P w H s Q u s' :=
    fun {σ' H' v u} J rv q => ⟨v, H', J.os, J.bare, J.base, J.hok, rv, q⟩
  cases fl with
  | ret u =>
    obtain ⟨v, σ', H', J, rv, q⟩ := hs
    exact fin J rv q
  | next =>
    obtain ⟨σ', H', J, q⟩ := hs
    exact fin (v := V.non) (u := Value.none) J rfl q
  | brk =>
    obtain ⟨_, _, _, q⟩ := hs
    exact False.elim q
  | cont =>
    obtain ⟨_, _, _, q⟩ := hs
    exact False.elim q
end L2

namespace L2
open PySem PySem.Spec PyProof.Rows
section
variable {X : Cx} {x : Str} {p pos : Pos} {e : Expr} {es : List Expr} {t : TA} {id T : String} {r : List V → Hp → VK → Prop}

noncomputable def tCB (r : List V → Hp → VK → Prop) (t : TA) : TE := fun σ H Q => t σ H fun vs H1 => r vs H1 Q
theorem pe_callB (hc : CallR X (.builtin id) r) (hg : Gl X x) (hm : X.mg x = none) (hv : bootBuiltins x = some (.builtin id)) (ha : PA X (e :: es) t) (hn : x ≠ "__name__" := by decide) (hdb : (x == ("__debug__" : Str)) = false := by decide)
    (he : starEach (e :: es) X.env = (false, eval e X.env) :: starEach es X.env := by rfl) (hpl : (backTo pos (starEach es X.env)).any (·.1) = false := by rfl) : PE X (.Call (.Name x p) (e :: es) [] pos) (tCB r t) := by
  intro pins s σ H Q I h
  refine wpAny_Call_Name_kw (ld_blt I hg hm hv ?_ hn hdb)
  exact PyProof.Rows.callWith_builtin1 (thn (ha pos pins s σ H _ I h) fun us s1 ⟨vs, H1, I1, r1, q1⟩ => hc pins s1 σ H1 vs us Q I1 r1 q1) he hpl
theorem pe_callTy (hc : CallR X (.type T) r) (hg : Gl X x) (hm : X.mg x = none) (hv : bootBuiltins x = some (.type T)) (ha : PA X (e :: es) t) (hn : x ≠ "__name__" := by decide) (hdb : (x == ("__debug__" : Str)) = false := by decide)
    (he : starEach (e :: es) X.env = (false, eval e X.env) :: starEach es X.env := by rfl) (hpl : (backTo pos (starEach es X.env)).any (·.1) = false := by rfl) : PE X (.Call (.Name x p) (e :: es) [] pos) (tCB r t) := by
  intro pins s σ H Q I h
  refine wpAny_Call_Name_kw (ld_blt I hg hm hv ?_ hn hdb)
  exact PyProof.Rows.callWith_type1 (thn (ha pos pins s σ H _ I h) fun us s1 ⟨vs, H1, I1, r1, q1⟩ => hc pins s1 σ H1 vs us Q I1 r1 q1) he hpl
end
end L2

namespace HT
open PySem PyProof.Rows

section
open PySem.SeqAt
open PySem.AutoSeq1 (wpAny_loadPart')
open PySem.MeetsSeq PySem.MeetsSeq2 PySem.MeetsSeq3

end

section
variable {prog : Program} {w : World} {A : Around} {E : Value → Shared → Prop} {s : Shared}

noncomputable def sIx (n d : Nat) : Option Int → Nat
  | none => d
  | some v => if v < 0 then (v + (n : Int)).toNat else min v.toNat n
theorem sIx_none (n d : Nat) : sIx n d none = d := rfl
theorem sIx_nat (n d k : Nat) : sIx n d (some (k : Int)) = min k n := by
  show (if (k : Int) < 0 then ((k : Int) + (n : Int)).toNat else min (k : Int).toNat n) = min k n
  rw [if_neg (by omega), Int.toNat_natCast]
theorem sIx_le (n d : Nat) (hd : d ≤ n) (o : Option Int) : sIx n d o ≤ n := by
  cases o with
  | none => exact hd
  | some v =>
    show (if v < 0 then (v + (n : Int)).toNat else min v.toNat n) ≤ n
    by_cases hv : v < 0
    · rw [if_pos hv]; omega
    · rw [if_neg hv]; exact Nat.min_le_right _ _
end
end HT

namespace L2
open PySem PySem.Spec PyProof.Rows

noncomputable abbrev TO := St → Hp → (Option Int → Hp → Prop) → Prop
noncomputable def PO (X : Cx) (e : Option Expr) (t : TO) : Prop :=
  ∀ (pins : List (Addr × Obj)) (s : Shared) (σ : St) (H : Hp) (Q : Option Int → Hp → Prop), Inv X pins σ H s → t σ H Q →
    wpAny (model X.prog X.w) X.A (evalPart e X.env) (fun u s' => ∃ o H', Inv X pins σ H' s' ∧ IsPart u o ∧ Q o H') X.xe s
noncomputable def tNoPart : TO := fun _ H Q => Q none H
noncomputable def tPart (t : TE) : TO := fun σ H Q => t σ H fun x H1 => ∃ i, x = .int i ∧ Q (some i) H1

section
variable {X : Cx} {e : Expr} {te : TE} {lo hi : Option Expr} {tl th : TO} {pos p2 : Pos}

theorem po_none : PO X none tNoPart := by
  intro pins s σ H Q I h
  rw [evalPart_none]
  exact wpAny_pure ⟨none, H, I, .none, h⟩
theorem po_some (h : PE X e te) : PO X (some e) (tPart te) := by
  intro pins s σ H Q I hw
  rw [evalPart_some]
  refine thn (h pins s σ H _ I hw) fun u s1 ⟨x, H1, I1, r1, q1⟩ => ?_
  obtain ⟨i, rfl, q⟩ := q1
  obtain ⟨t, rfl⟩ := r1
  exact ⟨some i, H1, I1, .int i t, q⟩

noncomputable def SlR (X : Cx) (r : V → Option Int → Option Int → Hp → VK → Prop) : Prop :=
  ∀ (pins : List (Addr × Obj)) (s : Shared) (σ : St) (H : Hp) (x : V) (v vl vu : Value) (lo hi : Option Int) (sl : Addr) (Q : VK), Inv X pins σ H s → RelV x v → s.heap.IsSliceOf sl vl vu .none → IsPart vl lo → IsPart vu hi → r x lo hi H Q →
    ∃ T id, typeLookup (.type T) "__getitem__" = pure (some (.builtin id)) ∧ s.TypeIs v T ∧ wpAny (model X.prog X.w) X.A (getItem v (.ref sl)) (EP X pins σ Q) X.xe s
noncomputable def tSl (r : V → Option Int → Option Int → Hp → VK → Prop) (te : TE) (tl th : TO) : TE := fun σ H Q => te σ H fun x H1 => tl σ H1 fun l H2 => th σ H2 fun u H3 => r x l u H3 Q
theorem pe_slice {r : V → Option Int → Option Int → Hp → VK → Prop} (hr : SlR X r) (he : PE X e te) (hl : PO X lo tl) (hu : PO X hi th) : PE X (.Subscript e (.Slice lo hi none p2) pos) (tSl r te tl th) := by
  intro pins s σ H Q I h
  refine Subscript_ (thn (he pins s σ H _ I h) fun v s1 ⟨x, H1, I1, r1, q1⟩ => ?_)
  refine wpAny_Slice (thn (hl pins s1 σ H1 _ I1 q1) fun vl s2 ⟨l, H2, I2, pl, q2⟩ => thn (hu pins s2 σ H2 _ I2 q2) fun vu s3 ⟨u, H3, I3, pu, q3⟩ => ?_)
  rw [evalPart_none]
  refine wpAny_pure ?_
  have I4 : Inv X pins σ H3 { s3 with heap := s3.heap.push { cls := .type "slice", data := .fields #[vl, vu, .none] } } := I3.kept (t' := s3.toks) fun b ob q => Heap.get?_push_of_some _ q
  obtain ⟨T, id, hT, ht, hg⟩ := hr pins { s3 with heap := s3.heap.push { cls := .type "slice", data := .fields #[vl, vu, .none] } } σ H3 x v vl vu l u s3.heap.objs.size Q I4 r1 (Heap.IsSliceOf.new ..) pl pu q3
  show wpAny (model X.prog X.w) X.A (subscriptTail e (.Slice lo hi none p2) v (.ref s3.heap.objs.size)) (EP X pins σ Q) X.xe { s3 with heap := s3.heap.push { cls := .type "slice", data := .fields #[vl, vu, .none] } }
  exact tail_any (ops := [.ref s3.heap.objs.size, v]) ht hT hg (by with_unfolding_all rfl)

noncomputable def cutV (xs : List V) (lo hi : Option Int) : List V := (xs.drop (HT.sIx xs.length 0 lo)).take (HT.sIx xs.length xs.length hi - HT.sIx xs.length 0 lo)
theorem cutV_length (xs : List V) (lo hi : Option Int) : (cutV xs lo hi).length ≤ xs.length := by
  unfold cutV
  rw [List.length_take, List.length_drop]
  omega
end
end L2

namespace L2
open PySem PySem.Spec PyProof.Rows

noncomputable def ixN (n : Nat) (i : Int) : Option Nat := if 0 ≤ i then (if i < n then some i.toNat else none) else if -(n : Int) ≤ i then some (i + n).toNat else none
noncomputable def atI {α : Type} (xs : List α) (i : Int) : Option α := (ixN xs.length i).bind fun j => xs[j]?
theorem ixN_seq {n : Nat} {i : Int} {j : Nat} (h : ixN n i = some j) : seqIndex? i n = some j ∧ j < n ∧ -(n : Int) ≤ i ∧ i < n := by
  unfold ixN at h
  by_cases h0 : 0 ≤ i
  · rw [if_pos h0] at h
    by_cases h1 : i < n
    · rw [if_pos h1] at h
      have e : i.toNat = j := Option.some.inj h
      exact ⟨by rw [seqIndex_of h0 h1, e], by omega, by omega, h1⟩
    · rw [if_neg h1] at h; cases h
  · rw [if_neg h0] at h
    by_cases h1 : -(n : Int) ≤ i
    · rw [if_pos h1] at h
      have e : (i + n).toNat = j := Option.some.inj h
      exact ⟨by rw [seqIndex_neg (by omega) h1, e], by omega, h1, by omega⟩
    · rw [if_neg h1] at h; cases h
theorem atI_get {α : Type} {xs : List α} {i : Int} {v : α} (h : atI xs i = some v) : ∃ j, seqIndex? i xs.length = some j ∧ xs[j]? = some v ∧ j < xs.length ∧ -(xs.length : Int) ≤ i ∧ i < xs.length := by
  unfold atI at h
  cases e : ixN xs.length i with
  | none => rw [e] at h; cases h
  | some j =>
    rw [e] at h
    obtain ⟨h1, h2, h3, h4⟩ := ixN_seq e
    exact ⟨j, h1, h, h2, h3, h4⟩
theorem atI_nat {α : Type} {xs : List α} {j : Nat} {v : α} (h : xs[j]? = some v) : atI xs (j : Int) = some v := by
  have hj : j < xs.length := (List.getElem?_eq_some_iff.mp h).1
  have e : ixN xs.length (j : Int) = some j := by
    unfold ixN
    rw [if_pos (by omega), if_pos (by omega)]; simp
  unfold atI; rw [e]; exact h
noncomputable def PlainIx (b : Expr) : Prop := ∀ o i, subscripted b false o i = operate [o, i] (getItem o i)
noncomputable def IxR (X : Cx) (r : R2) : Prop :=
  ∀ (value slice : Expr) (pins : List (Addr × Obj)) (s : Shared) (σ : St) (H : Hp) (x y : V) (v u : Value) (Q : VK), Inv X pins σ H s → RelV x v → RelV y u → r x y H Q →
    subscripted slice false v u = operate [v, u] (getItem v u) → wpAny (model X.prog X.w) X.A (subscriptTail value slice v u) (EP X pins σ Q) X.xe s
noncomputable def MtR (X : Cx) (id : String) (r : V → List V → Hp → VK → Prop) : Prop :=
  ∀ (pins : List (Addr × Obj)) (s : Shared) (σ : St) (H : Hp) (x : V) (xs : List V) (v : Value) (us : List Value) (Q : VK), Inv X pins σ H s → RelV x v → Vals xs us → r x xs H Q →
    wpAny (model X.prog X.w) X.A (call (.builtin id) (v :: us)) (EP X pins σ Q) X.xe s
section
variable {X : Cx} {a b : Expr} {ta tb : TE} {pos : Pos}
theorem pe_ix {r : R2} (hr : IxR X r) (ha : PE X a ta) (hb : PE X b tb) (hs : PlainIx b) : PE X (.Subscript a b pos) (tOp r ta tb) := by
  intro pins s σ H Q I h
  exact Subscript_ (binT ha hb I h fun v u s2 x y H2 I2 rx ry q => hr a b pins s2 σ H2 x y v u Q I2 rx ry q (hs _ _))

noncomputable def rIxL (K : PySem.W.Frag) : R2 := fun x y H Q => ∃ p xs i v, x = .ref p ∧ y = .int i ∧ SqL K H p xs ∧ atI xs i = some v ∧ Q v H
noncomputable def rIxT (K : PySem.W.Frag) : R2 := fun x y H Q => ∃ p xs i v, x = .ref p ∧ y = .int i ∧ SqT K H p xs ∧ atI xs i = some v ∧ Q v H
noncomputable def rIxS : R2 := fun x y H Q => ∃ z i c, x = .str z ∧ y = .int i ∧ z.length ≤ sizeLine ∧ atI z.cps.toList i = some c ∧ Q (.str ⟨#[c]⟩) H
theorem ix_list : IxR X (rIxL X.K) := by
  intro value slice pins s σ H x y v u Q I rx ry h hs
  obtain ⟨p, xs, i, z, rfl, rfl, hq, he, q⟩ := h
  cases rx
  obtain ⟨t, rfl⟩ := ry
  obtain ⟨its, r, pl, hz⟩ := I.list hq
  obtain ⟨j, h1, h2, h3, h4, h5⟩ := atI_get he
  obtain ⟨w, ew, rw'⟩ := r.get h2
  have hl := r.length
  have hn := line63
  have fin : EP X pins σ Q w s := ⟨z, H, I, rw', q⟩
  by_cases h0 : 0 ≤ i
  · have hj : i.toNat = j := by
      rw [seqIndex_of h0 h5] at h1
      exact Option.some.inj h1
    exact item_listR pl.isList h0 (by omega) (by rw [hj]; simpa using ew) fin hs
  · have hj : (i + (its.toArray.size : Int)).toNat = j := by
      rw [seqIndex_neg (by omega) h4] at h1
      rw [List.size_toArray, ← hl]
      exact Option.some.inj h1
    exact subscriptTail_builtinR (x := w) pl.isList.typeIs slot_list_getitem.lookup
      (wpAny_getItem_list_neg (Q := fun r s' => r = w ∧ EP X pins σ Q r s') pl.isList (by omega) (by rw [List.size_toArray] <;> omega) (by omega) (by rw [hj]; simpa using ew) ⟨rfl, fin⟩) hs
theorem ix_tup : IxR X (rIxT X.K) := by
  intro value slice pins s σ H x y v u Q I rx ry h hs
  obtain ⟨p, xs, i, z, rfl, rfl, hq, he, q⟩ := h
  cases rx
  obtain ⟨t, rfl⟩ := ry
  obtain ⟨its, r, pl, hz⟩ := I.tuple hq
  obtain ⟨j, h1, h2, h3, h4, h5⟩ := atI_get he
  obtain ⟨w, ew, rw'⟩ := r.get h2
  have hl := r.length
  have hn := line63
  have fin : EP X pins σ Q w s := ⟨z, H, I, rw', q⟩
  exact subscriptTail_builtinR (x := w) pl.typeIs slot_tuple_getitem.lookup
    (getItem_tuple (j := j) (Q := fun r s' => r = w ∧ EP X pins σ Q r s') pl (by omega) (by omega) (by rw [List.size_toArray, ← hl]; exact h1) (by simpa using ew) ⟨rfl, fin⟩) hs
theorem ix_str : IxR X rIxS := by
  intro value slice pins s σ H x y v u Q I rx ry h hs
  obtain ⟨z, i, c, rfl, rfl, hz, he, q⟩ := h
  obtain ⟨t, rfl⟩ := rx
  obtain ⟨t', rfl⟩ := ry
  obtain ⟨j, h1, h2, h3, h4, h5⟩ := atI_get he
  have hl : z.cps.toList.length = z.length := by simp [Str.length]
  rw [hl] at h1 h4 h5
  have hn := line63
  exact tail_any (typeIs_str s z t) slot_str_getitem.lookup (getItem_str (c := c) (by
    have e1 : decide (i < -(2 ^ 63 : Int)) = false := decide_eq_false (by omega)
    have e2 : decide (i ≥ 2 ^ 63) = false := decide_eq_false (by omega)
    rw [e1, e2, Bool.or_false]) (by rw [h1]; simpa using h2) ⟨.str ⟨#[c]⟩, H, I.tok _, ⟨_, rfl⟩, q⟩) hs
theorem slice_bounds (lo hi : Option Int) (n : Nat) : (sliceBounds lo hi none n).1 = ((HT.sIx n 0 lo : Nat) : Int) ∧ (sliceBounds lo hi none n).2.1 = ((HT.sIx n n hi : Nat) : Int) ∧ (sliceBounds lo hi none n).2.2 = 1 := by
  refine ⟨?_, ?_, rfl⟩
  · cases lo with
    | none => simp [sliceBounds, HT.sIx]
    | some i =>
      simp only [sliceBounds, HT.sIx, Option.getD_none, show (1 : Int) > 0 by decide, if_true]
      by_cases h : i < 0
      · simp only [h, if_true] <;> omega
      · simp only [h, if_false] <;> omega
  · cases hi with
    | none => simp [sliceBounds, HT.sIx]
    | some i =>
      simp only [sliceBounds, HT.sIx, Option.getD_none, show (1 : Int) > 0 by decide, if_true]
      by_cases h : i < 0
      · simp only [h, if_true] <;> omega
      · simp only [h, if_false] <;> omega
theorem slicePick_cut (its : List Value) (lo hi : Option Int) : slicePick its.toArray lo hi none = ((its.drop (HT.sIx its.length 0 lo)).take (HT.sIx its.length its.length hi - HT.sIx its.length 0 lo)).toArray := by
  obtain ⟨h1, h2, h3⟩ := slice_bounds lo hi its.toArray.size
  unfold slicePick
  rw [h1, h2, h3]
  simp only [sliceRange_one, pick_run, List.size_toArray] <;> rfl
noncomputable def rSlL (K : PySem.W.Frag) : V → Option Int → Option Int → Hp → VK → Prop := fun x lo hi H Q => ∃ a xs, x = .ref a ∧ SqL K H a xs ∧ ∀ p, H p = none → Q (.ref p) (upd H p (.lst (cutV xs lo hi)))
theorem sl_list : SlR X (rSlL X.K) := by
  intro pins s σ H x v vl vu lo hi sl Q I rx hs pl pu h
  obtain ⟨a, xs, rfl, hx, q⟩ := h
  cases rx
  obtain ⟨its, r, ht, hz⟩ := I.list hx
  have hlen := r.length
  refine ⟨"list", _, slot_list_getitem.lookup, ht.isList.typeIs, ?_⟩
  refine wpAny_getItem_list_slice ht.isList hs pl pu .none (by simp) ?_ (by rw [List.size_toArray] <;> omega)
  rw [slicePick_cut, ← hlen]
  refine ⟨.ref s.heap.objs.size, _, I.laid (t' := s.toks) (o := .lst (cutV xs lo hi)) (fun b ob q => Heap.get?_push_of_some _ q) (Nat.le_refl _) ?_, rfl, q _ (I.hok.fresh (Nat.le_refl _))⟩
  exact ⟨Nat.le_trans (cutV_length xs lo hi) hz, _, 0, (r.drop (HT.sIx xs.length 0 lo)).take (HT.sIx xs.length xs.length hi - HT.sIx xs.length 0 lo), Heap.get?_push_size _ rfl⟩

theorem call_len_seq : CallR X (.builtin "len") (fun xs H Q => ∃ p ys, xs = [.ref p] ∧ (SqL X.K H p ys ∨ SqT X.K H p ys) ∧ Q (.int ys.length) H) := by
  intro pins s σ H xs us Q I r h
  obtain ⟨p, ys, rfl, hq, q⟩ := h
  obtain ⟨u, rfl, rx⟩ := vals1 r
  cases rx
  have hn := line63
  rcases hq with hq | hq
  · obtain ⟨its, r', pl, hz⟩ := I.list hq
    have hlen := r'.length
    exact Calls.call_len_list pl.isList (by simp only [List.size_toArray] <;> omega) ⟨.int ys.length, H, I.tok _, ⟨s.toks + 1, by rw [List.size_toArray, hlen]⟩, q⟩
  · obtain ⟨its, r', pl, hz⟩ := I.tuple hq
    have hlen := r'.length
    exact len_tuple pl (by simp only [List.size_toArray] <;> omega) ⟨.int ys.length, H, I.tok _, ⟨s.toks + 1, by rw [List.size_toArray, hlen]⟩, q⟩
theorem call_len_str : CallR X (.builtin "len") (fun xs H Q => ∃ z, xs = [.str z] ∧ z.length ≤ sizeLine ∧ Q (.int z.length) H) := by
  intro pins s σ H xs us Q I r h
  obtain ⟨z, rfl, hz, q⟩ := h
  obtain ⟨u, rfl, t, rfl⟩ := vals1 r
  have hn := line63
  exact len_str (by omega) ⟨.int z.length, H, I.tok _, ⟨_, rfl⟩, q⟩
theorem call_tuple_of : CallR X (.type "tuple") (fun xs H Q => ∃ p ys, xs = [.ref p] ∧ ((SqL X.K H p ys ∧ ∀ l, H l = none → Q (.ref l) (upd H l (.tup ys))) ∨ (SqT X.K H p ys ∧ Q (.ref p) H))) := by
  intro pins s σ H xs us Q I r h
  obtain ⟨p, ys, rfl, h⟩ := h
  obtain ⟨u, rfl, rx⟩ := vals1 r
  cases rx
  rcases h with ⟨hq, q⟩ | ⟨hq, q⟩
  · obtain ⟨its, r', pl, hz⟩ := I.list hq
    have hlen := r'.length
    refine call_tuple_list pl.isList (fun h' kp => ?_) (by simp only [List.size_toArray] <;> omega)
    have I1 : Inv X pins σ H { s with heap := h' } := I.kept (t' := s.toks) kp
    have I2 : Inv X pins σ (upd H h'.objs.size (.tup ys)) { s with heap := h'.push { cls := .type "tuple", data := .seq its.toArray } } :=
      I1.laid (t' := s.toks) (fun b o e => Heap.get?_push_of_some _ e) (Nat.le_refl _) (show ObjOk X.prog X.w _ _ _ (.tup ys) from ⟨hz, its, r', IsTup.new _ _⟩)
    exact ⟨.ref h'.objs.size, _, I2, rfl, q _ (I1.hok.fresh (Nat.le_refl _))⟩
  · obtain ⟨its, r', pl, hz⟩ := I.tuple hq
    exact call_tuple_same pl ⟨.ref p, H, I, rfl, q⟩

noncomputable def tyV (K : PySem.W.Frag) (T : String) (x : V) (H : Hp) : Prop := match x with
  | .str _ => T = "str"
  | .int _ => T = "int"
  | .ref p => (T = "list" ∧ ∃ xs, SqL K H p xs) ∨ (T = "tuple" ∧ ∃ o, K.lookup p = some o ∧ o.cls = .type "tuple" ∧ o.dict = none) ∨
      (T = "dict" ∧ ((∃ kvs, H p = some (.dK kvs)) ∨ ∃ kvs, H p = some (.dT kvs))) ∨ (T = "set" ∧ ∃ S n, H p = some (.set S n))
  | _ => False
theorem tyV_is {pins : List (Addr × Obj)} {σ : St} {H : Hp} {s : Shared} {T : String} {x : V} {v : Value} (I : Inv X pins σ H s) (r : RelV x v) (ty : tyV X.K T x H) :
    s.TypeIs v T ∧ ∀ a, v = .ref a → ∃ ob, s.heap.get? a = some ob ∧ ob.dict = none := by
  cases x with
  | str z =>
    obtain ⟨t, rfl⟩ := r
    cases (show T = "str" from ty)
    exact ⟨typeIs_str s z t, fun _ e => nomatch e⟩
  | int i =>
    obtain ⟨t, rfl⟩ := r
    cases (show T = "int" from ty)
    exact ⟨typeIs_int s i t, fun _ e => nomatch e⟩
  | ref p =>
    cases r
    rcases ty with ⟨rfl, xs, hq⟩ | ⟨rfl, o, hk, hc, hd⟩ | ⟨rfl, hk⟩ | ⟨rfl, S, n, hk⟩
    · obtain ⟨its, _, pl, _⟩ := I.list hq
      refine ⟨pl.isList.typeIs, fun a e => ?_⟩
      cases e
      obtain ⟨o, n, e, c, hd, _⟩ := pl
      exact ⟨o, e, hd⟩
    · refine ⟨⟨o, I.kIn p o hk, hc⟩, fun a e => ?_⟩
      cases e
      exact ⟨o, I.kIn _ o hk, hd⟩
    · have z : ∃ o, s.heap.get? p = some o ∧ o.ExactDict := by
        rcases hk with ⟨kvs, hk⟩ | ⟨kvs, hk⟩
        · obtain ⟨_, _, _, _, o, _, _, e, ex, _⟩ := I.hok p _ hk
          exact ⟨o, e, ex⟩
        · obtain ⟨_, _, _, _, o, _, _, e, ex, _⟩ := I.hok p _ hk
          exact ⟨o, e, ex⟩
      obtain ⟨o, e, ex⟩ := z
      refine ⟨⟨o, e, ex.1⟩, fun a e2 => ?_⟩
      cases e2
      exact ⟨o, e, ex.2.1⟩
    · obtain ⟨o, _, _, _, e, ex, _⟩ := I.hok p _ hk
      refine ⟨⟨o, e, ex.1⟩, fun a e2 => ?_⟩
      cases e2
      exact ⟨o, e, ex.2.1⟩
  | _ => exact False.elim ty
noncomputable def tBM (K : PySem.W.Frag) (T : String) (r : V → List V → Hp → VK → Prop) (to : TE) (t : TA) : TE := fun σ H Q => to σ H fun x H1 => tyV K T x H1 ∧ t σ H1 fun xs H2 => r x xs H2 Q
variable {o e : Expr} {es : List Expr} {to : TE} {t : TA} {name : Str} {apos cpos : Pos} {T id : String} {r : V → List V → Hp → VK → Prop}
theorem pe_bm (pa : PlainAttrs T) (slot : Slot T name id) (hty : typeOf (.builtin id) = pure (.type "method_descriptor")) (hm : MtR X id r) (ho : PE X o to) (ha : PA X (e :: es) t)
    (hbase : attributeBase o name X.env (eval o X.env) = eval o X.env := by rfl)
    (hfew : ((backTo cpos (starEach (e :: es) X.env)).all (fun x => !x.1) && (backToKw cpos (keywordEach [] X.env)).all (fun x => x.1.isSome)
      && decide ((e :: es).length + ([] : List Keyword).length + (if ([] : List Keyword).isEmpty then 0 else 1) < 30)) = true := by rfl)
    (hline : (apos.endLine == cpos.line) = true := by rfl) (hs : starEach (e :: es) X.env = (false, eval e X.env) :: starEach es X.env := by rfl) (hplain : (backTo cpos (starEach es X.env)).any (·.1) = false := by rfl) :
    PE X (.Call (.Attribute o name apos) (e :: es) [] cpos) (tBM X.K T r to t) := by
  intro pins s σ H Q I h
  refine wpAny_Call_method_late hbase hfew hline rfl (thn (ho pins s σ H _ I h) fun v s1 ⟨x, H1, I1, r1, ty, q1⟩ => ?_)
  obtain ⟨h1, h2⟩ := tyV_is I1 r1 ty
  refine ⟨T, id, pa, slot, hty, h1, h2, ?_⟩
  have hA := ha cpos pins s1 σ H1 _ I1 q1
  rw [hs] at hA ⊢
  refine Calls.callWith_builtin (by show (false || (backTo cpos (starEach es X.env)).any (·.1)) = false; rw [hplain] <;> rfl) (Calls.evalArgs_plain ?_)
  exact thn hA fun us s2 ⟨vs, H2, I2, r2, q2⟩ => hm pins s2 σ H2 x vs v us Q I2 r1 r2 q2
/- xs.append(e), list.index on a module's tuple .. are MtR facts of 06m -/
end
end L2

namespace L2
open PySem PySem.Spec PyProof.Rows

noncomputable def MtM (X : Cx) (id : String) (r : V → List V → Hp → VK → Prop) : Prop :=
  ∀ (pins : List (Addr × Obj)) (s : Shared) (σ : St) (H : Hp) (x : V) (xs : List V) (v : Value) (us : List Value) (Q : VK), Inv X pins σ H s → RelV x v → Vals xs us → r x xs H Q →
    wpAny (model X.prog X.w) X.A (call (.builtin id) (v :: us)) (EP X pins σ Q) X.xe s

theorem Vals.one : ∀ {x : V} {us : List Value}, Vals [x] us → ∃ u, us = [u] ∧ RelV x u
  | _, _, .cons r .nil => ⟨_, rfl, r⟩
section
variable {X : Cx} {pins : List (Addr × Obj)} {σ : St} {H : Hp} {s : Shared} {l b : Addr} {xs ys zs : List V}

theorem Inv.lset {its its' : List Value} {n : Nat} {f : Array Value → Array Value} {t' : Nat} (I : Inv X pins σ H s) (hH : H l = some (.lst xs))
    (e : s.heap.get? l = some { cls := .type "list", data := .seq its.toArray n }) (hf : f its.toArray = its'.toArray) (hv : Vals ys its') (hz : ys.length ≤ sizeLine) :
    Inv X pins σ (upd H l (.lst ys)) { s with heap := s.heap.update l (Obj.mapSeq f), toks := t' } := by
  have q := PySem.IsL.update e f
  rw [hf] at q
  refine I.write (x := l) (e := l) (by rw [hH]; exact trivial) (.inl rfl) (fun b' u hb hu => (Heap.get?_update_other s.heap (Obj.mapSeq f) (Ne.symm hb)).trans hu) ⟨_, q⟩ ?_
  exact ⟨hz, its', _, hv, q⟩
theorem Inv.lnew {its : List Value} {t' : Nat} (I : Inv X pins σ H s) (hv : Vals ys its) (hz : ys.length ≤ sizeLine) :
    Inv X pins σ (upd H s.heap.objs.size (.lst ys)) { s with heap := s.heap.push { cls := .type "list", data := .seq its.toArray }, toks := t' } :=
  I.laid (fun _ _ q => Heap.get?_push_of_some _ q) (Nat.le_refl _) ⟨hz, its, 0, hv, Heap.get?_push_size _ rfl⟩
theorem Inv.fresh (I : Inv X pins σ H s) : H s.heap.objs.size = none := I.hok.fresh (Nat.le_refl _)
theorem Inv.lstM (I : Inv X pins σ H s) (hH : H l = some (.lst xs)) : xs.length ≤ sizeLine ∧ ∃ (its : List Value) (n : Nat), Vals xs its ∧ xs.length = its.length ∧ s.heap.get? l = some { cls := .type "list", data := .seq its.toArray n } := by
  obtain ⟨z, its, n, r, e⟩ := I.hok l _ hH
  exact ⟨z, its, n, r, r.length, e⟩

theorem notLongL {n : Nat} (h : n ≤ sizeLine) : Builtin.List.listTooLong n = false := by
  unfold Builtin.List.listTooLong
  exact decide_eq_false (by omega)
end

section
variable {X : Cx}

noncomputable def rAppend : V → List V → Hp → VK → Prop := fun x vs H Q => ∃ l xs y, x = .ref l ∧ vs = [y] ∧ H l = some (.lst xs) ∧ xs.length < sizeLine ∧ Q .non (upd H l (.lst (xs ++ [y])))
theorem mt_append : MtM X "list.append" rAppend := by
  intro pins s σ H x vs v us Q I rx rv h
  obtain ⟨l, xs, y, rfl, rfl, hH, hz, q⟩ := h
  cases rx
  obtain ⟨u, rfl, ru⟩ := rv.one
  obtain ⟨z, its, n, r, hl, e⟩ := I.lstM hH
  refine call_meets F.slot_list_append ⟨_, e, rfl⟩ F.entry_list_append (F.args_list_append_2 _ _) (PySem.list_append l its.toArray n u (by rw [List.size_toArray]; omega)) ⟨e, ?_⟩
  refine ⟨.non, _, I.lset (its' := its ++ [u]) hH e (by simp) (r.append (.cons ru .nil)) ?_, rfl, q⟩
  rw [List.length_append, List.length_singleton]
  omega

noncomputable def rExtend : V → List V → Hp → VK → Prop := fun x vs H Q => ∃ l b xs zs, x = .ref l ∧ vs = [.ref b] ∧ H l = some (.lst xs) ∧ H b = some (.lst zs) ∧ xs.length + zs.length ≤ sizeLine ∧ Q .non (upd H l (.lst (xs ++ zs)))
theorem mt_extend : MtM X "list.extend" rExtend := by
  intro pins s σ H x vs v us Q I rx rv h
  obtain ⟨l, b, xs, zs, rfl, rfl, hH, hB, hz, q⟩ := h
  cases rx
  obtain ⟨u, rfl, ru⟩ := rv.one
  cases ru
  obtain ⟨z, its, n, r, hl, e⟩ := I.lstM hH
  obtain ⟨z2, its2, n2, r2, hl2, e2⟩ := I.lstM hB
  have hsz : its.toArray.size + its2.toArray.size ≤ sizeLine := by rw [List.size_toArray, List.size_toArray]; omega
  have hlong : ¬ (!its.toArray.isEmpty && Builtin.List.listTooLong (its.toArray.size + its2.toArray.size)) = true := by
    rw [notLongL hsz, Bool.and_false]
    exact Bool.false_ne_true
  refine call_meets F.slot_list_extend ⟨_, e, rfl⟩ F.entry_list_extend (F.args_list_extend_2 _ _)
    (AutoSeq1.list_extend_list_list_0 l its.toArray n b its2.toArray n2 hlong (by rw [List.size_toArray]; omega) (by omega)) ⟨e, e2, ?_⟩
  refine ⟨.non, _, I.lset (its' := its ++ its2) hH e (by simp) (r.append r2) ?_, rfl, q⟩
  rw [List.length_append]
  omega

noncomputable def rCat : R2 := fun x y H Q => ∃ l b xs zs, x = .ref l ∧ y = .ref b ∧ H l = some (.lst xs) ∧ H b = some (.lst zs) ∧ xs.length + zs.length ≤ sizeLine ∧ ∀ p, H p = none → Q (.ref p) (upd H p (.lst (xs ++ zs)))
theorem op_cat : OpR X (binaryOp .Add) rCat := by
  intro pins s σ H x y v u Q I rx ry h
  obtain ⟨l, b, xs, zs, rfl, rfl, hH, hB, hz, q⟩ := h
  cases rx
  cases ry
  obtain ⟨z, its, n, r, hl, e⟩ := I.lstM hH
  obtain ⟨z2, its2, n2, r2, hl2, e2⟩ := I.lstM hB
  refine PySem.P.add_list e e2 ?_ (by rw [List.size_toArray, List.size_toArray]; omega)
  have ea : its.toArray ++ its2.toArray = (its ++ its2).toArray := by simp
  rw [ea]
  exact ⟨.ref _, _, I.lnew (t' := s.toks) (r.append r2) (by rw [List.length_append]; omega), rfl, q _ I.fresh⟩
end

section
variable {prog : Program} {w : World} {A : Around} {E : Value → Shared → Prop} {s : Shared}
end

section
variable {X : Cx}
end
end L2

namespace Att
open PySem PySem.W PySem.Calls PyProof.Rows

theorem ints_of_wellAll {P : Params} {h : Heap} : ∀ (ns : List Int) (vs : List Value), WellAll P h vs (ns.map WData.int) → IntsAre vs ns := by
  intro ns
  induction ns with
  | nil =>
    intro vs w
    rw [List.map_nil] at w
    cases w
    exact .nil
  | cons n ns ih =>
    intro vs w
    rw [List.map_cons] at w
    cases w with
    | cons a b =>
      cases a
      exact .cons _ _ (ih _ b)

theorem script_of {l : OpenLaw} {n : Nat} (hn : l.most = some n) {P : Params} {h : Heap} {args : List WData} {vals : List Value}
    (hpre : l.row.toRowW.claim.pre args = true) (hwl : WellAll P h vals args) :
    ∃ a vs ns, vals = [Value.ref a] ∧ args = [WData.list (ns.map WData.int)] ∧ h.get? a = some { cls := .type "list", data := .seq vs.toArray } ∧ IntsAre vs ns ∧ ns.length ≤ n := by
  have hsh : WShape.hasAll [] args [.list .int] = true := (pre_splitW hpre).1
  have hc : l.pre.holds [] { args := args } = true := (pre_splitW hpre).2
  obtain ⟨d, r, rfl, h1, h2⟩ := hasAllW_cons hsh
  obtain rfl := hasAllW_nil h2
  obtain ⟨xs, rfl, h3⟩ := hasW_list h1
  obtain ⟨ns, rfl⟩ := items_int h3
  have hlen : ns.length ≤ n := by
    unfold OpenLaw.pre at hc
    have h4 : (WTm.not (.lt (.lit (.int (n : Int))) (.len (.arg 0)))).holds [] { args := [.list (ns.map .int)] } = true := by
      have h4 := (holds_andW hc).1
      rw [hn] at h4
      exact h4
    have h5 := condW_of h4 (w_not (w_lt w_lit (w_len_list (w_arg rfl))))
    rw [List.length_map] at h5
    refine Nat.le_of_not_lt fun q => ?_
    have q' : (n : Int) < ((ns.length : Nat) : Int) := by omega
    first
      | (rw [decide_eq_true q'] at h5; exact absurd h5 (by decide))
      | (simp at h5; omega)
  cases hwl with
  | cons w1 w2 =>
    cases w2
    cases w1 with
    | list ho hall => exact ⟨_, _, ns, rfl, rfl, ho, ints_of_wellAll ns _ hall, hlen⟩

theorem post_true (l : OpenLaw) (args : List WData) : l.row.toRowW.claim.post args (.bool true) args = true :=
  postW_of (r := l.row.toRowW) (X := (true == true))
    (show WShape.has [] (.bool true) .bool = true by first | rfl | decide | simp [WShape.has, WShape.arms, WShape.armsAll])
    (show (WTm.eq .res (.lit (.bool true))).value [] { args := args, res := some (.bool true), after := args } = some (.bool (true == true)) from w_eq_bool (w_res rfl) w_lit) rfl

theorem attach_call {l : OpenLaw} {n : Nat} {q : Program} {loose : List Str} {XP : (Str → Option Value) → Heap → Prop} {YP : World → Heap → Prop} {d : DefRec}
    (hn : l.most = some n) (hdf : d.params.defaults = [])
    (call : ∀ (w : World) (s₀ s₁ : Shared) (mg mb : Str → Option Value) (fa : Addr) (o : Obj) (pm cd doc : Value) (a : Addr) (vs : List Value) (ns : List Int),
      Ground q loose [] XP w s₀ mg mb s₁.heap → YP w s₁.heap →
      s₁.heap.get? fa = some o → o.data = .func (docDef d.name d.params d.body d.scope pm cd doc) → s₁.heap.CodeRec cd d.name → mg d.name = some (.ref fa) →
      s₁.heap.get? a = some { cls := .type "list", data := .seq vs.toArray } → IntsAre vs ns → ns.length ≤ n → s₁.gens = #[] →
      codeAny (model l.prog w) callerA (.call (.ref fa) ⟨[.ref a], []⟩) (fun r s' => r = .ok (.ret (.bool true)) ∧ OldK s₁.heap s'.heap ∧ s'.os = s₁.os ∧ AllBare s'.gens) s₁) :
    WalkO q loose XP YP l.row.toRowW d [] (fun f vs => PySem.call f vs) := by
  intro w s₀ s₁ mg mb G Y fa o pm cd doc dV kV ho hd hcd hD hmg hg args vals as hpre hlay hrd hwl hlo
  obtain rfl : dV = .none := Dflts.none hD hdf
  obtain rfl : kV = .none := Dflts.noKw hD
  obtain ⟨a, vs, ns, rfl, rfl, hobj, hints, hlen⟩ := script_of hn hpre hwl
  refine enter_call (codeAny_mono (call w s₀ s₁ mg mb fa o pm cd doc a vs ns G Y ho (fd_plain hd) hcd hmg hobj hints hlen hg) fun r s' hq => ?_)
  obtain ⟨rfl, h2, h3, h4⟩ := hq
  exact ⟨.inl ⟨.bool true, .bool true, [], rfl, fun _ => rfl, .bool true, post_true l _, fun _ => ⟨List.Pairwise.nil, fun _ hm => (nomatch hm)⟩⟩, h2, h3, h4⟩

section
variable {prog : Program} {w : World} {A : Around} {E : Value → Shared → Prop} {s : Shared} {K : Frag}

end
end Att

namespace L2
open PySem PySem.Spec PyProof.Rows

theorem vals_ints : ∀ {vs : List Value} {ns : List Int}, IntsAre vs ns → Vals (ns.map V.int) vs
  | _, _, .nil => .nil
  | _, _, .cons n t h => .cons ⟨t, rfl⟩ (vals_ints h)

noncomputable def Only (H : Hp) : Prop := ∀ b, H b = none ∨ ∃ o xs, H b = some (.frz o (.lst xs))

theorem law_call {P : Program} {w : World} {K : PySem.W.Frag} {mg mb : Str → Option Value} {CX : CXT} {k : Nat} {fa a : Addr} {fd : FuncData} {x : Str} {sp : Sp} {s₁ : Shared} {vs : List Value} {ns : List Int}
    (KX : K.In s₁.heap) (hns : s₁.heap.Ns mainGlobals mg) (hb : s₁.heap.Ns builtinsNs mb) (hbb : ∀ x : Str, x ≠ "__name__" → mb x = bootBuiltins x) (hlim : s₁.heap.NoLimit) (hg : s₁.gens = #[])
    (ha : s₁.heap.get? a = some { cls := .type "list", data := .seq vs.toArray }) (hi : IntsAre vs ns) (hl : ns.length ≤ sizeLine) (hr : Room k callerA)
    (F : ∀ base : Heap, K.In base → base.Ns mainGlobals mg → FnOk P w K mg base CX k fa fd [x] sp) (hbind : ∀ (s : Shared) (u : Value), BindsTo s fd ⟨[u], []⟩ [(x, u)])
    (hsp : ∀ H : Hp, Only H → SqL K H a (ns.map V.int) → sp [.ref a] H (fun v _ => v = .bl true) fun _ _ _ => False)
    (hCX : ∀ H e s', CX [] H s₁ (fun _ _ _ => False) e s' → False) :
    codeAny (model P w) callerA (.call (.ref fa) ⟨[.ref a], []⟩) (fun r s' => r = .ok (.ret (.bool true)) ∧ OldK s₁.heap s'.heap ∧ s'.os = s₁.os ∧ AllBare s'.gens) s₁ := by
  have rv := vals_ints hi
  have lenV := hi.length
  -- from an abstract heap in which nothing but the script may be tracked
  have core : ∀ H : Hp, Only H → SqL K H a (ns.map V.int) → HOk P w H s₁.heap → (∀ b, H b ≠ none → b = a) → (H a ≠ none → K.lookup a = none) →
      codeAny (model P w) callerA (.call (.ref fa) ⟨[.ref a], []⟩) (fun r s' => r = .ok (.ret (.bool true)) ∧ OldK s₁.heap s'.heap ∧ s'.os = s₁.os ∧ AllBare s'.gens) s₁ := by
    intro H hO hS hok hA hK
    have base_of : ∀ {b : Addr} {o : Obj}, s₁.heap.get? b = some o → H b = none → (hidT s₁.heap H).get? b = some o := fun e n => hidT_get e n
    have noA : ∀ {b : Addr} {o : Obj} {es : Array DictEntry} {ep : Nat}, s₁.heap.get? b = some o → o.data = .dict es ep → H b = none := fun {b o es ep} e d => by
      cases q : H b with
      | none => rfl
      | some u =>
        have e' : b = a := hA b (by rw [q]; simp)
        subst e'
        rw [ha] at e; cases e
        have d' : Data.seq vs.toArray _ = Data.dict es ep := d
        cases d'
    have nsK : ∀ {b : Addr} {m : Str → Option Value}, s₁.heap.Ns b m → (hidT s₁.heap H).Ns b m := fun {b m} ⟨o, es, ep, e, d, r⟩ => ⟨o, es, ep, base_of e (noA e d), d, r⟩
    have hKb : K.In (hidT s₁.heap H) := fun b o e => base_of (KX b o e) (by
      cases q : H b with
      | none => rfl
      | some u =>
        have e' : b = a := hA b (by rw [q]; simp)
        subst e'
        rw [hK (by rw [q]; simp)] at e; cases e)
    have hM : Mod K mg (hidT s₁.heap H) := ⟨hKb, nsK hns, ⟨mb, nsK hb, hbb⟩, let ⟨mc, h1, h2⟩ := hlim; ⟨mc, nsK h1, h2⟩⟩
    have e0 : Env0 P w K mg (hidT s₁.heap H) callerA [] s₁ H := ⟨rfl, hM, fun b o e => of_hidT e, Nat.le_of_eq (hidT_size _ _), trivial, fun b hb => absurd (show b ∈ ([] : List Addr) from hb) (by simp), hok, .of_eq hg⟩
    refine codeAny_mono ((F _ hKb (nsK hns)).run callerA [] s₁ H ⟨[.ref a], []⟩ [.ref a] [.ref a] _ _ hr e0 (hbind s₁ (.ref a)) (.cons rfl .nil) (hsp H hO hS)) fun r s' h => ?_
    cases r with
    | error e => exact (hCX H e s' h).elim
    | ok fl =>
      cases fl with
      | next => exact False.elim h
      | brk => exact False.elim h
      | cont => exact False.elim h
      | ret u =>
        obtain ⟨v, H', os, bare, un, hok', r', q⟩ := h
        have q' : v = .bl true := q
        subst q'
        obtain rfl : u = Value.bool true := r'
        refine ⟨rfl, OldK.of_keep fun b o e => ?_, os, bare⟩
        cases q : H b with
        | none => exact un.keep b o e q (by intro z; exact absurd (show b ∈ ([] : List Addr) from z) (by simp)) (by simp)
        | some u =>
          rcases hO b with z | ⟨ob, xs, z⟩
          · rw [q] at z; cases z
          · have z2 := un.frzs b ob _ z
            obtain ⟨e1, _⟩ := hok b _ z
            obtain ⟨e2, _⟩ := hok' b _ z2
            rw [e] at e1; cases e1
            exact e2
  cases hk : K.lookup a with
  | some o =>
    -- the script is one of the module's own objects
    have e := KX a o hk
    rw [ha] at e
    cases e
    refine core (fun _ => none) (fun _ => .inl rfl) (.inr ⟨_, vs.toArray, _, hk, rfl, rfl, rfl, by rw [List.size_toArray, lenV]; exact hl, by simpa using rv⟩) (fun b u z => by have z' : (none : Option HO) = some u := z; cases z') (fun b z => absurd rfl z) fun z => absurd rfl z
  | none =>
    refine core (fun b => if b = a then some (.frz { cls := .type "list", data := .seq vs.toArray } (.lst (ns.map V.int))) else none) (fun b => ?_) (.inl (.inr ⟨{ cls := .type "list", data := .seq vs.toArray }, if_pos rfl⟩)) (fun b u z => ?_) (fun b z => ?_) fun _ => hk
    · by_cases hb : b = a
      · exact .inr ⟨_, _, if_pos hb⟩
      · exact .inl (if_neg hb)
    · by_cases hb : b = a
      · have z' := (if_pos hb).symm.trans z
        cases z'
        subst hb
        exact ⟨ha, by rw [List.length_map]; exact hl, vs, _, rv, ha⟩
      · have z' := (if_neg hb).symm.trans z
        cases z'
    · by_cases hb : b = a
      · exact hb
      · exact absurd (if_neg hb) z
end L2

namespace L2
open PySem PySem.Spec PyProof.Rows

noncomputable abbrev KOf {K : PySem.W.Frag} {h : Heap} (_ : K.In h) : PySem.W.Frag := K

theorem walk_of {l : PySem.W.OpenLaw} {n k : Nat} {q : Program} {loose : List Str} {XP : (Str → Option Value) → Heap → Prop} {YP : World → Heap → Prop} {d : DefRec} {K : Params → PySem.W.Frag} {CX : World → CXT} {sp : World → Sp} {x : Str}
    (hn : l.most = some n) (hn2 : n ≤ sizeLine) (hdf : d.params.defaults = []) (hr : Room k callerA)
    (hY : ∀ (w : World) (h : Heap), YP w h → (K w.params).In h)
    (F : ∀ (w : World) (mg : Str → Option Value) (fa : Addr) (h : Heap), (K w.params).In h → h.Ns mainGlobals mg → mg d.name = some (.ref fa) →
      ∃ fd : FuncData, (∀ (s : Shared) (u : Value), BindsTo s fd ⟨[u], []⟩ [(x, u)]) ∧
        ∀ base : Heap, (K w.params).In base → base.Ns mainGlobals mg → FnOk l.prog w (K w.params) mg base (CX w) k fa fd [x] (sp w))
    (hsp : ∀ (w : World) (H : Hp) (a : Addr) (ns : List Int), ns.length ≤ n → Only H → SqL (K w.params) H a (ns.map V.int) → sp w [.ref a] H (fun v _ => v = .bl true) fun _ _ _ => False)
    (hCX : ∀ (w : World) (H : Hp) (s : Shared) (e : Value) (s' : Shared), CX w [] H s (fun _ _ _ => False) e s' → False) :
    PySem.W.WalkO q loose XP YP l.row.toRowW d [] (fun f vs => PySem.call f vs) := by
  refine Att.attach_call hn hdf fun w s₀ s₁ mg mb fa o pm cd doc a vs ns G Y ho hd hcd hmg hobj hints hlen hg => ?_
  have KX := hY w _ Y
  obtain ⟨fd, hb, hF⟩ := F w mg fa _ KX G.T.g hmg
  exact law_call KX G.T.g G.T.b G.T.builtins G.T.nolimit hg hobj hints (Nat.le_trans hlen hn2) hr hF hb (fun H hO hS => hsp w H a ns hlen hO hS) fun H e s' => hCX w H s₁ e s'
end L2

/- THE LAST THEOREM (shape; LID, My.* are yours):
   My.Adr: a structure of the addresses that your layer names (classes, functions); My.Txt K t: a structure (Prop) of the equations over K;
   My.txt_mk : {K} {implicit addresses ..} (e1 : nsIn K mainGlobals "law" = some (some (.ref f))) (e2 : K.lookup f = some ⟨oc, od, .func (fnOf "law" "law" params body scope dV kV doc pm an cdv ct), sl⟩) (e3 : codeIn K cdv "law" = true) .. : ∃ t, My.Txt K t

set_option maxRecDepth 100000 in
set_option maxHeartbeats 0 in
theorem PySem.Challenge.cw_LID_holds : PySem.Challenge.rw_LID.Holds := by
  w_on; o_law; k_head; (case hw => w_witness2)
  k_fill
  refine L2.walk_of (l := PySem.Challenge.rw_LID) (n := 63) (k := 40) (x := "script") (CX := fun w => ..) (sp := fun _ => My.sp_law) rfl (by decide) rfl ⟨rfl, by decide, by decide⟩ (fun w h Y => PySem.W.kIn_of Y) ?F ?S ?C
  case F =>
    intro w mg fa h KX G hmg
    have T : ∃ t, My.Txt (L2.KOf KX) t := by
      dsimp only [L2.KOf]                          -- K must stand as «<heap const> w.params» for k_is
      refine' My.txt_mk ?e1 ?e2 ?e3 ..
      (case e1 => PySem.W.k_is)                    -- in the order: a name -> its address -> its object -> its parts
      (case e2 => PySem.W.k_is)
      ..
    obtain ⟨t, T⟩ := T
    have e0 := hmg.symm.trans (PySem.W.mg_of KX G T.law)
    cases e0                                       -- fa is the law's own address
    exact ⟨_, fun s u => .of_eq rfl, fun base kb nb => My.law_fn T kb nb⟩     -- if «.of_eq rfl» comes too early: refine' ⟨_, ?b, fun base kb nb => My.law_fn T kb nb⟩; exact fun s u => .of_eq rfl
  case S => exact fun w H a ns hl hO hS => ..
  case C => exact ..
(the tactic k_is has no namespace: write k_is) -/

namespace L2
open PySem PySem.Spec PyProof.Rows

noncomputable def defArgs (s : Stmt) : Arguments := match s with
  | .FunctionDef _ a _ _ _ _ _ _ _ _ => a
  | _ => { posonlyargs := [], args := [], vararg := none, kwonlyargs := [], kw_defaults := [], kwarg := none, defaults := [] }
noncomputable def defBody (s : Stmt) : List Stmt := match s with
  | .FunctionDef _ _ b _ _ _ _ _ _ _ => b
  | _ => []
noncomputable def defScope (s : Stmt) : Scope := match s with
  | .FunctionDef _ _ _ _ _ _ sc _ _ _ => sc
  | _ => { kind := .function, names := [], isGenerator := false, isCoroutine := false }

noncomputable abbrev CX0 : CXT := fun _ _ _ _ _ _ => False
noncomputable abbrev E0 : XK := fun _ _ _ => False
theorem pass0 {X : Cx} : Passes CX0 X E0 := fun _ _ _ _ _ _ _ h => h.elim

structure Fun (K : PySem.W.Frag) (x qual : Str) (st : Stmt) (f : Addr) (fd : FuncData) : Prop where
  ex : ∃ (oc : Value) (od : Option Addr) (kV doc pm : Value) (an : Option Addr) (cdv ct : Value) (osl : Array (Option Value)),
    fd = PySem.W.fnOf x qual (defArgs st) (defBody st) (defScope st) .none kV doc pm an cdv ct ∧ K.lookup f = some ⟨oc, od, .func fd, osl⟩ ∧ PySem.W.codeIn K cdv qual = true
  kp : PySem.W.keepIn K (.ref f) = true
section
variable {P : Program} {w : World} {K : PySem.W.Frag} {mg : Str → Option Value} {base : Heap}
theorem Fun.ok {x qual : Str} {st : Stmt} {f : Addr} {fd : FuncData} {N ps : List Str} {k : Nat} {sp : Sp} (F : Fun K x qual st f fd) (S : FnScope N ps (defScope st)) (len : ∀ vs H Q E, sp vs H Q E → vs.length = ps.length)
    (hbody : ∀ (cdv : Value) (A : Around) (outer : List Env) (s : Shared) (H : Hp) (vs : List V) (Q : VK) (E : XK), Room k (A.deeper (envOfC qual (defScope st) s.heap.objs.size f cdv)) → sp vs H Q E →
      ∃ t, PSs (cxOf CX0 P w K mg base N qual (defScope st) f cdv A outer s H E).nox (defBody st) t ∧ t { nx := fun _ H' => Q .non H', rt := Q } (start N vs) H) : FnOk P w K mg base CX0 (k + 1) f fd ps sp := by
  obtain ⟨oc, od, kV, doc, pm, an, cdv, ct, osl, rfl, lk, hcd⟩ := F.ex
  refine fn_of lk hcd S len fun A outer s H vs Q E hr hsp => ?_
  obtain ⟨t, h, q⟩ := hbody cdv A outer s H vs Q E hr hsp
  exact ⟨t, h.nox, q⟩
theorem Fun.binds {x qual : Str} {st : Stmt} {f : Addr} {fd : FuncData} {ps : List Str} (F : Fun K x qual st f fd)
    (h : ∀ (kV doc pm : Value) (an : Option Addr) (cdv ct : Value) (us : List Value), us.length = ps.length → bindArgs (PySem.W.fnOf x qual (defArgs st) (defBody st) (defScope st) .none kV doc pm an cdv ct) ⟨us, []⟩ = pure (ps.zip us)) : Binds K fd ps [] := by
  obtain ⟨oc, od, kV, doc, pm, an, cdv, ct, osl, rfl, lk, hcd⟩ := F.ex
  exact .all (h kV doc pm an cdv ct)
theorem fun_mk {x qual : Str} {st : Stmt} {f : Addr} {oc : Value} {od an : Option Addr} {osl : Array (Option Value)} {kV doc pm cdv ct : Value} (l : K.lookup f = some ⟨oc, od, .func (PySem.W.fnOf x qual (defArgs st) (defBody st) (defScope st) .none kV doc pm an cdv ct), osl⟩)
    (c : PySem.W.codeIn K cdv qual = true) (k : PySem.W.keepIn K (.ref f) = true) : Fun K x qual st f (PySem.W.fnOf x qual (defArgs st) (defBody st) (defScope st) .none kV doc pm an cdv ct) := ⟨⟨oc, od, kV, doc, pm, an, cdv, ct, osl, rfl, l, c⟩, k⟩
end
theorem small1000 {n : Nat} (h : n ≤ 1000) : n < sizeLine := Nat.lt_of_le_of_lt h (by decide)

section
variable {X : Cx}
theorem pv (i : Nat) {x : Str} {pos : Pos} (hN : X.N[i]? = some x := by rfl) (hv : Vis X.env.scope x := by first | exact Or.inl rfl | exact Or.inr (Or.inl rfl) | exact Or.inr (Or.inr rfl)) (hd : (x == ("__debug__" : Str)) = false := by decide)
    (hcd : (x == ("__classdict__" : Str)) = false := by decide) : PE X (.Name x pos) (tVar i) := pe_var hN hv hd hcd
end

theorem iteF {A B : Prop} (h : B) : if false = true then A else B := by
  rw [if_neg Bool.false_ne_true]
  exact h
theorem iteT {A B : Prop} (h : A) : if true = true then A else B := by
  rw [if_pos rfl]
  exact h
theorem ite2 {c A B : Prop} [Decidable c] (h1 : c → A) (h2 : ¬ c → B) : if c then A else B := by
  by_cases h : c
  · rw [if_pos h]
    exact h1 h
  · rw [if_neg h]
    exact h2 h
theorem iteNS {c A B : Prop} [Decidable c] (hc : c) (h : B) : if (!decide c) = true then A else B := by
  rw [decide_eq_true hc]
  exact iteF h

noncomputable def Same (H H' : Hp) : Prop := ∀ b o, H b = some o → H' b = some o
theorem Same.refl (H : Hp) : Same H H := fun _ _ h => h
theorem Same.trans {H H1 H2 : Hp} (a : Same H H1) (b : Same H1 H2) : Same H H2 := fun c o h => b c o (a c o h)
theorem Same.seq {K : PySem.W.Frag} {H H' : Hp} {a : Addr} {xs : List V} (e : Same H H') (h : SqL K H a xs) : SqL K H' a xs := by
  rcases h with (h | ⟨o, h⟩) | h
  · exact .inl (.inl (e _ _ h))
  · exact .inl (.inr ⟨o, e _ _ h⟩)
  · exact .inr h

end L2
set_option Elab.async false
set_option linter.all false
set_option maxRecDepth 100000
set_option maxHeartbeats 4000000
namespace L3
open PySem PySem.Spec PyProof.Rows L2
noncomputable abbrev St := L2.St
noncomputable abbrev V := L2.V

noncomputable abbrev NoX : Value → Shared → Prop := fun _ _ => False
theorem noX_any {α : Type} {M : Model} {A : Around} {t : Sem α} {Q : α → Shared → Prop} {E : Value → Shared → Prop} {s : Shared} (h : wpAny M A t Q NoX s) : wpAny M A t Q E s :=
  wpAny_mono h (fun _ _ q => q) fun _ _ z => False.elim z

theorem comp_turns {prog : Program} {w : World} {A : Around} {R : Result → Shared → Prop} {s : Shared} {elt tg iter : Expr} {ifs : List Expr} {scope : Scope} {pos : Pos} {it acc : Value} {env : Env} (I : Nat → Shared → Prop)
    (turn : ∀ n s, I n s → wpAny (model prog w) A (pyNext it) (fun r s1 => match r with
      | none => R (.ok .next) s1
      | some v => wpAny (model prog w) A (letOwnedTupleGo tg it v) (fun _ s2 => wpAny (model prog w) A (assign tg env v) (fun _ s3 =>
          wpAny (model prog w) A (forIn ifs true fun c r => if r = true then do let ok ← isTrue c env (eval c env); pure (ForInStep.yield ok) else pure (ForInStep.yield r)) (fun ok s4 =>
            if ok = true then wpAny (model prog w) A (eval elt env) (fun x s5 => wpAny (model prog w) A (call (.builtin "list.append") [acc, x]) (fun _ s6 => ∃ m, m < n ∧ I m s6) NoX s5) NoX s4
            else ∃ m, m < n ∧ I m s4) NoX s3) NoX s2) NoX s1) NoX s)
    (n : Nat) (h : I n s) : codeAny (model prog w) A (.compLoop (.ListComp elt [⟨tg, iter, ifs, 0⟩] scope pos) 0 it acc env) R s := by
  refine codeAny_loop rfl I (fun n s hI => ?_) n h
  show wpAny _ A ((compTurn (.ListComp elt [⟨tg, iter, ifs, 0⟩] scope pos) 0 it acc env).onRaise (fun x => do noteFrame x env; theTreesLotGoes x)) _ _ s
  refine wpAny_noted (noX_any ?_)
  rw [compTurn_list]
  refine wpAny_bind (wpAny_standAt (wpAny_bind (wpAny_mono (turn n s hI) (fun r s1 h1 => ?_) fun _ _ z => z)))
  cases r with
  | none => exact wpAny_pure h1
  | some v =>
    refine wpAny_bind (wpAny_mono h1 (fun _ s2 h2 => wpAny_bind (wpAny_mono h2 (fun _ s3 h3 => wpAny_bind (wpAny_mono h3 (fun ok s4 h4 => ?_) fun _ _ z => z)) fun _ _ z => z)) fun _ _ z => z)
    cases ok with
    | false => exact wpAny_pure ⟨rfl, h4⟩
    | true => exact wpAny_bind (wpAny_bind (wpAny_mono h4 (fun x s5 h5 => wpAny_bind (wpAny_mono h5 (fun _ s6 h6 => wpAny_pure (wpAny_pure ⟨rfl, h6⟩)) fun _ _ z => z)) fun _ _ z => z))

noncomputable def caps (cs : List (Option Nat)) (σ : St) : St := cs.map fun o => o.bind fun j => (σ[j]?).bind id
noncomputable def cxComp (X : Cx) (N' : List Str) (scope : Scope) (cl : List (Str × Addr)) (C : Addr) (s3 : Shared) (H3 : Hp) (fp : List Addr) (pn : List (Addr × Obj)) : Cx :=
  { X with N := N', s₀ := s3, H₀ := H3, env := compEnvC scope cl C X.env, outer := X.stack, stack := X.stack, ex := fp, fn := fun _ => false, pn := pn, xe := fun _ _ => False }
noncomputable def CellK (k : Option NameKind) : Prop := k = some .cell ∨ k = some .free
inductive Caps (X : Cx) (scope : Scope) (cl : List (Str × Addr)) : List Str → List (Option Nat) → Prop
  | nil : Caps X scope cl [] []
  | own {x N cs} : Caps X scope cl N cs → Caps X scope cl (x :: N) (none :: cs)
  | cap {x j N cs} (h1 : X.N[j]? = some x) (h2 : CellK (X.env.kindOf x)) (h3 : CellK ((relabel scope X.env).names.lookup x)) (h4 : cl.lookup x = X.env.cells.lookup x) :
      Caps X scope cl N cs → Caps X scope cl (x :: N) (some j :: cs)
theorem Caps.len {X : Cx} {scope : Scope} {cl : List (Str × Addr)} {N cs} (h : Caps X scope cl N cs) : cs.length = N.length := by
  induction h with
  | nil => rfl
  | own _ ih => simp [ih]
  | cap _ _ _ _ _ ih => simp [ih]
theorem Caps.get {X : Cx} {scope : Scope} {cl : List (Str × Addr)} {N cs} (h : Caps X scope cl N cs) {σ : St} : ∀ {i : Nat} {x : Str} {v : V}, N[i]? = some x → (caps cs σ)[i]? = some (some v) →
    ∃ j : Nat, X.N[j]? = some x ∧ σ[j]? = some (some v) ∧ CellK (X.env.kindOf x) ∧ CellK ((relabel scope X.env).names.lookup x) ∧ cl.lookup x = X.env.cells.lookup x := by
  induction h with
  | nil => intro i x v h1 h2; simp at h1
  | own _ ih =>
    intro i x v h1 h2
    cases i with
    | zero => simp [caps] at h2
    | succ i => exact ih (i := i) (by simpa using h1) (by simpa [caps] using h2)
  | @cap y j N cs a1 a2 a3 a4 _ ih =>
    intro i x v h1 h2
    cases i with
    | zero =>
      simp at h1
      subst h1
      refine ⟨j, a1, ?_, a2, a3, a4⟩
      simp [caps] at h2
      cases q : σ[j]? with
      | none => rw [q] at h2; simp at h2
      | some o =>
        rw [q] at h2
        simp at h2
        rw [h2]
    | succ i => exact ih (i := i) (by simpa using h1) (by simpa [caps] using h2)
noncomputable def clOk (cl : List (Str × Addr)) (names : List (Str × NameKind)) : Bool := names.all fun y => (y.2 != .cell && y.2 != .free) || (cl.lookup y.1).isSome
theorem clOk_has {cl : List (Str × Addr)} {names : List (Str × NameKind)} (h : clOk cl names = true) {x : Str} (k : CellK (names.lookup x)) : ∃ c, cl.lookup x = some c := by
  have key : ∀ q : NameKind, names.lookup x = some q → (q = .cell ∨ q = .free) → ∃ c, cl.lookup x = some c := fun q e hq => by
    have m := List.all_eq_true.mp h (x, q) (PySem.mem_of_lookup e)
    rcases hq with rfl | rfl
    · exact Option.isSome_iff_exists.mp (by simpa using m)
    · exact Option.isSome_iff_exists.mp (by simpa using m)
  rcases k with k | k
  · exact key _ k (.inl rfl)
  · exact key _ k (.inr rfl)

noncomputable def PIfs (X : Cx) (ifs : List Expr) (t : TT) : Prop :=
  ∀ (pins : List (Addr × Obj)) (s : Shared) (σ : St) (H : Hp) (Q : Bool → Hp → Prop), Inv X pins σ H s → t σ H Q →
    wpAny (model X.prog X.w) X.A (forIn ifs true fun c r => if r = true then do let ok ← isTrue c X.env (eval c X.env); pure (ForInStep.yield ok) else pure (ForInStep.yield r)) (TP X pins σ Q) X.xe s
noncomputable def tAll : TT := fun _ H Q => Q true H
theorem pif_nil {X : Cx} : PIfs X [] tAll := fun _ _ _ H _ I h => wpAny_tests_nil ⟨H, I, h⟩
noncomputable def tLC (wi : TI) (cs : List (Option Nat)) (g : TG) (tt : TT) (te : TE) : TE := fun σ H Q => wi σ H fun J H1 => ∀ D, H1 D = none →
  ∃ W : Nat → Nat → List V → St → Hp → Prop, (∃ m, W 0 m [] (caps cs σ) (upd H1 D (.lst []))) ∧ ∀ i m ys σ' H', W i m ys σ' H' → H' D = some (.lst ys) ∧ ys.length < sizeLine ∧
    ((J.stop i H' ∧ Q (.ref D) H') ∨ (J.go i H' ∧ ∀ x H2, J.yld i H' x H2 → g x σ' H2 fun σ3 H3 => tt σ3 H3 fun b H4 =>
      if b = true then te σ3 H4 fun y H5 => H5 D = some (.lst ys) ∧ ∃ m', m' < m ∧ W (i + 1) m' (ys ++ [y]) σ3 (upd H5 D (.lst (ys ++ [y])))
      else ∃ m', m' < m ∧ W (i + 1) m' ys σ3 H4))

section
variable {X : Cx} {elt tg iter : Expr} {ifs : List Expr} {scope : Scope} {pos : Pos} {N' : List Str} {cs : List (Option Nat)} {cl : List (Str × Addr)} {wi : TI} {g : TG} {tt : TT} {te : TE}

theorem hok_but {P : Program} {w : World} {H : Hp} {h h' : Heap} {C : Addr} (ok : HOk P w H h) (hC : H C = none) (hs : Heap.SameBut C h h') : HOk P w H h' := fun b ob e => by
  refine (ok b ob e).stay (fun c u hc q => (hs.2 c ?_).trans q) (fun _ q => q) fun _ _ q => q
  rintro rfl
  rcases hc with rfl | hc
  · rw [hC] at e; cases e
  · rw [hC] at hc; cases hc

theorem lc_any {use : Option (Value → Sem Unit)} {QQ : Value → Shared → Prop} {pins : List (Addr × Obj)} {s : Shared} {σ : St} {H : Hp} {Q : VK} {fpos : Pos} (hc : X.calm = true) (hi : PI X tg iter wi) (hclos : closureFor scope X.env = pure cl) (hcell : ∀ y ∈ scope.names, y.2 ≠ .cell) (hkind : scope.kind = .function)
    (hnames : ∀ y ∈ scope.names, y.2 = .local → scope.names.lookup y.1 = some .local) (hsub : ∀ x c, cl.lookup x = some c → X.env.cells.lookup x = some c)
    (hok : clOk cl (relabel scope X.env).names = true) (hcaps : Caps X scope cl N' cs)
    (hb : ∀ (C : Addr) (s3 : Shared) (H3 : Hp) (fp : List Addr) (pn : List (Addr × Obj)), PG (cxComp X N' scope cl C s3 H3 fp pn) tg g ∧ PIfs (cxComp X N' scope cl C s3 H3 fp pn) ifs tt ∧ PE (cxComp X N' scope cl C s3 H3 fp pn) elt te)
    (hs : ∀ x, foldedSetIterable iter X.env x = pure x := by intro _; rfl) (I : Inv X pins σ H s) (h : tLC wi cs g tt te σ H Q)
    (post : ∀ (D C : Addr) (s4 : Shared) (H' : Hp) (m : Str → Option Value), Inv X pins σ H' s4 → s4.heap.Ns C m → FpOk X pins H' C → Q (.ref D) H' → compPost (model X.prog X.w) X.A X.xe use QQ (.ref D) C (.ok .next) s4) :
    wpAny (model X.prog X.w) X.A (comprehension (.ListComp elt [⟨tg, iter, ifs, 0⟩] scope pos) scope X.env fpos (newList []) false (eval iter X.env) use) QQ X.xe s := by
  refine wpAny_comprehension_free (use := use) rfl hs hclos hkind hnames (thn (hi pins s σ H _ I h) fun v s1 h1 => thn h1 fun itv s2 h2 => ?_)
  obtain ⟨it, fp, tn, J, H2, rfl, I2, T, st2, f2, q2⟩ := h2
  refine wpAny_newObj_type (wpAny_newFunctionEnv hcell (by intro y hy; simp at hy) (fun h1 hns1 hsb1 => ?_) hkind)
  dsimp only at hns1 hsb1 ⊢
  have I3 : Inv X pins σ (upd H2 s2.heap.objs.size (.lst [])) { s2 with heap := s2.heap.push { cls := .type "list", data := .seq ([] : List Value).toArray }, toks := s2.toks } := I2.lnew (its := []) (ys := []) .nil (Nat.zero_le _)
  have hDf : H2 s2.heap.objs.size = none := I2.fresh
  obtain ⟨W, ⟨m0, w0⟩, turn⟩ := q2 _ hDf
  generalize hH3 : s2.heap.push { cls := .type "list", dict := none, data := .seq ([] : List Value).toArray } = h3 at hns1 hsb1 I3 ⊢
  have hsz3 : h3.objs.size = s2.heap.objs.size + 1 := by rw [← hH3, Heap.size_push]
  generalize hD : s2.heap.objs.size = D at *
  have kept : ∀ b o, h3.get? b = some o → h1.get? b = some o := fun b o e => hsb1.extBut b o (Nat.ne_of_lt (Heap.lt_size e)) (Heap.get?_push_of_some _ e)
  have old : ∀ b o, s2.heap.get? b = some o → h3.get? b = some o := fun b o e => by rw [← hH3]; exact Heap.get?_push_of_some _ e
  have fpo : ∀ b ∈ fp, b < D := fun b hb' => by
    obtain ⟨o, e, _⟩ := T.obj 0 _ st2 b hb'
    rw [← hD]
    exact Heap.lt_size e
  have fpfs : ∀ b ∈ fp, b ∉ frs X.stack := fun b hb' z => by
    obtain ⟨_, f1, f3, _⟩ := f2 b hb'
    rcases List.mem_cons.mp (I2.stkSub b z) with e | e
    · exact f1 e
    · exact f3 e
  -- the block's context
  generalize hX : cxComp X N' scope cl h3.objs.size { s2 with heap := h3, toks := s2.toks } (upd H2 D (.lst [])) fp (X.pn ++ pins) = X'
  obtain ⟨hg, hif, he⟩ := hb h3.objs.size { s2 with heap := h3, toks := s2.toks } (upd H2 D (.lst [])) fp (X.pn ++ pins)
  rw [hX] at hg hif he
  have eP : X'.prog = X.prog := by rw [← hX]; rfl
  have eW : X'.w = X.w := by rw [← hX]; rfl
  have eK : X'.K = X.K := by rw [← hX]; rfl
  have eC : X'.calm = X.calm := by rw [← hX]; rfl
  have I4 : Inv X' [] (caps cs σ) (upd H2 D (.lst [])) { s2 with heap := h1, toks := s2.toks + 0 } := by
    rw [← hX]
    refine ⟨⟨I3.ok.mod, hkind, I3.ok.glob, I3.ok.blt, Nat.le_refl _, fun x y c e1 e2 => I3.ok.inj x y c (hsub _ _ e1) (hsub _ _ e2), fun x hx => clOk_has hok hx, fun x c z _ => absurd (show false = true from z) Bool.false_ne_true, I3.ok.hd, I3.ok.frames, .inl rfl,
      fun b hb' => ⟨fun e => ?_, fun x c e => (f2 b hb').2.2.2.2.1 x c (hsub _ _ e)⟩, I3.bs, Nat.le_trans I3.ok.bsz I3.sz, fun b o e hb' => ?_, fpfs, I3.stack, I3.stkFree⟩, rfl, I3.bare, Un.kept kept, ⟨_, hns1, fun i x v e1 e2 e3 => ?_⟩, fun x c e => ?_, I3.hok.fresh (Nat.le_refl _), fun x c e => I3.freeC x c (hsub _ _ e),
      fun p hp => ?_, I3.hok.kept kept, ?_⟩
    · have l := fpo b hb'
      rw [show b = h3.objs.size from e, hsz3] at l
      exact Nat.lt_irrefl _ (Nat.lt_of_succ_lt l)
    · have l := fpo b hb'
      rcases (f2 b hb').2.2.2.1 with z | z
      · exact I2.ok.noex b o e z
      · exact absurd (Nat.lt_of_lt_of_le (Heap.lt_size (I2.ok.bs b o e).1) z) (Nat.lt_irrefl _)
    · obtain ⟨j, a1, a2, a3, a4, a5⟩ := hcaps.get e1 e2
      obtain ⟨m, hn, hl⟩ := I3.loc
      obtain ⟨u, ru, l⟩ := hl j x v a1 a2 (by rcases a3 with z | z; exact .inr (.inl z); exact .inr (.inr z))
      refine ⟨u, ru, .inr ⟨a4, ?_⟩⟩
      rcases l with ⟨k, _⟩ | ⟨k, c, e, z⟩
      · rcases a3 with q | q <;> (rw [k] at q; cases q)
      · obtain ⟨o, ho, hd⟩ := z
        exact ⟨c, a5.trans e, o, kept c o ho, hd⟩
    · obtain ⟨v, o, ho, hd⟩ := I3.cell x c (hsub _ _ e)
      exact ⟨v, o, kept c o ho, hd⟩
    · have hp' : p ∈ X.pn ++ pins := by simpa [cxComp] using hp
      obtain ⟨e, n, ne, nf, d⟩ := I3.pin p hp'
      refine ⟨kept _ _ e, n, Nat.ne_of_lt (Heap.lt_size e), fun z => ?_, d⟩
      rcases List.mem_cons.mp (I3.stkSub p.1 z) with q | q
      · exact ne q
      · exact nf q
    · show (caps cs σ).length = N'.length
      rw [caps, List.length_map]
      exact hcaps.len
  have tn1 : tn 0 h1 := T.keep 0 _ _ st2 fun b hb' o e => kept b o (old b o e)
  have stat : ∀ {H' : Hp}, (∀ b ∈ fp, H' b = none) → ∀ b ∈ fp, FpOk X' [] H' b := fun {H'} hn b hb' => by
    rw [← hX]
    refine ⟨hn b hb', fun e => ?_, fpfs b hb', .inl hb', fun x c e => (f2 b hb').2.2.2.2.1 x c (hsub _ _ e), fun p hp => (f2 b hb').2.2.2.2.2 p (by simpa [cxComp] using hp)⟩
    have l := fpo b hb'
    rw [show b = h3.objs.size from e, hsz3] at l
    exact Nat.lt_irrefl _ (Nat.lt_of_succ_lt l)
  have fr0 : ∀ b ∈ fp, (upd H2 D (.lst [])) b = none := fun b hb' => by
    rw [upd_ne (Nat.ne_of_lt (fpo b hb'))]
    exact (f2 b hb').1
  have xA : X'.A = X.A := by rw [← hX]; rfl
  have xE : X'.env = compEnvC scope cl h3.objs.size X.env := by rw [← hX]; rfl
  have xX : X'.xe = NoX := by rw [← hX]; rfl
  have loop : codeAny (model X.prog X.w) X.A (.compLoop (.ListComp elt [⟨tg, iter, ifs, 0⟩] scope pos) 0 (.ref it) (.ref D) (compEnvC scope cl h3.objs.size X.env))
      (compPost (model X.prog X.w) X.A X.xe use QQ (.ref D) h3.objs.size) { s2 with heap := h1, toks := s2.toks + 0 } := by
    refine comp_turns (fun n s' => ∃ i ys σ' H', Inv X' [] σ' H' s' ∧ tn i s'.heap ∧ (∀ b ∈ fp, H' b = none) ∧ W i n ys σ' H') ?_ m0 ⟨0, [], _, _, I4, tn1, fr0, w0⟩
    rintro n s' ⟨i, ys, σ', H', I', st', fr', w'⟩
    obtain ⟨hHD, hyl, hor⟩ := turn i n ys σ' H' w'
    rcases hor with ⟨stop, q⟩ | ⟨go, step⟩
    · have hd := T.done X' eP eW eK (eC.trans hc) i [] s' σ' H' NoX I' (stat fr') st' stop
      rw [xA] at hd
      refine thn hd fun r s4 hr => ?_
      obtain ⟨rfl, I5⟩ := hr
      obtain ⟨m, hn, _⟩ := id I5.loc
      have eL : X'.env.locals = h3.objs.size := by rw [xE]; rfl
      have hfree : H' h3.objs.size = none := by rw [← eL]; exact I5.free
      have bu := I5.base
      rw [← hX] at bu
      have hos : s4.os = s2.os := by
        have z := I5.os
        rw [← hX] at z
        exact z
      have hk5 := I5.hok
      rw [eP, eW] at hk5
      have Iout : Inv X pins σ H' s4 := I3.call' (s' := s4) (ch := fp) hos ⟨bu.keep, bu.slot, bu.free, bu.there, bu.tups, bu.frzs, bu.tbls⟩ hk5 I5.bare fun b hb' => by
        obtain ⟨_, g1, _, g3, g4, g5⟩ := f2 b hb'
        exact ⟨g3, g1, g4, g5⟩
      exact post D h3.objs.size s4 H' m Iout (by rw [eL] at hn; exact hn) (I3.fpOk (Nat.le_refl _) hfree) q
    · have hit := T.item X' eP eW eK (eC.trans hc) i [] s' σ' H' NoX I' (stat fr') st' go
      rw [xA] at hit
      refine thn hit fun r s4 hr => ?_
      obtain ⟨u, rfl, h4⟩ := hr
      refine thn h4 fun _ s5 h5 => ?_
      obtain ⟨x, H5, I5, r5, y5, st5, fr5⟩ := h5
      have I5' := I5.pinned (stat fr5) (T.obj _ _ st5)
      have ha := hg _ s5 σ' H5 x u _ I5' r5 (step x H5 y5)
      rw [xA, xE, xX, eP, eW] at ha
      refine thn ha fun _ s6 h6 => ?_
      obtain ⟨σ6, H6, I6, q6⟩ := h6
      have ht := hif _ s6 σ6 H6 _ I6 q6
      rw [xA, xE, xX, eP, eW] at ht
      refine thn ht fun ok s7 h7 => ?_
      obtain ⟨H7, I7, q7⟩ := h7
      have back : ∀ {σ8 : St} {H8 : Hp} {s8 : Shared} {ys' : List V} {m' : Nat}, Inv X' ([] ++ pinsAt fp s5.heap) σ8 H8 s8 → m' < n → W (i + 1) m' ys' σ8 H8 →
          ∃ m, m < n ∧ ∃ i ys σ' H', Inv X' [] σ' H' s8 ∧ tn i s8.heap ∧ (∀ b ∈ fp, H' b = none) ∧ W i m ys σ' H' := fun {σ8 H8 s8 ys' m'} I8 hm w8 => by
        refine ⟨m', hm, i + 1, ys', σ8, H8, I8.unpinned, T.keep _ _ _ st5 fun b hb' o e => (I8.pin (b, o) (List.mem_append_right _ (List.mem_append_right _ (mem_pinsAt hb' e)))).1, fun b hb' => ?_, w8⟩
        obtain ⟨o, e, d⟩ := T.obj _ _ st5 b hb'
        exact (I8.pin (b, o) (List.mem_append_right _ (List.mem_append_right _ (mem_pinsAt hb' e)))).2.1
      cases ok with
      | false =>
        rw [if_neg Bool.false_ne_true] at q7 ⊢
        obtain ⟨m', hm, w7⟩ := q7
        exact back I7 hm w7
      | true =>
        rw [if_pos rfl] at q7 ⊢
        have hel := he _ s7 σ6 H7 _ I7 q7
        rw [xA, xE, xX, eP, eW] at hel
        refine thn hel fun yv s8 h8 => ?_
        obtain ⟨y, H8, I8, r8, hD8, m', hm, w8⟩ := h8
        have hap := mt_append (X := X') _ s8 σ6 H8 (.ref D) [y] (.ref D) [yv] (fun _ H9 => H9 = upd H8 D (.lst (ys ++ [y]))) I8 rfl (.cons r8 .nil) ⟨D, ys, y, rfl, rfl, hD8, hyl, rfl⟩
        rw [xA, xX, eP, eW] at hap
        refine thn hap fun _ s9 h9 => ?_
        obtain ⟨_, H9, I9, _, rfl⟩ := h9
        exact back I9 hm w8
  exact codeAny_compStart_list loop (T.self _ 0 _ _ _ tn1 loop)
theorem pe_lc (hc : X.calm = true) (hi : PI X tg iter wi) (hclos : closureFor scope X.env = pure cl) (hcell : ∀ y ∈ scope.names, y.2 ≠ .cell) (hkind : scope.kind = .function)
    (hnames : ∀ y ∈ scope.names, y.2 = .local → scope.names.lookup y.1 = some .local) (hsub : ∀ x c, cl.lookup x = some c → X.env.cells.lookup x = some c)
    (hok : clOk cl (relabel scope X.env).names = true) (hcaps : Caps X scope cl N' cs)
    (hb : ∀ (C : Addr) (s3 : Shared) (H3 : Hp) (fp : List Addr) (pn : List (Addr × Obj)), PG (cxComp X N' scope cl C s3 H3 fp pn) tg g ∧ PIfs (cxComp X N' scope cl C s3 H3 fp pn) ifs tt ∧ PE (cxComp X N' scope cl C s3 H3 fp pn) elt te)
    (hs : ∀ x, foldedSetIterable iter X.env x = pure x := by intro _; rfl) : PE X (.ListComp elt [⟨tg, iter, ifs, 0⟩] scope pos) (tLC wi cs g tt te) := by
  intro pins s σ H Q I h
  rw [eval_ListComp]
  refine lc_any hc hi hclos hcell hkind hnames hsub hok hcaps hb hs I h fun D C s4 H' m I4 hn fC q => ⟨m, hn, fun h' hsb => ⟨.ref D, H', ?_, rfl, q⟩⟩
  obtain ⟨f0, f1, f2, f3, f4, f5⟩ := fC
  exact I4.turned (t' := s4.toks) (fun b o hb e => (hsb.2 b hb).trans e) f0 f1 f3 f4 f5
end

noncomputable def Wk (J : It) (H1 : Hp) (xs : List V) : Prop := ∀ H', Same H1 H' → J.stop xs.length H' ∧ (∀ i, i < xs.length → J.go i H') ∧ ∀ i x H2, i < xs.length → J.yld i H' x H2 → H2 = H' ∧ xs[i]? = some x
theorem wk_list {K : PySem.W.Frag} {a : Addr} {xs : List V} {H1 : Hp} (h : SqL K H1 a xs) : Wk (Itl K a) H1 xs := fun H' sm =>
  ⟨⟨xs, sm.seq h, Nat.le_refl _⟩, fun i hi => ⟨xs, xs[i], sm.seq h, by simp [hi]⟩, fun i x H2 _ y => ⟨y.1, y.2 xs (sm.seq h)⟩⟩
end L3
set_option Elab.async false
set_option linter.all false
set_option maxRecDepth 100000
set_option maxHeartbeats 4000000
namespace L3
open PySem PySem.Spec PyProof.Rows L2

noncomputable def signs (x : Str) : List V := x.cps.toList.map fun c => V.str ⟨#[c]⟩
noncomputable def Its (x : Str) : It := ⟨fun i _ => i < x.cps.size, fun i H v H' => H' = H ∧ ∃ c, x.cps[i]? = some c ∧ v = .str ⟨#[c]⟩, fun i _ => i = x.cps.size⟩
theorem wk_str {H1 : Hp} (x : Str) : Wk (Its x) H1 (signs x) := fun H' _ => by
  have hl : (signs x).length = x.cps.size := by simp [signs]
  refine ⟨hl, fun i hi => by rw [hl] at hi; exact hi, fun i v H2 hi y => ?_⟩
  obtain ⟨e1, c, e2, e3⟩ := y
  refine ⟨e1, ?_⟩
  subst e3
  have e4 : x.cps.toList[i]? = some c := by simpa using e2
  simp [signs, e4]
theorem turn_str {P : Program} {w : World} {K : PySem.W.Frag} {tg : Expr} (it : Addr) (x : Str) (t : Tok) {ty : String} (hty : ty = "str_ascii_iterator" ∨ ty = "str_iterator") : Turn P w K tg (Its x) [it] it (fun i h => h.IsStrIter it ty x t i) where
  mem := by simp
  obj := fun i h st b hb => by
    have e : b = it := by simpa using hb
    subst e
    obtain ⟨o, e, c, d⟩ := st
    exact ⟨o, e, fun v z => by rw [d] at z; cases z⟩
  keep := fun i h h' st k => by
    obtain ⟨o, e, r⟩ := st
    exact ⟨o, k it (by simp) o e, r⟩
  item := by
    intro X hP hw hK hc i pins s σ H E I hf st hg
    subst hP hw hK
    obtain ⟨f0, f1, f2, f3, f4, f5⟩ := hf it (by simp)
    have hi : i < x.cps.size := hg
    have ec : x.cps[i]? = some x.cps[i] := by simp [hi]
    rcases hty with rfl | rfl
    · refine wpAny_pyNext_ascii_item st ec fun h' st' sb => ?_
      have I1 : Inv X pins σ H { s with heap := h', toks := s.toks + 1 } := I.turned (fun b o hb e => (sb.2 b hb).trans e) f0 f1 f3 f4 f5
      obtain ⟨o, e, c, d⟩ := id st'
      exact ⟨_, rfl, go_of (s := { s with heap := h', toks := s.toks + 1 }) e c d (by decide) ⟨.str ⟨#[x.cps[i]]⟩, H, I1, ⟨_, rfl⟩, ⟨rfl, _, ec, rfl⟩, st', fun b hb => (hf b hb).1⟩⟩
    · refine wpAny_pyNext_wide_item st ec fun h' st' sb => ?_
      have I1 : Inv X pins σ H { s with heap := h', toks := s.toks + 1 } := I.turned (fun b o hb e => (sb.2 b hb).trans e) f0 f1 f3 f4 f5
      obtain ⟨o, e, c, d⟩ := id st'
      exact ⟨_, rfl, go_of (s := { s with heap := h', toks := s.toks + 1 }) e c d (by decide) ⟨.str ⟨#[x.cps[i]]⟩, H, I1, ⟨_, rfl⟩, ⟨rfl, _, ec, rfl⟩, st', fun b hb => (hf b hb).1⟩⟩
  done := by
    intro X hP hw hK hc i pins s σ H E I hf st hg
    subst hP hw hK
    obtain ⟨f0, f1, f2, f3, f4, f5⟩ := hf it (by simp)
    have ec : x.cps[i]? = none := by
      have e : i = x.cps.size := hg
      simp [e]
    rcases hty with rfl | rfl
    · exact wpAny_pyNext_ascii_end (I.ok.hd hc) st ec fun h' eb => ⟨rfl, I.turned (t' := s.toks) (fun b o hb e => eb b o hb e) f0 f1 f3 f4 f5⟩
    · exact wpAny_pyNext_wide_end (I.ok.hd hc) st ec fun h' eb => ⟨rfl, I.turned (t' := s.toks) (fun b o hb e => eb b o hb e) f0 f1 f3 f4 f5⟩
  self := fun _ _ _ _ _ st h => by
    rcases hty with rfl | rfl
    · exact wpAny_pyIter_striter_ascii st h
    · exact wpAny_pyIter_striter_wide st h
section
variable {X : Cx} {tg : Expr}
noncomputable def iStr (tl : TE) : TI := fun σ H R => tl σ H fun x H1 => ∃ z, x = .str z ∧ R (Its z) H1
theorem pi_str {l : Expr} {tl : TE} (hl : PE X l tl) : PI X tg l (iStr tl) := by
  intro pins s σ H R I h
  refine thn (hl pins s σ H _ I h) fun v s1 ⟨x, H1, I1, r1, q1⟩ => ?_
  obtain ⟨z, e, q⟩ := q1
  subst e
  obtain ⟨t, rfl⟩ := r1
  have fin : ∀ (ty : String) (_ : ty = "str_ascii_iterator" ∨ ty = "str_iterator"), PIE X pins σ tg R (.ref s1.heap.objs.size) { s1 with heap := s1.heap.push { cls := .type ty, data := .fields #[.str z t, .int 0 0] } } := fun ty hty => by
    refine ⟨s1.heap.objs.size, [s1.heap.objs.size], _, _, H1, rfl, I1.kept (t' := s1.toks) fun b o e => Heap.get?_push_of_some _ e, turn_str _ z t hty, ⟨_, Heap.get?_push_size _ rfl, rfl, rfl⟩, fun b hb => ?_, q⟩
    have e : b = s1.heap.objs.size := by simpa using hb
    subst e
    exact I1.fpOk (Nat.le_refl _) (I1.hok.fresh (Nat.le_refl _))
  cases ha : z.cps.all (· < 128) with
  | true => exact wpAny_pyIter_ascii ha (fin _ (.inl rfl))
  | false => exact wpAny_pyIter_wide ha (fin _ (.inr rfl))
end

section
variable {X : Cx} {e : Expr} {te : TE} {lo hi : Option Expr} {tl th : TO} {pos p2 : Pos}
theorem op_le_str : OpR X (compareOp .LtE) (fun x y H Q => ∃ i j, x = .str i ∧ y = .str j ∧ Q (.bl (!decide (j.cps.toList < i.cps.toList))) H) := by
  intro pins s σ H x y v u Q I rx ry h
  obtain ⟨i, j, rfl, rfl, q⟩ := h
  obtain ⟨t, rfl⟩ := rx
  obtain ⟨t', rfl⟩ := ry
  exact PySem.P.le_str (fin_bl I q rfl)
theorem le_one (c a : Nat) : (!decide ((⟨#[c]⟩ : Str).cps.toList < (⟨#[a]⟩ : Str).cps.toList)) = decide (a ≤ c) := by
  have h : ((⟨#[c]⟩ : Str).cps.toList < (⟨#[a]⟩ : Str).cps.toList) ↔ c < a := by
    show ([c] : List Nat) < [a] ↔ c < a
    simp [List.cons_lt_cons_iff]
  by_cases q : c < a
  · rw [decide_eq_true (h.mpr q), decide_eq_false (by omega)]
    rfl
  · rw [decide_eq_false fun z => q (h.mp z), decide_eq_true (by omega)]
    rfl

noncomputable def cutS (x : Str) (lo hi : Option Int) : Str := ⟨((x.cps.toList.drop (HT.sIx x.cps.size 0 lo)).take (HT.sIx x.cps.size x.cps.size hi - HT.sIx x.cps.size 0 lo)).toArray⟩
theorem clipI (i : Int) (n d : Nat) : max 0 (min (if i < 0 then i + (n : Int) else i) (n : Int)) = ((HT.sIx n d (some i) : Nat) : Int) := by
  show max 0 (min (if i < 0 then i + (n : Int) else i) (n : Int)) = (((if i < 0 then (i + (n : Int)).toNat else min i.toNat n) : Nat) : Int)
  by_cases h : i < 0
  · simp only [if_pos h]
    omega
  · simp only [if_neg h]
    omega
theorem strIx (lo hi : Option Int) (n : Nat) : Builtin.Str.strSliceIndices lo hi 1 n = (List.range (HT.sIx n n hi - HT.sIx n 0 lo)).map (HT.sIx n 0 lo + ·) := by
  rw [← sliceRange_one]
  unfold Builtin.Str.strSliceIndices
  have h1 : (1 : Int) > 0 := by decide
  simp only [h1, if_true]
  congr 1
  · cases lo with
    | none => rfl
    | some i => exact clipI i n 0
  · cases hi with
    | none => rfl
    | some i => exact clipI i n n
theorem slice_cut (x : Str) (lo hi : Option Int) : Txt.slice x lo hi = cutS x lo hi := by
  unfold Txt.slice cutS
  have hx : x.length = x.cps.size := rfl
  rw [hx, strIx, pick_run]
  by_cases h : ((1 : Int) == 1 && ((List.range (HT.sIx x.cps.size x.cps.size hi - HT.sIx x.cps.size 0 lo)).map (HT.sIx x.cps.size 0 lo + ·)).length == x.cps.size) = true
  · rw [if_pos h]
    simp at h
    have a := HT.sIx_le x.cps.size x.cps.size (Nat.le_refl _) hi
    have b := HT.sIx_le x.cps.size 0 (Nat.zero_le _) lo
    have e0 : x.cps.size = 0 ∨ HT.sIx x.cps.size 0 lo = 0 := by omega
    rcases e0 with e0 | e0
    · have : x.cps = #[] := Array.eq_empty_of_size_eq_zero e0
      obtain ⟨c⟩ := x
      simp only at this
      subst this
      simp
    · have e1 : HT.sIx x.cps.size x.cps.size hi = x.cps.size := by omega
      rw [e0, e1]
      obtain ⟨c⟩ := x
      obtain ⟨l⟩ := c
      simp
  · rw [if_neg h]
noncomputable def rSlS : V → Option Int → Option Int → Hp → VK → Prop := fun x lo hi H Q => ∃ z, x = .str z ∧ z.length ≤ sizeLine ∧ Q (.str (cutS z lo hi)) H
theorem sl_str : SlR X rSlS := by
  intro pins s σ H x v vl vu lo hi sl Q I rx hs pl pu h
  obtain ⟨z, rfl, hz, q⟩ := h
  obtain ⟨t, rfl⟩ := rx
  obtain ⟨l, hl1, hl2⟩ : ∃ l : Option (Int × Tok), vl = partValue l ∧ l.map (·.1) = lo := by
    cases pl with
    | none => exact ⟨none, rfl, rfl⟩
    | int i t => exact ⟨some (i, t), rfl, rfl⟩
  obtain ⟨u, hu1, hu2⟩ : ∃ u : Option (Int × Tok), vu = partValue u ∧ u.map (·.1) = hi := by
    cases pu with
    | none => exact ⟨none, rfl, rfl⟩
    | int i t => exact ⟨some (i, t), rfl, rfl⟩
  subst hl1 hu1
  refine ⟨"str", _, PySem.F.slot_str_getitem.lookup, typeIs_str s z t, ?_⟩
  refine wpAny_getItem_str_slice (l := l) (u := u) (st := none) hs rfl (post_val_or_str ?_)
  have e : ∀ (y : Str), y = Txt.slice z lo hi → y = cutS z lo hi := fun y hy => hy.trans (slice_cut z lo hi)
  have key : (if (((none : Option (Int × Tok)).map (·.1)).getD 1 == 1 && (slicePicked z l u none).length == z.length) = true then z else (⟨((slicePicked z l u none).filterMap (z.cps[·]?)).toArray⟩ : Str)) = cutS z lo hi := by
    refine e _ ?_
    unfold Txt.slice slicePicked
    rw [hl2, hu2]
    rfl
  rw [key]
  refine ⟨?_, fun t' k => ⟨.str (cutS z lo hi), H, I.tok k, ⟨t', rfl⟩, q⟩⟩
  rw [← slice_cut]
  exact Nat.le_trans (Txt.slice_le z _ _) hz

theorem call_all (hc : X.calm = true) : CallR X (.builtin "all") (fun xs H Q => ∃ (p : Addr) (bs : List Bool), xs = [.ref p] ∧ SqL X.K H p (bs.map V.bl) ∧ Q (.bl (bs.all id)) H) := by
  intro pins s σ H xs us Q I r h
  obtain ⟨p, bs, rfl, hq, q⟩ := h
  obtain ⟨u, rfl, ru⟩ := vals1 r
  cases ru
  obtain ⟨its, rv, pl, hz⟩ := I.list hq
  have hlen : bs.length = its.length := by have := rv.length; rwa [List.length_map] at this
  obtain ⟨o, n, eo, _⟩ := id pl
  have hne : p ≠ s.heap.objs.size := Nat.ne_of_lt (Heap.lt_size eo)
  have hh : X.A.in1.handled = none := I.ok.hd hc
  refine call_all_walk (wpAny_pyIter_list pl.isList ?_)
  refine ⟨s.heap.objs.size, [s.heap.objs.size, p], [s.heap.objs.size], its.toArray.size, _, _, fun i => bs.getD i false, rfl, Walks.list hh _ p hne its.toArray, ⟨⟨_, Heap.get?_push_size _ rfl, rfl, rfl⟩, pl.isList.push _⟩, ?_, fun h' tk k => ?_⟩
  · intro i v s' Q' E' hP hQ
    have hP' : its[i]? = some v := by simpa using hP
    have hi : i < its.length := (List.getElem?_eq_some_iff.mp hP').1
    have hb : (bs.map V.bl)[i]? = some (V.bl (bs.getD i false)) := by
      rw [List.getElem?_map, List.getElem?_eq_getElem (by omega : i < bs.length)]
      simp [List.getD, hlen ▸ hi]
    obtain ⟨u', e', r'⟩ := rv.get hb
    rw [hP'] at e'
    cases e'
    cases r'
    exact wpAny_truthy_bool hQ
  · have e : (List.range its.toArray.size).all (fun i => bs.getD i false) = bs.all id := by
      rw [List.size_toArray, ← hlen, Bool.eq_iff_iff]
      simp only [List.all_eq_true, List.mem_range]
      constructor
      · intro a b hb
        obtain ⟨i, hi, rfl⟩ := List.mem_iff_getElem.mp hb
        have := a i hi
        simpa [List.getD, hi] using this
      · intro a i hi
        have := a bs[i] (List.getElem_mem hi)
        simpa [List.getD, hi] using this
    rw [e]
    exact ⟨.bl (bs.all id), H, I.kept fun b ob z => k b ob (by simpa using Nat.ne_of_lt (Heap.lt_size z)) (Heap.get?_push_of_some _ z), rfl, q⟩

end

mutual
inductive Dt (K : PySem.W.Frag) (H : Hp) : V → PyData → Prop
  | non : Dt K H .non .none
  | bl (b : Bool) : Dt K H (.bl b) (.bool b)
  | int (i : Int) : Dt K H (.int i) (.int i)
  | str (x : Str) : Dt K H (.str x) (.str x)
  | lst {a : Addr} {xs : List V} {ds : List PyData} : SqL K H a xs → Dts K H xs ds → Dt K H (.ref a) (.list ds)
  | tup {a : Addr} {xs : List V} {ds : List PyData} : SqT K H a xs → Dts K H xs ds → Dt K H (.ref a) (.tuple ds)
inductive Dts (K : PySem.W.Frag) (H : Hp) : List V → List PyData → Prop
  | nil : Dts K H [] []
  | cons {v : V} {d : PyData} {vs : List V} {ds : List PyData} : Dt K H v d → Dts K H vs ds → Dts K H (v :: vs) (d :: ds)
end
section
variable {X : Cx} {pins : List (Addr × Obj)} {σ : St} {H : Hp} {s : Shared}
mutual
theorem dt_reads (I : Inv X pins σ H s) : ∀ {v : V} {d : PyData} {u : Value}, Dt X.K H v d → RelV v u → ∃ as, Reads s.heap u d as
  | _, _, _, .non, r => by cases r; exact ⟨_, .none⟩
  | _, _, _, .bl b, r => by cases r; exact ⟨_, .bool b⟩
  | _, _, _, .int i, r => by obtain ⟨t, rfl⟩ := r; exact ⟨_, .int i t⟩
  | _, _, _, .str x, r => by obtain ⟨t, rfl⟩ := r; exact ⟨_, .str x t⟩
  | _, _, _, .lst h ds, r => by
    cases r
    obtain ⟨its, rv, ⟨o, n, e, c, _, d⟩, _⟩ := I.list h
    obtain ⟨as, q⟩ := dts_reads I ds rv
    exact ⟨_, .list e c d (by simpa using q)⟩
  | _, _, _, .tup h ds, r => by
    cases r
    obtain ⟨its, rv, ⟨o, e, c, n, d⟩, _⟩ := I.tuple h
    obtain ⟨as, q⟩ := dts_reads I ds rv
    exact ⟨_, .tuple e c d (by simpa using q)⟩
theorem dts_reads (I : Inv X pins σ H s) : ∀ {vs : List V} {ds : List PyData} {us : List Value}, Dts X.K H vs ds → Vals vs us → ∃ as, ReadsAll s.heap us ds as
  | _, _, _, .nil, .nil => ⟨_, .nil⟩
  | _, _, _, .cons a b, .cons r t => by
    obtain ⟨as, q⟩ := dt_reads I a r
    obtain ⟨bs, q'⟩ := dts_reads I b t
    exact ⟨_, .cons q q'⟩
end
end
section
variable {X : Cx}
noncomputable def rEqD (K : PySem.W.Frag) (neg : Bool) : R2 := fun x y H Q => ∃ d e, Dt K H x d ∧ Dt K H y e ∧ SeqAt.shaped d = true ∧ SeqAt.shaped e = true ∧ Q (.bl (if neg then !PyData.eqv d e else PyData.eqv d e)) H
theorem op_eqD (hu : X.A.units + 64 < cLine) : OpR X (compareOp .Eq) (rEqD X.K false) := by
  intro pins s σ H x y v u Q I rx ry h
  obtain ⟨d, e, hd, he, sd, se, q⟩ := h
  obtain ⟨as, ra⟩ := dt_reads I hd rx
  obtain ⟨bs, rb⟩ := dt_reads I he ry
  exact eq_dataH ra rb sd se hu ⟨.bl _, H, I, rfl, q⟩
theorem op_neD (hu : X.A.units + 64 < cLine) : OpR X (compareOp .NotEq) (rEqD X.K true) := by
  intro pins s σ H x y v u Q I rx ry h
  obtain ⟨d, e, hd, he, sd, se, q⟩ := h
  obtain ⟨as, ra⟩ := dt_reads I hd rx
  obtain ⟨bs, rb⟩ := dt_reads I he ry
  exact ne_dataH ra rb sd se hu ⟨.bl _, H, I, rfl, q⟩
end
mutual
theorem eqv_self : ∀ d : PyData, d.canLay0 = true → PyData.eqv d d = true
  | .none, _ => rfl
  | .bool b, _ => by simp [PyData.eqv]
  | .int i, _ => by simp [PyData.eqv]
  | .str x, _ => by simp [PyData.eqv]
  | .list xs, h => by simp only [PyData.eqv]; exact eqvAll_self xs h
  | .tuple xs, h => by simp only [PyData.eqv]; exact eqvAll_self xs h
  | .dict _, h => by cases h
theorem eqvAll_self : ∀ ds : List PyData, PyData.canLayAll0 ds = true → PyData.eqvAll ds ds = true
  | [], _ => rfl
  | d :: r, h => by
    simp only [PyData.canLayAll0, Bool.and_eq_true] at h
    simp only [PyData.eqvAll, eqv_self d h.1, eqvAll_self r h.2, Bool.and_self]
end
end L3
set_option Elab.async false
set_option linter.all false
set_option maxRecDepth 100000
set_option maxHeartbeats 4000000
namespace L3
open PySem PySem.Spec PyProof.Rows L2

section
variable {X : Cx}
end
end L3
set_option Elab.async false
set_option linter.all false
set_option maxRecDepth 100000
set_option maxHeartbeats 4000000
namespace L3
open PySem PySem.Spec PyProof.Rows L2

theorem obj_at {P : Program} {w : World} {H : Hp} {h : Heap} {a : Addr} {o : HO} (x : ObjOk P w H h a o) : ∃ ob, h.get? a = some ob := by
  cases o with
  | lst xs => obtain ⟨_, _, _, _, e⟩ := x; exact ⟨_, e⟩
  | tup xs => obtain ⟨_, _, _, ob, e, _⟩ := x; exact ⟨ob, e⟩
  | dK kvs => obtain ⟨_, _, _, _, ob, _, _, e, _⟩ := x; exact ⟨ob, e⟩
  | dT kvs => obtain ⟨_, _, _, _, ob, _, _, e, _⟩ := x; exact ⟨ob, e⟩
  | set S n => obtain ⟨ob, _, _, _, e, _⟩ := x; exact ⟨ob, e⟩
  | ins C dx fs => obtain ⟨_, _, _, e, _⟩ := x; exact ⟨_, e⟩
  | own y => obtain ⟨ob, e⟩ := x; exact ⟨ob, e⟩
  | xd fs => obtain ⟨_, ⟨ob, _, _, e, _⟩, _⟩ := x; exact ⟨ob, e⟩
  | rng lo hi => obtain ⟨_, _, _, e⟩ := x; exact ⟨_, e⟩
  | frz ob u => obtain ⟨e, _⟩ := x; exact ⟨_, e⟩
  | tbl ps => exact ⟨_, (show h.get? a = some _ from x)⟩
  | met f y => exact ⟨_, (show h.get? a = some _ from x)⟩
  | ext φ => obtain ⟨_, ⟨ob, e⟩, _⟩ := x; exact ⟨ob, e⟩
theorem hok_none {P : Program} {w : World} {H : Hp} {h : Heap} {a : Addr} (ok : HOk P w H h) (e : h.get? a = none) : H a = none := by
  cases q : H a with
  | none => rfl
  | some o =>
    obtain ⟨ob, z⟩ := obj_at (ok a o q)
    rw [e] at z
    cases z

structure Thrown (P : Program) (w : World) (fr : List Env) (H : Hp) (s : Shared) (ea : Addr) (cls a0 : Value) (H' : Hp) (B : Heap) (s' : Shared) : Prop where
  fl : Heap.FlyingW B fr ea cls a0 s'.heap
  os : s'.os = s.os
  bare : AllBare s'.gens
  ok : HOk P w H' B
  un : Un (frs fr) [] H H' s.heap s'.heap
  inB : ∀ b o, s.heap.get? b = some o → b ∉ frs fr → ∃ o', B.get? b = some o' ∧ (H b = none → o' = o)
noncomputable def CXe (P : Program) (w : World) : CXT := fun fr H s E e s' => ∃ (ea : Addr) (cls a0 : Value) (H' : Hp) (B : Heap), e = .ref ea ∧ Thrown P w fr H s ea cls a0 H' B s' ∧ E cls none H'

section
variable {P : Program} {w : World} {fr : List Env} {H H' : Hp} {s s' : Shared} {ea : Addr} {cls a0 : Value} {B : Heap}
theorem Thrown.move (T : Thrown P w fr H s ea cls a0 H' B s') {h2 : Heap} (fl : Heap.FlyingW B fr ea cls a0 h2) (up : s'.heap.UpToSlots h2) : Thrown P w fr H s ea cls a0 H' B { s' with heap := h2 } := by
  refine ⟨fl, T.os, T.bare, T.ok, ⟨fun b o e n hb hx => ?_, fun b o e n hb hx => ?_, T.un.free, fun b o e hx => ?_, T.un.tups, T.un.frzs, T.un.tbls⟩, T.inB⟩
  · obtain ⟨o', z, q⟩ := T.inB b o e hb
    rw [q n] at z
    exact fl.1 b o z
  · obtain ⟨sl, z⟩ := T.un.slot b o e n hb hx
    obtain ⟨_, ob, e', nf⟩ := T.fl.2.2.1.mem hb
    rw [z] at e'
    cases e'
    obtain ⟨sl', z'⟩ := up b _ z nf
    exact ⟨sl', z'⟩
  · by_cases hb : b ∈ frs fr
    · obtain ⟨_, ob, e', nf⟩ := T.fl.2.2.1.mem hb
      obtain ⟨sl', z'⟩ := up b _ e' nf
      exact ⟨_, z'⟩
    · obtain ⟨o', z, _⟩ := T.inB b o e hb
      exact ⟨o', fl.1 b o' z⟩
theorem Thrown.hok (T : Thrown P w fr H s ea cls a0 H' B s') : HOk P w H' s'.heap := T.ok.kept fun b u e => T.fl.1 b u e
theorem Thrown.new (T : Thrown P w fr H s ea cls a0 H' B s') : H' ea = none := hok_none T.ok T.fl.2.1
theorem Thrown.notOld (T : Thrown P w fr H s ea cls a0 H' B s') {b : Addr} {o : Obj} (e : s.heap.get? b = some o) : b ≠ ea := by
  rintro rfl
  by_cases hb : b ∈ frs fr
  · obtain ⟨_, ob, e', nf⟩ := T.fl.2.2.1.mem hb
    obtain ⟨oe, vs, he, _, hd, _⟩ := T.fl.first
    rw [he] at e'
    cases e'
    exact nf vs hd
  · obtain ⟨o', z, _⟩ := T.inB b o e hb
    rw [T.fl.2.1] at z
    cases z
end

section
variable {P : Program} {w : World} {K : PySem.W.Frag} {mg : Str → Option Value} {base : Heap} {N : List Str} {qual : Str} {scope : Scope} {f : Addr} {cdv : Value} {A : Around} {outer : List Env} {s : Shared} {H : Hp} {E : XK}
noncomputable abbrev cxE (P : Program) (w : World) (K : PySem.W.Frag) (mg : Str → Option Value) (base : Heap) (N : List Str) (qual : Str) (scope : Scope) (f : Addr) (cdv : Value) (A : Around) (outer : List Env) (s : Shared) (H : Hp) (E : XK) : Cx :=
  cxOf (CXe P w) P w K mg base N qual scope f cdv A outer s H E

theorem stk_new {pins : List (Addr × Obj)} {σ : St} {H1 : Hp} {s1 : Shared} (I : Inv (cxE P w K mg base N qual scope f cdv A outer s H E) pins σ H1 s1) {b : Addr} {o : Obj} (e : s.heap.get? b = some o) (hb : b ∉ frs outer) :
    b ∉ frs (cxE P w K mg base N qual scope f cdv A outer s H E).stack := fun z => by
  rcases List.mem_cons.mp (I.stkSub b z) with q | q
  · have l := Heap.lt_size e
    have l2 : s.heap.objs.size ≤ b := by
      have := I.ok.above
      rw [← q] at this
      exact this
    exact Nat.lt_irrefl _ (Nat.lt_of_lt_of_le l l2)
  · exact hb q
theorem made_leaves {pins : List (Addr × Obj)} {σ : St} {H1 : Hp} {s1 : Shared} {h' : Heap} {ea : Addr} {cls : Value} {vs : List Value} (I : Inv (cxE P w K mg base N qual scope f cdv A outer s H E) pins σ H1 s1)
    (hx : Heap.MadeExcOf s1.heap h' ea cls vs) (hE : E cls none H1) : (cxE P w K mg base N qual scope f cdv A outer s H E).xe (.ref ea) { s1 with heap := h' } := by
  have hfr := I.ok.frames
  have hin : ∀ env ∈ (cxE P w K mg base N qual scope f cdv A outer s H E).stack, ∀ b, env.frame = some b → b ∈ frs (cxE P w K mg base N qual scope f cdv A outer s H E).stack := fun env he b hb => List.mem_filterMap.mpr ⟨env, he, hb⟩
  have hnt : ∀ b o, H1 b = some o → b ∉ frs (cxE P w K mg base N qual scope f cdv A outer s H E).stack := fun b o e z => by rw [I.stkFree b z] at e; cases e
  refine wpAny_leaves_madeW (base := PySem.W.hideAll s1.heap (frs (cxE P w K mg base N qual scope f cdv A outer s H E).stack)) hfr rfl (fun b o q => PySem.W.of_hideAll _ q) (PySem.W.funFrames_hide I.stack hin) hx fun h2 t x1 x2 x3 x4 => ?_
  have inB : ∀ b o, s1.heap.get? b = some o → b ∉ frs (cxE P w K mg base N qual scope f cdv A outer s H E).stack → (PySem.W.hideAll s1.heap (frs (cxE P w K mg base N qual scope f cdv A outer s H E).stack)).get? b = some o := fun b o e n => PySem.W.hideAll_get _ e n
  refine ⟨ea, cls, .ref t, H1, _, rfl, ⟨x1, I.os, I.bare, fun b ob e => (I.hok b ob e).stay (fun c u hc q => inB c u q ?_) (fun _ q => q) fun _ _ q => q, ⟨fun b o e n hb hx' => ?_, fun b o e n hb hx' => ?_, I.base.free, fun b o e hx' => ?_, I.base.tups, I.base.frzs, I.base.tbls⟩, fun b o e hb => ?_⟩, hE⟩
  · rcases hc with rfl | hc
    · exact hnt c _ e
    · exact hnt c _ hc
  · exact x1.1 b o (inB b o (I.base.keep b o e n hb hx') (stk_new I e hb))
  · obtain ⟨sl, z⟩ := I.base.slot b o e n hb hx'
    obtain ⟨_, ob, e', nf⟩ := I.funs.mem hb
    rw [z] at e'
    cases e'
    obtain ⟨sl', z'⟩ := x4 b _ (hx.keeps _ _ z) nf
    exact ⟨sl', z'⟩
  · obtain ⟨o', z⟩ := I.base.there b o e hx'
    by_cases hb : b ∈ frs outer
    · obtain ⟨_, ob, e', nf⟩ := I.funs.mem hb
      obtain ⟨sl', z'⟩ := x4 b _ (hx.keeps _ _ e') nf
      exact ⟨_, z'⟩
    · exact ⟨o', x1.1 b o' (inB b o' z (stk_new I e hb))⟩
  · obtain ⟨o', z⟩ := I.base.there b o e (by simp [cxE, cxOf])
    refine ⟨o', inB b o' z (stk_new I e hb), fun n => ?_⟩
    have z2 := I.base.keep b o e n hb (by simp [cxE, cxOf])
    rw [z] at z2
    exact Option.some.inj z2
theorem pass_on : Passes (CXe P w) (cxE P w K mg base N qual scope f cdv A outer s H E) E := by
  rintro pins σ Hc sc e s' I ⟨ea, cls, a0, H', B, rfl, T, hE⟩
  refine wpAny_leaves_onW I.ok.frames rfl T.fl fun h2 x1 x2 => ?_
  have T2 : Un (frs (cxE P w K mg base N qual scope f cdv A outer s H E).stack) [] Hc H' sc.heap s'.heap := T.un
  have oldB : ∀ b o, s.heap.get? b = some o → b ∉ frs outer → ∃ o', B.get? b = some o' ∧ (H b = none → o' = o) := fun b o e hb => by
    obtain ⟨o1, z⟩ := I.base.there b o e (by simp [cxE, cxOf])
    obtain ⟨o', z', q⟩ := T.inB b o1 z (stk_new I e hb)
    refine ⟨o', z', fun n => ?_⟩
    have z2 := I.base.keep b o e n hb (by simp [cxE, cxOf])
    rw [z] at z2
    cases z2
    exact q (I.base.free b _ e n (by simp [cxE, cxOf]))
  refine ⟨ea, cls, a0, H', B, rfl, ⟨x1, T.os.trans I.os, T.bare, T.ok, ⟨fun b o e n hb hx' => ?_, fun b o e n hb hx' => ?_, fun b o e n hx' => ?_, fun b o e hx' => ?_, fun b xs q => T.un.tups b xs (I.base.tups b xs q), fun b o u q => T.un.frzs b o u (I.base.frzs b o u q), fun b ps q => ?_⟩, oldB⟩, hE⟩
  · obtain ⟨o', z, q⟩ := oldB b o e hb
    rw [q n] at z
    exact x1.1 b o z
  · obtain ⟨sl, z⟩ := I.base.slot b o e n hb hx'
    have hb' : b ∈ frs (cxE P w K mg base N qual scope f cdv A outer s H E).stack := by
      show b ∈ frs (_ :: outer)
      unfold frs
      rw [List.filterMap_cons]
      exact List.mem_cons_of_mem _ hb
    obtain ⟨sl2, z2⟩ := T2.slot b _ z (I.base.free b o e n hx') hb' (by simp)
    obtain ⟨_, ob, e', nf⟩ := T.fl.2.2.1.mem hb'
    rw [z2] at e'
    cases e'
    obtain ⟨sl', z'⟩ := x2 b _ z2 nf
    exact ⟨sl', z'⟩
  · obtain ⟨o1, z⟩ := I.base.there b o e hx'
    exact T2.free b o1 z (I.base.free b o e n hx') (by simp)
  · by_cases hb : b ∈ frs outer
    · obtain ⟨_, ob, e', nf⟩ := x1.2.2.1.mem hb
      exact ⟨ob, e'⟩
    · obtain ⟨o', z, _⟩ := oldB b o e hb
      exact ⟨o', x1.1 b o' z⟩
  · obtain ⟨m1, e1⟩ := I.base.tbls b ps q
    obtain ⟨m2, e2⟩ := T.un.tbls b _ e1
    exact ⟨m1 ++ m2, by rw [e2, Array.append_assoc]⟩

structure Exc (K : PySem.W.Frag) (mg : Str → Option Value) (x : Str) (C : Addr) (bm : List Value) (newId : String) : Prop where
  bound : mg x = some (.ref C)
  obj : PySem.W.excIn K C bm newId = true
theorem Exc.own {x : Str} {C : Addr} {bm : List Value} {newId : String} {h : Heap} (e : Exc K mg x C bm newId) (X : K.In h) : OwnCls x C bm newId mg h := by
  refine ⟨e.bound, ?_⟩
  have q := e.obj
  unfold PySem.W.excIn at q
  split at q
  · rename_i dd cd sl ho
    split at q
    · rename_i C' bm' k0 k1 k2 k3 n k5 hm hs
      simp only [Bool.and_eq_true, beq_iff_eq, Bool.not_eq_true'] at q
      obtain ⟨⟨⟨⟨⟨rfl, rfl⟩, hdel⟩, ht⟩, hok⟩, hni⟩ := q
      obtain ⟨nm, bs, mro, ns, qn, hd, sn, sub, ab, col, del⟩ := cd
      dsimp only at hm hdel hok hni
      subst hm hdel
      obtain ⟨sll⟩ := sl
      simp only at hs
      subst hs
      exact ⟨bm', ns, nm, qn, bs, hd, sn, sub, ab, col, dd, k0, k1, k2, k3, k5, _, X _ _ ho, .of_isNs (PySem.W.isNs_of_in X hok), PySem.W.nsMap_none_of_in X hok hni, PySem.W.tail_of_in X ht⟩
    · cases q
  · cases q
noncomputable def tRaise (C : Addr) (E : XK) (ta : TA) : TS := fun _ σ H => ta σ H fun vs H1 => vs.length ≤ sizeLine ∧ E (.ref C) none H1
theorem ps_raise {x : Str} {C : Addr} {B newId initId : String} {bm : List Value} {np cpos pos : Pos} {e0 : Expr} {es : List Expr} {ta : TA} (F : ExcBaseFacts B newId initId bm) (O : Exc K mg x C bm newId)
    (hg : Gl (cxE P w K mg base N qual scope f cdv A outer s H E) x) (ha : PA (cxE P w K mg base N qual scope f cdv A outer s H E) (e0 :: es) ta) (hdb : (x == ("__debug__" : Str)) = false := by decide)
    (he : starEach (e0 :: es) (cxE P w K mg base N qual scope f cdv A outer s H E).env = (false, eval e0 (cxE P w K mg base N qual scope f cdv A outer s H E).env) :: starEach es (cxE P w K mg base N qual scope f cdv A outer s H E).env := by rfl)
    (hpl : (backTo cpos (starEach es (cxE P w K mg base N qual scope f cdv A outer s H E).env)).any (·.1) = false := by rfl) :
    PS (cxE P w K mg base N qual scope f cdv A outer s H E) (.Raise (some (.Call (.Name x np) (e0 :: es) [] cpos)) none pos) (tRaise C E ta) := by
  intro pins s1 σ H1 D I h
  obtain ⟨tl, Nn, nm, q, bs, hdct, sn, sub, ab, col, dd, k0, k1, k2, k3, k5, mN, hC, hN, hni, T⟩ := (O.own I.mod.kin).obj
  have hcl : PySem.W.excIn K C bm newId = true := O.obj
  refine wpAny_Raise_call_subT (C := C) (nm := nm) (q := q) (N := Nn) (bs := bs) (bm := tl) (hdct := hdct) (sn := sn) (sub := sub) (ab := ab) (col := col) (dd := dd) (k0 := k0) (k1 := k1) (k2 := k2) (k3 := k3) (k5 := k5)
    F (mN := mN) (T.hasType F.hasBase) (I.ok.hd rfl) ?_ hni (ld_glob I hg O.bound ⟨rfl, ?_⟩ hdb)
  · rw [he]
    show (false || (backTo cpos (starEach es (cxE P w K mg base N qual scope f cdv A outer s H E).env)).any (·.1)) = false
    rw [hpl]
    rfl
  · have hA := ha cpos pins s1 σ H1 _ I h
    rw [he] at hA ⊢
    refine Calls.evalArgs_plain (thn hA fun us s2 ⟨vs, H2, I2, r2, z, hE⟩ => ⟨rfl, by rw [← r2.length]; exact z, I2.bk _ _ hC, hN.keeps I2.bk, T.keeps I2.bk, fun h' ea hm => made_leaves I2 hm hE⟩)
theorem okE {x : Str} {st : Stmt} {fd : FuncData} {ps : List Str} {k : Nat} {sp : Sp} (F : Fun K x qual st f fd) (S : FnScope N ps (defScope st)) (len : ∀ vs H Q E, sp vs H Q E → vs.length = ps.length)
    (hbody : ∀ (cdv : Value) (A : Around) (outer : List Env) (s : Shared) (H : Hp) (vs : List V) (Q : VK) (E : XK), Room k (A.deeper (envOfC qual (defScope st) s.heap.objs.size f cdv)) → sp vs H Q E →
      ∃ t, PSs (cxE P w K mg base N qual (defScope st) f cdv A outer s H E) (defBody st) t ∧ t { nx := fun _ H' => Q .non H', rt := Q } (start N vs) H) : FnOk P w K mg base (CXe P w) (k + 1) f fd ps sp := by
  obtain ⟨oc, od, kV, doc, pm, an, cdv, ct, osl, rfl, lk, hcd⟩ := F.ex
  exact fn_of lk hcd S len fun A outer s H vs Q E hr hsp => hbody cdv A outer s H vs Q E hr hsp
end
end L3
set_option Elab.async false
set_option linter.all false
set_option maxRecDepth 100000
set_option maxHeartbeats 4000000
namespace L3
open PySem PySem.Spec PyProof.Rows L2

noncomputable def XPs (X : Cx) (pins : List (Addr × Obj)) (σ : St) (E : XK) (e : Value) (s' : Shared) : Prop :=
  ∃ (Hc : Hp) (sc : Shared) (ea : Addr) (cls a0 : Value) (H' : Hp) (B : Heap), e = .ref ea ∧ Inv X pins σ Hc sc ∧ Thrown X.prog X.w X.stack Hc sc ea cls a0 H' B s' ∧ E cls none H'
noncomputable abbrev TEx := XK → TE
noncomputable abbrev TSx := Ends → (St → XK) → St → Hp → Prop
noncomputable def PEx (X : Cx) (e : Expr) (t : TEx) : Prop :=
  ∀ (pins : List (Addr × Obj)) (s : Shared) (σ : St) (H : Hp) (Q : VK) (E : XK), Inv X pins σ H s → t E σ H Q → wpAny (model X.prog X.w) X.A (eval e X.env) (EP X pins σ Q) (XPs X pins σ E) s
noncomputable def PSx (X : Cx) (st : Stmt) (t : TSx) : Prop :=
  ∀ (pins : List (Addr × Obj)) (s : Shared) (σ : St) (H : Hp) (D : Ends) (E : St → XK), Inv X pins σ H s → t D E σ H → wpAny (model X.prog X.w) X.A (exec st X.env) (SP X pins D) (fun e s' => ∃ σ', XPs X pins σ' (E σ') e s') s
noncomputable def PSxs (X : Cx) (sts : List Stmt) (t : TSx) : Prop :=
  ∀ (pins : List (Addr × Obj)) (s : Shared) (σ : St) (H : Hp) (D : Ends) (E : St → XK), Inv X pins σ H s → t D E σ H → wpAny (model X.prog X.w) X.A (execs sts X.env) (SP X pins D) (fun e s' => ∃ σ', XPs X pins σ' (E σ') e s') s
section
variable {X : Cx} {e o : Expr} {es : List Expr} {pos apos p : Pos} {k : Nat} {f C : Addr} {fd : FuncData} {ps : List Str} {sp : Sp} {ta : TE} {t : TA} {m x : Str}
theorem run_fnx {pins : List (Addr × Obj)} {σ : St} {H : Hp} {s : Shared} {Q : VK} {E : XK} {us : List Value} {vs : List V} (F : FnOk X.prog X.w X.K X.mg X.base (CXe X.prog X.w) k f fd ps sp) (hr : Room k X.A) (hb : Binds X.K fd ps [])
    (I : Inv X pins σ H s) (r : Vals vs us) (h : sp vs H Q E) : wpAny (model X.prog X.w) X.A (call (.ref f) us) (EP X pins σ Q) (XPs X pins σ E) s := by
  have hl : (us ++ []).length = ps.length := by rw [List.append_nil, ← r.length]; exact F.len _ _ _ _ h
  have hb' := hb s us I.kIn hl
  rw [List.append_nil] at hb'
  refine wpAny_call (codeAny_mono (F.run X.A X.stack s H ⟨us, []⟩ us vs Q E hr I.env0 hb' r h) fun r s' hq => ?_)
  cases r with
  | error e =>
    obtain ⟨ea, cls, a0, H', B, rfl, T, hE⟩ := hq
    exact ⟨H, s, ea, cls, a0, H', B, rfl, I, T, hE⟩
  | ok fl =>
    cases fl with
    | ret u => exact I.after hq
    | next => exact False.elim hq
    | brk => exact False.elim hq
    | cont => exact False.elim hq
theorem noW {α : Type} {X : Cx} {pins : List (Addr × Obj)} {M : Model} {A : Around} {c : Sem α} {Q : α → Shared → Prop} {E : Value → Shared → Prop} {s : Shared} (h : wpAny M A c Q (fun _ _ => False) s) : wpAny M A c Q E s :=
  wpAny_mono h (fun _ _ q => q) fun _ _ z => False.elim z
noncomputable def tDropX (te : TEx) : TSx := fun D E σ H => te (E σ) σ H fun _ H1 => D.nx σ H1
theorem psx_expr {te : TEx} (he : PEx X e te) (hs : swapsWith e none pos.line X.env = pure false := by rfl) : PSx X (.Expr e pos) (tDropX te) := by
  intro pins s σ H D E I h
  exact wpAny_Expr_any (wpAny_mono (he pins s σ H _ _ I h) (fun v s1 ⟨x, H1, I1, r1, q1⟩ => ⟨σ, H1, I1, q1⟩) fun e s' q => ⟨σ, q⟩) I.quiet hs
theorem psxs_one {st : Stmt} {t : TSx} (h1 : PSx X st t) : PSxs X [st] t := by
  intro pins s σ H D E I h
  refine wpAny_execs_cons (thn (h1 pins s σ H D E I h) fun f s1 q => ?_)
  cases f with
  | next => exact wpAny_execs_nil q
  | ret v => exact q
  | brk => exact q
  | cont => exact q
end

noncomputable def excO (ea C : Addr) : HO := .ext fun h => ∃ o, h.get? ea = some o ∧ o.cls = .ref C
noncomputable def excSub (K : PySem.W.Frag) (C R : Addr) : Bool := match K.lookup C with
  | some ⟨.type "type", _, .cls cd, sl⟩ => (match cd.mro, sl.toList with
    | .ref C' :: bm, [_, _, _, _, some (.builtin _), _] => C' == C && !cd.hasDel && bm.contains (.type "BaseException") && (Value.ref C :: bm).contains (.ref R)
    | _, _ => false)
  | _ => false
theorem excSub_obj {K : PySem.W.Frag} {h : Heap} {C R : Addr} (X : K.In h) (q : excSub K C R = true) : ∃ nm qn N bs bm hdct sn sub ab col dd k0 k1 k2 k3 k5 newId,
    h.get? C = some (excClassObj nm qn C N bs bm hdct sn sub ab col dd k0 k1 k2 k3 k5 newId) ∧ bm.contains (.type "BaseException") = true ∧ (Value.ref C :: bm).contains (.ref R) = true := by
  unfold excSub at q
  split at q
  · rename_i dd cd sl ho
    split at q
    · rename_i C' bm k0 k1 k2 k3 n k5 hm hs
      simp only [Bool.and_eq_true, Bool.not_eq_true'] at q
      obtain ⟨⟨⟨q1, hdel⟩, hb⟩, hr⟩ := q
      have q1 := beq_iff_eq.mp q1
      subst q1
      obtain ⟨nm, bs, mro, ns, qn, hd, sn, sub, ab, col, del⟩ := cd
      dsimp only at hm hdel
      subst hm hdel
      obtain ⟨sll⟩ := sl
      simp only at hs
      subst hs
      exact ⟨nm, qn, ns, bs, bm, hd, sn, sub, ab, col, dd, k0, k1, k2, k3, k5, n, X _ _ ho, hb, hr⟩
    · cases q
  · cases q
theorem exc_hit {M : Model} {A : Around} {E : Value → Shared → Prop} {K : PySem.W.Frag} {C R ea : Addr} {s : Shared} {oe : Obj} {Q : Bool → Shared → Prop} (X : K.In s.heap) (hc : excSub K C R = true) (hr : excSub K R R = true) (he : s.heap.get? ea = some oe)
    (hcls : oe.cls = .ref C) (hq : Q true s) : wpAny M A (excMatches (.ref ea) (.ref R)) Q E s := by
  obtain ⟨nm, qn, N, bs, bm, hdct, sn, sub, ab, col, dd, k0, k1, k2, k3, k5, newId, hC, hb, hCR⟩ := excSub_obj X hc
  obtain ⟨nm', qn', N', bs', bm', hdct', sn', sub', ab', col', dd', k0', k1', k2', k3', k5', newId', hR, hb', hRR⟩ := excSub_obj X hr
  have hcB : (Value.ref R :: bm').contains (.type "BaseException") = true := by rw [List.contains_cons, hb', Bool.or_true]
  have f := tc_notTuple
  obtain ⟨hp, g, d, t, os⟩ := s
  unfold excMatches
  repeat (first | (with_reducible refine wpAny_loadPart_at he ?_; rw [hcls]) | with_reducible refine wpAny_loadPart_at hR ?_ | (with_reducible refine wpAny_isSubtype_exc hR ?_; rw [hcB]) | (with_reducible refine wpAny_isSubtype_exc hC ?_; rw [hCR]) | wp_step)
  exact hq

noncomputable abbrev inSuite (X : Cx) (ea : Addr) : Cx := { X with A := X.A.mark (some (.ref ea)), calm := false, xe := fun _ _ => False }
section
variable {X : Cx} {pins : List (Addr × Obj)} {σ : St} {H : Hp} {s : Shared}
theorem Inv.suite (I : Inv X pins σ H s) (ea : Addr) : Inv (inSuite X ea) pins σ H s :=
  ⟨⟨I.ok.mod, I.ok.kind, I.ok.glob, I.ok.blt, I.ok.above, I.ok.inj, I.ok.has, I.ok.cab, fun z => absurd (show false = true from z) Bool.false_ne_true, I.ok.frames, I.ok.stk, I.ok.exf, I.ok.bs, I.ok.bsz, I.ok.noex, I.ok.exfs, I.ok.funs, I.ok.frf⟩, I.os, I.bare, I.base, I.loc, I.cell, I.free, I.freeC, I.pin, I.hok, I.len⟩
theorem Inv.unsuite {ea : Addr} (hd : X.calm = true → X.A.handled = none) (I : Inv (inSuite X ea) pins σ H s) : Inv X pins σ H s :=
  ⟨⟨I.ok.mod, I.ok.kind, I.ok.glob, I.ok.blt, I.ok.above, I.ok.inj, I.ok.has, I.ok.cab, hd, I.ok.frames, I.ok.stk, I.ok.exf, I.ok.bs, I.ok.bsz, I.ok.noex, I.ok.exfs, I.ok.funs, I.ok.frf⟩, I.os, I.bare, I.base, I.loc, I.cell, I.free, I.freeC, I.pin, I.hok, I.len⟩
theorem Inv.forget {h' : Heap} {t' : Nat} {i : Nat} {x : Str} (I : Inv X pins σ H s) (hN : X.N.Nodup) (hi : X.N[i]? = some x) (hs : Heap.SameBut X.env.locals s.heap h')
    (hns : ∀ m, s.heap.Ns X.env.locals m → ∃ v, h'.Ns X.env.locals (fun y => if y = x then v else m y)) : Inv X pins (σ.set i none) H { s with heap := h', toks := t' } := by
  obtain ⟨m, hn, hl⟩ := id I.loc
  obtain ⟨v, hn'⟩ := hns m hn
  have cne := I.cne
  have ne0 : ∀ b o, X.s₀.heap.get? b = some o → b ≠ X.env.locals := fun b o e => Nat.ne_of_lt (Nat.lt_of_lt_of_le (Heap.lt_size e) I.ok.above)
  have hiσ : i < σ.length := by rw [I.len]; exact (List.getElem?_eq_some_iff.mp hi).1
  refine ⟨I.ok, I.os, I.bare, ⟨fun b o e n hb hx => (hs.2 b (ne0 b o e)).trans (I.base.keep b o e n hb hx), fun b o e n hb hx => ?_, I.base.free, fun b o e hx => ?_, I.base.tups, I.base.frzs, I.base.tbls⟩, ⟨_, hn', fun j y u e1 e2 e3 => ?_⟩, fun y c e => ?_, I.free, I.freeC, fun p hp => ?_, hok_but I.hok I.free hs, by simpa using I.len⟩
  · obtain ⟨sl, z⟩ := I.base.slot b o e n hb hx
    exact ⟨sl, (hs.2 b (ne0 b o e)).trans z⟩
  · obtain ⟨o', z⟩ := I.base.there b o e hx
    exact ⟨o', (hs.2 b (ne0 b o e)).trans z⟩
  · by_cases hj : j = i
    · subst hj
      rw [List.getElem?_set_self hiσ] at e2
      cases e2
    · rw [List.getElem?_set_ne (Ne.symm hj)] at e2
      obtain ⟨u', r', q⟩ := hl j y u e1 e2 e3
      refine ⟨u', r', ?_⟩
      rcases q with ⟨k, e⟩ | ⟨k, c, e, z⟩
      · refine .inl ⟨k, ?_⟩
        have : y ≠ x := fun e => hj (nodup_ix hN e1 (e ▸ hi))
        simp [this, e]
      · exact .inr ⟨k, c, e, z.sameBut hs (cne y c e)⟩
  · obtain ⟨w', z⟩ := I.cell y c e
    exact ⟨w', z.sameBut hs (cne y c e)⟩
  · obtain ⟨e, n, ne, nf, d⟩ := I.pin p hp
    exact ⟨(hs.2 p.1 ne).trans e, n, ne, nf, d⟩
end

noncomputable def tTry (K : PySem.W.Frag) (tb : TSx) (i : Nat) (R : Addr) (ts : TS) : TS := fun D σ H => tb D (fun σ' cls _ H' => ∃ C, cls = .ref C ∧ excSub K C R = true ∧ ∀ ea, H' ea = none →
  ts { nx := fun σ2 H2 => D.nx (σ2.set i none) H2, rt := D.rt, bk := fun σ2 H2 => D.bk (σ2.set i none) H2, ct := fun σ2 H2 => D.ct (σ2.set i none) H2 } (σ'.set i (some (.ref ea))) (upd H' ea (excO ea C))) σ H
theorem ps_try {X : Cx} {body : List Stmt} {b0 : Stmt} {suite : List Stmt} {x n : Str} {np hpos pos : Pos} {tb : TSx} {ts : TS} {i : Nat} {R : Addr} (hstk : X.stack = X.env :: X.outer) (hfrm : X.env.frame = some X.env.locals)
    (hb : PSxs X body tb) (hN : X.N.Nodup) (hi : X.N[i]? = some n) (hl : X.env.scope.names.lookup n = some .local) (hg : Gl X x) (hm : X.mg x = some (.ref R)) (hR : excSub X.K R R = true) (hsuite : ∀ ea, PSs (inSuite X ea) (b0 :: suite) ts)
    (hdb : (x == ("__debug__" : Str)) = false := by decide) : PS X (.Try body [.ExceptHandler (some (.Name x np)) (some n) (b0 :: suite) hpos] [] [] pos) (tTry X.K tb i R ts) := by
  intro pins s σ H D I h
  refine wpAny_Try_except (wpAny_mono (hb pins s σ H D _ I h) (fun f s1 q => ?_) fun e s1 q => ?_)
  · cases f with
    | next => exact wpAny_execs_nil q
    | ret v => exact q
    | brk => exact q
    | cont => exact q
  · obtain ⟨σ1, Hc, sc, ea, cls, a0, H', B, rfl, Ic, T, C, rfl, hsub, k⟩ := q
    have hfr : X.A.frames = some (X.env :: X.outer) := by rw [← hstk]; exact I.ok.frames
    have fl1 := T.fl
    rw [hstk] at fl1
    refine wpAny_looks_onW hfr hfrm fl1 fun h4 held4 up4 => ?_
    refine wpAny_landsW held4 fun h5 fl5 up5 => ?_
    have fl5' := fl5
    rw [← hstk] at fl5'
    have T5 := T.move fl5' (up4.trans up5)
    have I5 : Inv X pins σ1 H' { s1 with heap := h5 } := Ic.call' (s' := { s1 with heap := h5 }) (ch := []) T5.os T5.un T5.hok T5.bare (fun b z => absurd z (by simp))
    obtain ⟨ob, hob, hobc⟩ := fl5.there
    refine wpAny_handleBy_cons (codeAny_handlers_test (ld_glob (X := inSuite X ea) (L3.Inv.suite I5 ea) hg hm ?_ hdb)) (by intro q; cases q)
    refine exc_hit I5.kIn hsub hR hob hobc ?_
    refine codeAny_handlers_suite_as (lands_againW fl5 fun h6 fl6 up6 => ?_)
    have fl6' := fl6
    rw [← hstk] at fl6'
    have T6 := T5.move fl6' up6
    obtain ⟨ob6, hob6, hobc6⟩ := fl6.there
    have old : ∀ b o, sc.heap.get? b = some o → b ≠ ea := fun b o e => T.notOld e
    have tn := T.new
    have I6 : Inv X pins σ1 (upd H' ea (excO ea C)) { s1 with heap := h6 } := by
      refine Ic.call' (s' := { s1 with heap := h6 }) (ch := []) T6.os ⟨T6.un.keep, T6.un.slot, fun b o e n' hx => by rw [upd_ne (old b o e)]; exact T6.un.free b o e n' hx, T6.un.there, fun b xs e => ?_, fun b o u e => ?_, fun b ps e => ?_⟩ ?_ T6.bare (fun b z => absurd z (by simp))
      · have := T6.un.tups b xs e
        rw [upd_ne (ne_of_none this tn)]
        exact this
      · have := T6.un.frzs b o u e
        rw [upd_ne (ne_of_none this tn)]
        exact this
      · obtain ⟨m, this⟩ := T6.un.tbls b ps e
        exact ⟨m, by rw [upd_ne (ne_of_none this tn)]; exact this⟩
      · intro b u e
        by_cases hb' : b = ea
        · subst hb'
          rw [upd_same] at e
          cases e
          exact ⟨⟨ob6, hob6, hobc6⟩, ⟨ob6, hob6⟩, fun h1 h2 ⟨o, e1, e2⟩ kk => ⟨o, kk o e1, e2⟩⟩
        · rw [upd_ne hb'] at e
          exact (T6.hok b u e).stay (fun c v _ q => q) (fun c q => by rw [upd_ne (ne_of_none q tn)]; exact q) fun c xs q => by rw [upd_ne (ne_of_none q tn)]; exact q
    refine store_ok (X := inSuite X ea) (L3.Inv.suite I6 ea) hN hi (.inl hl) (v := .ref ea) rfl (fun s7 I7 => ?_) (.inr hl)
    have hp : (X.env.scope.kind == .class || (X.env.scope.kind == .module && X.env.locals != X.env.globals)) = false := by rw [I.ok.kind]; rfl
    have gone : ∀ {σ8 : St} {H8 : Hp} {s8 : Shared} {Q' : Shared → Prop}, Inv (inSuite X ea) pins σ8 H8 s8 → (∀ s9, Inv X pins (σ8.set i none) H8 s9 → Q' s9) →
        wpAny (model X.prog X.w) X.A (do bindName X.env n .none; unbindBehindTheSuite X.env n hpos) (fun _ s9 => Q' s9) X.xe s8 := fun {σ8 H8 s8 Q'} I8 hq => by
      have I8' : Inv X pins σ8 H8 s8 := Inv.unsuite I.ok.hd I8
      obtain ⟨m, hn, _⟩ := id I8'.loc
      refine wpAny_nameGoes_keeps hl hn hp fun h9 v hn9 sb9 => hq _ (Inv.forget I8' hN hi sb9 fun m' hm' => ?_)
      have em : m' = m := by
        obtain ⟨o, es, ep, e1, e2, _, e3⟩ := hn
        obtain ⟨o', es', ep', e1', e2', _, e3'⟩ := hm'
        rw [e1] at e1'
        cases e1'
        rw [e2] at e2'
        cases e2'
        funext y
        rw [← e3 y, ← e3' y]
      subst em
      exact ⟨v, hn9⟩
    refine wpAny_mono (hsuite ea pins s7 _ _ _ I7 (k ea tn)) (fun fl8 s8 q8 => ?_) fun _ _ z => False.elim z
    cases fl8 with
    | next => obtain ⟨σ8, H8, I8, q⟩ := q8; exact gone I8 fun s9 I9 => ⟨_, H8, I9, q⟩
    | brk => obtain ⟨σ8, H8, I8, q⟩ := q8; exact gone I8 fun s9 I9 => ⟨_, H8, I9, q⟩
    | cont => obtain ⟨σ8, H8, I8, q⟩ := q8; exact gone I8 fun s9 I9 => ⟨_, H8, I9, q⟩
    | ret u => obtain ⟨v8, σ8, H8, I8, r8, q⟩ := q8; exact gone I8 fun s9 I9 => ⟨v8, _, H8, I9, r8, q⟩

section
variable {X : Cx}
end
end L3
set_option Elab.async false
set_option linter.all false
set_option maxRecDepth 100000
set_option maxHeartbeats 4000000
namespace L3
open PySem PySem.Spec PyProof.Rows L2

section
variable {X : Cx} {elts : List Expr} {k : Nat} {tpos : Pos}
end
section
variable {X : Cx} {K : PySem.W.Frag} (hK : X.K = K)
include hK
end
end L3
set_option Elab.async false
set_option linter.all false
set_option maxRecDepth 100000
namespace L2
open PySem PySem.Spec PyProof.Rows

section
variable {κ : Type} [DecidableEq κ]
end


section
variable {P : Program} {w : World} {H : Hp} {h : Heap} {a : Addr}
end

section
variable {X : Cx} {pins : List (Addr × Obj)} {σ : St} {H : Hp} {s : Shared} {a : Addr} {y v : V} {u r : Value} {o : Option V} {A : Around} {E : Value → Shared → Prop}

end

section
variable {X : Cx} {pins : List (Addr × Obj)} {σ : St} {H : Hp} {s : Shared} {a : Addr} {kvs : List (Key × V)} {k : Key} {u : Value} {A : Around} {E : Value → Shared → Prop}
end


section
variable {X : Cx} {o i e value : Expr} {pos pos' tpos : Pos} {td ty tv : TE}
end


section
variable {X : Cx} {pos : Pos}
end

structure M1 (X : Cx) (o : Expr) (m : Str) (apos : Pos) (e : Expr) (cpos : Pos) : Prop where
  base : attributeBase o m X.env (eval o X.env) = eval o X.env
  few : ((backTo cpos (starEach [e] X.env)).all (fun x => !x.1) && (backToKw cpos (keywordEach [] X.env)).all (fun x => x.1.isSome)
    && decide (([e] : List Expr).length + ([] : List Keyword).length + (if ([] : List Keyword).isEmpty then 0 else 1) < 30)) = true
  line : (apos.endLine == cpos.line) = true
  trees : backTo cpos (starEach [e] X.env) = [(false, eval e X.env)]
section
variable {X : Cx} {pins : List (Addr × Obj)} {σ : St} {H : Hp} {s : Shared} {a : Addr} {y d : V} {u r : Value} {o : Option V} {A : Around} {E : Value → Shared → Prop}
end

section
variable {X : Cx} {o e f : Expr} {apos cpos : Pos} {td ty tx : TE}
end

section
variable {X : Cx} {pins : List (Addr × Obj)} {σ : St} {H : Hp} {s : Shared} {a : Addr} {kvs : List (Key × V)} {A : Around} {E : Value → Shared → Prop}
end


section
variable {X : Cx} {pins : List (Addr × Obj)} {σ : St} {H : Hp} {s : Shared} {a : Addr} {y : V} {u : Value} {A : Around} {E : Value → Shared → Prop}
end
end L2
namespace L2
open PySem PySem.Spec PyProof.Rows
section
variable {X : Cx}
end
section
variable {κ : Type} [DecidableEq κ]
end
end L2
set_option Elab.async false
set_option linter.all false
set_option maxRecDepth 100000
set_option maxHeartbeats 4000000
namespace L3
section
open PySem PySem.Spec PyProof.Rows
open PySem.Builtin PySem.Builtin.Getset_descriptor
structure ExcC (K : PySem.W.Frag) (C : Addr) : Prop where
  ga : PySem.W.findIn K (.ref C) "__getattribute__" = some (some (.builtin "BaseException.__getattribute__"))
  no : PySem.W.findIn K (.ref C) "__getattr__" = some none
  ha : PySem.W.findIn K (.ref C) "__class__" = some (some (.builtin "object.__class__"))
  hn : PySem.W.specialIn K (.builtin "object.__class__") "__get__" = some (some (.builtin "getset_descriptor.__get__"))
  htk : PySem.W.takesIn K (.builtin "object.__class__") = some true
  hm : PySem.W.mroIn K C (.type "object") = some true
  hb : PySem.W.mroIn K C (.type "BaseException") = some true
noncomputable def TyAt (h : Heap) (x C : Addr) : Prop := ∃ o, h.get? x = some o ∧ o.cls = .ref C
theorem TyAt.type {M : Model} {h : Heap} {x C : Addr} (I : TyAt h x C) : PySem.W.Looks M h (typeOf (.ref x)) (.ref C) := by
  obtain ⟨o, e, c⟩ := I
  rw [← c]
  exact (PySem.W.Looks.ld e).andThen .now
section
variable {prog : Program} {w : World} {A : Around} {E : Value → Shared → Prop} {s : Shared} {K : PySem.W.Frag} {x C : Addr} {name : Str}
theorem check_bga {M : Model} {nameV : Value} {Q : Unit → Shared → Prop} (X : K.In s.heap) (c : ExcC K C) (I : TyAt s.heap x C) (hq : Q () s) :
    wpAny M A (checkBuiltinCall "BaseException.__getattribute__" ⟨[.ref x, nameV], []⟩) Q E s := by
  have hk : builtinKind "BaseException.__getattribute__" = some .slot := by decide +kernel
  have hsplit : splitId "BaseException.__getattribute__" = some ("BaseException", "__getattribute__") := by decide +kernel
  have ha := F.args_bexc_ga (.ref x) nameV
  have LI : PySem.W.Looks M s.heap (isInstance (.ref x) (.type "BaseException")) true := I.type.andThen (PySem.W.looks_mroIn X c.hb)
  obtain ⟨h, g, d, t, os⟩ := s
  simp only [checkBuiltinCall, hk, hsplit]
  refine wpAny_bind (LI.at ?_)
  repeat (first | assumption | wp_step)
theorem exc_by {fill expr : Bool} {tk : Tok} {Q : Value → Shared → Prop} (X : K.In s.heap) (c : ExcC K C) (I : TyAt s.heap x C)
    (h : ∀ A' : Around, codeAny (model prog w) A' (.call (.builtin "BaseException.__getattribute__") ⟨[.ref x, .str name tk], []⟩) (fun r s' => match r with | .ok (.ret v) => wpAny (model prog w) A (handedOut v) Q E s' | _ => False) s) :
    wpAny (model prog w) A (getAttrBy (.ref x) (.str name tk) fill expr) Q E s := by
  have L0 := I.type (M := model prog w)
  have L1 := PySem.W.looks_findIn (M := model prog w) X c.ga
  have L2 := PySem.W.looks_findIn (M := model prog w) X c.no
  have f3 := F.excAttr_ValueError.ga.bind (.ref x)
  have hx0 : (expr && onTheHeap (Value.builtin "BaseException.__getattribute__")) = false := by cases expr <;> rfl
  have hx2 : (Value.builtin "BaseException.__getattribute__" == Value.builtin "object.__getattribute__") = false := by decide +kernel
  have hx1 : (onTheHeap (Value.ref C) && Value.builtin "BaseException.__getattribute__" == Value.builtin "object.__getattribute__") = false := by rw [hx2]; rfl
  obtain ⟨hh, g, d, t, os⟩ := s
  unfold getAttrBy
  refine wpAny_holding (wpAny_bind (L0.at (wpAny_bind (L1.at ?_))))
  dsimp only
  rw [if_neg (by rw [hx1]; exact Bool.false_ne_true)]
  unfold getAttrByItsOwn hookBefore
  rw [if_pos (show onTheHeap (Value.ref C) = true from rfl)]
  refine wpAny_bind (L2.at ?_)
  refine wpAny_bind (wpAny_attempt (wpAny_holding ?_))
  unfold callGetattribute
  rw [if_neg (by rw [hx0]; exact Bool.false_ne_true)]
  unfold boundAndCalled
  rw [f3]
  refine wpAny_bind (wpAny_pure ?_)
  refine wpAny_call (codeAny_mono (h _) fun r s' hr => ?_)
  rcases r with e | (_ | _ | _ | v) <;> first | exact hr | exact hr.elim
theorem class_of {R : Result → Shared → Prop} {tp : Value} (X : K.In s.heap) (I : TyAt s.heap x C) (hm : PySem.W.mroIn K C (.type "object") = some true) (h : R (.ok (.ret (.ref C))) s) :
    codeAny (model prog w) A (.call (.builtin "getset_descriptor.__get__") ⟨[.builtin "object.__class__", .ref x, tp], []⟩) R s := by
  have L0 := I.type (M := model prog w)
  have LM := PySem.W.looks_mroIn (M := model prog w) X hm
  obtain ⟨h0, g, d, t, os⟩ := s
  refine codeAny_call_builtin PySem.W.KF.slot_gs.plain PySem.W.KF.entry_gs ?_
  refine PySem.W.KF.slot_gs.check _ _ _ _ _ _ _ _ PySem.W.KF.type_class (PySem.W.KF.args_gs _ _ _) ?_
  unfold Builtin.«getset_descriptor.__get__» descrGet
  rw [PySem.W.dga_obj]
  refine wpAny_bind (wpAny_pure ?_)
  unfold descrGetter descrCheckInstance descrNameAndClass isInstance
  simp only [PySem.W.KF.owner_class]
  repeat lk
  refine ⟨Code.quiet_builtin _ (by decide +kernel), codeAny_builtin PySem.W.KF.entry_class ?_⟩
  unfold Builtin.«object.__class__» shownTypeOf
  repeat lk
  exact h
theorem find_data {M : Model} {h : Heap} {a g : Value} (X : K.In h) (ha : PySem.W.findIn K (.ref C) name = some (some a)) (hg : PySem.W.specialIn K a "__get__" = some (some g)) (ht : PySem.W.takesIn K a = some true) :
    PySem.W.Looks M h (Builtin.ObjectAttr.find (.ref x) (.ref C) name) (.bind g a) := by
  have L1 := PySem.W.looks_findIn (M := M) X ha
  have L2 : PySem.W.Looks M h (Builtin.ObjectAttr.getOf (some a)) (some g) := PySem.W.looks_specialIn X hg
  have L3 := PySem.W.looks_takesIn (M := M) X ht
  unfold Builtin.ObjectAttr.find
  refine L1.andThen (L2.andThen ?_)
  have LD : PySem.W.Looks M h (Builtin.ObjectAttr.dataDescriptor? (some a) (some g)) (some (g, a)) := by
    unfold Builtin.ObjectAttr.dataDescriptor?
    refine L3.andThen ?_
    exact .now
  exact LD.andThen (PySem.W.Looks.tag .now)
theorem ExcC.some (c : ExcC K C) : (PySem.W.clsIn K C).isSome = true := by
  have h := c.hm
  unfold PySem.W.mroIn at h
  obtain ⟨cd, a, _⟩ := Option.bind_eq_some_iff.mp h
  rw [a]
  rfl
theorem exc_class {fill expr : Bool} {tk : Tok} {Q : Value → Shared → Prop} (X : K.In s.heap) (c : ExcC K C) (I : TyAt s.heap x C) (h : Q (.ref C) s) :
    wpAny (model prog w) A (getAttrBy (.ref x) (.str "__class__" tk) fill expr) Q E s := by
  refine exc_by X c I fun A' => codeAny_call_builtin F.excAttr_ValueError.ga.plain F.entry_bexc_ga (check_bga X c I ?_)
  have L0 := I.type (M := model prog w)
  have L1 := find_data (M := model prog w) (x := x) X c.ha c.hn c.htk
  obtain ⟨hh, g, d, t, os⟩ := s
  unfold Builtin.«object.__getattribute__»
  have sa : slotArgs "__getattribute__" 1 ⟨[.ref x, .str (Str.ofString "__class__") tk], []⟩ = pure (.ref x, [.str (Str.ofString "__class__") tk]) := rfl
  rw [sa]
  refine wpAny_bind (wpAny_pure ?_)
  dsimp only
  have an : Builtin.ObjectAttr.attrName (.str (Str.ofString "__class__") tk) = pure (Str.ofString "__class__") := rfl
  rw [an]
  refine wpAny_bind (wpAny_pure (wpAny_bind (L0.at (wpAny_bind (L1.at ?_)))))
  dsimp only
  unfold Builtin.ObjectAttr.bindTo
  show wpAny _ _ (holding [Value.builtin "object.__class__"] (call (Value.builtin "getset_descriptor.__get__") [Value.builtin "object.__class__", Value.ref x, Value.ref C]) >>= ret) _ _ _
  refine wpAny_bind (wpAny_holding (wpAny_call (class_of X I c.hm ?_)))
  refine wpAny_pure ?_
  show wpAny _ _ (handedOut (.ref C)) _ _ _
  exact wpAny_pure h
theorem exc_cls {Q : Option Value → Shared → Prop} (X : K.In s.heap) (c : ExcC K C) (I : TyAt s.heap x C) (h : Q (some (.ref C)) { s with toks := s.toks + 1 }) : wpAny (model prog w) A (getAttr? (.ref x) "__class__") Q E s := by
  unfold getAttr? getAttrBy?
  refine wpAny_bind (wpAny_mkText (wpAny_bind (wpAny_attempt ?_)))
  refine exc_class (s := { s with toks := s.toks + 1 }) X c I ?_
  exact wpAny_pure h
end
end
open PySem PySem.Spec PyProof.Rows L2
theorem cls_type {K : PySem.W.Frag} {C : Addr} {M : Model} {h : Heap} (c : ExcC K C) (X : K.In h) : PySem.W.Looks M h (isType (.ref C)) true := by
  obtain ⟨cd, hc⟩ := Option.isSome_iff_exists.mp c.some
  unfold PySem.W.clsIn at hc
  split at hc
  · rename_i d1 d2 d3 d4 ho
    intro A Q E s k q
    unfold isType loadHead
    exact wpAny_bind (wpAny_loadPart (k _ _ (X _ _ ho)) (wpAny_pure q))
  · cases hc
theorem kitx_exc {K : PySem.W.Frag} {ea C : Addr} (c : ExcC K C) : PySem.W.KitX K (.ref ea) (.ref C) (fun h => TyAt h ea C) where
  ty := fun _ _ _ I => I.type
  it := fun _ _ X _ => cls_type c X
  ne := fun h tp dd its n sl X htp => by
    refine Bool.eq_false_iff.mpr fun q => ?_
    have e : C = tp := Value.ref.inj (beq_iff_eq.mp q)
    subst e
    obtain ⟨cd, hc⟩ := Option.isSome_iff_exists.mp c.some
    unfold PySem.W.clsIn at hc
    split at hc
    · rename_i d1 d2 d3 d4 ho
      have z := (X _ _ ho).symm.trans htp
      cases z
    · cases hc
  ca := fun X I k => exc_cls X c I k
section
variable {X : Cx}
theorem call_isiT : CallR X (.builtin "isinstance") (fun xs H Q => ∃ (ea C p : Addr) (cs : List Addr) (b : Bool), xs = [.ref ea, .ref p] ∧ H ea = some (excO ea C) ∧ H p = some (.tup (cs.map V.ref)) ∧ ExcC X.K C ∧ PySem.W.kitAny X.K (.ref C) (cs.map Value.ref) = some b ∧ Q (.bl b) H) := by
  intro pins s σ H xs us Q I r h
  obtain ⟨ea, C, p, cs, b, rfl, hea, hp, c, ka, q⟩ := h
  obtain ⟨u, w', rfl, ru, rw'⟩ := vals2 r
  cases ru
  cases rw'
  obtain ⟨ty, _, _⟩ := (show ObjOk X.prog X.w H s.heap ea (excO ea C) from I.hok ea _ hea)
  obtain ⟨zl, its, rv, ⟨oc, od, odt, osl⟩, ho, hc, n, hd⟩ := (show ObjOk X.prog X.w H s.heap p (.tup (cs.map V.ref)) from I.hok p _ hp)
  simp only at hc hd
  subst hc hd
  have ei : its = cs.map Value.ref := by
    clear ho hp ka zl
    induction cs generalizing its with
    | nil => cases rv; rfl
    | cons c' r' ih =>
      cases rv with
      | cons r1 r2 =>
        cases r1
        rw [ih _ r2]
        rfl
  rw [ei] at ho
  exact PySem.W.kia_tup (kitx_exc c) I.kIn ty ho ka (fun z => nomatch z) fun tk => ⟨.bl b, H, I.tok tk, rfl, q⟩
theorem call_isiN : CallR X (.builtin "isinstance") (fun xs H Q => ∃ (ea C : Addr) (b : Bool), H ea = some (excO ea C) ∧ ExcC X.K C ∧ ((∃ R, xs = [.ref ea, .ref R] ∧ PySem.W.kitOne X.K (.ref C) (.ref R) = some b) ∨ ∃ T, xs = [.ref ea, .ty T] ∧ PySem.W.kitOne X.K (.ref C) (.type T) = some b) ∧ Q (.bl b) H) := by
  intro pins s σ H xs us Q I r h
  obtain ⟨ea, C, b, hea, c, hor, q⟩ := h
  obtain ⟨ty, _, _⟩ := (show ObjOk X.prog X.w H s.heap ea (excO ea C) from I.hok ea _ hea)
  rcases hor with ⟨R, rfl, ka⟩ | ⟨T, rfl, ka⟩
  · obtain ⟨u, w', rfl, ru, rw'⟩ := vals2 r
    cases ru
    cases rw'
    exact PySem.W.kia_one (kitx_exc c) I.kIn ty ka (fun z => nomatch z) fun tk => ⟨.bl b, H, I.tok tk, rfl, q⟩
  · obtain ⟨u, w', rfl, ru, rw'⟩ := vals2 r
    cases ru
    cases rw'
    exact PySem.W.kia_one (kitx_exc c) I.kIn ty ka (fun z => nomatch z) fun tk => ⟨.bl b, H, I.tok tk, rfl, q⟩

end
end L3
set_option Elab.async false
set_option linter.all false
set_option maxRecDepth 100000
set_option maxHeartbeats 4000000
namespace K1
open PySem L2 L3
theorem bt_len : bootBuiltins "len" = some (.builtin "len") := by decide +kernel
theorem bt_isinstance : bootBuiltins "isinstance" = some (.builtin "isinstance") := by decide +kernel
theorem bt_all : bootBuiltins "all" = some (.builtin "all") := by decide +kernel
theorem bt_int : bootBuiltins "int" = some (.type "int") := by decide +kernel
theorem bt_str : bootBuiltins "str" = some (.type "str") := by decide +kernel
theorem bt_tuple : bootBuiltins "tuple" = some (.type "tuple") := by decide +kernel
theorem bt_ValueError : bootBuiltins "ValueError" = some (.type "ValueError") := by decide +kernel
structure Blt (mg : Str → Option Value) : Prop where
  len : mg "len" = none
  range : mg "range" = none
  isinstance : mg "isinstance" = none
  all_ : mg "all" = none
  int : mg "int" = none
  bool : mg "bool" = none
  str : mg "str" = none
  list : mg "list" = none
  tuple : mg "tuple" = none
  set_ : mg "set" = none
  ValueError : mg "ValueError" = none
  enumerate : mg "enumerate" = none
  max : mg "max" = none
  min : mg "min" = none
  sum : mg "sum" = none
  any_ : mg "any" = none
  dict : mg "dict" = none
  sorted : mg "sorted" = none
  zip : mg "zip" = none
structure Dn (K : PySem.W.Frag) (mg : Str → Option Value) (x : Str) (st : Stmt) (ps : List Str) (f : Addr) (fd : FuncData) : Prop where
  fn : Fun K x x st f fd
  at_ : mg x = some (.ref f)
  bd : Binds K fd ps []
theorem pe_bty {X : Cx} {x : Str} {T : String} {pos : Pos} (hg : Gl X x) (hm : X.mg x = none) (hv : bootBuiltins x = some (.type T)) (hn : x ≠ "__name__" := by decide) (hd : (x == ("__debug__" : Str)) = false := by decide) : PE X (.Name x pos) (tC (.ty T)) :=
  pe_bltn (v := .ty T) hg hm hv rfl hn hd
theorem pe_cls {X : Cx} {x : Str} {C : Addr} {pos : Pos} (hg : Gl X x) (hm : X.mg x = some (.ref C)) (hd : (x == ("__debug__" : Str)) = false := by decide) : PE X (.Name x pos) (tC (.ref C)) :=
  pe_glob (v := .ref C) hg hm rfl hd
theorem passE {X : Cx} : Passes (CXe X.prog X.w) X E0 := by
  rintro pins σ H s e s' I ⟨_, _, _, _, _, _, _, z⟩
  exact z.elim
theorem sub_of {cl big : List (Str × Addr)} (h : ∀ p ∈ cl, big.lookup p.1 = some p.2) (x : Str) (c : Addr) (e : cl.lookup x = some c) : big.lookup x = some c := by
  induction cl with
  | nil => cases e
  | cons p r ih =>
    obtain ⟨y, d⟩ := p
    rw [List.lookup_cons] at e
    by_cases hb : (x == y) = true
    · rw [hb] at e
      cases e
      have := h (y, c) (List.mem_cons_self ..)
      rw [show x = y from eq_of_beq hb]
      exact this
    · rw [Bool.not_eq_true] at hb
      rw [hb] at e
      exact ih (fun p hp => h p (List.mem_cons_of_mem _ hp)) e
end K1
set_option Elab.async false
set_option linter.all false
namespace M1
open PySem
structure Rd where
  a : Nat
  b : Nat
  t : Int
  m : Int
noncomputable def rnum (c : Int) : Int := c * 48271 % 2147483647
noncomputable def rbeg (n : Nat) (c : Int) : Int := rnum c % n
noncomputable def rend (n : Nat) (c : Int) : Int := (rbeg n c + 1 + rnum c / 12 % ((n : Int) - 1)) % n
noncomputable def rroom (c : Int) : Int := if rnum c / 432 % 5 = 1 then 1 + c % 10 ^ 9 else 1 + rnum c / 144 % 3
noncomputable def rturn (l : Int) (c : Int) : Int := 1 + rnum c / 2160 % l
noncomputable def rd (n : Nat) (c : Int) : Rd := ⟨(rbeg n c).toNat, (rend n c).toNat, rturn 9 c, rroom c⟩
end M1
set_option Elab.async false
set_option linter.all false
set_option maxRecDepth 100000
set_option maxHeartbeats 4000000
namespace K1
open PySem L2 L3 M1
section
variable {P : Program} {w : World} {K : PySem.W.Frag} {mg : Str → Option Value} {base : Heap}
noncomputable abbrev S (l : List Nat) : Str := ⟨l.toArray⟩
theorem atI_int {ns : List Int} {k : Int} (h0 : 0 ≤ k) (h1 : k < (ns.map V.int).length) : atI (ns.map V.int) k = some (V.int (ns.getD k.toNat 0)) := by
  have h2 : k.toNat < ns.length := by rw [List.length_map] at h1; omega
  have e : (ns.map V.int)[k.toNat]? = some (V.int (ns.getD k.toNat 0)) := by
    rw [List.getElem?_map, List.getElem?_eq_getElem h2]
    simp [List.getD, h2]
  have := atI_nat e
  rwa [Int.toNat_of_nonneg h0] at this
noncomputable def spAt (K : PySem.W.Frag) : Sp := fun vs H Q _ => ∃ (a : Addr) (ns : List Int) (k : Int), vs = [.ref a, .int k] ∧ SqL K H a (ns.map V.int) ∧ 0 ≤ k ∧ Q (.int (ns.getD k.toNat 0)) H
theorem S_app (a b : List Nat) : S a ++ S b = S (a ++ b) := by
  show Str.append _ _ = _
  simp [Str.append, S]
theorem S_len (a : List Nat) : (S a).length = a.length := by simp [S, Str.length]
theorem cut_take (l : List Nat) (k : Nat) (h : k ≤ l.length) : cutS (S l) none (some (k : Int)) = S (l.take k) := by
  have e : (S l).cps.size = l.length := by simp [S]
  unfold cutS
  rw [e, HT.sIx_none, HT.sIx_nat]
  simp [S, Nat.min_eq_left h]
theorem cut_drop (l : List Nat) (k : Nat) (h : k ≤ l.length) : cutS (S l) (some (k : Int)) none = S (l.drop k) := by
  have e : (S l).cps.size = l.length := by simp [S]
  unfold cutS
  rw [e, HT.sIx_none, HT.sIx_nat, Nat.min_eq_left h]
  show (⟨((l.toArray.toList.drop k).take (l.length - k)).toArray⟩ : Str) = S (l.drop k)
  simp [S, List.take_of_length_le]
theorem signs_S (l : List Nat) : signs (S l) = l.map fun c => V.str (S [c]) := by simp [signs, S]
noncomputable def refs (rs : List Addr) : List L2.V := rs.map V.ref
theorem Paired.snoc {α β : Type} {F : α → β → Prop} {x : α} {y : β} (q : F x y) : ∀ {l : List α} {m : List β}, Paired F l m → Paired F (l ++ [x]) (m ++ [y])
  | _, _, .nil => .cons q .nil
  | _, _, .cons r t => .cons r (Paired.snoc q t)
theorem upd_other {H H' : Hp} {p : Addr} {o : HO} (hp : H p = none) (sm : Same H H') : Same H (upd H' p o) := fun b u e => by
  rw [upd_ne (ne_of_none e hp)]
  exact sm b u e
theorem refs_snoc (rs : List Addr) (t : Addr) : refs rs ++ [V.ref t] = refs (rs ++ [t]) := by simp [refs]
theorem refs_len (rs : List Addr) : (refs rs).length = rs.length := List.length_map ..
theorem upd_free {H : Hp} {t : Addr} {o : HO} (ht : H t = none) : Same H (upd H t o) := fun b u e => by
  rw [upd_ne (ne_of_none e ht)]
  exact e
theorem iteB {b : Bool} {A B : Prop} (h : b = true) (q : A) : if b = true then A else B := by rw [if_pos h]; exact q
theorem iteN {b : Bool} {A B : Prop} (h : b = false) (q : B) : if b = true then A else B := by subst h; exact q
theorem S_inj {a b : List Nat} (h : S a = S b) : a = b := by
  have := congrArg (fun x => x.cps.toList) h
  simpa [S] using this
theorem Paired.get {α β : Type} {F : α → β → Prop} : ∀ {l : List α} {m : List β} {i : Nat} {x : α}, Paired F l m → l[i]? = some x → ∃ y, m[i]? = some y ∧ F x y
  | _, _, _, _, .nil, e => by simp at e
  | _, _, 0, _, .cons r _, e => by simp at e; subst e; exact ⟨_, rfl, r⟩
  | _, _, i + 1, x, .cons _ t, e => by
    obtain ⟨y, h1, h2⟩ := Paired.get (i := i) (x := x) t (by simpa using e)
    exact ⟨y, by simpa using h1, h2⟩
noncomputable def hD (hs : List (List Nat)) : List PyData := (hs.map S).map PyData.str
theorem can_all {ds : List PyData} (h : ∀ d ∈ ds, d.canLay0 = true) : PyData.canLayAll0 ds = true := by
  induction ds with
  | nil => rfl
  | cons d r ih =>
    simp only [PyData.canLayAll0, Bool.and_eq_true]
    exact ⟨h d (List.mem_cons_self ..), ih fun e he => h e (List.mem_cons_of_mem _ he)⟩
theorem depth_all {ds : List PyData} {n : Nat} (h : ∀ d ∈ ds, d.depth ≤ n) : PyData.depthAll ds ≤ n := by
  induction ds with
  | nil => exact Nat.zero_le _
  | cons d r ih =>
    simp only [PyData.depthAll]
    exact Nat.max_le.mpr ⟨h d (List.mem_cons_self ..), ih fun e he => h e (List.mem_cons_of_mem _ he)⟩
theorem shaped_of {d : PyData} {n : Nat} (h1 : d.canLay0 = true) (h2 : d.depth ≤ n) (h3 : n ≤ 64) : SeqAt.shaped d = true := by
  unfold SeqAt.shaped
  rw [h1, decide_eq_true (Nat.le_trans h2 h3)]
  rfl
theorem ne_self {d : PyData} (h : d.canLay0 = true) : (if true = true then !PyData.eqv d d else PyData.eqv d d) = false := by
  rw [eqv_self d h]
  rfl
noncomputable def spLaw (K : PySem.W.Frag) : Sp := fun vs H Q _ => ∃ (a : Addr) (ns : List Int), vs = [.ref a] ∧ SqL K H a (ns.map V.int) ∧ ns.length ≤ 63 ∧ ∀ H', Q (.bl true) H'
noncomputable def excChk (cd : ClassData) (sl : Array (Option Value)) (C R : Addr) : Bool := match cd.mro, sl.toList with
    | .ref C' :: bm, [_, _, _, _, some (.builtin _), _] => C' == C && !cd.hasDel && bm.contains (.type "BaseException") && (Value.ref C :: bm).contains (.ref R)
    | _, _ => false
theorem excSub_of {K : PySem.W.Frag} {C R : Addr} {dd : Option Addr} {cd : ClassData} {sl : Array (Option Value)} (l : K.lookup C = some ⟨.type "type", dd, .cls cd, sl⟩) (h : excChk cd sl C R = true) : excSub K C R = true := by
  unfold excSub
  rw [l]
  exact h
theorem ne_int {i j : Int} (h : i ≠ j) : decide (V.int i = V.int j) = false := decide_eq_false fun z => h (V.int.inj z)
noncomputable def notAmong (C : Addr) (cd : ClassData) (os : List Addr) : Bool := !cd.mro.isEmpty && os.all fun o => !(Value.ref C == Value.ref o) && !(cd.mro.contains (.ref o))
theorem kitOne_not {C o : Addr} {dd d2 : Option Addr} {cd c2 : ClassData} {sl s2 : Array (Option Value)} (lC : K.lookup C = some ⟨.type "type", dd, .cls cd, sl⟩) (lo : K.lookup o = some ⟨.type "type", d2, .cls c2, s2⟩) (h0 : cd.mro.isEmpty = false) (h1 : (Value.ref C == Value.ref o) = false)
    (h2 : cd.mro.contains (.ref o) = false) : PySem.W.kitOne K (.ref C) (.ref o) = some false := by
  unfold PySem.W.kitOne PySem.W.kitCls
  rw [if_neg (by rw [h1]; exact Bool.false_ne_true)]
  have e1 : PySem.W.clsIn K o = some c2 := by unfold PySem.W.clsIn; rw [lo]
  have e2 : PySem.W.typeIn K (.ref o) = some (.type "type") := by
    show (K.lookup o).map (·.cls) = some (.type "type")
    rw [lo]
    rfl
  have e3 : PySem.W.clsIn K C = some cd := by unfold PySem.W.clsIn; rw [lC]
  dsimp only
  rw [e1, e2, if_pos (by simp)]
  show PySem.W.mroIn K C (.ref o) = some false
  unfold PySem.W.mroIn
  rw [e3]
  show (if cd.mro.isEmpty = true then none else some (cd.mro.contains (.ref o))) = some false
  rw [h0, h2]
  rfl
theorem kitAny_not {C : Addr} {dd : Option Addr} {cd : ClassData} {sl : Array (Option Value)} (lC : K.lookup C = some ⟨.type "type", dd, .cls cd, sl⟩) : ∀ {os : List Addr}, (∀ o ∈ os, ∃ d2 c2 s2, K.lookup o = some ⟨.type "type", d2, .cls c2, s2⟩) → notAmong C cd os = true →
    PySem.W.kitAny K (.ref C) (os.map Value.ref) = some false
  | [], _, _ => rfl
  | o :: os, h, hn => by
    unfold notAmong at hn
    rw [Bool.and_eq_true, List.all_cons, Bool.and_eq_true, Bool.and_eq_true] at hn
    obtain ⟨h0, ⟨h1, h2⟩, h3⟩ := hn
    obtain ⟨d2, c2, s2, lo⟩ := h o (List.mem_cons_self ..)
    have e := kitOne_not lC lo (by simpa using h0) (by simpa using h1) (by simpa using h2)
    rw [List.map_cons]
    unfold PySem.W.kitAny
    rw [e]
    refine kitAny_not lC (fun o' ho => h o' (List.mem_cons_of_mem _ ho)) ?_
    unfold notAmong
    rw [Bool.and_eq_true]
    exact ⟨h0, h3⟩
end
end K1
set_option Elab.async false
set_option linter.all false
set_option maxRecDepth 100000
set_option maxHeartbeats 4000000
namespace K1
open PySem L2 L3 M1
section
variable {P : Program} {w : World} {K : PySem.W.Frag} {mg : Str → Option Value} {base : Heap}
noncomputable def top (i : Nat) : Stmt := PySem.Challenge.pw_postroad_k82_no_plan_text.main.body.getD i (.Pass ⟨0, 0, 0, 0⟩)
end
end K1
set_option Elab.async false
set_option linter.all false
set_option maxRecDepth 100000
set_option maxHeartbeats 4000000
namespace K1
open PySem L2 L3 M1
end K1
set_option Elab.async false
set_option linter.all false
set_option maxRecDepth 100000
set_option maxHeartbeats 4000000
namespace L3
open PySem PySem.Spec PyProof.Rows L2
section
variable {X : Cx} {e : Expr} {es : List Expr} {pos p : Pos} {k : Nat} {f C : Addr} {fd : FuncData} {ps : List Str} {sp : Sp} {t : TA} {x : Str}
noncomputable def tCallX (sp : Sp) (t : TA) : TEx := fun E σ H Q => t σ H fun vs H1 => sp vs H1 Q E
theorem px_call (F : FnOk X.prog X.w X.K X.mg X.base (CXe X.prog X.w) k f fd ps sp) (hr : Room k X.A) (hg : Gl X x) (hm : X.mg x = some (.ref f)) (hk : PySem.W.keepIn X.K (.ref f) = true) (hb : Binds X.K fd ps [])
    (ha : PA X.nox (e :: es) t) (hdb : (x == ("__debug__" : Str)) = false := by decide) (he : starEach (e :: es) X.env = (false, eval e X.env) :: starEach es X.env := by rfl) (hpl : (backTo pos (starEach es X.env)).any (·.1) = false := by rfl) :
    PEx X (.Call (.Name x p) (e :: es) [] pos) (tCallX sp t) := by
  intro pins s σ H Q E I h
  refine wpAny_Call_Name_kw (ld_glob I hg hm ?_ hdb)
  refine PySem.W.callWith_K (h₀ := X.base) I.ok.mod.kin hk (noW (X := X) (pins := pins) (thn (ha pos pins s σ H _ (I.wish _) h) fun us s1 ⟨vs, H1, I1, r, q⟩ => ⟨I1.unwish.kIn, ?_⟩)) he hpl
  exact run_fnx F hr hb I1.unwish r q
end
end L3
set_option Elab.async false
set_option linter.all false
set_option maxRecDepth 100000
set_option maxHeartbeats 4000000
namespace K1
open PySem PySem.Spec PyProof.Rows L2 L3 M1
structure Pd where
  p : Hp → L2.V → Prop
  up : ∀ {H H' : Hp} {v : L2.V}, Same H H' → p H v → p H' v
noncomputable def sq (K : PySem.W.Frag) (xs : List L2.V) : Pd := ⟨fun H v => ∃ a, v = .ref a ∧ SqL K H a xs, fun sm ⟨a, e, h⟩ => ⟨a, e, sm.seq h⟩⟩
section
variable {X : Cx} {e a b : Expr} {es : List Expr} {pos p2 : Pos} {Γ : List (Option Pd)} {A B R : Pd}
variable {i j : Int}
variable {st : List Stmt}
end
theorem strs_of {ys : List Str} : ∀ {us : List Value}, Vals (ys.map V.str) us → StrsAre us ys := by
  induction ys with
  | nil => intro us r; rw [List.map_nil] at r; cases r; exact .nil
  | cons n ns ih =>
    intro us r
    rw [List.map_cons] at r
    cases r with
    | cons r1 r2 =>
      obtain ⟨t, e⟩ := r1
      subst e
      exact .cons n t (ih r2)
noncomputable def rJoin (K : PySem.W.Frag) : L2.V → List L2.V → Hp → VK → Prop := fun x xs H Q => ∃ z a ys, x = .str z ∧ xs = [.ref a] ∧ SqL K H a (ys.map V.str) ∧ (ys.map (·.length)).sum + ys.length * z.length ≤ 16777216 ∧ Q (.str (Txt.join z ys)) H
theorem mt_join {X : Cx} : MtR X "str.join" (rJoin X.K) := by
  intro pins s σ H x xs v us Q I rx rs h
  obtain ⟨z, a, ys, rfl, rfl, ha, hz, q⟩ := h
  obtain ⟨t, rfl⟩ := rx
  obtain ⟨u, rfl, ru⟩ := vals1 rs
  cases ru
  obtain ⟨its, r, pl, _⟩ := I.list ha
  exact join_list pl.isList (strs_of r) hz fun t' k => ⟨.str _, H, I.tok k, ⟨t', rfl⟩, q⟩
section
variable {X : Cx} {K : PySem.W.Frag} {o e : Expr} {es : List Expr} {to : TE} {t : TA} {name : Str} {apos cpos : Pos} {T id : String} {r : L2.V → List L2.V → Hp → VK → Prop}
end
end K1
set_option Elab.async false
set_option linter.all false
set_option maxRecDepth 100000
set_option maxHeartbeats 4000000
namespace L3
open PySem PySem.Spec PyProof.Rows L2 Builtin Builtin.Str
theorem vals_strs : ∀ l : List (Str × Tok), Vals ((l.map (·.1)).map V.str) (strValues l)
  | [] => .nil
  | (x, t) :: r => .cons ⟨t, rfl⟩ (vals_strs r)
section
variable {X : Cx}
noncomputable def rSplit : L2.V → List L2.V → Hp → VK → Prop := fun x xs H Q => ∃ z y, x = .str z ∧ xs = [.str y] ∧ (y.length == 0) = false ∧ z.length + 2 ≤ sizeLine ∧ ∀ p, H p = none → Q (.ref p) (upd H p (.lst ((Txt.split z y).map V.str)))
theorem mt_split : MtR X "str.split" rSplit := by
  intro pins s σ H x xs v us Q I rx rs h
  obtain ⟨z, y, rfl, rfl, hy, hz, q⟩ := h
  obtain ⟨t, rfl⟩ := rx
  obtain ⟨u, rfl, t', rfl⟩ := vals1 rs
  have fin : ∀ {l : List (Str × Tok)} {k : Nat}, l.map (·.1) = Txt.split z y → l.length ≤ sizeLine → EP X pins σ Q (.ref s.heap.objs.size) { s with heap := s.heap.push { cls := .type "list", data := .seq (strValues l).toArray }, toks := k } := fun {l k} e hl => by
    refine ⟨.ref _, _, I.lnew (ys := (Txt.split z y).map V.str) (by rw [← e]; exact vals_strs l) ?_, rfl, q _ I.fresh⟩
    rw [List.length_map, ← e, List.length_map]
    exact hl
  have one : ∀ {a : Str × Tok}, [a].length ≤ sizeLine := fun {a} => by show 1 ≤ sizeLine; decide
  cases h1 : (decide (z.length < y.length) || decide (strKind z < strKind y))
  · cases hf : (occurrences z y 0 z.length (z.length + 1)).isEmpty
    · have hn : (partsBetween z (occurrences z y 0 z.length (z.length + 1)) y.length).length ≤ sizeLine := by
        rw [length_partsBetween]
        have e1 := StrLaws.occ_length_le_len z y 0 z.length (z.length + 1)
        omega
      refine call_meets F.slot_str_split (typeIs_str _ _ _) F.entry_str_split (F.args_str_split_2 _ _) (meets_str_split_sep z y t t' h1 hy hf (by omega) hn) ?_
      show wants _ _ _ { s with toks := _, heap := s.heap.push { cls := .type "list", data := .seq (strsFrom s.toks (partsBetween z (occurrences z y 0 z.length (z.length + 1)) y.length)).toArray } }
      rw [strsFrom_eq]
      refine fin ((numbered_texts _ _).trans ((if_neg (ne_true_of_eq_false h1)).trans (if_neg (ne_true_of_eq_false hf))).symm) ?_
      have := congrArg List.length (numbered_texts s.toks (partsBetween z (occurrences z y 0 z.length (z.length + 1)) y.length))
      rw [List.length_map] at this
      omega
    · exact call_meets F.slot_str_split (typeIs_str _ _ _) F.entry_str_split (F.args_str_split_2 _ _) (meets_str_split_not_found z y t t' h1 hy hf)
        (fin (l := [(z, t)]) ((if_neg (ne_true_of_eq_false h1)).trans (if_pos hf)).symm one)
  · exact call_meets F.slot_str_split (typeIs_str _ _ _) F.entry_str_split (F.args_str_split_2 _ _) (meets_str_split_cannot_occur z y t t' h1)
      (fin (l := [(z, t)]) (if_pos h1).symm one)
noncomputable def rEnds : L2.V → List L2.V → Hp → VK → Prop := fun x xs H Q => ∃ z y, x = .str z ∧ xs = [.str y] ∧ Q (.bl (Txt.endswith z y)) H
theorem mt_ends : MtR X "str.endswith" rEnds := by
  intro pins s σ H x xs v us Q I rx rs h
  obtain ⟨z, y, rfl, rfl, q⟩ := h
  obtain ⟨t, rfl⟩ := rx
  obtain ⟨u, rfl, t', rfl⟩ := vals1 rs
  exact SC.endswith ⟨.bl _, H, I, rfl, q⟩
theorem call_intS : CallR X (.type "int") (fun xs H Q => ∃ z n, xs = [.str z] ∧ PySem.intText? z = some n ∧ z.length ≤ 640 ∧ Q (.int n) H) := by
  intro pins s σ H xs us Q I r h
  obtain ⟨z, n, rfl, hn, hl, q⟩ := h
  obtain ⟨u, rfl, t, rfl⟩ := vals1 r
  exact PySem.W.KIN.call_text hn hl ⟨.int n, H, I.tok _, ⟨_, rfl⟩, q⟩
end
end L3
set_option Elab.async false
set_option linter.all false
set_option maxRecDepth 100000
set_option maxHeartbeats 4000000
namespace K1
open PySem L2 L3 Builtin Builtin.Str StrLaws
noncomputable def glL (y : List Nat) : List (List Nat) → List Nat
  | [] => []
  | [p] => p
  | p :: r => p ++ y ++ glL y r
noncomputable def cutsF (w : Nat) : Nat → List (List Nat) → List Nat
  | _, [] => []
  | _, [_] => []
  | a, p :: r => (a + p.length) :: cutsF w (a + p.length + w) r
section
variable {x y : List Nat} {c : Nat}
theorem occ_skip {s sub : Str} {hi limit : Nat} : ∀ (l : List Nat) (st : Array Nat × Nat), (∀ i ∈ l, st.2 ≤ i → i + sub.length ≤ hi → subAt s sub i = false) → ∀ r, (forIn (l ++ r) st (occBody s sub hi limit)).run = (forIn r st (occBody s sub hi limit)).run
  | [], _, _, _ => rfl
  | a :: l, st, h, r => by
    rw [List.cons_append, List.forIn_cons]
    unfold occBody
    rw [if_neg (fun z => by
      have := h a (.head _) z.1.1.2 z.1.2
      rw [this] at z
      exact Bool.false_ne_true z.2)]
    exact occ_skip l st (fun i hi' => h i (.tail _ hi')) r
theorem occ_hit {s sub : Str} {hi limit a : Nat} {r : List Nat} {st : Array Nat × Nat} (h1 : st.1.size < limit) (h2 : st.2 ≤ a) (h3 : a + sub.length ≤ hi) (h4 : subAt s sub a = true) :
    (forIn (a :: r) st (occBody s sub hi limit)).run = (forIn r (st.1.push a, a + sub.length) (occBody s sub hi limit)).run := by
  rw [List.forIn_cons]
  unfold occBody
  rw [if_pos ⟨⟨⟨h1, h2⟩, h3⟩, h4⟩]
  rfl
theorem sub_list (x y : List Nat) (i : Nat) : subAt (S x) (S y) i = ((x.drop i).take y.length == y) := by
  rw [subAt_eq]
  simp [S, Str.length]
theorem occ_glued {d : Nat} {y : List Nat} : ∀ (ps : List (List Nat)), ps ≠ [] → (∀ p ∈ ps, d ∉ p) → ∀ (x : List Nat) (a : Nat) (st : Array Nat × Nat) (limit : Nat), a ≤ x.length → x.drop a = glL (d :: y) ps → st.2 ≤ a → st.1.size + x.length + 1 - a ≤ limit →
    (forIn (List.range' a (x.length + 1 - a)) st (occBody (S x) (S (d :: y)) x.length limit)).run.1.toList = st.1.toList ++ cutsF (y.length + 1) a ps
  | [], h, _, _, _, _, _, _, _, _, _ => absurd rfl h
  | [p], _, hp, x, a, st, limit, ha, e, hs, hl => by
    have e0 := occ_skip (s := S x) (sub := S (d :: y)) (hi := x.length) (limit := limit) (List.range' a (x.length + 1 - a)) st (fun i hi' h1 h2 => ?_) []
    · rw [List.append_nil] at e0
      rw [e0]
      show st.1.toList = st.1.toList ++ []
      rw [List.append_nil]
    · rw [S_len, List.length_cons] at h2
      rw [List.mem_range'_1] at hi'
      rw [sub_list]
      refine Bool.eq_false_iff.mpr fun z => ?_
      have z1 := eq_of_beq z
      have z2 : x[i]? = some d := by
        have := congrArg (fun l => l[0]?) z1
        simpa using this
      have z3 : (x.drop a)[i - a]? = some d := by
        rw [List.getElem?_drop]
        rw [show a + (i - a) = i by omega]
        exact z2
      rw [e] at z3
      exact hp p (.head _) (List.mem_of_getElem? z3)
  | p :: q :: r, _, hp, x, a, st, limit, ha, e, hs, hl => by
    have e' : x.drop a = p ++ (d :: y) ++ glL (d :: y) (q :: r) := e
    have lx : x.length - a = p.length + (y.length + 1) + (glL (d :: y) (q :: r)).length := by
      have := congrArg List.length e'
      simp only [List.length_drop, List.length_append, List.length_cons] at this
      exact this
    have rg : List.range' a (x.length + 1 - a) = List.range' a p.length ++ (a + p.length) :: (List.range' (a + p.length + 1) y.length ++ List.range' (a + p.length + (y.length + 1)) (x.length + 1 - (a + p.length + (y.length + 1)))) := by
      have e1 : x.length + 1 - a = p.length + ((y.length + (x.length + 1 - (a + p.length + (y.length + 1)))) + 1) := by omega
      rw [e1, ← List.range'_append_1, List.range'_succ, ← List.range'_append_1]
      congr 4
      omega
    have gp : ∀ i, a ≤ i → i < a + p.length → x[i]? ≠ some d := fun i h1 h2 z => by
      have z3 : (x.drop a)[i - a]? = some d := by
        rw [List.getElem?_drop]
        rw [show a + (i - a) = i by omega]
        exact z
      rw [e', List.append_assoc, List.getElem?_append_left (by omega)] at z3
      exact hp p (.head _) (List.mem_of_getElem? z3)
    have dr : x.drop (a + p.length) = (d :: y) ++ glL (d :: y) (q :: r) := by
      rw [← List.drop_drop, e', List.append_assoc, List.drop_left]
    have dr2 : x.drop (a + p.length + (y.length + 1)) = glL (d :: y) (q :: r) := by
      rw [← List.drop_drop, dr]
      exact List.drop_left
    rw [rg, occ_skip _ _ (fun i hi' h1 h2 => ?_), occ_hit (by omega) (by omega) (by rw [S_len, List.length_cons]; omega) ?_, occ_skip _ _ (fun i hi' h1 h2 => ?_)]
    · rw [S_len, List.length_cons]
      have ih := occ_glued (d := d) (y := y) (q :: r) (by simp) (fun p' h' => hp p' (.tail _ h')) x (a + p.length + (y.length + 1)) (st.1.push (a + p.length), a + p.length + (y.length + 1)) limit (by omega) dr2 (Nat.le_refl _) (by simp; omega)
      rw [ih]
      show (st.1.push (a + p.length)).toList ++ _ = st.1.toList ++ (a + p.length) :: cutsF (y.length + 1) (a + p.length + (y.length + 1)) (q :: r)
      rw [Array.toList_push, List.append_assoc]
      rfl
    · -- within the glue
      rw [S_len, List.length_cons] at h1
      rw [List.mem_range'_1] at hi'
      exfalso
      have h1 : a + p.length + (y.length + 1) ≤ i := h1
      omega
    · rw [sub_list, dr]
      simp
    · rw [List.mem_range'_1] at hi'
      rw [sub_list]
      refine Bool.eq_false_iff.mpr fun z => ?_
      have z1 := eq_of_beq z
      have z2 : x[i]? = some d := by
        have := congrArg (fun l => l[0]?) z1
        simpa using this
      exact gp i hi'.1 hi'.2 z2
theorem parts_glued {d : Nat} {y : List Nat} : ∀ (ps : List (List Nat)), ps ≠ [] → ∀ (x : List Nat) (a : Nat), a ≤ x.length → x.drop a = glL (d :: y) ps → partsFrom (S x) (y.length + 1) a (cutsF (y.length + 1) a ps) = ps.map S
  | [], h, _, _, _, _ => absurd rfl h
  | [p], _, x, a, ha, e => by
    have e : x.drop a = p := e
    show [strSub (S x) a (S x).length] = [S p]
    congr 1
    apply Str.ext'
    apply Array.toList_inj.mp
    rw [strSub_toList, S_len]
    show (x.drop a).take (x.length - a) = p
    rw [List.take_of_length_le (by simp), e]
  | p :: q :: r, _, x, a, ha, e => by
    have e' : x.drop a = p ++ (d :: y) ++ glL (d :: y) (q :: r) := e
    have lx : x.length - a = p.length + (y.length + 1) + (glL (d :: y) (q :: r)).length := by
      have := congrArg List.length e'
      simp only [List.length_drop, List.length_append, List.length_cons] at this
      exact this
    have dr2 : x.drop (a + p.length + (y.length + 1)) = glL (d :: y) (q :: r) := by
      have dr : x.drop (a + p.length) = (d :: y) ++ glL (d :: y) (q :: r) := by
        rw [← List.drop_drop, e', List.append_assoc, List.drop_left]
      rw [← List.drop_drop, dr]
      exact List.drop_left
    show strSub (S x) a (a + p.length) :: partsFrom (S x) (y.length + 1) (a + p.length + (y.length + 1)) (cutsF (y.length + 1) (a + p.length + (y.length + 1)) (q :: r)) = S p :: (q :: r).map S
    rw [parts_glued (q :: r) (by simp) x _ (by omega) dr2]
    congr 1
    apply Str.ext'
    apply Array.toList_inj.mp
    rw [strSub_toList]
    show (x.drop a).take (a + p.length - a) = p
    rw [show a + p.length - a = p.length by omega, e', List.append_assoc]
    exact List.take_left
theorem glL_len {d : Nat} {y : List Nat} {p q : List Nat} {r : List (List Nat)} : y.length + 1 ≤ (glL (d :: y) (p :: q :: r)).length := by
  show _ ≤ (p ++ (d :: y) ++ glL (d :: y) (q :: r)).length
  rw [List.length_append, List.length_append, List.length_cons]
  omega
theorem kind1 {l : List Nat} (h : ∀ c ∈ l, c < 256) : Str.strKind (S l) = 1 := by
  unfold Str.strKind
  rw [if_pos]
  show l.toArray.all (fun c => decide (c < 256)) = true
  rw [List.all_toArray, List.all_eq_true]
  exact fun c hc => decide_eq_true (h c hc)
theorem split_glued {d : Nat} {y : List Nat} {ps : List (List Nat)} (hne : ps ≠ []) (hp : ∀ p ∈ ps, d ∉ p) (h256 : ∀ c ∈ glL (d :: y) ps, c < 256) (hy : ∀ c ∈ d :: y, c < 256) : Txt.split (S (glL (d :: y) ps)) (S (d :: y)) = ps.map S := by
  have h0 := occ_glued (d := d) (y := y) ps hne hp (glL (d :: y) ps) 0 (#[], 0) ((glL (d :: y) ps).length + 1) (Nat.zero_le _) rfl (Nat.le_refl _) (by simp)
  have h1 := parts_glued (d := d) (y := y) ps hne (glL (d :: y) ps) 0 (Nat.zero_le _) rfl
  have e1 : occurrences (S (glL (d :: y) ps)) (S (d :: y)) 0 (S (glL (d :: y) ps)).length ((S (glL (d :: y) ps)).length + 1) = cutsF (y.length + 1) 0 ps := by
    rw [occ_eq, S_len]
    exact h0
  unfold Txt.split
  rw [e1, partsBetween_eq, S_len, S_len]
  cases ps with
  | nil => exact absurd rfl hne
  | cons p r =>
    cases r with
    | nil =>
      split
      · rfl
      · rfl
    | cons q r =>
      have := glL_len (d := d) (y := y) (p := p) (q := q) (r := r)
      rw [if_neg, if_neg]
      · exact h1
      · show ¬ (cutsF (y.length + 1) 0 (p :: q :: r)).isEmpty = true
        exact Bool.false_ne_true
      · rw [kind1 h256, kind1 hy, List.length_cons]
        simp
        omega
theorem glL_join (y : List Nat) : ∀ ps : List (List Nat), Txt.join (S y) (ps.map S) = S (glL y ps) := by
  have h : ∀ ps : List (List Nat), Str.join (S y) (ps.map S) = S (glL y ps) := fun ps => by
    induction ps with
    | nil => rfl
    | cons p r ih =>
      cases r with
      | nil => rfl
      | cons q r =>
        show S p ++ S y ++ Str.join (S y) ((q :: r).map S) = S (p ++ y ++ glL y (q :: r))
        rw [ih]
        apply Str.ext'
        apply Array.toList_inj.mp
        simp only [Str.cps_append, Array.toList_append]
  exact fun ps => (glued_eq_join _ _).trans (h ps)
noncomputable def dg (m : Nat) : List Nat := (Nat.toDigits 10 m).map Char.toNat
theorem dg_str (m : Nat) : Str.ofString (toString ((m : Nat) : Int)) = S (dg m) := by
  apply Str.ext'
  apply Array.toList_inj.mp
  exact PySem.W.KIN.signs_num m
theorem dg_fig {m c : Nat} (h : c ∈ dg m) : 48 ≤ c ∧ c ≤ 57 := by
  obtain ⟨ch, hch, rfl⟩ := List.mem_map.mp h
  have := Nat.isDigit_of_mem_toDigits (b := 10) (by decide) (by decide) hch
  unfold Char.isDigit at this
  simp only [ge_iff_le, Bool.and_eq_true, decide_eq_true_eq] at this
  exact ⟨this.1, this.2⟩
theorem dg_ne (m : Nat) : dg m ≠ [] := fun e => by
  have h := List.map_eq_nil_iff.mp e
  by_cases hm : m < 10
  · rw [Nat.toDigits_of_lt_base hm] at h
    cases h
  · have t : Nat.toDigits 10 (m / 10) ++ Nat.toDigits 10 (m % 10) = Nat.toDigits 10 (10 * (m / 10) + m % 10) := Nat.toDigits_append_toDigits (by decide) (by omega) (by omega)
    rw [Nat.div_add_mod, h] at t
    have := congrArg List.length t
    rw [Nat.toDigits_of_lt_base (Nat.mod_lt m (by decide)), List.length_append] at this
    simp at this
theorem dg_len {m : Nat} (h : m < 10 ^ 10) : (dg m).length ≤ 10 := by
  have := PySem.W.KT.len_num (n := (m : Int)) (by omega) (by omega)
  rw [dg_str, S_len] at this
  exact this
theorem dg_head (m : Nat) : ∀ r, dg m = 48 :: r → m = 0 := by
  induction m using Nat.strongRecOn with
  | _ m ih =>
    intro r e
    by_cases hm : m < 10
    · have : m = 0 ∨ m = 1 ∨ m = 2 ∨ m = 3 ∨ m = 4 ∨ m = 5 ∨ m = 6 ∨ m = 7 ∨ m = 8 ∨ m = 9 := by omega
      unfold dg at e
      rw [Nat.toDigits_of_lt_base hm] at e
      rcases this with rfl | rfl | rfl | rfl | rfl | rfl | rfl | rfl | rfl | rfl
      · rfl
      all_goals (simp at e)
      all_goals (exact absurd e.1 (by decide))
    · have t : Nat.toDigits 10 (m / 10) ++ Nat.toDigits 10 (m % 10) = Nat.toDigits 10 (10 * (m / 10) + m % 10) := Nat.toDigits_append_toDigits (by decide) (by omega) (by omega)
      rw [Nat.div_add_mod] at t
      unfold dg at e
      rw [← t, List.map_append] at e
      have hn := dg_ne (m / 10)
      have e2 : dg (m / 10) ++ (Nat.toDigits 10 (m % 10)).map Char.toNat = 48 :: r := e
      cases hd : dg (m / 10) with
      | nil => exact absurd hd hn
      | cons a s =>
        rw [hd] at e2
        have ea : a = 48 := (List.cons.inj e2).1
        subst ea
        have := ih (m / 10) (by omega) s hd
        omega
theorem dg_zero : dg 0 = [48] := by decide
theorem dg_reads {m : Nat} (h : m < 10 ^ 10) : PySem.intText? (S (dg m)) = some (m : Int) := by
  rw [← dg_str]
  exact PySem.W.KIN.num_reads (by omega) (by omega)
end
end K1
set_option Elab.async false
set_option linter.all false
set_option maxRecDepth 100000
set_option maxHeartbeats 4000000
namespace K1
open PySem L2 L3 M1
noncomputable abbrev L (x : String) : Str := Str.ofString x
end K1
set_option Elab.async false
set_option linter.all false
set_option maxRecDepth 100000
set_option maxHeartbeats 4000000
namespace L3
open PySem PySem.Spec PyProof.Rows L2
section
variable {prog : Program} {w : World} {A : Around} {E : Value → Shared → Prop} {s : Shared} {K : PySem.W.Frag}
variable {nm q : Str} {C N fI : Addr} {bs bm tl : List Value} {hd : Bool} {sn : List Str} {sub : List Value} {ab : Bool} {col : Option Bool} {dC : Option Addr} {k0 k1 k2 k3 k5 : Option Value} {B newId initId : String}
end
end L3
set_option Elab.async false
set_option linter.all false
set_option maxRecDepth 100000
set_option maxHeartbeats 4000000
namespace L3
open PySem PySem.Spec PyProof.Rows L2
section
variable {P : Program} {w : World} {H : Hp} {h : Heap} {e C dx d : Addr}
end
section
variable {X : Cx} {pins : List (Addr × Obj)} {σ : L2.St} {H : Hp} {s : Shared}
end
section
variable {X : Cx} {o e value : Expr} {es : List Expr} {f y : Str} {pos pos' apos np : Pos} {ta tv : TE} {t : TA} {R : Addr}
end
section
variable {X : Cx} {k : Nat} {f C R : Addr} {fd : FuncData} {ps : List Str} {sp : Sp} {y : Str}
end
section
variable {prog : Program} {w : World} {A : Around} {E : Value → Shared → Prop} {s : Shared} {env : Env} {K : PySem.W.Frag} {mg : Str → Option Value} {y : Str} {C R : Addr}
end
noncomputable def del (H : Hp) (a : Addr) : Hp := fun b => if b = a then none else H b
section
variable {P : Program} {w : World} {K : PySem.W.Frag} {mg : Str → Option Value} {base : Heap} {N : List Str} {qual : Str} {scope : Scope} {f : Addr} {cdv : Value} {A : Around} {outer : List Env} {s : Shared} {H : Hp} {E : XK}
end
section
variable {X : Cx} {e o : Expr} {es : List Expr} {pos apos p : Pos} {k : Nat} {f C : Addr} {fd : FuncData} {ps : List Str} {sp : Sp} {ta : TE} {t : TA} {m x : Str}
end
section
variable {M : Model} {A : Around} {E : Value → Shared → Prop} {s : Shared} {B : Heap} {e L : Addr} {cls a0 : Value} {Q : Unit → Shared → Prop} {env : Env} {outer l : List Env}
end
section
variable {X : Cx}
end
end L3
set_option Elab.async false
set_option linter.all false
set_option maxRecDepth 100000
set_option maxHeartbeats 4000000
namespace K1
open PySem L2 L3 M1
section
variable {X : Cx} {Γ : List (Option Pd)} {A : Pd} {a b c e : Expr} {pos p2 : Pos}
end
theorem dlist {ds : List PyData} {n : Nat} (h : ∀ d ∈ ds, d.depth ≤ n) : (PyData.list ds).depth ≤ n + 1 := Nat.succ_le_succ (depth_all h)
end K1
set_option Elab.async false
set_option linter.all false
set_option maxRecDepth 100000
set_option maxHeartbeats 4000000
namespace K1
open PySem L2 L3 M1
theorem tlc_idx {wi : TI} {cs : List (Option Nat)} {te : TE} {σ rest : L2.St} {H H1 : Hp} {Q : VK} {J : It} {xs : List L2.V} (hw : ∀ R : It → Hp → Prop, R J H1 → wi σ H R) (hcs : caps cs σ = none :: rest) (wk : Wk J H1 xs) (hl : xs.length < sizeLine) (f : Nat → L2.V)
    (elt : ∀ (i : Nat) (x : L2.V) (H2 : Hp) (R : VK), xs[i]? = some x → Same H1 H2 → (∀ H5, Same H2 H5 → R (f i) H5) → te (some x :: rest) H2 R)
    (fin : ∀ (D : Addr) (H' : Hp), H1 D = none → H' D = some (.lst ((List.range xs.length).map f)) → Same H1 H' → Q (.ref D) H') : tLC wi cs (gName 0) tAll te σ H Q := by
  refine hw _ fun D hD => ?_
  refine ⟨fun i m ys σ' H' => m = xs.length - i ∧ i ≤ xs.length ∧ ys = (List.range i).map f ∧ (∃ o, σ' = o :: rest) ∧ Same H1 H' ∧ H' D = some (.lst ys), ⟨xs.length, by simp, Nat.zero_le _, rfl, ⟨none, by rw [hcs]⟩, fun b o e => ?_, upd_same⟩, ?_⟩
  · rw [upd_ne (ne_of_none e hD)]
    exact e
  · rintro i m ys σ' H' ⟨rfl, hi, rfl, ⟨o, rfl⟩, sm, hHD⟩
    obtain ⟨w1, w2, w3⟩ := wk H' sm
    refine ⟨hHD, Nat.lt_of_le_of_lt (by rw [List.length_map, List.length_range]; omega) hl, ?_⟩
    by_cases hlt : i < xs.length
    · refine .inr ⟨w2 i hlt, fun x H2 y => ?_⟩
      obtain ⟨rfl, ex⟩ := w3 i x H2 hlt y
      show te (some x :: rest) H2 _
      refine elt i x H2 _ ex sm fun H5 s5 => ⟨s5 _ _ hHD, xs.length - (i + 1), by omega, rfl, hlt, ?_, ⟨_, rfl⟩, fun b ob e => ?_, upd_same⟩
      · rw [List.range_succ, List.map_append]
        rfl
      · rw [upd_ne (ne_of_none e hD)]
        exact s5 _ _ (sm _ _ e)
    · have e : i = xs.length := by omega
      subst e
      exact .inl ⟨w1, fin D H' hD hHD sm⟩
end K1

set_option Elab.async false
set_option linter.all false
set_option maxRecDepth 100000
set_option maxHeartbeats 4000000
namespace L3
open PySem PySem.Spec PyProof.Rows L2
theorem wk_tup {K : PySem.W.Frag} {a : Addr} {xs : List V} {H1 : Hp} (h : SqT K H1 a xs) (k : ∀ H', Same H1 H' → SqT K H' a xs) : Wk (Itt K a) H1 xs := fun H' sm =>
  ⟨⟨xs, k H' sm, Nat.le_refl _⟩, fun i hi => ⟨xs, xs[i], k H' sm, by simp [hi]⟩, fun i x H2 _ y => ⟨y.1, y.2 xs (k H' sm)⟩⟩
section
variable {X : Cx} {e : Expr} {te : TE} {pos p2 : Pos} {lo hi : Option Expr} {tl th : TO}
end
end L3
set_option Elab.async false
set_option linter.all false
set_option maxRecDepth 100000
set_option maxHeartbeats 4000000
namespace K1
open PySem L2 L3 M1
theorem gd_of {α : Type} {l : List α} {i : Nat} {x d : α} (e : l[i]? = some x) : l.getD i d = x := by rw [List.getD, e]; rfl
theorem range_getD {α β : Type} (g : α → β) (d0 : α) (ls : List α) : ((List.range ls.length).map fun i => g (ls.getD i d0)) = ls.map g := by
  apply List.ext_getElem
  · simp
  · intro i h1 h2
    simp only [List.length_map, List.length_range] at h1
    simp [List.getD, h1]
end K1
set_option Elab.async false
set_option linter.all false
set_option maxRecDepth 100000
set_option maxHeartbeats 4000000
namespace K1
open PySem L2 L3 M1
theorem tlc_any {wi : TI} {cs : List (Option Nat)} {te : TE} {σ rest : L2.St} {H H1 : Hp} {Q : VK} {J : It} {xs : List L2.V} (hw : ∀ R : It → Hp → Prop, R J H1 → wi σ H R) (hcs : caps cs σ = none :: rest) (wk : Wk J H1 xs) (hl : xs.length < sizeLine) (F : Nat → L2.V → Hp → Prop)
    (st : ∀ i v H2 H3, Same H2 H3 → F i v H2 → F i v H3) (sl : ∀ i v H2 D ys zs, H2 D = some (.lst ys) → F i v H2 → F i v (upd H2 D (.lst zs)))
    (elt : ∀ (i : Nat) (x : L2.V) (H2 : Hp) (R : VK), xs[i]? = some x → Same H1 H2 → (∀ v H5, Same H2 H5 → F i v H5 → R v H5) → te (some x :: rest) H2 R)
    (fin : ∀ (D : Addr) (H' : Hp) (vs : List L2.V), H1 D = none → H' D = some (.lst vs) → vs.length = xs.length → (∀ i v, vs[i]? = some v → F i v H') → Same H1 H' → Q (.ref D) H') : tLC wi cs (gName 0) tAll te σ H Q := by
  refine hw _ fun D hD => ?_
  refine ⟨fun i m ys σ' H' => m = xs.length - i ∧ i ≤ xs.length ∧ (ys.length = i ∧ ∀ j v, ys[j]? = some v → F j v H') ∧ (∃ o, σ' = o :: rest) ∧ Same H1 H' ∧ H' D = some (.lst ys), ⟨xs.length, by simp, Nat.zero_le _, ⟨rfl, fun j v e => by simp at e⟩, ⟨none, by rw [hcs]⟩, fun b o e => ?_, upd_same⟩, ?_⟩
  · rw [upd_ne (ne_of_none e hD)]
    exact e
  · rintro i m ys σ' H' ⟨rfl, hi, ⟨yl, hy⟩, ⟨o, rfl⟩, sm, hHD⟩
    obtain ⟨w1, w2, w3⟩ := wk H' sm
    refine ⟨hHD, Nat.lt_of_le_of_lt (by omega) hl, ?_⟩
    by_cases hlt : i < xs.length
    · refine .inr ⟨w2 i hlt, fun x H2 y => ?_⟩
      obtain ⟨rfl, ex⟩ := w3 i x H2 hlt y
      show te (some x :: rest) H2 _
      refine elt i x H2 _ ex sm fun v H5 s5 hv => ⟨s5 _ _ hHD, xs.length - (i + 1), by omega, rfl, hlt, ⟨by rw [List.length_append, yl]; rfl, fun j u e => ?_⟩, ⟨_, rfl⟩, fun b ob e => ?_, upd_same⟩
      · refine sl j u H5 D ys _ (s5 _ _ hHD) ?_
        by_cases hj : j < ys.length
        · rw [List.getElem?_append_left hj] at e
          exact st j u _ _ s5 (hy j u e)
        · rw [List.getElem?_append_right (by omega)] at e
          have ej : j = i := by
            by_cases hz : j - ys.length = 0
            · omega
            · rw [List.getElem?_eq_none (by simp; omega)] at e
              cases e
          subst ej
          rw [yl, Nat.sub_self] at e
          cases e
          exact hv
      · rw [upd_ne (ne_of_none e hD)]
        exact s5 _ _ (sm _ _ e)
    · have e : i = xs.length := by omega
      subst e
      exact .inl ⟨w1, fin D H' ys hD hHD yl hy sm⟩
end K1
set_option Elab.async false
set_option linter.all false
set_option maxRecDepth 100000
set_option maxHeartbeats 4000000
namespace K1
open PySem L2 L3
noncomputable abbrev Bg := Nat × Nat × List Nat
noncomputable def numV (ns : List Nat) : List L2.V := ns.map fun n : Nat => V.int (n : Int)
noncomputable def BgAt (H : Hp) (a : Addr) (b : Bg) : Prop := ∃ c, H a = some (.tup [.int (b.1 : Int), .int (b.2.1 : Int), .ref c]) ∧ H c = some (.tup (numV b.2.2))
theorem BgAt.same {H H' : Hp} {a : Addr} {b : Bg} (h : BgAt H a b) (sm : Same H H') : BgAt H' a b := let ⟨c, h1, h2⟩ := h; ⟨c, sm _ _ h1, sm _ _ h2⟩
structure BgOk (b : Bg) : Prop where
  t : b.1 < 10 ^ 10
  r : b.2.1 < 10 ^ 10
  n : ∀ n ∈ b.2.2, n < 10 ^ 10
  ne : b.2.2 ≠ []
  few : b.2.2.length ≤ 40
noncomputable def bagL (b : Bg) : List Nat := dg b.1 ++ [32] ++ dg b.2.1 ++ [58, 32] ++ glL [32] (b.2.2.map dg)
noncomputable def planL (bs : List Bg) : List Nat := glL [59, 32] (bs.map bagL)
theorem glL_le (y : List Nat) (k : Nat) : ∀ ps : List (List Nat), (∀ p ∈ ps, p.length ≤ k) → (glL y ps).length ≤ ps.length * (k + y.length)
  | [], _ => Nat.zero_le _
  | [p], h => by
    have := h p (.head _)
    show p.length ≤ 1 * (k + y.length)
    omega
  | p :: q :: r, h => by
    have h1 := h p (.head _)
    have ih := glL_le y k (q :: r) fun p' h' => h p' (.tail _ h')
    show (p ++ y ++ glL y (q :: r)).length ≤ (r.length + 1 + 1) * (k + y.length)
    rw [List.length_append, List.length_append, Nat.succ_mul]
    rw [List.length_cons] at ih
    omega
theorem bagL_len {b : Bg} (ok : BgOk b) : (bagL b).length ≤ 500 := by
  have h1 := dg_len ok.t
  have h2 := dg_len ok.r
  have h3 := glL_le [32] 10 (b.2.2.map dg) fun p hp => by
    obtain ⟨n, hn, rfl⟩ := List.mem_map.mp hp
    exact dg_len (ok.n n hn)
  rw [List.length_map] at h3
  have h4 := ok.few
  have h5 : b.2.2.length * (10 + [32].length) ≤ 40 * 11 := Nat.mul_le_mul h4 (Nat.le_refl _)
  unfold bagL
  simp only [List.length_append, List.length_cons, List.length_nil] at *
  omega
theorem sum_le {α : Type} (f : α → Nat) (k : Nat) : ∀ l : List α, (∀ a ∈ l, f a ≤ k) → (l.map f).sum ≤ l.length * k
  | [], _ => Nat.zero_le _
  | a :: l, h => by
    have h1 := h a (.head _)
    have h2 := sum_le f k l fun b hb => h b (.tail _ hb)
    rw [List.map_cons, List.sum_cons, List.length_cons, Nat.succ_mul]
    omega
noncomputable def spShB : Sp := fun vs H Q _ => ∃ (a : Addr) (b : Bg), vs = [.ref a] ∧ BgAt H a b ∧ BgOk b ∧ ∀ H', Same H H' → Q (.str (S (bagL b))) H'
noncomputable def spShP (K : PySem.W.Frag) : Sp := fun vs H Q _ => ∃ (p : Addr) (as : List Addr) (bs : List Bg), vs = [.ref p] ∧ SqL K H p (refs as) ∧ Paired (BgAt H) as bs ∧ (∀ b ∈ bs, BgOk b) ∧ bs.length ≤ 1000 ∧ ∀ H', Same H H' → Q (.str (S (planL bs))) H'
theorem log2_10 {n : Nat} (h : n < 10 ^ 10) : ((n : Int)).natAbs.log2 < 1920 := by
  rw [Int.natAbs_natCast]
  by_cases h0 : n = 0
  · subst h0; decide
  · exact (Nat.log2_lt h0).mpr (Nat.lt_of_lt_of_le h (by decide +kernel))
section
variable {P : Program} {w : World} {K : PySem.W.Frag} {mg : Str → Option Value} {base : Heap}
noncomputable abbrev sShB : Stmt := top 16
theorem scShB : FnScope ["bag", "numbers"] ["bag"] (defScope sShB) := ⟨rfl, rfl, rfl, by decide +kernel, rfl, by decide +kernel, by decide +kernel⟩
theorem ok_shB {f : Addr} {fd : FuncData} (F : Fun K "show_bag" "show_bag" sShB f fd) (B : Blt mg) : FnOk P w K mg base CX0 1 f fd ["bag"] spShB := by
  refine F.ok scShB (fun vs H Q E h => ?_) (fun cdv A outer s H vs Q E hr h => ?_)
  · obtain ⟨a, b, rfl, _⟩ := h
    rfl
  · obtain ⟨a, b, rfl, ⟨c, ha, hc⟩, ok, q⟩ := h
    refine ⟨_, (pss_cons (ps_set (i := 1) scShB.nd rfl (Or.inl rfl) (pe_bm PySem.F.plainAttrs_str PySem.F.slot_str_join PySem.F.type_str_join mt_join pe_str (pa_cons (pe_lc (N' := ["number"]) (cs := [none]) rfl (pi_tup (pe_ix ix_tup (pv 0) pe_int (fun _ _ => rfl))) rfl (by decide +kernel) rfl (by decide +kernel) (sub_of (fun p hp => absurd hp (List.not_mem_nil))) rfl
        (.own .nil)
        (fun C s3 H3 fp pn => ⟨(pg_name (i := 0) (by show (["number"] : List Str).Nodup; decide +kernel) rfl (.inl rfl)), pif_nil, (pe_callTy call_str_int (by rfl) B.str bt_str (pa_cons (pv 0) pa_nil))⟩)) pa_nil)))
      (pss_one (ps_ret (pe_op op_add_str (pe_op op_add_str (pe_op op_add_str (pe_op op_add_str (pe_callTy call_str_int (by rfl) B.str bt_str (pa_cons (pe_ix ix_tup (pv 0) pe_int (fun _ _ => rfl)) pa_nil)) pe_str) (pe_callTy call_str_int (by rfl) B.str bt_str (pa_cons (pe_ix ix_tup (pv 0) pe_int (fun _ _ => rfl)) pa_nil))) pe_str) (pv 1))))), ?_⟩
    have hl : (numV b.2.2).length = b.2.2.length := List.length_map _
    have fw := ok.few
    refine ⟨rfl, ?_⟩
    dsimp only [tCons]
    refine tlc_idx (J := Itt K c) (H1 := H) (xs := numV b.2.2) (rest := []) (fun R h => ⟨_, rfl, a, _, _, _, rfl, rfl, SqT.of ha, rfl, c, rfl, ⟨_, SqT.of hc⟩, h⟩) rfl (wk_tup (SqT.of hc) fun H' sm => SqT.of (sm _ _ hc)) (small1000 (by omega)) (fun i => .str (S (dg (b.2.2.getD i 0)))) (fun i v H2 R ev sm k => ?_) (fun D H2 nD hD sD => ?_)
    · unfold numV at ev
      rw [List.getElem?_map] at ev
      obtain ⟨n, en, rfl⟩ := Option.map_eq_some_iff.mp ev
      refine ⟨_, rfl, _, rfl, log2_10 (ok.n n (List.mem_of_getElem? en)), ?_⟩
      rw [dg_str]
      have := k H2 (Same.refl _)
      rw [List.getD, en] at this
      exact this
    have eD : (List.range (numV b.2.2).length).map (fun i => V.str (S (dg (b.2.2.getD i 0)))) = ((b.2.2.map dg).map S).map V.str := by
      rw [hl, range_getD (fun n => V.str (S (dg n))) 0 b.2.2, List.map_map, List.map_map]
      rfl
    rw [eD] at hD
    have sH : Str.ofString " " = S [32] := by decide +kernel
    have sC : Str.ofString ": " = S [58, 32] := by decide +kernel
    have l1 := dg_len ok.t
    have l2 := dg_len ok.r
    have lg := glL_le [32] 10 (b.2.2.map dg) fun p hp => by
      obtain ⟨n, hn, rfl⟩ := List.mem_map.mp hp
      exact dg_len (ok.n n hn)
    have lg' : (glL [32] (b.2.2.map dg)).length ≤ 440 := Nat.le_trans lg (by rw [List.length_map]; exact Nat.mul_le_mul fw (Nat.le_refl _))
    rw [sH, sC]
    refine ⟨S [32], D, (b.2.2.map dg).map S, rfl, rfl, SqL.of hD, ?_, ?_⟩
    · have := sum_le (fun x : Str => x.length) 10 ((b.2.2.map dg).map S) fun x hx => by
        obtain ⟨p, hp, rfl⟩ := List.mem_map.mp hx
        obtain ⟨n, hn, rfl⟩ := List.mem_map.mp hp
        rw [S_len]
        exact dg_len (ok.n n hn)
      rw [List.length_map, List.length_map, S_len] at *
      simp only [List.length_cons, List.length_nil]
      omega
    rw [glL_join]
    have ha2 := SqT.of (K := K) (sD _ _ ha)
    refine ⟨_, rfl, a, _, _, _, rfl, rfl, ha2, rfl, _, rfl, log2_10 ok.t, ?_⟩
    rw [dg_str]
    refine ⟨_, _, rfl, rfl, ?_, _, rfl, a, _, _, _, rfl, rfl, ha2, rfl, _, rfl, log2_10 ok.r, ?_⟩
    · rw [S_len, S_len]
      show _ + 1 ≤ 16777216
      omega
    rw [dg_str, S_app]
    refine ⟨_, _, rfl, rfl, ?_, _, _, rfl, rfl, ?_, _, rfl, _, _, rfl, rfl, ?_, ?_⟩
    · rw [S_len, S_len, List.length_append]
      show _ + 1 + _ ≤ 16777216
      omega
    · rw [S_app, S_len, S_len, List.length_append, List.length_append]
      show _ + 1 + _ + 2 ≤ 16777216
      omega
    · rw [S_app, S_app, S_len, S_len, List.length_append, List.length_append, List.length_append]
      show _ + 1 + _ + 2 + _ ≤ 16777216
      omega
    · rw [S_app, S_app, S_app]
      exact q _ sD
noncomputable abbrev sShP : Stmt := top 17
theorem scShP : FnScope ["plan"] ["plan"] (defScope sShP) := ⟨rfl, rfl, rfl, by decide +kernel, rfl, by decide +kernel, by decide +kernel⟩
theorem ok_shP {f f1 : Addr} {fd fd1 : FuncData} (F : Fun K "show_plan" "show_plan" sShP f fd) (D_show_bag : Dn K mg "show_bag" sShB ["bag"] f1 fd1) (G_show_bag : FnOk P w K mg base CX0 1 f1 fd1 ["bag"] spShB) : FnOk P w K mg base CX0 2 f fd ["plan"] (spShP K) := by
  refine F.ok scShP (fun vs H Q E h => ?_) (fun cdv A outer s H vs Q E hr h => ?_)
  · obtain ⟨p, as, bs, rfl, _⟩ := h
    rfl
  · obtain ⟨p, as, bs, rfl, hp, bags, ok, few, q⟩ := h
    refine ⟨_, (pss_one (ps_ret (pe_bm PySem.F.plainAttrs_str PySem.F.slot_str_join PySem.F.type_str_join mt_join pe_str (pa_cons (pe_lc (N' := ["bag"]) (cs := [none]) rfl (pi_list (pv 0)) rfl (by decide +kernel) rfl (by decide +kernel) (sub_of (fun p hp => absurd hp (List.not_mem_nil))) rfl
        (.own .nil)
        (fun C s3 H3 fp pn => ⟨(pg_name (i := 0) (by show (["bag"] : List Str).Nodup; decide +kernel) rfl (.inl rfl)), pif_nil, (pe_call G_show_bag (hr.mono (by decide)) (by rfl) D_show_bag.at_ D_show_bag.fn.kp D_show_bag.bd .nil pass0 (pa_cons (pv 0) pa_nil))⟩)) pa_nil)))), ?_⟩
    have lab := Paired.length bags
    have lr := refs_len as
    refine ⟨rfl, ?_⟩
    dsimp only [tCons]
    refine tlc_idx (J := Itl K p) (H1 := H) (xs := refs as) (rest := []) (fun R h => ⟨_, rfl, p, rfl, ⟨_, hp⟩, h⟩) rfl (wk_list hp) (by rw [lr]; show _ < 16777216; omega) (fun i => .str (S (bagL (bs.getD i (0, 0, []))))) (fun i v H2 R ev sm k => ?_) (fun D H2 nD hD sD => ?_)
    · unfold refs at ev
      rw [List.getElem?_map] at ev
      obtain ⟨a, ea, rfl⟩ := Option.map_eq_some_iff.mp ev
      obtain ⟨b, eb, hb⟩ := Paired.get bags ea
      refine ⟨_, rfl, a, b, rfl, hb.same sm, ok b (List.mem_of_getElem? eb), fun H' s' => ?_⟩
      have := k H' s'
      rw [List.getD, eb] at this
      exact this
    have eD : (List.range (refs as).length).map (fun i => V.str (S (bagL (bs.getD i (0, 0, []))))) = ((bs.map bagL).map S).map V.str := by
      rw [lr, lab, range_getD (fun b => V.str (S (bagL b))) (0, 0, []) bs, List.map_map, List.map_map]
      rfl
    rw [eD] at hD
    have sH : Str.ofString "; " = S [59, 32] := by decide +kernel
    rw [sH]
    refine ⟨S [59, 32], D, (bs.map bagL).map S, rfl, rfl, SqL.of hD, ?_, ?_⟩
    · have := sum_le (fun x : Str => x.length) 500 ((bs.map bagL).map S) fun x hx => by
        obtain ⟨p, hp, rfl⟩ := List.mem_map.mp hx
        obtain ⟨b, hb, rfl⟩ := List.mem_map.mp hp
        rw [S_len]
        exact bagL_len (ok b hb)
      rw [List.length_map, List.length_map, S_len] at *
      simp only [List.length_cons, List.length_nil]
      omega
    · rw [glL_join]
      exact q _ sD
end
end K1
set_option Elab.async false
set_option linter.all false
set_option maxRecDepth 100000
set_option maxHeartbeats 4000000
namespace K1
open PySem L2 L3
section
variable {P : Program} {w : World} {K : PySem.W.Frag} {mg : Str → Option Value} {base : Heap}
noncomputable abbrev sWr : Stmt := top 14
theorem scWr : FnScope ["text"] ["text"] (defScope sWr) := ⟨rfl, rfl, rfl, by decide +kernel, rfl, by decide +kernel, by decide +kernel⟩
noncomputable abbrev sRn : Stmt := top 18
theorem scRn : FnScope ["word"] ["word"] (defScope sRn) := ⟨rfl, rfl, rfl, by decide +kernel, rfl, by decide +kernel, by decide +kernel⟩
theorem glL_mem {y : List Nat} {c : Nat} : ∀ {ps : List (List Nat)}, c ∈ glL y ps → c ∈ y ∨ ∃ p ∈ ps, c ∈ p
  | [], h => nomatch h
  | [p], h => .inr ⟨p, .head _, h⟩
  | p :: q :: r, h => by
    have h' : c ∈ p ++ y ++ glL y (q :: r) := h
    rcases List.mem_append.mp h' with h1 | h1
    · rcases List.mem_append.mp h1 with h2 | h2
      · exact .inr ⟨p, .head _, h2⟩
      · exact .inl h2
    · rcases glL_mem h1 with h2 | ⟨p', h3, h4⟩
      · exact .inl h2
      · exact .inr ⟨p', .tail _ h3, h4⟩
noncomputable def wordsB (b : Bg) : List (List Nat) := dg b.1 :: (dg b.2.1 ++ [58]) :: b.2.2.map dg
theorem bag_words {b : Bg} (h : b.2.2 ≠ []) : bagL b = glL [32] (wordsB b) := by
  obtain ⟨t, r, ns⟩ := b
  cases ns with
  | nil => exact absurd rfl h
  | cons n ns =>
    show dg t ++ [32] ++ dg r ++ [58, 32] ++ glL [32] (dg n :: ns.map dg) = dg t ++ [32] ++ (dg r ++ [58] ++ [32] ++ glL [32] (dg n :: ns.map dg))
    simp
theorem words_no32 {b : Bg} : ∀ p ∈ wordsB b, 32 ∉ p := fun p hp z => by
  unfold wordsB at hp
  rcases List.mem_cons.mp hp with rfl | hp
  · have := (dg_fig z).1; omega
  · rcases List.mem_cons.mp hp with rfl | hp
    · rcases List.mem_append.mp z with z | z
      · have := (dg_fig z).1; omega
      · have := List.mem_singleton.mp z; omega
    · obtain ⟨n, _, rfl⟩ := List.mem_map.mp hp
      have := (dg_fig z).1; omega
theorem bag_signs {b : Bg} (h : b.2.2 ≠ []) {c : Nat} (hc : c ∈ bagL b) : c = 32 ∨ (48 ≤ c ∧ c ≤ 58) := by
  rw [bag_words h] at hc
  rcases glL_mem hc with h1 | ⟨p, hp, h2⟩
  · exact .inl (List.mem_singleton.mp h1)
  · right
    unfold wordsB at hp
    rcases List.mem_cons.mp hp with rfl | hp
    · have := dg_fig h2; omega
    · rcases List.mem_cons.mp hp with rfl | hp
      · rcases List.mem_append.mp h2 with z | z
        · have := dg_fig z; omega
        · have := List.mem_singleton.mp z; omega
      · obtain ⟨n, _, rfl⟩ := List.mem_map.mp hp
        have := dg_fig h2; omega
theorem split_bag {b : Bg} (h : b.2.2 ≠ []) : Txt.split (S (bagL b)) (S [32]) = (wordsB b).map S := by
  rw [bag_words h]
  refine split_glued (d := 32) (y := []) (by unfold wordsB; simp) words_no32 (fun c hc => ?_) (by simp)
  rw [← bag_words h] at hc
  have := bag_signs h hc
  omega
theorem split_plan {bs : List Bg} (hne : bs ≠ []) (h : ∀ b ∈ bs, b.2.2 ≠ []) : Txt.split (S (planL bs)) (S [59, 32]) = (bs.map bagL).map S := by
  unfold planL
  refine split_glued (d := 59) (y := [32]) (by simpa using hne) (fun p hp z => ?_) (fun c hc => ?_) (by simp)
  · obtain ⟨b, hb, rfl⟩ := List.mem_map.mp hp
    have := bag_signs (h b hb) z
    omega
  · rcases glL_mem hc with h1 | ⟨p, hp, h2⟩
    · rcases List.mem_cons.mp h1 with rfl | h1
      · decide
      · have := List.mem_singleton.mp h1; omega
    · obtain ⟨b, hb, rfl⟩ := List.mem_map.mp hp
      have := bag_signs (h b hb) h2
      omega
theorem cut_last (l : List Nat) (c : Nat) : cutS (S (l ++ [c])) none (some (-1)) = S l := by
  unfold cutS
  have e : (S (l ++ [c])).cps.size = l.length + 1 := by simp [S]
  have f2 : HT.sIx (l.length + 1) (l.length + 1) (some (-1)) = l.length := by
    show (if (-1 : Int) < 0 then ((-1 : Int) + ((l.length + 1 : Nat) : Int)).toNat else min (-1 : Int).toNat (l.length + 1)) = l.length
    rw [if_pos (by decide)]
    omega
  have f1 : HT.sIx (l.length + 1) 0 none = 0 := rfl
  rw [e, f1, f2, Nat.sub_zero, List.drop_zero]
  show (⟨((l ++ [c]).take l.length).toArray⟩ : Str) = _
  rw [List.take_left]
theorem bagL_ne (b : Bg) : bagL b ≠ [] := by
  unfold bagL
  simp
theorem plan_ne {bs : List Bg} (h : bs ≠ []) (ok : ∀ b ∈ bs, BgOk b) : planL bs ≠ [] := by
  unfold planL
  cases bs with
  | nil => exact absurd rfl h
  | cons b r =>
    cases r with
    | nil => exact bagL_ne b
    | cons c r =>
      show bagL b ++ [59, 32] ++ _ ≠ []
      simp
theorem tlc_anyM {K : PySem.W.Frag} {wi : TI} {cs : List (Option Nat)} {te : TE} {σ rest : L2.St} {H Hs : Hp} {Q : VK} {xs : List L2.V} (F : Nat → L2.V → Hp → Prop) (hw : ∀ R : It → Hp → Prop, (∀ p, Hs p = none → R (Itl K p) (upd Hs p (.lst xs))) → wi σ H R) (hcs : caps cs σ = none :: rest) (hl : xs.length < sizeLine)
    (st : ∀ i v H2 H3, Same H2 H3 → F i v H2 → F i v H3) (sl : ∀ i v H2 D ys zs, H2 D = some (.lst ys) → F i v H2 → F i v (upd H2 D (.lst zs)))
    (elt : ∀ (i : Nat) (x : L2.V) (H2 : Hp) (R : VK), xs[i]? = some x → Same Hs H2 → (∀ v H5, Same H2 H5 → F i v H5 → R v H5) → te (some x :: rest) H2 R)
    (fin : ∀ (D : Addr) (H' : Hp) (vs : List L2.V), Hs D = none → H' D = some (.lst vs) → vs.length = xs.length → (∀ i v, vs[i]? = some v → F i v H') → Same Hs H' → Q (.ref D) H') : tLC wi cs (gName 0) tAll te σ H Q :=
  hw _ fun p hp => tlc_any (wi := fun _ _ R => R (Itl K p) (upd Hs p (.lst xs))) (H := Hs) (fun R h => h) hcs (wk_list (SqL.of upd_same)) hl F st sl (fun i x H2 R ex sm k => elt i x H2 R ex ((upd_free hp).trans sm) k) fun D H' vs n h2 h3 h4 s => by
    refine fin D H' vs ?_ h2 h3 h4 ((upd_free hp).trans s)
    cases e : Hs D with
    | none => rfl
    | some o => rw [upd_free hp _ _ e] at n; cases n
noncomputable abbrev sRb : Stmt := top 19
theorem scRb : FnScope ["text", "words", "numbers"] ["text"] (defScope sRb) := ⟨rfl, rfl, rfl, by decide +kernel, rfl, by decide +kernel, by decide +kernel⟩
noncomputable abbrev sRp : Stmt := top 20
theorem scRp : FnScope ["text"] ["text"] (defScope sRp) := ⟨rfl, rfl, rfl, by decide +kernel, rfl, by decide +kernel, by decide +kernel⟩
end
end K1
set_option Elab.async false
set_option linter.all false
set_option maxRecDepth 100000
set_option maxHeartbeats 4000000
namespace L3
open PySem PySem.Spec PyProof.Rows L2
theorem leaves_any {M : Model} {A : Around} {E : Value → Shared → Prop} {s : Shared} {B : Heap} {env : Env} {outer : List Env} {L e : Addr} {cls a0 v : Value} {Q : Unit → Shared → Prop} (fr : A.frames = some (env :: outer)) (ef : env.frame = some L) (kb : B.StaysIn s.heap) (ne : B.get? e = none) (ff : s.heap.FunFrames B (env :: outer)) (tr : s.heap.TracedAtW B e cls a0 v)
    (q : ∀ h', Heap.FlyingW B outer e cls a0 h' → s.heap.UpToSlots h' → Q () { s with heap := h' }) : wpAny M A (leaving env (.ref e)) Q E s := by
  by_cases z : v = rawInt L
  · subst z
    unfold leaving
    refine wpAny_bind (wpAny_noteFrame_againW ef tr ?_)
    refine wpAny_landsW ⟨kb, ne, ff, tr⟩ fun h' fl up => ?_
    obtain ⟨g1, g2, ⟨_, _, g3⟩, g4⟩ := fl
    exact q h' ⟨g1, g2, g3, g4⟩ up
  · obtain ⟨oe, vs, T, oT, ts, e1, ⟨rfl, e2⟩, e3, e4, e5, e6, e7, e8, e9⟩ := tr
    unfold leaving noteFrame
    simp only [ef]
    refine wpAny_bind (wpAny_bind (wpAny_field e1 e3 e4 ?_))
    rw [if_pos (by simp)]
    refine wpAny_bind (wpAny_field e7 e8 e9 ?_)
    rw [if_neg (by simpa using z)]
    refine wpAny_bind (wpAny_setField e7 e8 (Array.getElem?_eq_some_iff.mp e9).1 ?_)
    have nT : ∀ b, b ≠ T → (s.heap.update T (Obj.mapFields fun x => x.setIfInBounds 3 Value.none)).get? b = s.heap.get? b := fun b hb => Heap.get?_update_other _ _ (Ne.symm hb)
    have nr : ∀ b o, s.heap.get? b = some o → (∀ ws, o.data ≠ .fields ws) → b ≠ T := fun b o hb hn y => by
      subst y
      rw [e7] at hb
      cases hb
      exact hn ts e8
    refine wpAny_newEntryW fr (ff.of_keeps fun b o hb hn => ⟨o, (nT b (nr b o hb hn)).trans hb, rfl⟩) ef ((nT e (Ne.symm e6)).trans e1) (fun b o hb => (nT b fun y => by subst y; rw [e5] at hb; cases hb).trans (kb b o hb)) ne e3 (Array.getElem?_eq_some_iff.mp e4).1 e2 fun h' g => ?_
    obtain ⟨g1, ⟨_, _, g2⟩, g3, g4⟩ := g
    exact q h' ⟨g1, ne, g2, g3⟩ fun b o hb hn => g4 b o ((nT b (nr b o hb hn)).trans hb) hn
section
variable {P : Program} {w : World} {K : PySem.W.Frag} {mg : Str → Option Value} {base : Heap} {N : List Str} {qual : Str} {scope0 : Scope} {f : Addr} {cdv : Value} {A : Around} {outer : List Env} {s₀ : Shared} {H₀ : Hp} {E : XK}
theorem blk_leaves {pins0 : List (Addr × Obj)} {σ0 : St} {H3 Hc H' : Hp} {s3 sc s' : Shared} {fp : List Addr} {C ea : Addr} {cls a0 acc : Value} {B : Heap} {m : Str → Option Value} {use : Option (Value → Sem Unit)} {QQ : Value → Shared → Prop} {EE : Value → Shared → Prop}
    (I3 : Inv (cxE P w K mg base N qual scope0 f cdv A outer s₀ H₀ E) pins0 σ0 H3 s3) (fpn : ∀ b ∈ fp, s₀.heap.objs.size ≤ b) (Cn : s3.heap.objs.size ≤ C) (Cs : C ∉ frs (cxE P w K mg base N qual scope0 f cdv A outer s₀ H₀ E).stack)
    (hos : sc.os = s3.os) (u0 : Un (frs (cxE P w K mg base N qual scope0 f cdv A outer s₀ H₀ E).stack) fp H3 Hc s3.heap sc.heap) (cn : sc.heap.Ns C m) (HC : Hc C = none)
    (T : Thrown P w (cxE P w K mg base N qual scope0 f cdv A outer s₀ H₀ E).stack Hc sc ea cls a0 H' B s') (hE : E cls none H') :
    wpAny (model P w) (cxE P w K mg base N qual scope0 f cdv A outer s₀ H₀ E).A (noteFrame (.ref ea) (cxE P w K mg base N qual scope0 f cdv A outer s₀ H₀ E).env) (fun _ s'' => compPost (model P w) (cxE P w K mg base N qual scope0 f cdv A outer s₀ H₀ E).A (cxE P w K mg base N qual scope0 f cdv A outer s₀ H₀ E).xe use QQ acc C (.error (.ref ea)) s'') EE s' := by
  refine wpAny_looks_onW I3.ok.frames rfl T.fl fun h2 held up => ?_
  obtain ⟨oC, es, ep, gC, dC, k1, k2⟩ := id cn
  have BC : B.get? C = some oC := by
    obtain ⟨o', z, q⟩ := T.inB C oC gC Cs
    rw [q HC] at z
    exact z
  have HC' : H' C = none := T.un.free C oC gC HC (by simp)
  obtain ⟨kb, ne, ff, oe, vs, Tb, oT, ts, e1, e2, e3, e4, e5, e6, e7, e8, e9⟩ := held
  have eC : ea ≠ C := fun z => by rw [z, BC] at ne; cases ne
  have tC : Tb ≠ C := fun z => by rw [z, BC] at e5; cases e5
  have main : ∃ m, h2.Ns C m ∧ ∀ h', Heap.SameBut C h2 h' → ∀ cenv : Env, cenv.locals = C → wpAny (model P w) (cxE P w K mg base N qual scope0 f cdv A outer s₀ H₀ E).A (passOn "comprehension.variables-let-go" (.ref ea) cenv : Sem Value) (fun _ _ => False) (cxE P w K mg base N qual scope0 f cdv A outer s₀ H₀ E).xe { s' with heap := h' } := by
    refine ⟨m, ⟨oC, es, ep, kb C oC BC, dC, k1, k2⟩, fun h' sb cenv _ => ?_⟩
    have f1 : h'.get? ea = some oe := (sb.2 ea eC).trans e1
    have f7 : h'.get? Tb = some oT := (sb.2 Tb tC).trans e7
    unfold PySem.passOn
    refine wpAny_bind (wpAny_field f1 e3 e4 ?_)
    rw [if_neg (by simp)]
    refine wpAny_bind ?_
    unfold setFlight
    refine wpAny_bind (wpAny_field f1 e3 e4 ?_)
    rw [if_pos (by simp)]
    have l3 : 3 < ts.size := (Array.getElem?_eq_some_iff.mp e9).1
    refine wpAny_setField f7 e8 l3 (wpAny_throw ?_)
    generalize (cenv.frame.elim Value.none fun f => rawInt f) = v
    have nT : ∀ b, b ≠ Tb → (h'.update Tb (Obj.mapFields fun x => x.setIfInBounds 3 v)).get? b = h'.get? b := fun b hb => Heap.get?_update_other _ _ (Ne.symm hb)
    have gT : (h'.update Tb (Obj.mapFields fun x => x.setIfInBounds 3 v)).get? Tb = some (Obj.mapFields (fun x => x.setIfInBounds 3 v) oT) := Heap.get?_update_self _ f7 (Obj.isFreed_of_fields (Obj.data_mapFields e8 _))
    generalize h'.update Tb (Obj.mapFields fun x => x.setIfInBounds 3 v) = h3 at nT gT ⊢
    have go : ∀ b o, h2.get? b = some o → b ≠ C → b ≠ Tb → h3.get? b = some o := fun b o e n1 n2 => (nT b n2).trans ((sb.2 b n1).trans e)
    have nf : ∀ b o, h2.get? b = some o → (∀ ws, o.data ≠ .fields ws) → b ≠ Tb := fun b o e n y => by
      subst y
      rw [e7] at e
      cases e
      exact n ts e8
    have Bh : ∀ b o, (PySem.W.hideAll B [C]).get? b = some o → B.get? b = some o ∧ b ≠ C := fun b o e => ⟨PySem.W.of_hideAll _ e, fun z => by rw [z, PySem.W.hideAll_none _ (.head _)] at e; cases e⟩
    have hid : ∀ b, B.get? b = none → (PySem.W.hideAll B [C]).get? b = none := fun b e => by
      cases q : (PySem.W.hideAll B [C]).get? b with
      | none => rfl
      | some o => rw [(Bh b o q).1] at e; cases e
    have st : (PySem.W.hideAll B [C]).StaysIn h3 := fun b o e => by
      obtain ⟨z, n⟩ := Bh b o e
      exact go b o (kb b o z) n fun y => by rw [y, e5] at z; cases z
    have nC : ∀ env ∈ (cxE P w K mg base N qual scope0 f cdv A outer s₀ H₀ E).stack, env.frame ≠ some C := fun env he z => Cs (List.mem_filterMap.mpr ⟨env, he, z⟩)
    have ff3 : h3.FunFrames (PySem.W.hideAll B [C]) (cxE P w K mg base N qual scope0 f cdv A outer s₀ H₀ E).stack := by
      have all : ∀ l : List Env, (∀ env ∈ l, env.frame ≠ some C) → h2.FunFrames B l → h3.FunFrames (PySem.W.hideAll B [C]) l := by
        intro l
        induction l with
        | nil => intro _ _; trivial
        | cons env r ih =>
          intro hn hl
          obtain ⟨hk, ⟨L, o, hf, hn', ho, hd⟩, hr⟩ := hl
          have nL : L ≠ C := fun z => hn env (.head _) (by rw [hf, z])
          exact ⟨hk, ⟨L, o, hf, hid L hn', go L o ho nL (nf L o ho hd), hd⟩, ih (fun e he => hn e (.tail _ he)) hr⟩
      exact all _ nC ff
    have tr3 : h3.TracedAtW (PySem.W.hideAll B [C]) ea cls a0 v := ⟨oe, vs, Tb, _, _, go ea oe e1 eC (Ne.symm e6), e2, e3, e4, hid _ e5, e6, gT, Obj.data_mapFields e8 _, by simp [l3]⟩
    refine leaves_any I3.ok.frames rfl st (hid _ ne) ff3 tr3 fun h4 fl4 up4 => ?_
    -- from the entry on
    have lt0 : ∀ b o, s₀.heap.get? b = some o → b ∉ fp ∧ b ≠ C := fun b o e => by
      have l := Heap.lt_size e
      have l2 := I3.sz
      refine ⟨fun z => absurd (Nat.lt_of_lt_of_le l (fpn b z)) (Nat.lt_irrefl _), fun z => ?_⟩
      rw [z] at l
      exact absurd (Nat.lt_of_lt_of_le l (Nat.le_trans l2 Cn)) (Nat.lt_irrefl _)
    have ex0 : ∀ b : Addr, b ∉ (cxE P w K mg base N qual scope0 f cdv A outer s₀ H₀ E).ex := fun b z => by simp [cxE, cxOf] at z
    have inB : ∀ b o, s₀.heap.get? b = some o → b ∉ frs outer → ∃ o', (PySem.W.hideAll B [C]).get? b = some o' ∧ (H₀ b = none → o' = o) := fun b o e hb => by
      obtain ⟨n1, n2⟩ := lt0 b o e
      have nb := stk_new I3 e hb
      obtain ⟨o1, z1⟩ := I3.base.there b o e (ex0 b)
      obtain ⟨o2, z2⟩ := u0.there b o1 z1 n1
      obtain ⟨o', z, q⟩ := T.inB b o2 z2 nb
      refine ⟨o', PySem.W.hideAll_get _ z (by simpa using n2), fun n => ?_⟩
      have y1 := I3.base.keep b o e n hb (ex0 b)
      have y2 := I3.base.free b o e n (ex0 b)
      have y3 := u0.keep b o y1 y2 nb n1
      rw [z2] at y3
      cases y3
      exact q (u0.free b _ y1 y2 n1)
    refine ⟨ea, cls, a0, H', _, rfl, ⟨fl4, (T.os.trans hos).trans I3.os, T.bare, fun b ob e => (T.ok b ob e).stay (fun c u hc y => PySem.W.hideAll_get _ y ?_) (fun _ y => y) fun _ _ y => y, ⟨fun b o e n hb hx => ?_, fun b o e n hb hx => ?_, fun b o e n hx => ?_, fun b o e hx => ?_, fun b xs y => T.un.tups b xs (u0.tups b xs (I3.base.tups b xs y)), fun b o u y => T.un.frzs b o u (u0.frzs b o u (I3.base.frzs b o u y)), fun b ps y => ?_⟩, inB⟩, hE⟩
    · simp only [List.mem_singleton]
      rintro rfl
      rcases hc with rfl | hc
      · rw [HC'] at e; cases e
      · rw [HC'] at hc; cases hc
    · obtain ⟨o', z, q⟩ := inB b o e hb
      rw [q n] at z
      exact fl4.1 b o z
    · obtain ⟨n1, n2⟩ := lt0 b o e
      have hb' : b ∈ frs (cxE P w K mg base N qual scope0 f cdv A outer s₀ H₀ E).stack := by
        show b ∈ frs (_ :: outer)
        unfold frs
        rw [List.filterMap_cons]
        exact List.mem_cons_of_mem _ hb
      obtain ⟨l1, z1⟩ := I3.base.slot b o e n hb (ex0 b)
      have y1 := I3.base.free b o e n (ex0 b)
      obtain ⟨l2, z2⟩ := u0.slot b _ z1 y1 hb' n1
      have y2 := u0.free b _ z1 y1 n1
      obtain ⟨l3', z3⟩ := T.un.slot b _ z2 y2 hb' (by simp)
      obtain ⟨_, ob, e', nfb⟩ := T.fl.2.2.1.mem hb'
      rw [z3] at e'
      cases e'
      obtain ⟨l4, z4⟩ := up b _ z3 nfb
      have z5 := go b _ z4 n2 (nf b _ z4 nfb)
      obtain ⟨l6, z6⟩ := up4 b _ z5 nfb
      exact ⟨l6, z6⟩
    · obtain ⟨n1, _⟩ := lt0 b o e
      obtain ⟨o1, z1⟩ := I3.base.there b o e hx
      obtain ⟨o2, z2⟩ := u0.there b o1 z1 n1
      exact T.un.free b o2 z2 (u0.free b o1 z1 (I3.base.free b o e n hx) n1) (by simp)
    · by_cases hb : b ∈ frs outer
      · obtain ⟨_, ob, e', _⟩ := fl4.2.2.1.mem hb
        exact ⟨ob, e'⟩
      · obtain ⟨o', z, _⟩ := inB b o e hb
        exact ⟨o', fl4.1 b o' z⟩
    · obtain ⟨m1, z1⟩ := I3.base.tbls b ps y
      obtain ⟨m2, z2⟩ := u0.tbls b _ z1
      obtain ⟨m3, z3⟩ := T.un.tbls b _ z2
      exact ⟨m1 ++ m2 ++ m3, by rw [z3, Array.append_assoc, Array.append_assoc, Array.append_assoc]⟩
  cases use <;> exact main
end
theorem comp_turnsX {prog : Program} {w : World} {A : Around} {R : Result → Shared → Prop} {s : Shared} {elt tg iter : Expr} {ifs : List Expr} {scope : Scope} {pos : Pos} {it acc : Value} {env : Env} {XE : Value → Shared → Prop} (hX : ∀ e s, XE e s → wpAny (model prog w) A (noteFrame e env) (fun _ s1 => R (.error e) s1) (fun x s1 => R (.error x) s1) s) (I : Nat → Shared → Prop)
    (turn : ∀ n s, I n s → wpAny (model prog w) A (pyNext it) (fun r s1 => match r with
      | none => R (.ok .next) s1
      | some v => wpAny (model prog w) A (letOwnedTupleGo tg it v) (fun _ s2 => wpAny (model prog w) A (assign tg env v) (fun _ s3 =>
          wpAny (model prog w) A (forIn ifs true fun c r => if r = true then do let ok ← isTrue c env (eval c env); pure (ForInStep.yield ok) else pure (ForInStep.yield r)) (fun ok s4 =>
            if ok = true then wpAny (model prog w) A (eval elt env) (fun x s5 => wpAny (model prog w) A (call (.builtin "list.append") [acc, x]) (fun _ s6 => ∃ m, m < n ∧ I m s6) XE s5) XE s4
            else ∃ m, m < n ∧ I m s4) XE s3) XE s2) XE s1) XE s)
    (n : Nat) (h : I n s) : codeAny (model prog w) A (.compLoop (.ListComp elt [⟨tg, iter, ifs, 0⟩] scope pos) 0 it acc env) R s := by
  refine codeAny_loop rfl I (fun n s hI => ?_) n h
  show wpAny _ A ((compTurn (.ListComp elt [⟨tg, iter, ifs, 0⟩] scope pos) 0 it acc env).onRaise (fun x => do noteFrame x env; theTreesLotGoes x)) _ _ s
  refine wpAny_noted (wpAny_mono ?_ (fun _ _ q => q) hX)
  rw [compTurn_list]
  refine wpAny_bind (wpAny_standAt (wpAny_bind (wpAny_mono (turn n s hI) (fun r s1 h1 => ?_) fun _ _ z => z)))
  cases r with
  | none => exact wpAny_pure h1
  | some v =>
    refine wpAny_bind (wpAny_mono h1 (fun _ s2 h2 => wpAny_bind (wpAny_mono h2 (fun _ s3 h3 => wpAny_bind (wpAny_mono h3 (fun ok s4 h4 => ?_) fun _ _ z => z)) fun _ _ z => z)) fun _ _ z => z)
    cases ok with
    | false => exact wpAny_pure ⟨rfl, h4⟩
    | true => exact wpAny_bind (wpAny_bind (wpAny_mono h4 (fun x s5 h5 => wpAny_bind (wpAny_mono h5 (fun _ s6 h6 => wpAny_pure (wpAny_pure ⟨rfl, h6⟩)) fun _ _ z => z)) fun _ _ z => z))

noncomputable def cxCompX (X : Cx) (E : XK) (N' : List Str) (scope : Scope) (cl : List (Str × Addr)) (C : Addr) (s3 : Shared) (H3 : Hp) (fp : List Addr) (pn : List (Addr × Obj)) : Cx :=
  { cxComp X N' scope cl C s3 H3 fp pn with xe := fun e s' => ∃ (pins : List (Addr × Obj)) (σ : St) (Hc : Hp) (sc : Shared), Inv (cxComp X N' scope cl C s3 H3 fp pn) pins σ Hc sc ∧ CXe X.prog X.w X.stack Hc sc E e s' }
theorem pass_blk {X : Cx} {E : XK} {N' : List Str} {scope : Scope} {cl : List (Str × Addr)} {C : Addr} {s3 : Shared} {H3 : Hp} {fp : List Addr} {pn : List (Addr × Obj)} : Passes (CXe X.prog X.w) (cxCompX X E N' scope cl C s3 H3 fp pn) E :=
  fun pins σ Hc sc e s' I h => ⟨pins, σ, Hc, sc, I.wish _, h⟩
section
variable {P : Program} {w : World} {K : PySem.W.Frag} {mg : Str → Option Value} {base : Heap} {N : List Str} {qual : Str} {scope0 : Scope} {f : Addr} {cdv : Value} {A : Around} {outer : List Env} {s₀ : Shared} {H₀ : Hp} {E : XK}
  {X : Cx} {elt tg iter : Expr} {ifs : List Expr} {scope : Scope} {pos : Pos} {N' : List Str} {cs : List (Option Nat)} {cl : List (Str × Addr)} {wi : TI} {g : TG} {tt : TT} {te : TE}
theorem lc_anyX {use : Option (Value → Sem Unit)} {QQ : Value → Shared → Prop} {pins : List (Addr × Obj)} {s : Shared} {σ : St} {H : Hp} {Q : VK} {fpos : Pos} (eX : X = cxE P w K mg base N qual scope0 f cdv A outer s₀ H₀ E) (hc : X.calm = true) (hi : PI X tg iter wi) (hclos : closureFor scope X.env = pure cl) (hcell : ∀ y ∈ scope.names, y.2 ≠ .cell) (hkind : scope.kind = .function)
    (hnames : ∀ y ∈ scope.names, y.2 = .local → scope.names.lookup y.1 = some .local) (hsub : ∀ x c, cl.lookup x = some c → X.env.cells.lookup x = some c)
    (hok : clOk cl (relabel scope X.env).names = true) (hcaps : Caps X scope cl N' cs)
    (hb : ∀ (C : Addr) (s3 : Shared) (H3 : Hp) (fp : List Addr) (pn : List (Addr × Obj)), PG (cxCompX X E N' scope cl C s3 H3 fp pn) tg g ∧ PIfs (cxCompX X E N' scope cl C s3 H3 fp pn) ifs tt ∧ PE (cxCompX X E N' scope cl C s3 H3 fp pn) elt te)
    (hs : ∀ x, foldedSetIterable iter X.env x = pure x := by intro _; rfl) (I : Inv X pins σ H s) (h : tLC wi cs g tt te σ H Q)
    (post : ∀ (D C : Addr) (s4 : Shared) (H' : Hp) (m : Str → Option Value), Inv X pins σ H' s4 → s4.heap.Ns C m → FpOk X pins H' C → Q (.ref D) H' → compPost (model X.prog X.w) X.A X.xe use QQ (.ref D) C (.ok .next) s4) :
    wpAny (model X.prog X.w) X.A (comprehension (.ListComp elt [⟨tg, iter, ifs, 0⟩] scope pos) scope X.env fpos (newList []) false (eval iter X.env) use) QQ X.xe s := by
  refine wpAny_comprehension_free (use := use) rfl hs hclos hkind hnames (thn (hi pins s σ H _ I h) fun v s1 h1 => thn h1 fun itv s2 h2 => ?_)
  obtain ⟨it, fp, tn, J, H2, rfl, I2, T, st2, f2, q2⟩ := h2
  refine wpAny_newObj_type (wpAny_newFunctionEnv hcell (by intro y hy; simp at hy) (fun h1 hns1 hsb1 => ?_) hkind)
  dsimp only at hns1 hsb1 ⊢
  have I3 : Inv X pins σ (upd H2 s2.heap.objs.size (.lst [])) { s2 with heap := s2.heap.push { cls := .type "list", data := .seq ([] : List Value).toArray }, toks := s2.toks } := I2.lnew (its := []) (ys := []) .nil (Nat.zero_le _)
  have hDf : H2 s2.heap.objs.size = none := I2.fresh
  obtain ⟨W, ⟨m0, w0⟩, turn⟩ := q2 _ hDf
  generalize hH3 : s2.heap.push { cls := .type "list", dict := none, data := .seq ([] : List Value).toArray } = h3 at hns1 hsb1 I3 ⊢
  have hsz3 : h3.objs.size = s2.heap.objs.size + 1 := by rw [← hH3, Heap.size_push]
  generalize hD : s2.heap.objs.size = D at *
  have kept : ∀ b o, h3.get? b = some o → h1.get? b = some o := fun b o e => hsb1.extBut b o (Nat.ne_of_lt (Heap.lt_size e)) (Heap.get?_push_of_some _ e)
  have old : ∀ b o, s2.heap.get? b = some o → h3.get? b = some o := fun b o e => by rw [← hH3]; exact Heap.get?_push_of_some _ e
  have fpo : ∀ b ∈ fp, b < D := fun b hb' => by
    obtain ⟨o, e, _⟩ := T.obj 0 _ st2 b hb'
    rw [← hD]
    exact Heap.lt_size e
  have fpfs : ∀ b ∈ fp, b ∉ frs X.stack := fun b hb' z => by
    obtain ⟨_, f1, f3, _⟩ := f2 b hb'
    rcases List.mem_cons.mp (I2.stkSub b z) with e | e
    · exact f1 e
    · exact f3 e
  -- the block's context
  generalize hX : cxCompX X E N' scope cl h3.objs.size { s2 with heap := h3, toks := s2.toks } (upd H2 D (.lst [])) fp (X.pn ++ pins) = X'
  obtain ⟨hg, hif, he⟩ := hb h3.objs.size { s2 with heap := h3, toks := s2.toks } (upd H2 D (.lst [])) fp (X.pn ++ pins)
  rw [hX] at hg hif he
  have eP : X'.prog = X.prog := by rw [← hX]; rfl
  have eW : X'.w = X.w := by rw [← hX]; rfl
  have eK : X'.K = X.K := by rw [← hX]; rfl
  have eC : X'.calm = X.calm := by rw [← hX]; rfl
  have I4 : Inv X' [] (caps cs σ) (upd H2 D (.lst [])) { s2 with heap := h1, toks := s2.toks + 0 } := by
    rw [← hX]
    refine ⟨⟨I3.ok.mod, hkind, I3.ok.glob, I3.ok.blt, Nat.le_refl _, fun x y c e1 e2 => I3.ok.inj x y c (hsub _ _ e1) (hsub _ _ e2), fun x hx => clOk_has hok hx, fun x c z _ => absurd (show false = true from z) Bool.false_ne_true, I3.ok.hd, I3.ok.frames, .inl rfl,
      fun b hb' => ⟨fun e => ?_, fun x c e => (f2 b hb').2.2.2.2.1 x c (hsub _ _ e)⟩, I3.bs, Nat.le_trans I3.ok.bsz I3.sz, fun b o e hb' => ?_, fpfs, I3.stack, I3.stkFree⟩, rfl, I3.bare, Un.kept kept, ⟨_, hns1, fun i x v e1 e2 e3 => ?_⟩, fun x c e => ?_, I3.hok.fresh (Nat.le_refl _), fun x c e => I3.freeC x c (hsub _ _ e),
      fun p hp => ?_, I3.hok.kept kept, ?_⟩
    · have l := fpo b hb'
      rw [show b = h3.objs.size from e, hsz3] at l
      exact Nat.lt_irrefl _ (Nat.lt_of_succ_lt l)
    · have l := fpo b hb'
      rcases (f2 b hb').2.2.2.1 with z | z
      · exact I2.ok.noex b o e z
      · exact absurd (Nat.lt_of_lt_of_le (Heap.lt_size (I2.ok.bs b o e).1) z) (Nat.lt_irrefl _)
    · obtain ⟨j, a1, a2, a3, a4, a5⟩ := hcaps.get e1 e2
      obtain ⟨m, hn, hl⟩ := I3.loc
      obtain ⟨u, ru, l⟩ := hl j x v a1 a2 (by rcases a3 with z | z; exact .inr (.inl z); exact .inr (.inr z))
      refine ⟨u, ru, .inr ⟨a4, ?_⟩⟩
      rcases l with ⟨k, _⟩ | ⟨k, c, e, z⟩
      · rcases a3 with q | q <;> (rw [k] at q; cases q)
      · obtain ⟨o, ho, hd⟩ := z
        exact ⟨c, a5.trans e, o, kept c o ho, hd⟩
    · obtain ⟨v, o, ho, hd⟩ := I3.cell x c (hsub _ _ e)
      exact ⟨v, o, kept c o ho, hd⟩
    · have hp' : p ∈ X.pn ++ pins := by simpa [cxCompX, cxComp] using hp
      obtain ⟨e, n, ne, nf, d⟩ := I3.pin p hp'
      refine ⟨kept _ _ e, n, Nat.ne_of_lt (Heap.lt_size e), fun z => ?_, d⟩
      rcases List.mem_cons.mp (I3.stkSub p.1 z) with q | q
      · exact ne q
      · exact nf q
    · show (caps cs σ).length = N'.length
      rw [caps, List.length_map]
      exact hcaps.len
  have tn1 : tn 0 h1 := T.keep 0 _ _ st2 fun b hb' o e => kept b o (old b o e)
  have stat : ∀ {H' : Hp}, (∀ b ∈ fp, H' b = none) → ∀ b ∈ fp, FpOk X' [] H' b := fun {H'} hn b hb' => by
    rw [← hX]
    refine ⟨hn b hb', fun e => ?_, fpfs b hb', .inl hb', fun x c e => (f2 b hb').2.2.2.2.1 x c (hsub _ _ e), fun p hp => (f2 b hb').2.2.2.2.2 p (by simpa [cxCompX, cxComp] using hp)⟩
    have l := fpo b hb'
    rw [show b = h3.objs.size from e, hsz3] at l
    exact Nat.lt_irrefl _ (Nat.lt_of_succ_lt l)
  have fr0 : ∀ b ∈ fp, (upd H2 D (.lst [])) b = none := fun b hb' => by
    rw [upd_ne (Nat.ne_of_lt (fpo b hb'))]
    exact (f2 b hb').1
  have xA : X'.A = X.A := by rw [← hX]; rfl
  have xE : X'.env = compEnvC scope cl h3.objs.size X.env := by rw [← hX]; rfl
  have leave : ∀ (e : Value) (se : Shared), X'.xe e se → wpAny (model X.prog X.w) X.A (noteFrame e (compEnvC scope cl h3.objs.size X.env)) (fun _ s1 => compPost (model X.prog X.w) X.A X.xe use QQ (.ref D) h3.objs.size (.error e) s1) (fun x s1 => compPost (model X.prog X.w) X.A X.xe use QQ (.ref D) h3.objs.size (.error x) s1) se := fun e se hxe => by
    rw [← hX] at hxe
    obtain ⟨pins', σ', Hc, sc, I', ea, cls, a0, H', B, rfl, T, hE⟩ := hxe
    obtain ⟨m, cn, _⟩ := id I'.loc
    have Cs : h3.objs.size ∉ frs X.stack := fun z => by
      rcases List.mem_cons.mp (I3.stkSub _ z) with y | y
      · exact absurd I3.lt (by rw [← y]; exact Nat.lt_irrefl _)
      · exact I3.nofs (Nat.le_refl _) y
    have u0 : Un (frs X.stack) fp (upd H2 D (.lst [])) Hc h3 sc.heap := I'.base
    have HC : Hc h3.objs.size = none := I'.free
    have os' : sc.os = s2.os := I'.os
    subst eX
    exact blk_leaves (s3 := { s2 with heap := h3, toks := s2.toks }) I3 (fun b hb' => (f2 b hb').2.2.2.1.resolve_left (by simp [cxE, cxOf])) (Nat.le_refl _) Cs os' u0 cn HC T hE
  have loop : codeAny (model X.prog X.w) X.A (.compLoop (.ListComp elt [⟨tg, iter, ifs, 0⟩] scope pos) 0 (.ref it) (.ref D) (compEnvC scope cl h3.objs.size X.env))
      (compPost (model X.prog X.w) X.A X.xe use QQ (.ref D) h3.objs.size) { s2 with heap := h1, toks := s2.toks + 0 } := by
    refine comp_turnsX (XE := X'.xe) leave (fun n s' => ∃ i ys σ' H', Inv X' [] σ' H' s' ∧ tn i s'.heap ∧ (∀ b ∈ fp, H' b = none) ∧ W i n ys σ' H') ?_ m0 ⟨0, [], _, _, I4, tn1, fr0, w0⟩
    rintro n s' ⟨i, ys, σ', H', I', st', fr', w'⟩
    obtain ⟨hHD, hyl, hor⟩ := turn i n ys σ' H' w'
    rcases hor with ⟨stop, q⟩ | ⟨go, step⟩
    · have hd := T.done X' eP eW eK (eC.trans hc) i [] s' σ' H' X'.xe I' (stat fr') st' stop
      rw [xA] at hd
      refine thn hd fun r s4 hr => ?_
      obtain ⟨rfl, I5⟩ := hr
      obtain ⟨m, hn, _⟩ := id I5.loc
      have eL : X'.env.locals = h3.objs.size := by rw [xE]; rfl
      have hfree : H' h3.objs.size = none := by rw [← eL]; exact I5.free
      have bu := I5.base
      rw [← hX] at bu
      have hos : s4.os = s2.os := by
        have z := I5.os
        rw [← hX] at z
        exact z
      have hk5 := I5.hok
      rw [eP, eW] at hk5
      have Iout : Inv X pins σ H' s4 := I3.call' (s' := s4) (ch := fp) hos ⟨bu.keep, bu.slot, bu.free, bu.there, bu.tups, bu.frzs, bu.tbls⟩ hk5 I5.bare fun b hb' => by
        obtain ⟨_, g1, _, g3, g4, g5⟩ := f2 b hb'
        exact ⟨g3, g1, g4, g5⟩
      exact post D h3.objs.size s4 H' m Iout (by rw [eL] at hn; exact hn) (I3.fpOk (Nat.le_refl _) hfree) q
    · have hit := T.item X' eP eW eK (eC.trans hc) i [] s' σ' H' X'.xe I' (stat fr') st' go
      rw [xA] at hit
      refine thn hit fun r s4 hr => ?_
      obtain ⟨u, rfl, h4⟩ := hr
      refine thn h4 fun _ s5 h5 => ?_
      obtain ⟨x, H5, I5, r5, y5, st5, fr5⟩ := h5
      have I5' := I5.pinned (stat fr5) (T.obj _ _ st5)
      have ha := hg _ s5 σ' H5 x u _ I5' r5 (step x H5 y5)
      rw [xA, xE, eP, eW] at ha
      refine thn ha fun _ s6 h6 => ?_
      obtain ⟨σ6, H6, I6, q6⟩ := h6
      have ht := hif _ s6 σ6 H6 _ I6 q6
      rw [xA, xE, eP, eW] at ht
      refine thn ht fun ok s7 h7 => ?_
      obtain ⟨H7, I7, q7⟩ := h7
      have back : ∀ {σ8 : St} {H8 : Hp} {s8 : Shared} {ys' : List V} {m' : Nat}, Inv X' ([] ++ pinsAt fp s5.heap) σ8 H8 s8 → m' < n → W (i + 1) m' ys' σ8 H8 →
          ∃ m, m < n ∧ ∃ i ys σ' H', Inv X' [] σ' H' s8 ∧ tn i s8.heap ∧ (∀ b ∈ fp, H' b = none) ∧ W i m ys σ' H' := fun {σ8 H8 s8 ys' m'} I8 hm w8 => by
        refine ⟨m', hm, i + 1, ys', σ8, H8, I8.unpinned, T.keep _ _ _ st5 fun b hb' o e => (I8.pin (b, o) (List.mem_append_right _ (List.mem_append_right _ (mem_pinsAt hb' e)))).1, fun b hb' => ?_, w8⟩
        obtain ⟨o, e, d⟩ := T.obj _ _ st5 b hb'
        exact (I8.pin (b, o) (List.mem_append_right _ (List.mem_append_right _ (mem_pinsAt hb' e)))).2.1
      cases ok with
      | false =>
        rw [if_neg Bool.false_ne_true] at q7 ⊢
        obtain ⟨m', hm, w7⟩ := q7
        exact back I7 hm w7
      | true =>
        rw [if_pos rfl] at q7 ⊢
        have hel := he _ s7 σ6 H7 _ I7 q7
        rw [xA, xE, eP, eW] at hel
        refine thn hel fun yv s8 h8 => ?_
        obtain ⟨y, H8, I8, r8, hD8, m', hm, w8⟩ := h8
        have hap := mt_append (X := X') _ s8 σ6 H8 (.ref D) [y] (.ref D) [yv] (fun _ H9 => H9 = upd H8 D (.lst (ys ++ [y]))) I8 rfl (.cons r8 .nil) ⟨D, ys, y, rfl, rfl, hD8, hyl, rfl⟩
        rw [xA, eP, eW] at hap
        refine thn hap fun _ s9 h9 => ?_
        obtain ⟨_, H9, I9, _, rfl⟩ := h9
        exact back I9 hm w8
  exact codeAny_compStart_list loop (T.self _ 0 _ _ _ tn1 loop)
theorem pe_lcX (eX : X = cxE P w K mg base N qual scope0 f cdv A outer s₀ H₀ E) (hc : X.calm = true) (hi : PI X tg iter wi) (hclos : closureFor scope X.env = pure cl) (hcell : ∀ y ∈ scope.names, y.2 ≠ .cell) (hkind : scope.kind = .function)
    (hnames : ∀ y ∈ scope.names, y.2 = .local → scope.names.lookup y.1 = some .local) (hsub : ∀ x c, cl.lookup x = some c → X.env.cells.lookup x = some c)
    (hok : clOk cl (relabel scope X.env).names = true) (hcaps : Caps X scope cl N' cs)
    (hb : ∀ (C : Addr) (s3 : Shared) (H3 : Hp) (fp : List Addr) (pn : List (Addr × Obj)), PG (cxCompX X E N' scope cl C s3 H3 fp pn) tg g ∧ PIfs (cxCompX X E N' scope cl C s3 H3 fp pn) ifs tt ∧ PE (cxCompX X E N' scope cl C s3 H3 fp pn) elt te)
    (hs : ∀ x, foldedSetIterable iter X.env x = pure x := by intro _; rfl) : PE X (.ListComp elt [⟨tg, iter, ifs, 0⟩] scope pos) (tLC wi cs g tt te) := by
  intro pins s σ H Q I h
  rw [eval_ListComp]
  refine lc_anyX eX hc hi hclos hcell hkind hnames hsub hok hcaps hb hs I h fun D C s4 H' m I4 hn fC q => ⟨m, hn, fun h' hsb => ⟨.ref D, H', ?_, rfl, q⟩⟩
  obtain ⟨f0, f1, f2, f3, f4, f5⟩ := fC
  exact I4.turned (t' := s4.toks) (fun b o hb e => (hsb.2 b hb).trans e) f0 f1 f3 f4 f5
end
end L3
set_option Elab.async false
set_option linter.all false
set_option maxRecDepth 100000
set_option maxHeartbeats 4000000
namespace K1
open PySem L2 L3
noncomputable def fig (c : Nat) : Bool := decide (48 ≤ c) && decide (c ≤ 57)
noncomputable def wrB (l : List Nat) : Bool := decide (1 ≤ l.length) && decide (l.length ≤ 10) && !(decide (l.head? = some 48) && !decide (l = [48])) && l.all fig
theorem dg_snoc {m d : Nat} (hm : 0 < m) (hd : d < 10) : dg (10 * m + d) = dg m ++ [48 + d] := by
  unfold dg
  rw [← Nat.toDigits_append_toDigits (by decide) hm hd, List.map_append, Nat.toDigits_of_lt_base hd]
  congr 1
  have : ∀ d, d < 10 → List.map Char.toNat [Nat.digitChar d] = [48 + d] := by decide
  exact this d hd
theorem dg_small : ∀ d, d < 10 → dg d = [48 + d] := by decide
theorem figs_dg : ∀ (n : Nat) (l : List Nat), l.length = n + 1 → (∀ c ∈ l, fig c = true) → (l.head? = some 48 → l = [48]) → ∃ m, l = dg m ∧ m < 10 ^ (n + 1) ∧ (l ≠ [48] → 0 < m)
  | 0, l, e, hf, h0 => by
    obtain ⟨c, rfl⟩ := List.length_eq_one_iff.mp e
    have hc := hf c (.head _)
    unfold fig at hc
    simp only [Bool.and_eq_true, decide_eq_true_eq] at hc
    refine ⟨c - 48, by rw [dg_small _ (by omega)]; congr 1; omega, by omega, fun z => ?_⟩
    have : c ≠ 48 := fun y => z (by rw [y])
    omega
  | n + 1, l, e, hf, h0 => by
    have ne : l ≠ [] := fun z => by rw [z] at e; cases e
    have el := List.dropLast_concat_getLast ne
    have ld : l.dropLast.length = n + 1 := by rw [List.length_dropLast]; omega
    have hl : l.getLast ne ∈ l := List.getLast_mem ne
    have hc := hf _ hl
    unfold fig at hc
    simp only [Bool.and_eq_true, decide_eq_true_eq] at hc
    have hh : l.head? ≠ some 48 := fun z => by
      have := h0 z
      rw [this] at e
      simp at e
    have hd : l.dropLast.head? = l.head? := by
      cases l with
      | nil => rfl
      | cons a r =>
        cases r with
        | nil => simp at e
        | cons b r => rfl
    obtain ⟨m, e1, e2, e3⟩ := figs_dg n l.dropLast ld (fun c hc' => hf c (List.dropLast_subset _ hc')) (fun z => absurd (hd ▸ z) hh)
    have m0 : 0 < m := e3 fun z => by
      rw [z] at hd
      exact hh hd.symm
    refine ⟨10 * m + (l.getLast ne - 48), ?_, ?_, fun _ => by omega⟩
    · rw [dg_snoc m0 (by omega), ← e1]
      conv => lhs; rw [← el]
      congr 2
      omega
    · have : 10 ^ (n + 1 + 1) = 10 * 10 ^ (n + 1) := by rw [Nat.pow_succ, Nat.mul_comm]
      omega
theorem wr_dg {l : List Nat} (h : wrB l = true) : ∃ m, m < 10 ^ 10 ∧ l = dg m := by
  unfold wrB at h
  simp only [Bool.and_eq_true, decide_eq_true_eq, Bool.not_eq_true', Bool.and_eq_false_iff, decide_eq_false_iff_not, Bool.not_eq_false', List.all_eq_true] at h
  obtain ⟨⟨⟨h1, h2⟩, h3⟩, h4⟩ := h
  obtain ⟨m, e1, e2, _⟩ := figs_dg (l.length - 1) l (by omega) h4 fun z => h3.resolve_left fun y => y z
  refine ⟨m, Nat.lt_of_lt_of_le e2 (Nat.pow_le_pow_right (by decide) (by omega)), e1⟩
theorem dg_wr {m : Nat} (h : m < 10 ^ 10) : wrB (dg m) = true := by
  have l1 := dg_len h
  have l0 : 1 ≤ (dg m).length := List.length_pos_iff.mpr (dg_ne m)
  unfold wrB
  simp only [Bool.and_eq_true, decide_eq_true_eq, Bool.not_eq_true', Bool.and_eq_false_iff, decide_eq_false_iff_not, Bool.not_eq_false', List.all_eq_true]
  refine ⟨⟨⟨l0, l1⟩, ?_⟩, fun c hc => ?_⟩
  · by_cases z : (dg m).head? = some 48
    · right
      cases e : dg m with
      | nil => exact absurd e (dg_ne m)
      | cons a r =>
        rw [e] at z
        cases z
        have := dg_head m r e
        rw [this, dg_zero] at e
        exact e.symm
    · exact .inl z
  · have := dg_fig hc
    unfold fig
    simp [this]
theorem S_cps (w : Str) : S w.cps.toList = w := by
  obtain ⟨a⟩ := w
  simp [S]
theorem glL_bounds (y : List Nat) (hy : y ≠ []) : ∀ ps : List (List Nat), ps.length ≤ (glL y ps).length + 1 ∧ ∀ p ∈ ps, p.length ≤ (glL y ps).length
  | [] => ⟨Nat.zero_le _, fun _ h => nomatch h⟩
  | [p] => ⟨by show 1 ≤ _ + 1; omega, fun q hq => by rw [List.mem_singleton.mp hq]; exact Nat.le_refl _⟩
  | p :: q :: r => by
    obtain ⟨h1, h2⟩ := glL_bounds y hy (q :: r)
    have e : glL y (p :: q :: r) = p ++ y ++ glL y (q :: r) := rfl
    have ly : 1 ≤ y.length := List.length_pos_iff.mpr hy
    rw [e, List.length_append, List.length_append]
    refine ⟨by rw [List.length_cons]; omega, fun z hz => ?_⟩
    rcases List.mem_cons.mp hz with rfl | hz
    · omega
    · have := h2 z hz
      omega
theorem split_is (l y : List Nat) (hy : y ≠ []) : ∃ ps : List (List Nat), Txt.split (S l) (S y) = ps.map S ∧ glL y ps = l := by
  have e : Txt.split (S l) (S y) = ((Txt.split (S l) (S y)).map fun w => w.cps.toList).map S := by
    rw [List.map_map]
    exact ((List.map_congr_left fun w _ => S_cps w).trans (List.map_id _)).symm
  refine ⟨_, e, ?_⟩
  have h := StrLaws.join_split (S l) (S y)
  have h2 := (StrLaws.glued_eq_join (S y) (((Txt.split (S l) (S y)).map fun w => w.cps.toList).map S)).symm.trans (glL_join y _)
  rw [← e, h] at h2
  exact (S_inj h2).symm
end K1
set_option Elab.async false
set_option linter.all false
set_option maxRecDepth 100000
set_option maxHeartbeats 4000000
namespace K1
open PySem L2 L3
section
variable {P : Program} {w : World} {K : PySem.W.Frag} {mg : Str → Option Value} {base : Heap}
theorem small5 {n : Nat} (h : n ≤ 5000) : n + 2 ≤ sizeLine := by
  show n + 2 ≤ 16777216
  omega
theorem bl_eq {R : VK} {b c : Bool} {H : Hp} (e : b = c) (h : R (.bl c) H) : R (.bl b) H := by rw [e]; exact h
theorem all_fig (l : List Nat) : ((List.range l.length).map fun i => fig (l.getD i 0)).all id = l.all fig := by
  have e : (List.range l.length).map (fun i => fig (l.getD i 0)) = l.map fig := by
    apply List.ext_getElem
    · simp
    · intro i h1 h2
      simp at h1
      simp [List.getD, h1]
  rw [e, List.all_map]
  rfl
noncomputable def spWrA : Sp := fun vs H Q _ => ∃ l : List Nat, vs = [.str (S l)] ∧ l.length ≤ 5000 ∧ ∀ H', Same H H' → Q (.bl (wrB l)) H'
theorem ok_wrA {f : Addr} {fd : FuncData} (F : Fun K "is_written_number" "is_written_number" sWr f fd) (B : Blt mg) : FnOk P w K mg base CX0 1 f fd ["text"] spWrA := by
  refine F.ok scWr (fun vs H Q E h => ?_) (fun cdv A outer s H vs Q E hr h => ?_)
  · obtain ⟨l, rfl, _⟩ := h
    rfl
  · obtain ⟨l, rfl, ll, q⟩ := h
    refine ⟨_, (pss_cons (ps_if (PW.pt (pw_or (pt_not (pt_chain op_le op_le pe_int (pe_callB call_len_str (by rfl) B.len bt_len (pa_cons (pv 0) pa_nil)) pe_int)) (pw_or1 (PW.pt (pw_and (pt_cmpR op_eq (pe_ix ix_str (pv 0) pe_int (fun _ _ => rfl)) pe_str (nomark _)) (pw_and1 (pt_cmpR op_ne (pv 0) pe_str (nomark _)))))))) (pss_one (ps_ret pe_bl)) pss_nil)
      (pss_one (ps_ret (pe_callB (call_all rfl) (by rfl) B.all_ bt_all (pa_cons (pe_lc (N' := ["sign"]) (cs := [none]) rfl (pi_str (pv 0)) rfl (by decide +kernel) rfl (by decide +kernel) (sub_of (fun p hp => absurd hp (List.not_mem_nil))) rfl
        (.own .nil)
        (fun C s3 H3 fp pn => ⟨(pg_name (i := 0) (by show (["sign"] : List Str).Nodup; decide +kernel) rfl (.inl rfl)), pif_nil, (pe_chain op_le_str op_le_str pe_str (pv 0) pe_str)⟩)) pa_nil))))), ?_⟩
    have hz : (S l).length ≤ sizeLine := Nat.le_trans (by rw [S_len]; omega) (small5 ll)
    have s0 : Str.ofString "0" = S [48] := by decide +kernel
    have s9 : Str.ofString "9" = S [57] := by decide +kernel
    have sl : ((S l).length : Int) = (l.length : Int) := by rw [S_len]
    rw [s0, s9]
    refine ⟨_, rfl, _, rfl, hz, _, _, rfl, rfl, _, rfl, ?_⟩
    rw [sl]
    by_cases h1 : 1 ≤ l.length
    case neg =>
      refine iteN (decide_eq_false (by omega)) ⟨_, rfl, iteB rfl (iteB rfl ?_)⟩
      have : wrB l = false := by unfold wrB; rw [decide_eq_false h1]; rfl
      rw [this] at q
      exact q H (Same.refl _)
    by_cases h2 : l.length ≤ 10
    case neg =>
      refine iteB (decide_eq_true (by omega)) ⟨_, _, rfl, rfl, _, rfl, iteB (by rw [decide_eq_false (by omega)]; rfl) (iteB rfl ?_)⟩
      have : wrB l = false := by unfold wrB; rw [decide_eq_false h2]; simp
      rw [this] at q
      exact q H (Same.refl _)
    refine iteB (decide_eq_true (by omega)) ⟨_, _, rfl, rfl, _, rfl, iteNS (by omega) ?_⟩
    obtain ⟨d0, r0, ed⟩ : ∃ d0 r0, l = d0 :: r0 := by
      cases l with
      | nil => simp at h1
      | cons a r => exact ⟨a, r, rfl⟩
    have at0 : L2.atI (S l).cps.toList 0 = some d0 := by
      show L2.atI l 0 = some d0
      rw [ed]
      exact atI_nat (j := 0) rfl
    have hsl : (signs (S l)).length < 1000 := by
      rw [signs_S, List.length_map]
      omega
    have sg : (signs (S l)).length = l.length := by rw [signs_S, List.length_map]
    have hd : l.head? = some d0 := by rw [ed]; rfl
    refine ⟨_, rfl, _, _, _, rfl, rfl, hz, at0, rfl, _, rfl, ?_⟩
    by_cases e : d0 = 48
    case' pos =>
      refine iteB (by rw [e]; exact decide_eq_true rfl) ⟨_, rfl, rfl, _, rfl, ?_⟩
      by_cases e2 : l = [48]
      case neg =>
        refine iteB (by rw [decide_eq_false (fun z => e2 (S_inj (V.str.inj z)))]; rfl) ?_
        have : wrB l = false := by unfold wrB; rw [hd, e, decide_eq_true rfl, decide_eq_false e2]; simp
        rw [this] at q
        exact q H (Same.refl _)
      refine iteN (by rw [e2]; simp) ?_
      have wv : wrB l = l.all fig := by unfold wrB; rw [decide_eq_true h1, decide_eq_true h2, decide_eq_true e2]; simp
    case' neg =>
      refine iteN (decide_eq_false fun z => e (by have := V.str.inj z; have := congrArg (fun x : Str => x.cps.toList) this; simpa using this)) (iteF ?_)
      have wv : wrB l = l.all fig := by unfold wrB; rw [decide_eq_true h1, decide_eq_true h2, hd, decide_eq_false (fun z => e (Option.some.inj z))]; simp
    all_goals
      dsimp only [tNext, tRet, tCB, tCons]
      refine tlc_idx (J := Its (S l)) (H1 := H) (xs := signs (S l)) (rest := []) (fun R h => ⟨_, rfl, _, rfl, h⟩) rfl (wk_str _) (small1000 (by omega)) (fun i => .bl (fig (l.getD i 0))) (fun i x H2 R ex sm hR => ?_) (fun D H' h1 h2 h3 => ?_)
      · rw [signs_S, List.getElem?_map] at ex
        obtain ⟨k, hk, rfl⟩ := Option.map_eq_some_iff.mp ex
        have hR := hR H2 (Same.refl _)
        rw [gd_of hk] at hR
        have e1 : (!decide ((S [k]).cps.toList < (S [48]).cps.toList)) = decide (48 ≤ k) := le_one k 48
        have e2 : (!decide ((S [57]).cps.toList < (S [k]).cps.toList)) = decide (k ≤ 57) := le_one 57 k
        refine ⟨_, rfl, _, _, rfl, rfl, _, rfl, ?_⟩
        by_cases z : 48 ≤ k
        · refine iteB (e1.trans (decide_eq_true z)) ⟨_, _, rfl, rfl, bl_eq (e2.trans ?_) hR⟩
          unfold fig
          rw [decide_eq_true z]
          rfl
        · refine iteN (e1.trans (decide_eq_false z)) ?_
          have : fig k = false := by unfold fig; rw [decide_eq_false z]; rfl
          rw [this] at hR
          exact hR
      · refine ⟨D, (List.range l.length).map fun i => fig (l.getD i 0), rfl, SqL.of (by rw [h2, sg, List.map_map]; rfl), bl_eq ?_ (q H' h3)⟩
        rw [all_fig, wv]
noncomputable def spRnA (NT : Addr) : Sp := fun vs H Q E => ∃ l : List Nat, vs = [.str (S l)] ∧ l.length ≤ 5000 ∧ (∀ m, m < 10 ^ 10 → l = dg m → ∀ H', Same H H' → Q (.int (m : Int)) H') ∧ ((∀ m, m < 10 ^ 10 → l ≠ dg m) → ∀ H', Same H H' → E (.ref NT) none H')
theorem ok_rnA {NT f f1 : Addr} {fd fd1 : FuncData} {Bc newId initId : String} {bm : List Value} (F : Fun K "read_number" "read_number" sRn f fd) (B : Blt mg) (EB_NoText : ExcBaseFacts Bc newId initId bm) (EX_NoText : Exc K mg "NoText" NT bm newId) (D_is_written_number : Dn K mg "is_written_number" sWr ["text"] f1 fd1) (G_is_written_number : FnOk P w K mg base CX0 1 f1 fd1 ["text"] spWrA) : FnOk P w K mg base (CXe P w) 2 f fd ["word"] (spRnA NT) := by
  refine okE F scRn (fun vs H Q E h => ?_) (fun cdv A outer s H vs Q E hr h => ?_)
  · obtain ⟨l, rfl, _⟩ := h
    rfl
  · obtain ⟨l, rfl, ll, q, qe⟩ := h
    refine ⟨_, (pss_cons (ps_if (pt_not (pt_val (pe_call G_is_written_number (hr.mono (by decide)) (by rfl) D_is_written_number.at_ D_is_written_number.fn.kp D_is_written_number.bd .nil pass0 (pa_cons (pv 0) pa_nil)))) (pss_one (ps_raise EB_NoText EX_NoText rfl (pa_cons pe_str pa_nil))) pss_nil)
      (pss_one (ps_ret (pe_callTy call_intS (by rfl) B.int bt_int (pa_cons (pv 0) pa_nil))))), ?_⟩
    refine ⟨_, rfl, l, rfl, ll, fun H' s' => ⟨_, rfl, ?_⟩⟩
    cases hw : wrB l with
    | true =>
      obtain ⟨m, hm, e⟩ := wr_dg hw
      have l1 := dg_len hm
      refine iteF ⟨_, rfl, _, _, rfl, (by rw [e]; exact dg_reads hm), by rw [S_len, e]; omega, q m hm e H' s'⟩
    | false =>
      refine iteT ⟨by show 1 ≤ sizeLine; decide, qe (fun m hm e => ?_) H' s'⟩
      rw [e, dg_wr hm] at hw
      cases hw
end
end K1
set_option Elab.async false
set_option linter.all false
set_option maxRecDepth 100000
set_option maxHeartbeats 4000000
namespace K1
open PySem L2 L3
structure BgR (b : Bg) : Prop where
  t : b.1 < 10 ^ 10
  r : b.2.1 < 10 ^ 10
  n : ∀ n ∈ b.2.2, n < 10 ^ 10
  ne : b.2.2 ≠ []
theorem ends_58 {p : List Nat} (h : Txt.endswith (S p) (S [58]) = true) : ∃ q, p = q ++ [58] := by
  unfold Txt.endswith at h
  rw [Bool.and_eq_true, sub_list] at h
  obtain ⟨h1, h2⟩ := h
  have h1 : 0 + 1 ≤ (S p).length := of_decide_eq_true h1
  rw [S_len] at h1
  have ne : p ≠ [] := fun z => by rw [z] at h1; simp at h1
  refine ⟨p.dropLast, ?_⟩
  have e := List.dropLast_concat_getLast ne
  have h2 : List.take 1 (List.drop ((S p).length - 1) p) = [58] := by simpa [S_len] using h2
  have hd : p.drop (p.length - 1) = [p.getLast ne] := by
    have := List.drop_left (l₁ := p.dropLast) (l₂ := [p.getLast ne])
    rw [e, List.length_dropLast] at this
    exact this
  rw [S_len, hd] at h2
  have : p.getLast ne = 58 := by simpa using h2
  rw [this] at e
  exact e.symm
theorem words_eq {l : List Nat} {ps : List (List Nat)} (hs : Txt.split (S l) (S [32]) = ps.map S) {b : Bg} (ne : b.2.2 ≠ []) (e : l = bagL b) : ps = wordsB b := by
  rw [e, split_bag ne] at hs
  have := congrArg (List.map fun w : Str => w.cps.toList) hs
  rw [List.map_map, List.map_map] at this
  exact ((List.map_id _).symm.trans this.symm).trans (List.map_id _)
theorem nums_of {H : Hp} : ∀ (vs : List L2.V) (qs : List (List Nat)), vs.length = qs.length → (∀ (i : Nat) (v : L2.V), vs[i]? = some v → ∃ m, m < 10 ^ 10 ∧ qs[i]? = some (dg m) ∧ v = .int (m : Int)) → ∃ ns : List Nat, vs = numV ns ∧ qs = ns.map dg ∧ ∀ n ∈ ns, n < 10 ^ 10
  | [], [], _, _ => ⟨[], rfl, rfl, fun _ h => nomatch h⟩
  | v :: vs, q :: qs, e, h => by
    obtain ⟨m, h1, h2, rfl⟩ := h 0 v rfl
    cases h2
    obtain ⟨ns, e1, e2, e3⟩ := nums_of (H := H) vs qs (Nat.succ.inj e) fun i u eu => h (i + 1) u eu
    exact ⟨m :: ns, by rw [e1]; rfl, by rw [e2]; rfl, fun n hn => by
      rcases List.mem_cons.mp hn with rfl | hn
      · exact h1
      · exact e3 n hn⟩
  | [], _ :: _, e, _ => by cases e
  | _ :: _, [], e, _ => by cases e
section
variable {P : Program} {w : World} {K : PySem.W.Frag} {mg : Str → Option Value} {base : Heap}
noncomputable def spRbA (NT : Addr) : Sp := fun vs H Q E => ∃ l : List Nat, vs = [.str (S l)] ∧ l.length ≤ 5000 ∧ (∀ b, BgR b → l = bagL b → ∀ (a : Addr) (H' : Hp), Same H H' → BgAt H' a b → Q (.ref a) H') ∧ ((∀ b, BgR b → l ≠ bagL b) → ∀ H', Same H H' → E (.ref NT) none H')
theorem ok_rbA {NT f f1 : Addr} {fd fd1 : FuncData} {Bc newId initId : String} {bm : List Value} (F : Fun K "read_bag" "read_bag" sRb f fd) (B : Blt mg) (EB_NoText : ExcBaseFacts Bc newId initId bm) (EX_NoText : Exc K mg "NoText" NT bm newId) (D_read_number : Dn K mg "read_number" sRn ["word"] f1 fd1) (G_read_number : FnOk P w K mg base (CXe P w) 2 f1 fd1 ["word"] (spRnA NT)) : FnOk P w K mg base (CXe P w) 3 f fd ["text"] (spRbA NT) := by
  refine okE F scRb (fun vs H Q E h => ?_) (fun cdv A outer s H vs Q E hr h => ?_)
  · obtain ⟨l, rfl, _⟩ := h
    rfl
  · obtain ⟨l, rfl, ll, q, qe⟩ := h
    refine ⟨_, (pss_cons (ps_set (i := 1) scRb.nd rfl (Or.inl rfl) (pe_bm PySem.F.plainAttrs_str PySem.F.slot_str_split PySem.F.type_str_split mt_split (pv 0) (pa_cons pe_str pa_nil)))
      (pss_cons (ps_if (PW.pt (pw_or (pt_cmpR op_lt (pe_callB call_len_seq (by rfl) B.len bt_len (pa_cons (pv 1) pa_nil)) pe_int (nomark _)) (pw_or1 (pt_not (pt_val (pe_bm PySem.F.plainAttrs_str PySem.F.slot_str_endswith PySem.F.type_str_endswith mt_ends (pe_ix ix_list (pv 1) pe_int (fun _ _ => rfl)) (pa_cons pe_str pa_nil))))))) (pss_one (ps_raise EB_NoText EX_NoText rfl (pa_cons pe_str pa_nil))) pss_nil)
      (pss_cons (ps_set (i := 2) scRb.nd rfl (Or.inl rfl) (pe_callTy call_tuple_of (by rfl) B.tuple bt_tuple (pa_cons (pe_lcX (N' := ["word"]) (cs := [none]) rfl rfl (pi_list (pe_slice sl_list (pv 1) (po_some pe_int) po_none)) rfl (by decide +kernel) rfl (by decide +kernel) (sub_of (fun p hp => absurd hp (List.not_mem_nil))) rfl
        (.own .nil)
        (fun C s3 H3 fp pn => ⟨(pg_name (i := 0) (by show (["word"] : List Str).Nodup; decide +kernel) rfl (.inl rfl)), pif_nil, (pe_call G_read_number (hr.mono (by decide)) (by rfl) D_read_number.at_ D_read_number.fn.kp D_read_number.bd .nil pass_blk (pa_cons (pv 0) pa_nil))⟩)) pa_nil)))
      (pss_one (ps_ret (pe_tup (pa_cons (pe_call G_read_number (hr.mono (by decide)) (by rfl) D_read_number.at_ D_read_number.fn.kp D_read_number.bd .nil pass_on (pa_cons (pe_ix ix_list (pv 1) pe_int (fun _ _ => rfl)) pa_nil)) (pa_cons (pe_call G_read_number (hr.mono (by decide)) (by rfl) D_read_number.at_ D_read_number.fn.kp D_read_number.bd .nil pass_on (pa_cons (pe_slice sl_str (pe_ix ix_list (pv 1) pe_int (fun _ _ => rfl)) po_none (po_some (pe_un un_neg pe_int))) pa_nil)) (pa_cons (pv 2) pa_nil))))))))), ?_⟩
    have sH : Str.ofString " " = S [32] := by decide +kernel
    have sC : Str.ofString ":" = S [58] := by decide +kernel
    rw [sH, sC]
    obtain ⟨ps, esp, egl⟩ := split_is l [32] (by decide)
    obtain ⟨b1, b2⟩ := glL_bounds [32] (by decide) ps
    rw [egl] at b1 b2
    refine ⟨_, rfl, rfl, _, _, rfl, rfl, rfl, (by rw [S_len]; exact small5 ll), fun p np => ?_⟩
    rw [esp]
    have lw : ((ps.map S).map V.str).length = ps.length := by rw [List.length_map, List.length_map]
    have s1 := upd_free (o := .lst ((ps.map S).map V.str)) np
    have hp1 : upd H p (.lst ((ps.map S).map V.str)) p = some (.lst ((ps.map S).map V.str)) := upd_same
    generalize upd H p (.lst ((ps.map S).map V.str)) = H1 at s1 hp1 ⊢
    have atp : ∀ {i : Nat} {x : List Nat}, ps[i]? = some x → ((ps.map S).map V.str)[i]? = some (.str (S x)) := fun {i x} e => by rw [List.getElem?_map, List.getElem?_map, e]; rfl
    refine ⟨_, rfl, p, _, rfl, .inl (SqL.of hp1), _, _, rfl, rfl, _, rfl, ?_⟩
    rw [lw]
    by_cases h3 : ps.length < 3
    case pos =>
      refine iteB (decide_eq_true (by omega)) (iteB rfl ⟨by show 1 ≤ sizeLine; decide, qe (fun b ok e => ?_) H1 s1⟩)
      have := congrArg List.length (words_eq esp ok.ne e)
      unfold wordsB at this
      rw [List.length_cons, List.length_cons, List.length_map] at this
      have := List.length_pos_iff.mpr ok.ne
      omega
    refine iteN (decide_eq_false (by omega)) ?_
    obtain ⟨p0, e0⟩ : ∃ x, ps[0]? = some x := ⟨_, List.getElem?_eq_getElem (by omega)⟩
    obtain ⟨p1, e1⟩ : ∃ x, ps[1]? = some x := ⟨_, List.getElem?_eq_getElem (by omega)⟩
    refine ⟨_, rfl, p, _, _, _, rfl, rfl, SqL.of hp1, atI_nat (j := 1) (atp e1), rfl, _, _, rfl, rfl, _, rfl, ?_⟩
    cases en : Txt.endswith (S p1) (S [58]) with
    | false =>
      refine iteB rfl ⟨by show 1 ≤ sizeLine; decide, qe (fun b ok e => ?_) H1 s1⟩
      have z := words_eq esp ok.ne e
      rw [z] at e1
      cases e1
      have := PySem.W.KT.ends_app (S (dg b.2.1)) (S [58])
      rw [S_app, en] at this
      cases this
    | true =>
    obtain ⟨p1', rfl⟩ := ends_58 en
    refine iteF ?_
    dsimp only [tNext, tSeq, tAsg, tCB, tCons]
    have cu : cutV ((ps.map S).map V.str) (some 2) none = (ps.drop 2).map fun x => V.str (S x) := by
      unfold cutV
      have f2 : HT.sIx ((ps.map S).map V.str).length 0 (some ((2 : Nat) : Int)) = min 2 ((ps.map S).map V.str).length := HT.sIx_nat _ 0 2
      have f3 : HT.sIx ((ps.map S).map V.str).length ((ps.map S).map V.str).length none = ((ps.map S).map V.str).length := rfl
      have f4 : min 2 ((ps.map S).map V.str).length = 2 := by rw [lw]; omega
      rw [show (some (2 : Int)) = some ((2 : Nat) : Int) from rfl, f2, f3, f4, lw, List.take_of_length_le (by rw [List.length_drop, lw]; omega), List.map_map, List.map_drop]
      rfl
    have lc : ((ps.drop 2).map fun x => V.str (S x)).length = ps.length - 2 := by rw [List.length_map, List.length_drop]
    refine tlc_anyM (K := K) (Hs := H1) (F := fun i v H' => ∃ m, m < 10 ^ 10 ∧ (ps.drop 2)[i]? = some (dg m) ∧ v = .int (m : Int)) (xs := (ps.drop 2).map fun x => V.str (S x)) (rest := []) (fun R h => ⟨_, rfl, _, rfl, p, _, rfl, SqL.of hp1, fun l nl => ⟨l, rfl, ⟨_, SqL.of upd_same⟩, by rw [cu]; exact h l nl⟩⟩) rfl (by rw [lc]; have := small5 ll; show _ < sizeLine; omega) (fun i v H2 H3 _ h => h) (fun i v H2 D ys zs _ h => h) (fun i v H2 R ev sm k => ?_) (fun D H2 vs nD hD lv each sD => ?_)
    · rw [List.getElem?_map] at ev
      obtain ⟨x, ex, rfl⟩ := Option.map_eq_some_iff.mp ev
      have hx : x ∈ ps := List.mem_of_mem_drop (List.mem_of_getElem? ex)
      refine ⟨_, rfl, x, rfl, Nat.le_trans (b2 x hx) ll, fun m hm e H' s' => k _ H' s' ⟨m, hm, by rw [ex, e], rfl⟩, fun no H' s' => qe (fun b ok e => ?_) H' (s1.trans (sm.trans s'))⟩
      have z := words_eq esp ok.ne e
      rw [z] at ex
      unfold wordsB at ex
      have hm := List.mem_of_getElem? ex
      obtain ⟨n, hn, rfl⟩ := List.mem_map.mp (show x ∈ b.2.2.map dg from hm)
      exact no n (ok.n n hn) rfl
    rw [lc] at lv
    obtain ⟨ns, rfl, en2, hns⟩ := nums_of (H := H2) vs (ps.drop 2) (by rw [lv, List.length_drop]) each
    refine ⟨D, _, rfl, .inl ⟨SqL.of hD, fun c nc => ?_⟩⟩
    have s3 := upd_free (o := .tup (numV ns)) nc
    have hc3 : upd H2 c (.tup (numV ns)) c = some (.tup (numV ns)) := upd_same
    generalize upd H2 c (.tup (numV ns)) = H3 at s3 hc3 ⊢
    have s13 := sD.trans s3
    have hp3 := s13 _ _ hp1
    refine ⟨_, rfl, p, _, _, _, rfl, rfl, SqL.of hp3, atI_nat (j := 0) (atp e0), p0, rfl, Nat.le_trans (b2 p0 (List.mem_of_getElem? e0)) ll, fun m0 hm0 em0 H4 s4 => ?_, fun no H4 s4 => qe (fun b ok e => ?_) H4 (s1.trans (s13.trans s4))⟩
    rotate_left
    · have z := words_eq esp ok.ne e
      rw [z] at e0
      cases e0
      exact no _ ok.t rfl
    refine ⟨_, rfl, p, _, _, _, rfl, rfl, SqL.of (s4 _ _ hp3), atI_nat (j := 1) (atp e1), ?_⟩
    have l1 := b2 _ (List.mem_of_getElem? e1)
    refine ⟨_, rfl, _, rfl, _, rfl, (by rw [S_len]; have := small5 ll; omega), ?_⟩
    rw [show (-(1 : Int)) = -1 from rfl, cut_last]
    rw [List.length_append] at l1
    refine ⟨p1', rfl, by omega, fun m1 hm1 em1 H5 s5 => ⟨_, rfl, (by show 3 ≤ sizeLine; decide), fun t nt => ?_⟩, fun no H5 s5 => qe (fun b ok e => ?_) H5 (s1.trans (s13.trans (s4.trans s5)))⟩
    rotate_left
    · have z := words_eq esp ok.ne e
      rw [z] at e1
      have : dg b.2.1 ++ [58] = p1' ++ [58] := Option.some.inj e1
      exact no _ ok.r (List.append_cancel_right this).symm
    have s6 := upd_free (o := .tup [V.int (m0 : Int), V.int (m1 : Int), V.ref c]) nt
    have eps : ps = dg m0 :: (dg m1 ++ [58]) :: ns.map dg := by
      rw [← em0, ← em1, ← en2]
      cases ps with
      | nil => cases e0
      | cons a r =>
        cases r with
        | nil => cases e1
        | cons a' r =>
          cases e0
          cases e1
          rfl
    have nn : ns ≠ [] := fun z => by rw [eps, z] at h3; simp at h3
    refine q (m0, m1, ns) ⟨hm0, hm1, hns, nn⟩ ?_ t _ (s1.trans (s13.trans (s4.trans (s5.trans s6)))) ⟨c, upd_same, s6 _ _ (s5 _ _ (s4 _ _ hc3))⟩
    rw [bag_words (b := (m0, m1, ns)) nn, ← egl, eps]
    rfl
theorem bags_all {H : Hp} : ∀ (vs : List L2.V) (qs : List (List Nat)), vs.length = qs.length → (∀ (i : Nat) (v : L2.V), vs[i]? = some v → ∃ a b, v = V.ref a ∧ qs[i]? = some (bagL b) ∧ BgR b ∧ BgAt H a b) → ∃ (as : List Addr) (bs : List Bg), vs = refs as ∧ qs = bs.map bagL ∧ (∀ b ∈ bs, BgR b) ∧ Paired (BgAt H) as bs
  | [], [], _, _ => ⟨[], [], rfl, rfl, (fun _ h => nomatch h), .nil⟩
  | v :: vs, q :: qs, e, h => by
    obtain ⟨a, b, rfl, h2, h3, h4⟩ := h 0 v rfl
    cases h2
    obtain ⟨as, bs, e1, e2, e3, e4⟩ := bags_all vs qs (Nat.succ.inj e) fun i u eu => h (i + 1) u eu
    exact ⟨a :: as, b :: bs, by rw [e1]; rfl, by rw [e2]; rfl, fun n hn => by
      rcases List.mem_cons.mp hn with rfl | hn
      · exact h3
      · exact e3 n hn, .cons h4 e4⟩
  | [], _ :: _, e, _ => by cases e
  | _ :: _, [], e, _ => by cases e
theorem parts_eq {l : List Nat} {ps : List (List Nat)} (hs : Txt.split (S l) (S [59, 32]) = ps.map S) {bs : List Bg} (ne : bs ≠ []) (ok : ∀ b ∈ bs, BgR b) (e : l = planL bs) : ps = bs.map bagL := by
  rw [e, split_plan ne fun b hb => (ok b hb).ne] at hs
  have := congrArg (List.map fun w : Str => w.cps.toList) hs
  rw [List.map_map, List.map_map (l := ps)] at this
  exact ((List.map_id _).symm.trans this.symm).trans (List.map_id _)
noncomputable def spRpA (NT : Addr) : Sp := fun vs H Q E => ∃ l : List Nat, vs = [.str (S l)] ∧ l.length ≤ 5000 ∧ (∀ bs, (∀ b ∈ bs, BgR b) → l = planL bs → ∀ (p : Addr) (H' : Hp) (as : List Addr), H p = none → Same H H' → H' p = some (.lst (refs as)) → Paired (BgAt H') as bs → Q (.ref p) H') ∧ ((∀ bs, (∀ b ∈ bs, BgR b) → l ≠ planL bs) → ∀ H', Same H H' → E (.ref NT) none H')
theorem ok_rpA {NT f f1 : Addr} {fd fd1 : FuncData} (F : Fun K "read_plan" "read_plan" sRp f fd) (D_read_bag : Dn K mg "read_bag" sRb ["text"] f1 fd1) (G_read_bag : FnOk P w K mg base (CXe P w) 3 f1 fd1 ["text"] (spRbA NT)) : FnOk P w K mg base (CXe P w) 4 f fd ["text"] (spRpA NT) := by
  refine okE F scRp (fun vs H Q E h => ?_) (fun cdv A outer s H vs Q E hr h => ?_)
  · obtain ⟨l, rfl, _⟩ := h
    rfl
  · obtain ⟨l, rfl, ll, q, qe⟩ := h
    refine ⟨_, (pss_cons (ps_if (pt_cmpR op_eq (pv 0) pe_str (nomark _)) (pss_one (ps_ret (pe_lst pa_nil))) pss_nil)
      (pss_one (ps_ret (pe_lcX (N' := ["part"]) (cs := [none]) rfl rfl (pi_list (pe_bm PySem.F.plainAttrs_str PySem.F.slot_str_split PySem.F.type_str_split mt_split (pv 0) (pa_cons pe_str pa_nil))) rfl (by decide +kernel) rfl (by decide +kernel) (sub_of (fun p hp => absurd hp (List.not_mem_nil))) rfl
        (.own .nil)
        (fun C s3 H3 fp pn => ⟨(pg_name (i := 0) (by show (["part"] : List Str).Nodup; decide +kernel) rfl (.inl rfl)), pif_nil, (pe_call G_read_bag (hr.mono (by decide)) (by rfl) D_read_bag.at_ D_read_bag.fn.kp D_read_bag.bd .nil pass_blk (pa_cons (pv 0) pa_nil))⟩))))), ?_⟩
    have sH : Str.ofString "; " = S [59, 32] := by decide +kernel
    have s0 : Str.ofString "" = S [] := by decide +kernel
    rw [sH, s0]
    by_cases hb : l = []
    · subst hb
      refine ⟨_, rfl, rfl, _, rfl, iteB (decide_eq_true rfl) ⟨(by show 0 ≤ sizeLine; decide), fun p np => q [] (fun _ h => nomatch h) rfl p _ [] np (upd_free np) upd_same .nil⟩⟩
    · refine ⟨_, rfl, rfl, _, rfl, iteN (decide_eq_false fun z => hb (S_inj (V.str.inj z))) ?_⟩
      obtain ⟨ps, esp, egl⟩ := split_is l [59, 32] (by decide)
      obtain ⟨b1, b2⟩ := glL_bounds [59, 32] (by decide) ps
      rw [egl] at b1 b2
      have nb : ∀ bs, l = planL bs → bs ≠ [] := fun bs e z => hb (by rw [e, z]; rfl)
      have lx : (ps.map fun x => V.str (S x)).length = ps.length := List.length_map _
      dsimp only [tNext, tRet]
      refine tlc_anyM (K := K) (Hs := H) (F := fun i v H' => ∃ a b, v = .ref a ∧ ps[i]? = some (bagL b) ∧ BgR b ∧ BgAt H' a b) (xs := ps.map fun x => V.str (S x)) (rest := []) (fun R h => ⟨_, rfl, rfl, _, _, rfl, rfl, rfl, (by rw [S_len]; exact small5 ll), fun l nl => ⟨l, rfl, ⟨_, SqL.of upd_same⟩, by rw [esp, List.map_map]; exact h l nl⟩⟩) rfl (by rw [lx]; have := small5 ll; show _ < sizeLine; omega) ?_ ?_ (fun i v H2 R ev sm k => ?_) (fun D H2 vs nD hD lv each sD => ?_)
      · rintro i v H2 H3 s3 ⟨a, b, rfl, e, o, h⟩
        exact ⟨a, b, rfl, e, o, h.same s3⟩
      · rintro i v H2 D ys zs hD ⟨a, b, rfl, e, o, c, h1, h2⟩
        exact ⟨a, b, rfl, e, o, c, by rw [upd_ne (ne_of h1 hD (by intro z; cases z))]; exact h1, by rw [upd_ne (ne_of h2 hD (by intro z; cases z))]; exact h2⟩
      · rw [List.getElem?_map] at ev
        obtain ⟨x, ex, rfl⟩ := Option.map_eq_some_iff.mp ev
        have hx := List.mem_of_getElem? ex
        refine ⟨_, rfl, x, rfl, Nat.le_trans (b2 x hx) ll, fun b ok e a H' s' ha => k _ H' s' ⟨a, b, rfl, by rw [ex, e], ok, ha⟩, fun no H' s' => qe (fun bs ok e => ?_) H' (sm.trans s')⟩
        rw [parts_eq esp (nb bs e) ok e] at hx
        obtain ⟨b, hb', rfl⟩ := List.mem_map.mp hx
        exact no b (ok b hb') rfl
      · rw [lx] at lv
        obtain ⟨as, bs, rfl, e2, e3, e4⟩ := bags_all vs ps lv each
        exact q bs e3 (by rw [← egl, e2]; rfl) D H2 as nD sD hD e4
end
end K1
set_option Elab.async false
set_option linter.all false
set_option maxRecDepth 100000
set_option maxHeartbeats 4000000
namespace L3
open PySem PySem.Spec PyProof.Rows L2
section
variable {X : Cx}
end
end L3
set_option Elab.async false
set_option linter.all false
set_option maxRecDepth 100000
set_option maxHeartbeats 4000000
namespace L3
open PySem PySem.Spec PyProof.Rows L2
theorem kit_none {K : PySem.W.Frag} {C : Addr} (hc : PySem.W.isClsIn K C = true) (ht : PySem.W.typeIn K (.ref C) = some (.type "type")) : PySem.W.kitOne K (.type "NoneType") (.ref C) = some false := by
  unfold PySem.W.kitOne
  rw [if_neg (by simp)]
  unfold PySem.W.kitCls
  have h1 : (PySem.W.clsIn K C).isSome = true := hc
  have h2 : (PySem.W.typeIn K (.ref C) == some (.type "type")) = true := by rw [ht]; decide
  show (if ((PySem.W.clsIn K C).isSome && PySem.W.typeIn K (.ref C) == some (.type "type")) = true then _ else _) = _
  rw [h1, h2]
  refine (if_pos rfl).trans ?_
  rfl
theorem kitAny_none {K : PySem.W.Frag} : ∀ os : List Addr, (∀ C ∈ os, PySem.W.kitOne K (.type "NoneType") (.ref C) = some false) → PySem.W.kitAny K (.type "NoneType") (os.map Value.ref) = some false
  | [], _ => rfl
  | C :: r, h => by
    rw [List.map_cons]
    unfold PySem.W.kitAny
    rw [h C (.head _)]
    exact kitAny_none r fun D hD => h D (.tail _ hD)
section
variable {X : Cx}
theorem pa_str {x : Str} {j : Nat} {pos : Pos} {es : List Expr} {t : TA} (h : PA X es t) : PA X (.Constant (.str x) j pos :: es) (tCons (tC (.str x)) t) := pa_cons pe_str h rfl
noncomputable def isStrs : List Expr → Bool
  | [] => true
  | .Constant (.str _) _ _ :: es => isStrs es
  | _ => false
noncomputable def strL : List Expr → List Str
  | .Constant (.str x) _ _ :: es => x :: strL es
  | _ => []
noncomputable def tStrs (es : List Expr) : TA := fun _ H Q => Q ((strL es).map V.str) H
theorem pa_strs : ∀ {es : List Expr}, isStrs es = true → PA X es (tStrs es)
  | [], _ => pa_nil
  | .Constant (.str x) j pos :: es, h => fun p pins s σ H Q I q => pa_str (x := x) (j := j) (pos := pos) (t := tStrs es) (pa_strs (es := es) h) p pins s σ H Q I q
theorem call_isiTM : CallR X (.builtin "isinstance") (fun xs H Q => (∃ (ea C p : Addr) (cs : List Addr) (b : Bool), xs = [.ref ea, .ref p] ∧ H ea = some (excO ea C) ∧ H p = some (.tup (cs.map V.ref)) ∧ ExcC X.K C ∧ PySem.W.kitAny X.K (.ref C) (cs.map Value.ref) = some b ∧ Q (.bl b) H) ∨
    ∃ (p : Addr) (cs : List Addr) (b : Bool), xs = [.non, .ref p] ∧ H p = some (.tup (cs.map V.ref)) ∧ PySem.W.kitAny X.K (.type "NoneType") (cs.map Value.ref) = some b ∧ Q (.bl b) H) := by
  intro pins s σ H xs us Q I r h
  rcases h with h | h
  · exact call_isiT pins s σ H xs us Q I r h
  · obtain ⟨p, cs, b, rfl, hp, ka, q⟩ := h
    obtain ⟨u, w', rfl, ru, rw'⟩ := vals2 r
    cases ru
    cases rw'
    obtain ⟨zl, its, rv, ⟨oc, od, odt, osl⟩, ho, hc, n, hd⟩ := (show ObjOk X.prog X.w H s.heap p (.tup (cs.map V.ref)) from I.hok p _ hp)
    simp only at hc hd
    subst hc hd
    have ei : its = cs.map Value.ref := by
      clear ho hp ka zl
      induction cs generalizing its with
      | nil => cases rv; rfl
      | cons c' r' ih =>
        cases rv with
        | cons r1 r2 =>
          cases r1
          rw [ih _ r2]
          rfl
    rw [ei] at ho
    exact PySem.W.kia_tup PySem.W.kitx_none I.kIn True.intro ho ka (fun z => nomatch z) fun tk => ⟨.bl b, H, I.tok tk, rfl, q⟩
theorem call_isiNM : CallR X (.builtin "isinstance") (fun xs H Q => (∃ (ea C : Addr) (b : Bool), H ea = some (excO ea C) ∧ ExcC X.K C ∧ ((∃ R, xs = [.ref ea, .ref R] ∧ PySem.W.kitOne X.K (.ref C) (.ref R) = some b) ∨ ∃ T, xs = [.ref ea, .ty T] ∧ PySem.W.kitOne X.K (.ref C) (.type T) = some b) ∧ Q (.bl b) H) ∨
    ∃ (R : Addr) (b : Bool), xs = [.non, .ref R] ∧ PySem.W.kitOne X.K (.type "NoneType") (.ref R) = some b ∧ Q (.bl b) H) := by
  intro pins s σ H xs us Q I r h
  rcases h with h | h
  · exact call_isiN pins s σ H xs us Q I r h
  · obtain ⟨R, b, rfl, ka, q⟩ := h
    obtain ⟨u, w', rfl, ru, rw'⟩ := vals2 r
    cases ru
    cases rw'
    exact PySem.W.kia_one PySem.W.kitx_none I.kIn True.intro ka (fun z => nomatch z) fun tk => ⟨.bl b, H, I.tok tk, rfl, q⟩
end
end L3
set_option Elab.async false
set_option linter.all false
set_option maxRecDepth 100000
set_option maxHeartbeats 4000000
namespace K1
open PySem L2 L3
noncomputable def Rdb (l : List Nat) : Prop := ∃ bs, (∀ b ∈ bs, BgR b) ∧ l = planL bs
section
variable {P : Program} {w : World} {K : PySem.W.Frag} {mg : Str → Option Value} {base : Heap}
structure RefT (K : PySem.W.Frag) (RE NT : Addr) (os : List Addr) : Prop where
  re : excSub K RE RE = true
  nr : excSub K NT RE = true
  is : PySem.W.kitOne K (.ref NT) (.ref NT) = some true
  ve : PySem.W.kitOne K (.ref NT) (.type "ValueError") = some true
  ec : ExcC K NT
  no : PySem.W.kitAny K (.ref NT) (os.map Value.ref) = some false
  nn : ∀ C ∈ NT :: os, PySem.W.kitOne K (.type "NoneType") (.ref C) = some false
noncomputable def spKp (NT : Addr) : Sp := fun vs H Q _ => ∃ l : List Nat, vs = [.str (S l)] ∧ l.length ≤ 5000 ∧ (Rdb l → ∀ H', Same H H' → Q .non H') ∧ (¬ Rdb l → ∀ (ea : Addr) (H' : Hp), Same H H' → H' ea = some (excO ea NT) → Q (.ref ea) H')
noncomputable abbrev sKp : Stmt := top 25
theorem scKp : FnScope ["_law_text", "_law_kept_here", "e"] ["_law_text"] (defScope sKp) := ⟨rfl, rfl, rfl, by decide +kernel, rfl, by decide +kernel, by decide +kernel⟩
theorem ok_kp {RE NT f f1 : Addr} {fd fd1 : FuncData} {os : List Addr} (F : Fun K "_law_kept" "_law_kept" sKp f fd) (RC : RefT K RE NT os) (at_RoadError : mg "RoadError" = some (.ref RE))
    (D_read_plan : Dn K mg "read_plan" sRp ["text"] f1 fd1) (G_read_plan : FnOk P w K mg base (CXe P w) 4 f1 fd1 ["text"] (spRpA NT)) : FnOk P w K mg base CX0 5 f fd ["_law_text"] (spKp NT) := by
  refine F.ok scKp (fun vs H Q E h => ?_) (fun cdv A outer s H vs Q E hr h => ?_)
  · obtain ⟨l, rfl, _⟩ := h
    rfl
  · obtain ⟨l, rfl, ll, q, qe⟩ := h
    have hR_RoadError := RC.re
    refine ⟨_, (pss_cons (ps_set (i := 1) scKp.nd rfl (Or.inl rfl) pe_non)
      (pss_cons (ps_try (i := 2) rfl rfl (psxs_one (psx_expr (px_call G_read_plan (hr.mono (by decide)) (by rfl) D_read_plan.at_ D_read_plan.fn.kp D_read_plan.bd (pa_cons (pv 0) pa_nil)))) scKp.nd rfl rfl rfl at_RoadError hR_RoadError (fun ea => (pss_one (ps_set (i := 1) scKp.nd rfl (Or.inl rfl) (pv 2)))))
      (pss_one (ps_ret (pv 1))))), ?_⟩
    refine ⟨_, rfl, l, rfl, ll, fun bs ok e p H' as np s' hp bags => ?_, fun no H' s' => ⟨NT, rfl, RC.nr, fun ea hea => ?_⟩⟩
    · exact ⟨_, rfl, q ⟨bs, ok, e⟩ H' s'⟩
    · exact ⟨_, rfl, _, rfl, qe (fun ⟨bs, ok, e⟩ => no bs ok e) ea _ (s'.trans (upd_free hea)) upd_same⟩
noncomputable def spRf : Sp := fun vs H Q _ => ∃ l : List Nat, vs = [.str (S l)] ∧ l.length ≤ 5000 ∧ (Rdb l → ∀ H', Same H H' → Q (.bl false) H') ∧ (¬ Rdb l → ∀ H', Same H H' → Q (.bl true) H')
noncomputable abbrev sRf : Stmt := top 26
theorem scRf : FnScope ["_law_text", "_law_kept_here"] ["_law_text"] (defScope sRf) := ⟨rfl, rfl, rfl, by decide +kernel, rfl, by decide +kernel, by decide +kernel⟩
theorem ok_rf {RE NT f fk c1 c2 c3 c4 c5 c6 c7 c8 c9 c10 : Addr} {fd fdk : FuncData} (F : Fun K "_law_refused" "_law_refused" sRf f fd) (B : Blt mg) (RC : RefT K RE NT [c1, c2, c3, c4, c5, c6, c7, c8, c9, c10])
    (at_NoText : mg "NoText" = some (.ref NT)) (at_BadBag : mg "BadBag" = some (.ref c1)) (at_CutOff : mg "CutOff" = some (.ref c2)) (at_ManyGoals : mg "ManyGoals" = some (.ref c3)) (at_NoDay : mg "NoDay" = some (.ref c4)) (at_NoHouse : mg "NoHouse" = some (.ref c5))
    (at_NoLetter : mg "NoLetter" = some (.ref c6)) (at_NoNet : mg "NoNet" = some (.ref c7)) (at_NoRoad : mg "NoRoad" = some (.ref c8)) (at_NoRow : mg "NoRow" = some (.ref c9)) (at_NoWay : mg "NoWay" = some (.ref c10))
    (D__law_kept : Dn K mg "_law_kept" sKp ["_law_text"] fk fdk) (G__law_kept : FnOk P w K mg base CX0 5 fk fdk ["_law_text"] (spKp NT)) : FnOk P w K mg base CX0 6 f fd ["_law_text"] spRf := by
  refine F.ok scRf (fun vs H Q E h => ?_) (fun cdv A outer s H vs Q E hr h => ?_)
  · obtain ⟨l, rfl, _⟩ := h
    rfl
  · obtain ⟨l, rfl, ll, q, qe⟩ := h
    refine ⟨_, (pss_cons (ps_set (i := 1) scRf.nd rfl (Or.inl rfl) (pe_call G__law_kept (hr.mono (by decide)) (by rfl) D__law_kept.at_ D__law_kept.fn.kp D__law_kept.bd .nil pass0 (pa_cons (pv 0) pa_nil)))
      (pss_cons (ps_if (pt_val (pe_callB call_isiTM (by rfl) B.isinstance bt_isinstance (pa_cons (pv 1) (pa_cons (pe_tup (pa_cons (pe_cls (by rfl) at_BadBag) (pa_cons (pe_cls (by rfl) at_CutOff) (pa_cons (pe_cls (by rfl) at_ManyGoals) (pa_cons (pe_cls (by rfl) at_NoDay) (pa_cons (pe_cls (by rfl) at_NoHouse) (pa_cons (pe_cls (by rfl) at_NoLetter) (pa_cons (pe_cls (by rfl) at_NoNet) (pa_cons (pe_cls (by rfl) at_NoRoad) (pa_cons (pe_cls (by rfl) at_NoRow) (pa_cons (pe_cls (by rfl) at_NoWay) pa_nil))))))))))) pa_nil)))) (pss_one (ps_ret pe_bl)) pss_nil)
      (pss_one (ps_ret (pe_and (pe_callB call_isiNM (by rfl) B.isinstance bt_isinstance (pa_cons (pv 1) (pa_cons (pe_cls (by rfl) at_NoText) pa_nil))) (pe_one (pe_callB call_isiNM (by rfl) B.isinstance bt_isinstance (pa_cons (pv 1) (pa_cons (pe_bty (by rfl) B.ValueError bt_ValueError) pa_nil))))))))), ?_⟩
    refine ⟨_, rfl, l, rfl, ll, fun rd H' s' => ?_, fun no ea H' s' hea => ?_⟩
    · refine ⟨_, rfl, (by show 10 ≤ sizeLine; decide), fun p hp => ?_⟩
      have s2 := upd_free (o := .tup [V.ref c1, V.ref c2, V.ref c3, V.ref c4, V.ref c5, V.ref c6, V.ref c7, V.ref c8, V.ref c9, V.ref c10]) hp
      refine .inr ⟨p, _, false, rfl, upd_same, kitAny_none _ fun C hC => RC.nn C (.tail _ hC), _, rfl, iteF ?_⟩
      exact ⟨_, rfl, .inr ⟨_, false, rfl, RC.nn NT (.head _), _, rfl, iteF (q rd _ (s'.trans s2))⟩⟩
    · refine ⟨_, rfl, (by show 10 ≤ sizeLine; decide), fun p hp => ?_⟩
      have s2 := upd_free (o := .tup [V.ref c1, V.ref c2, V.ref c3, V.ref c4, V.ref c5, V.ref c6, V.ref c7, V.ref c8, V.ref c9, V.ref c10]) hp
      have he2 := s2 _ _ hea
      refine .inl ⟨ea, NT, p, _, false, rfl, he2, upd_same, RC.ec, RC.no, _, rfl, iteF ?_⟩
      exact ⟨_, rfl, .inl ⟨ea, NT, true, he2, RC.ec, .inl ⟨_, rfl, RC.is⟩, _, rfl, iteT ⟨_, rfl, .inl ⟨ea, NT, true, he2, RC.ec, .inr ⟨_, rfl, RC.ve⟩, qe no _ (s'.trans s2)⟩⟩⟩⟩
end
end K1
set_option Elab.async false
set_option linter.all false
set_option maxRecDepth 100000
set_option maxHeartbeats 4000000
namespace K1
open PySem L2 L3
noncomputable def stp (s : Nat × Nat) (c : Nat) : Nat × Nat :=
  if 48 ≤ c ∧ c ≤ 57 then (if s.1 = 0 ∨ s.1 = 2 ∨ s.1 = 5 then (s.1 + 1, if c = 48 then 11 else 1) else if (s.1 = 1 ∨ s.1 = 3 ∨ s.1 = 6) ∧ s.2 < 10 then (s.1, s.2 + 1) else (9, 0))
  else if c = 32 then (if s.1 = 1 then (2, 0) else if s.1 = 4 ∨ s.1 = 6 then (5, 0) else if s.1 = 7 then (0, 0) else (9, 0))
  else if c = 58 ∧ s.1 = 3 then (4, 0) else if c = 59 ∧ s.1 = 6 then (7, 0) else (9, 0)
noncomputable def rnS (s : Nat × Nat) (l : List Nat) : Nat × Nat := l.foldl stp s
theorem rnS_app (s : Nat × Nat) (a b : List Nat) : rnS s (a ++ b) = rnS (rnS s a) b := List.foldl_append
theorem stp_dead (k c : Nat) : stp (9, k) c = (9, 0) := by
  unfold stp
  simp
theorem rnS_dead : ∀ (l : List Nat), rnS (9, 0) l = (9, 0)
  | [] => rfl
  | c :: l => by
    show rnS (stp (9, 0) c) l = _
    rw [stp_dead]
    exact rnS_dead l
theorem rnS_figs {q : Nat} (hq : q = 1 ∨ q = 3 ∨ q = 6) : ∀ (l : List Nat) (k : Nat), (∀ c ∈ l, 48 ≤ c ∧ c ≤ 57) → k + l.length ≤ 10 → rnS (q, k) l = (q, k + l.length)
  | [], k, _, _ => rfl
  | c :: l, k, h, hk => by
    rw [List.length_cons] at hk
    have hc := h c (.head _)
    have e : stp (q, k) c = (q, k + 1) := by
      unfold stp
      rw [if_pos hc, if_neg (by show ¬ (q = 0 ∨ q = 2 ∨ q = 5); omega), if_pos ⟨hq, by show k < 10; omega⟩]
    show rnS (stp (q, k) c) l = _
    rw [e, rnS_figs hq l (k + 1) (fun x hx => h x (.tail _ hx)) (by omega), List.length_cons]
    congr 1
    omega
theorem rnS_num {p m : Nat} (hp : p = 0 ∨ p = 2 ∨ p = 5) (hm : m < 10 ^ 10) : ∃ k, rnS (p, 0) (dg m) = (p + 1, k) := by
  have l1 := dg_len hm
  cases e : dg m with
  | nil => exact absurd e (dg_ne m)
  | cons d r =>
    have hd : 48 ≤ d ∧ d ≤ 57 := dg_fig (m := m) (by rw [e]; exact .head _)
    have e1 : stp (p, 0) d = (p + 1, if d = 48 then 11 else 1) := by
      unfold stp
      rw [if_pos hd, if_pos (by exact hp)]
    show ∃ k, rnS (stp (p, 0) d) r = _
    rw [e1]
    by_cases z : d = 48
    · subst z
      have h0 := dg_head m r e
      rw [h0, dg_zero] at e
      cases e
      exact ⟨_, rfl⟩
    · rw [if_neg z, rnS_figs (by omega) r 1 (fun c hc => dg_fig (m := m) (by rw [e]; exact .tail _ hc)) (by rw [e, List.length_cons] at l1; omega)]
      exact ⟨_, rfl⟩
theorem rnS_lets : ∀ (ns : List Nat), ns ≠ [] → (∀ n ∈ ns, n < 10 ^ 10) → ∃ k, rnS (5, 0) (glL [32] (ns.map dg)) = (6, k)
  | [], h, _ => absurd rfl h
  | [n], _, h => rnS_num (by omega) (h n (.head _))
  | n :: n2 :: r, _, h => by
    show ∃ k, rnS (5, 0) (dg n ++ [32] ++ glL [32] ((n2 :: r).map dg)) = _
    obtain ⟨k, e⟩ := rnS_num (p := 5) (by omega) (h n (.head _))
    rw [rnS_app, rnS_app, e]
    exact rnS_lets (n2 :: r) (by simp) fun x hx => h x (.tail _ hx)
end K1
set_option Elab.async false
set_option linter.all false
set_option maxRecDepth 100000
set_option maxHeartbeats 4000000
namespace K1
open PySem L2 L3
theorem rnS_bag {b : Bg} (ok : BgR b) : ∃ k, rnS (0, 0) (bagL b) = (6, k) := by
  obtain ⟨k1, e1⟩ := rnS_num (p := 0) (by omega) ok.t
  obtain ⟨k2, e2⟩ := rnS_num (p := 2) (by omega) ok.r
  unfold bagL
  rw [rnS_app, rnS_app, rnS_app, rnS_app, e1]
  show ∃ k, rnS (rnS (rnS (2, 0) (dg b.2.1)) [58, 32]) _ = _
  rw [e2]
  exact rnS_lets _ ok.ne ok.n
theorem rnS_plan : ∀ bs : List Bg, bs ≠ [] → (∀ b ∈ bs, BgR b) → ∃ k, rnS (0, 0) (planL bs) = (6, k)
  | [], h, _ => absurd rfl h
  | [b], _, h => rnS_bag (h b (.head _))
  | b :: b2 :: r, _, h => by
    show ∃ k, rnS (0, 0) (bagL b ++ [59, 32] ++ planL (b2 :: r)) = _
    obtain ⟨k, e⟩ := rnS_bag (h b (.head _))
    rw [rnS_app, rnS_app, e]
    exact rnS_plan (b2 :: r) (by simp) fun x hx => h x (.tail _ hx)
theorem rdb_run {l : List Nat} (h : Rdb l) (ne : l ≠ []) : ∃ k, rnS (0, 0) l = (6, k) := by
  obtain ⟨bs, ok, e⟩ := h
  rw [e]
  refine rnS_plan bs (fun z => ne ?_) ok
  rw [e, z]
  rfl
noncomputable def oddS : List Str := [
Str.ofString " ", Str.ofString "3", Str.ofString "3 0", Str.ofString "3 0:", Str.ofString "3 0: ", Str.ofString "3 0:1", Str.ofString "3 0 : 1", Str.ofString "3  0: 1", Str.ofString " 3 0: 1", Str.ofString "3 0: 1 ", Str.ofString "3 0:  1", Str.ofString "3: 1", Str.ofString "3 0 1: 1", Str.ofString "30: 1", Str.ofString "-3 0: 1", Str.ofString "+3 0: 1", Str.ofString "3 -0: 1", Str.ofString "03 0: 1", Str.ofString "3 00: 1", Str.ofString "3 0: 01", Str.ofString "3 0: 1  2", Str.ofString "3 0: -1", Str.ofString "12345678901 0: 1", Str.ofString "3 12345678901: 1", Str.ofString "3 0: 12345678901", Str.ofString "a 0: 1", Str.ofString "3 b: 1", Str.ofString "3 0: c", Str.ofString "3 0: 1,2", Str.ofString "3 0: 1;", Str.ofString "3 0: 1; ", Str.ofString "; 3 0: 1", Str.ofString "3 0: 1;4 0: 1", Str.ofString "3 0: 1 ; 4 0: 1", Str.ofString "3 0: 1; ; 4 0: 1", Str.ofString "3 0:: 1", Str.ofString "3 0: 1\n", Str.ofString "\n3 0: 1", Str.ofString "3 0:\n1", Str.ofString "3.0 0: 1", Str.ofString "3_0 0: 1", Str.ofString "3 0: 1_0", Str.ofString ": 1", Str.ofString " : 1", Str.ofString ";", Str.ofString "; ", Str.ofString "3 0: 1:", Str.ofString "3 0: 1; 4", Str.ofString "3 0: 1; 4 0:", Str.ofString "3,0: 1", Str.ofString "(3, 0, (1,))", Str.ofString "3 0: x1", Str.ofString "3 0: 1x"]
theorem odd_is : ∀ x ∈ oddS, x.cps.toList ≠ [] ∧ (rnS (0, 0) x.cps.toList).1 ≠ 6 ∧ rnS (0, 0) (x.cps.toList ++ [59, 32]) = (9, 0) ∧ x.cps.toList.length ≤ 30 := by decide +kernel
section
variable {P : Program} {w : World} {K : PySem.W.Frag} {mg : Str → Option Value} {base : Heap}
noncomputable def spOdd : Sp := fun vs H Q _ => ∃ c : Int, vs = [.int c] ∧ ∀ x ∈ oddS, ∀ H', Same H H' → Q (.str x) H'
noncomputable abbrev sOdd : Stmt := top 23
theorem scOdd : FnScope ["_law_cell", "_law_some"] ["_law_cell"] (defScope sOdd) := ⟨rfl, rfl, rfl, by decide +kernel, rfl, by decide +kernel, by decide +kernel⟩
theorem cat_step {rest : TS} {D : Ends} {c : Int} {l : Addr} {A : List Str} {es : List Expr} {H : Hp} (hl : H l = some (.lst (A.map V.str))) (few : A.length ≤ 500) (fe : (strL es).length ≤ 100) (h : ∀ (l' : Addr) (H' : Hp), Same H H' → H' l' = some (.lst ((A ++ strL es).map V.str)) → rest D [some (.int c), some (.ref l')] H') :
    tSeq (tAsg (tOp rCat (tVar 1) (tLst (tStrs es))) (gName 1)) rest D [some (.int c), some (.ref l)] H := by
  have z : ∀ {n : Nat}, n ≤ 1000 → n ≤ sizeLine := fun h => Nat.le_of_lt (small1000 h)
  refine ⟨_, rfl, (by rw [List.length_map]; exact z (by omega)), fun q nq => ?_⟩
  have s1 := upd_free (o := .lst ((strL es).map V.str)) nq
  refine ⟨l, q, _, _, rfl, rfl, s1 _ _ hl, upd_same, (by rw [List.length_map, List.length_map]; exact z (by omega)), fun p np => ?_⟩
  refine h p _ (s1.trans (upd_free np)) ?_
  rw [upd_same, List.map_append]
theorem odd_at (c : Int) : ∃ x ∈ oddS, L2.atI (oddS.map V.str) (c % (oddS.length : Int)) = some (.str x) := by
  have h0 : 0 ≤ c % (oddS.length : Int) := Int.emod_nonneg _ (by decide +kernel)
  have h1 : c % (oddS.length : Int) < (oddS.length : Int) := Int.emod_lt_of_pos _ (by decide +kernel)
  obtain ⟨k, hk⟩ : ∃ k : Nat, c % (oddS.length : Int) = (k : Int) := ⟨(c % (oddS.length : Int)).toNat, by omega⟩
  rw [hk] at h1 ⊢
  have kl : k < oddS.length := by omega
  exact ⟨oddS[k], List.getElem_mem kl, atI_nat (by rw [List.getElem?_map, List.getElem?_eq_getElem kl]; rfl)⟩
seal PA PE PS PSs
theorem ok_odd {f : Addr} {fd : FuncData} (F : Fun K "_law_odd" "_law_odd" sOdd f fd) (B : Blt mg) : FnOk P w K mg base CX0 1 f fd ["_law_cell"] spOdd := by
  refine F.ok scOdd (fun vs H Q E h => ?_) (fun cdv A outer s H vs Q E hr h => ?_)
  · obtain ⟨c, rfl, _⟩ := h
    rfl
  · obtain ⟨c, rfl, q⟩ := h
    refine ⟨_, (pss_cons (ps_set (i := 1) scOdd.nd rfl (Or.inl rfl) (pe_lst (pa_strs (by rfl))))
      (pss_cons (ps_set (i := 1) scOdd.nd rfl (Or.inl rfl) (pe_op op_cat (pv 1) (pe_lst (pa_strs (by rfl)))))
      (pss_cons (ps_set (i := 1) scOdd.nd rfl (Or.inl rfl) (pe_op op_cat (pv 1) (pe_lst (pa_strs (by rfl)))))
      (pss_cons (ps_set (i := 1) scOdd.nd rfl (Or.inl rfl) (pe_op op_cat (pv 1) (pe_lst (pa_strs (by rfl)))))
      (pss_cons (ps_set (i := 1) scOdd.nd rfl (Or.inl rfl) (pe_op op_cat (pv 1) (pe_lst (pa_strs (by rfl)))))
      (pss_cons (ps_set (i := 1) scOdd.nd rfl (Or.inl rfl) (pe_op op_cat (pv 1) (pe_lst (pa_strs (by rfl)))))
      (pss_cons (ps_set (i := 1) scOdd.nd rfl (Or.inl rfl) (pe_op op_cat (pv 1) (pe_lst (pa_strs (by rfl)))))
      (pss_cons (ps_set (i := 1) scOdd.nd rfl (Or.inl rfl) (pe_op op_cat (pv 1) (pe_lst (pa_strs (by rfl)))))
      (pss_one (ps_ret (pe_ix ix_list (pv 1) (pe_op op_mod (pv 0) (pe_callB call_len_seq (by rfl) B.len bt_len (pa_cons (pv 1) pa_nil))) (fun _ _ => rfl)))))))))))), ?_⟩
    refine ⟨(by decide +kernel), fun p0 n0 => ?_⟩
    refine cat_step upd_same (by decide +kernel) (by decide +kernel) fun l1 H1 s1 h1 => ?_
    refine cat_step h1 (by decide +kernel) (by decide +kernel) fun l2 H2 s2 h2 => ?_
    refine cat_step h2 (by decide +kernel) (by decide +kernel) fun l3 H3 s3 h3 => ?_
    refine cat_step h3 (by decide +kernel) (by decide +kernel) fun l4 H4 s4 h4 => ?_
    refine cat_step h4 (by decide +kernel) (by decide +kernel) fun l5 H5 s5 h5 => ?_
    refine cat_step h5 (by decide +kernel) (by decide +kernel) fun l6 H6 s6 h6 => ?_
    refine cat_step h6 (by decide +kernel) (by decide +kernel) fun l7 H7 s7 h7 => ?_
    have h7 : H7 l7 = some (.lst (oddS.map V.str)) := h7
    obtain ⟨x, hx, ex⟩ := odd_at c
    have lo : ((oddS.map V.str).length : Int) = (oddS.length : Int) := by rw [List.length_map]
    refine ⟨_, rfl, _, rfl, _, rfl, l7, _, rfl, .inl (SqL.of h7), _, _, rfl, rfl, (by rw [lo]; show (0 : Int) < (oddS.length : Int); decide +kernel), l7, _, _, _, rfl, rfl, SqL.of h7, (by rw [lo]; exact ex), q x hx H7 ?_⟩
    exact (upd_free n0).trans (s1.trans (s2.trans (s3.trans (s4.trans (s5.trans (s6.trans s7))))))
unseal PA PE PS PSs
theorem slen {a b : List Nat} (h : a.length + b.length ≤ 5000) : (S a).length + (S b).length ≤ sizeLine := by
  rw [S_len, S_len]
  exact Nat.le_trans (by omega) (small5 h)
noncomputable def plcL (x t : List Nat) (k : Int) : List Nat := if k = 0 then x else if k = 1 then x ++ [59, 32] ++ t else if k = 2 then t ++ [59, 32] ++ x else t ++ [59, 32] ++ x ++ [59, 32] ++ t
noncomputable def spPl : Sp := fun vs H Q _ => ∃ (x t : List Nat) (k : Int), vs = [.str (S x), .str (S t), .int k] ∧ x.length ≤ 1000 ∧ t.length ≤ 1000 ∧ t ≠ [] ∧ ∀ H', Same H H' → Q (.str (S (plcL x t k))) H'
noncomputable abbrev sPl : Stmt := top 24
theorem scPl : FnScope ["_law_odd_here", "_law_text", "_law_way"] ["_law_odd_here", "_law_text", "_law_way"] (defScope sPl) := ⟨rfl, rfl, rfl, by decide +kernel, rfl, by decide +kernel, by decide +kernel⟩
theorem ok_pl {f : Addr} {fd : FuncData} (F : Fun K "_law_placed" "_law_placed" sPl f fd) : FnOk P w K mg base CX0 1 f fd ["_law_odd_here", "_law_text", "_law_way"] spPl := by
  refine F.ok scPl (fun vs H Q E h => ?_) (fun cdv A outer s H vs Q E hr h => ?_)
  · obtain ⟨x, t, k, rfl, _⟩ := h
    rfl
  · obtain ⟨x, t, k, rfl, lx, lt, ne, q⟩ := h
    refine ⟨_, (pss_cons (ps_if (PW.pt (pw_or (pt_cmpR op_eq (pv 2) pe_int (nomark _)) (pw_or1 (pt_cmpR op_eq (pv 1) pe_str (nomark _))))) (pss_one (ps_ret (pv 0))) pss_nil)
      (pss_cons (ps_if (pt_cmpR op_eq (pv 2) pe_int (nomark _)) (pss_one (ps_ret (pe_op op_add_str (pe_op op_add_str (pv 0) pe_str) (pv 1)))) pss_nil)
      (pss_cons (ps_if (pt_cmpR op_eq (pv 2) pe_int (nomark _)) (pss_one (ps_ret (pe_op op_add_str (pe_op op_add_str (pv 1) pe_str) (pv 0)))) pss_nil)
      (pss_one (ps_ret (pe_op op_add_str (pe_op op_add_str (pe_op op_add_str (pe_op op_add_str (pv 1) pe_str) (pv 0)) pe_str) (pv 1))))))), ?_⟩
    have sH : Str.ofString "; " = S [59, 32] := by decide +kernel
    have s0 : Str.ofString "" = S [] := by decide +kernel
    rw [sH, s0]
    have q2 := q H (Same.refl _)
    unfold plcL at q2
    by_cases k0 : k = 0
    · rw [if_pos k0] at q2
      subst k0
      exact ⟨_, rfl, rfl, _, rfl, iteB (decide_eq_true rfl) (iteB rfl ⟨_, rfl, q2⟩)⟩
    refine ⟨_, rfl, rfl, _, rfl, iteN (decide_eq_false fun z => k0 (V.int.inj z)) ⟨_, rfl, rfl, _, rfl, iteN (decide_eq_false fun z => ne (S_inj (V.str.inj z))) ?_⟩⟩
    rw [if_neg k0] at q2
    by_cases k1 : k = 1
    · rw [if_pos k1] at q2
      refine ⟨_, rfl, rfl, _, rfl, iteB (decide_eq_true (congrArg V.int k1)) ⟨_, rfl, _, _, rfl, rfl, slen (by simp; omega), _, rfl, ?_⟩⟩
      rw [S_app]
      refine ⟨_, _, rfl, rfl, slen (by simp; omega), ?_⟩
      rw [S_app]
      exact q2
    refine ⟨_, rfl, rfl, _, rfl, iteN (decide_eq_false fun z => k1 (V.int.inj z)) ?_⟩
    rw [if_neg k1] at q2
    by_cases k2 : k = 2
    · rw [if_pos k2] at q2
      refine ⟨_, rfl, rfl, _, rfl, iteB (decide_eq_true (congrArg V.int k2)) ⟨_, rfl, _, _, rfl, rfl, slen (by simp; omega), _, rfl, ?_⟩⟩
      rw [S_app]
      refine ⟨_, _, rfl, rfl, slen (by simp; omega), ?_⟩
      rw [S_app]
      exact q2
    refine ⟨_, rfl, rfl, _, rfl, iteN (decide_eq_false fun z => k2 (V.int.inj z)) ⟨_, rfl, _, _, rfl, rfl, slen (by simp; omega), _, rfl, ?_⟩⟩
    rw [if_neg k2] at q2
    rw [S_app]
    refine ⟨_, _, rfl, rfl, slen (by simp; omega), ?_⟩
    rw [S_app]
    refine ⟨_, _, rfl, rfl, slen (by simp; omega), _, rfl, ?_⟩
    rw [S_app]
    refine ⟨_, _, rfl, rfl, slen (by simp; omega), ?_⟩
    rw [S_app]
    exact q2
end
end K1
set_option Elab.async false
set_option linter.all false
set_option maxRecDepth 100000
set_option maxHeartbeats 4000000
namespace K1
open PySem L2 L3
section
variable {P : Program} {w : World} {K : PySem.W.Frag} {mg : Str → Option Value} {base : Heap}
noncomputable def spBn : Sp := fun vs H Q _ => ∃ (l : List Nat) (c : Int), vs = [.str (S l), .int c] ∧ l ≠ [] ∧ l.length ≤ 1000 ∧ ∀ l' : List Nat, l'.length ≤ l.length + 1 → ∀ H', Same H H' → Q (.str (S l')) H'
noncomputable abbrev sBn : Stmt := top 27
theorem scBn : FnScope ["_law_text", "_law_cell", "_law_by", "_law_at_here", "_law_sign"] ["_law_text", "_law_cell"] (defScope sBn) := ⟨rfl, rfl, rfl, by decide +kernel, rfl, by decide +kernel, by decide +kernel⟩
seal PA PE PS PSs
theorem ok_bn {f : Addr} {fd : FuncData} (F : Fun K "_law_bent" "_law_bent" sBn f fd) (B : Blt mg) : FnOk P w K mg base CX0 1 f fd ["_law_text", "_law_cell"] spBn := by
  refine F.ok scBn (fun vs H Q E h => ?_) (fun cdv A outer s H vs Q E hr h => ?_)
  · obtain ⟨l, c, rfl, _⟩ := h
    rfl
  · obtain ⟨l, c, rfl, ne, ll, q⟩ := h
    refine ⟨_, (pss_cons (ps_set (i := 2) scBn.nd rfl (Or.inl rfl) (pe_op op_mod (pe_op op_mul (pv 1) pe_int) pe_int))
      (pss_cons (ps_set (i := 3) scBn.nd rfl (Or.inl rfl) (pe_op op_mod (pv 2) (pe_callB call_len_str (by rfl) B.len bt_len (pa_cons (pv 0) pa_nil))))
      (pss_cons (ps_set (i := 4) scBn.nd rfl (Or.inl rfl) (pe_ix ix_str pe_str (pe_op op_mod (pe_op op_fdiv (pv 2) pe_int) pe_int) (fun _ _ => rfl)))
      (pss_cons (ps_if (pt_cmpR op_eq (pe_op op_mod (pv 1) pe_int) pe_int (nomark _)) (pss_one (ps_ret (pe_op op_add_str (pe_slice sl_str (pv 0) po_none (po_some (pv 3))) (pe_slice sl_str (pv 0) (po_some (pe_op op_add (pv 3) pe_int)) po_none)))) pss_nil)
      (pss_cons (ps_if (pt_cmpR op_eq (pe_op op_mod (pv 1) pe_int) pe_int (nomark _)) (pss_one (ps_ret (pe_op op_add_str (pe_op op_add_str (pe_slice sl_str (pv 0) po_none (po_some (pv 3))) (pv 4)) (pe_slice sl_str (pv 0) (po_some (pv 3)) po_none)))) pss_nil)
      (pss_one (ps_ret (pe_op op_add_str (pe_op op_add_str (pe_slice sl_str (pv 0) po_none (po_some (pv 3))) (pv 4)) (pe_slice sl_str (pv 0) (po_some (pe_op op_add (pv 3) pe_int)) po_none))))))))), ?_⟩
    have l1 : 1 ≤ l.length := List.length_pos_iff.mpr ne
    have hz : (S l).length ≤ sizeLine := by rw [S_len]; exact Nat.le_trans (by omega) (small5 (n := l.length) (by omega))
    refine ⟨_, rfl, _, _, rfl, rfl, .inr ⟨by decide, by decide⟩, _, _, rfl, rfl, (by show (0 : Int) < 2147483647; decide), ?_⟩
    obtain ⟨b, eb⟩ : ∃ b : Nat, c * 48271 % 2147483647 = (b : Int) := ⟨(c * 48271 % 2147483647).toNat, by omega⟩
    dsimp only
    rw [eb]
    obtain ⟨a, ea, la⟩ : ∃ a : Nat, (b : Int) % ((S l).length : Int) = (a : Int) ∧ a < l.length := by
      have h0 : 0 ≤ (b : Int) % (l.length : Int) := Int.emod_nonneg _ (by omega)
      have h1 : (b : Int) % (l.length : Int) < (l.length : Int) := Int.emod_lt_of_pos _ (by omega)
      exact ⟨((b : Int) % (l.length : Int)).toNat, by rw [S_len]; omega, by omega⟩
    refine ⟨_, rfl, _, rfl, _, rfl, hz, _, _, rfl, rfl, (by show (0 : Int) < ((S l).length : Int); rw [S_len]; omega), ?_⟩
    dsimp only
    rw [ea]
    obtain ⟨ch, ech⟩ : ∃ ch : Nat, L2.atI (Str.ofString "0123 :;a-\n").cps.toList ((b : Int) / 4096 % 10) = some ch := by
      obtain ⟨d, hd⟩ : ∃ d : Nat, (b : Int) / 4096 % 10 = (d : Int) := ⟨((b : Int) / 4096 % 10).toNat, by omega⟩
      have ld : d < (Str.ofString "0123 :;a-\n").cps.toList.length := by
        have : (Str.ofString "0123 :;a-\n").cps.toList.length = 10 := by decide +kernel
        omega
      rw [hd]
      exact ⟨_, atI_nat (List.getElem?_eq_getElem ld)⟩
    refine ⟨_, rfl, _, _, rfl, rfl, ⟨by decide, by decide⟩, _, _, rfl, rfl, (by show (0 : Int) < 10; decide), _, _, ch, rfl, rfl, (by decide +kernel), ech, ?_⟩
    have eS : (⟨#[ch]⟩ : Str) = S [ch] := rfl
    rw [eS]
    have e1 : ((a : Nat) : Int) + 1 = ((a + 1 : Nat) : Int) := rfl
    have t1 : (l.take a).length = a := by rw [List.length_take]; omega
    have t2 : (l.drop a).length = l.length - a := List.length_drop
    have t3 : (l.drop (a + 1)).length = l.length - (a + 1) := List.length_drop
    refine ⟨_, rfl, _, _, rfl, rfl, (by show (0 : Int) < 3; decide), rfl, _, rfl, ?_⟩
    by_cases c0 : c % 3 = 0
    · refine iteB (decide_eq_true (congrArg V.int c0)) ⟨_, rfl, _, rfl, _, rfl, _, rfl, hz, ?_⟩
      rw [cut_take l a (by omega)]
      refine ⟨_, rfl, _, rfl, _, _, rfl, rfl, _, rfl, _, rfl, hz, ?_⟩
      rw [e1, cut_drop l (a + 1) (by omega)]
      refine ⟨_, _, rfl, rfl, slen (by omega), ?_⟩
      rw [S_app]
      exact q _ (by rw [List.length_append]; omega) H (Same.refl _)
    refine iteN (decide_eq_false fun z => c0 (V.int.inj z)) ⟨_, rfl, _, _, rfl, rfl, (by show (0 : Int) < 3; decide), rfl, _, rfl, ?_⟩
    by_cases c1 : c % 3 = 1
    · refine iteB (decide_eq_true (congrArg V.int c1)) ⟨_, rfl, _, rfl, _, rfl, _, rfl, hz, ?_⟩
      rw [cut_take l a (by omega)]
      refine ⟨_, rfl, _, _, rfl, rfl, slen (by simp; omega), ?_⟩
      rw [S_app]
      refine ⟨_, rfl, _, rfl, _, rfl, _, rfl, hz, ?_⟩
      rw [cut_drop l a (by omega)]
      refine ⟨_, _, rfl, rfl, slen (by rw [List.length_append]; simp; omega), ?_⟩
      rw [S_app]
      exact q _ (by rw [List.length_append, List.length_append]; simp; omega) H (Same.refl _)
    refine iteN (decide_eq_false fun z => c1 (V.int.inj z)) ⟨_, rfl, _, rfl, _, rfl, _, rfl, hz, ?_⟩
    rw [cut_take l a (by omega)]
    refine ⟨_, rfl, _, _, rfl, rfl, slen (by simp; omega), ?_⟩
    rw [S_app]
    refine ⟨_, rfl, _, rfl, _, _, rfl, rfl, _, rfl, _, rfl, hz, ?_⟩
    rw [e1, cut_drop l (a + 1) (by omega)]
    refine ⟨_, _, rfl, rfl, slen (by rw [List.length_append]; simp; omega), ?_⟩
    rw [S_app]
    exact q _ (by rw [List.length_append, List.length_append]; simp; omega) H (Same.refl _)
unseal PA PE PS PSs
end
end K1
set_option Elab.async false
set_option linter.all false
set_option maxRecDepth 100000
set_option maxHeartbeats 4000000
namespace K1
open PySem L2 L3
theorem dg_inj {m n : Nat} (hm : m < 10 ^ 10) (hn : n < 10 ^ 10) (e : dg m = dg n) : m = n := by
  have h1 := dg_reads hm
  have h2 := dg_reads hn
  rw [e, h2] at h1
  exact (Int.ofNat.inj (Option.some.inj h1)).symm
theorem dgs_inj : ∀ {ms ns : List Nat}, (∀ m ∈ ms, m < 10 ^ 10) → (∀ n ∈ ns, n < 10 ^ 10) → ms.map dg = ns.map dg → ms = ns
  | [], [], _, _, _ => rfl
  | m :: ms, n :: ns, h1, h2, e => by
    rw [List.map_cons, List.map_cons] at e
    obtain ⟨e1, e2⟩ := List.cons.inj e
    rw [dg_inj (h1 m (.head _)) (h2 n (.head _)) e1, dgs_inj (fun x hx => h1 x (.tail _ hx)) (fun x hx => h2 x (.tail _ hx)) e2]
  | [], _ :: _, _, _, e => by cases e
  | _ :: _, [], _, _, e => by cases e
theorem words_inj {b b' : Bg} (ok : BgR b) (ok' : BgR b') (e : wordsB b = wordsB b') : b = b' := by
  unfold wordsB at e
  obtain ⟨e1, e2⟩ := List.cons.inj e
  obtain ⟨e3, e4⟩ := List.cons.inj e2
  obtain ⟨t, r, ns⟩ := b
  obtain ⟨t', r', ns'⟩ := b'
  have h1 : t = t' := dg_inj ok.t ok'.t e1
  have h2 : r = r' := dg_inj ok.r ok'.r (List.append_cancel_right e3)
  have h3 : ns = ns' := dgs_inj ok.n ok'.n e4
  rw [h1, h2, h3]
theorem bag_inj {b b' : Bg} (ok : BgR b) (ok' : BgR b') (e : bagL b = bagL b') : b = b' := by
  refine words_inj ok ok' ?_
  have h := split_bag ok.ne
  exact words_eq h ok'.ne e
theorem plan_inj {bs bs' : List Bg} (ok : ∀ b ∈ bs, BgR b) (ok' : ∀ b ∈ bs', BgR b) (n' : bs' ≠ []) (n : bs ≠ []) (e : planL bs = planL bs') : bs = bs' := by
  have h := parts_eq (l := planL bs) (split_plan n fun b hb => (ok b hb).ne) n' ok' e
  clear e
  induction bs generalizing bs' with
  | nil => exact absurd rfl n
  | cons b r ih =>
    cases bs' with
    | nil => exact absurd rfl n'
    | cons b' r' =>
      rw [List.map_cons, List.map_cons] at h
      obtain ⟨h1, h2⟩ := List.cons.inj h
      rw [bag_inj (ok b (.head _)) (ok' b' (.head _)) h1]
      cases r with
      | nil =>
        cases r' with
        | nil => rfl
        | cons _ _ => cases h2
      | cons c r =>
        cases r' with
        | nil => cases h2
        | cons c' r' => rw [ih (fun x hx => ok x (.tail _ hx)) (fun x hx => ok' x (.tail _ hx)) (by simp) (by simp) h2]
theorem dg_le : ∀ (k m : Nat), m < 10 ^ (k + 1) → (dg m).length ≤ k + 1
  | 0, m, h => by
    rw [dg_small m (by simpa using h)]
    exact Nat.le_refl _
  | k + 1, m, h => by
    by_cases z : m < 10
    · rw [dg_small m z]
      show 1 ≤ _
      omega
    · have e : m = 10 * (m / 10) + m % 10 := by omega
      have h2 : m / 10 < 10 ^ (k + 1) := by
        have : 10 ^ (k + 1 + 1) = 10 * 10 ^ (k + 1) := by rw [Nat.pow_succ, Nat.mul_comm]
        omega
      have ih := dg_le k (m / 10) h2
      rw [e, dg_snoc (by omega) (by omega), List.length_append]
      show _ + 1 ≤ _
      omega
structure BgL (b : Bg) : Prop where
  t : b.1 < 10 ^ 9
  r : b.2.1 < 10 ^ 2
  n : ∀ n ∈ b.2.2, n < 10 ^ 2
  ne : b.2.2 ≠ []
  few : b.2.2.length ≤ 2
theorem BgL.ok {b : Bg} (h : BgL b) : BgOk b := ⟨Nat.lt_trans h.t (by decide), Nat.lt_trans h.r (by decide), fun n hn => Nat.lt_trans (h.n n hn) (by decide), h.ne, Nat.le_trans h.few (by decide)⟩
theorem BgL.rd {b : Bg} (h : BgL b) : BgR b := ⟨h.ok.t, h.ok.r, h.ok.n, h.ne⟩
theorem BgL.len {b : Bg} (h : BgL b) : (bagL b).length ≤ 19 := by
  obtain ⟨t, r, ns⟩ := b
  have h1 := dg_le 8 t h.t
  have h2 := dg_le 1 r h.r
  have h3 : (glL [32] (ns.map dg)).length ≤ 5 := by
    have hf : ns.length ≤ 2 := h.few
    have hn : ∀ n ∈ ns, (dg n).length ≤ 2 := fun n hn => dg_le 1 n (h.n n hn)
    match ns, hf, hn with
    | [], _, _ => exact Nat.zero_le _
    | [a], _, hn =>
      have := hn a (.head _)
      show (dg a).length ≤ 5
      omega
    | [a, b], _, hn =>
      have h1 := hn a (.head _)
      have h2 := hn b (.tail _ (.head _))
      show (dg a ++ [32] ++ dg b).length ≤ 5
      rw [List.length_append, List.length_append]
      show _ + 1 + _ ≤ 5
      omega
    | _ :: _ :: _ :: _, hf, _ => simp at hf
  unfold bagL
  rw [List.length_append, List.length_append, List.length_append, List.length_append]
  show (dg t).length + 1 + (dg r).length + 2 + (glL [32] (ns.map dg)).length ≤ 19
  omega
theorem plan_len : ∀ {bs : List Bg}, bs ≠ [] → (∀ b ∈ bs, BgL b) → (planL bs).length + 2 ≤ 21 * bs.length
  | [], h, _ => absurd rfl h
  | [b], _, h => by
    have := (h b (.head _)).len
    show (bagL b).length + 2 ≤ 21 * 1
    omega
  | b :: c :: r, _, h => by
    have h1 := (h b (.head _)).len
    have h2 := plan_len (bs := c :: r) (by simp) fun x hx => h x (.tail _ hx)
    show (bagL b ++ [59, 32] ++ planL (c :: r)).length + 2 ≤ _
    rw [List.length_append, List.length_append, List.length_cons (a := b)]
    show _ + 2 + _ + 2 ≤ _
    omega
theorem glL_least : ∀ ns : List Nat, ns ≠ [] → 2 * ns.length ≤ (glL [32] (ns.map dg)).length + 1
  | [], h => absurd rfl h
  | [n], _ => by
    have := List.length_pos_iff.mpr (dg_ne n)
    show 2 * 1 ≤ (dg n).length + 1
    omega
  | n :: m :: r, _ => by
    have h1 := List.length_pos_iff.mpr (dg_ne n)
    have h2 := glL_least (m :: r) (by simp)
    show _ ≤ (dg n ++ [32] ++ glL [32] ((m :: r).map dg)).length + 1
    rw [List.length_append, List.length_append, List.length_cons]
    show _ ≤ _ + 1 + _ + 1
    omega
theorem bag_least {b : Bg} (ok : BgR b) : 2 * b.2.2.length + 4 ≤ (bagL b).length := by
  have h1 := List.length_pos_iff.mpr (dg_ne b.1)
  have h2 := List.length_pos_iff.mpr (dg_ne b.2.1)
  have h3 := glL_least b.2.2 ok.ne
  unfold bagL
  rw [List.length_append, List.length_append, List.length_append, List.length_append]
  show _ ≤ (dg b.1).length + 1 + (dg b.2.1).length + 2 + _
  omega
theorem short_ok {bs : List Bg} (ok : ∀ b ∈ bs, BgR b) (h : (planL bs).length ≤ 84) : (∀ b ∈ bs, BgOk b) ∧ bs.length ≤ 1000 := by
  obtain ⟨h1, h2⟩ := glL_bounds [59, 32] (by decide) (bs.map bagL)
  have e : glL [59, 32] (bs.map bagL) = planL bs := rfl
  rw [e] at h1 h2
  rw [List.length_map] at h1
  refine ⟨fun b hb => ?_, by omega⟩
  have h3 := h2 _ (List.mem_map.mpr ⟨b, hb, rfl⟩)
  have h4 := bag_least (ok b hb)
  exact ⟨(ok b hb).t, (ok b hb).r, (ok b hb).n, (ok b hb).ne, by omega⟩
section
variable {P : Program} {w : World} {K : PySem.W.Frag} {mg : Str → Option Value} {base : Heap}
noncomputable def bgD (b : Bg) : PyData := .tuple [.int (b.1 : Int), .int (b.2.1 : Int), .tuple (b.2.2.map fun n : Nat => .int (n : Int))]
theorem bgD_can (b : Bg) : (bgD b).canLay0 = true := can_all fun x hx => by
  simp only [List.mem_cons, List.not_mem_nil, or_false] at hx
  rcases hx with rfl | rfl | rfl
  · rfl
  · rfl
  · refine can_all fun y hy => ?_
    obtain ⟨n, _, rfl⟩ := List.mem_map.mp hy
    rfl
theorem bgsD_can (bs : List Bg) : (PyData.list (bs.map bgD)).canLay0 = true := can_all fun x hx => by
  obtain ⟨b, _, rfl⟩ := List.mem_map.mp hx
  exact bgD_can b
theorem bgsD_shaped (bs : List Bg) : SeqAt.shaped (.list (bs.map bgD)) = true := shaped_of (n := 4) (bgsD_can bs) (dlist fun x hx => by
  obtain ⟨b, _, rfl⟩ := List.mem_map.mp hx
  refine Nat.succ_le_succ (depth_all (n := 2) fun y hy => ?_)
  simp only [List.mem_cons, List.not_mem_nil, or_false] at hy
  rcases hy with rfl | rfl | rfl
  · exact Nat.zero_le _
  · exact Nat.zero_le _
  · refine Nat.succ_le_succ (depth_all (n := 1) fun z hz => ?_)
    obtain ⟨n, _, rfl⟩ := List.mem_map.mp hz
    exact Nat.zero_le _) (by decide)
theorem nums_dt {H : Hp} : ∀ ns : List Nat, Dts K H (numV ns) (ns.map fun n : Nat => .int (n : Int))
  | [] => .nil
  | n :: r => .cons (.int _) (nums_dt r)
theorem bag_dt {H : Hp} {a : Addr} {b : Bg} (h : BgAt H a b) : Dt K H (.ref a) (bgD b) := by
  obtain ⟨c, h1, h2⟩ := h
  exact .tup (SqT.of h1) (.cons (.int _) (.cons (.int _) (.cons (.tup (SqT.of h2) (nums_dt _)) .nil)))
theorem bags_dt {H : Hp} {as : List Addr} {bs : List Bg} (h : Paired (BgAt H) as bs) : Dts K H (refs as) (bs.map bgD) := by
  induction h with
  | nil => exact .nil
  | cons r t ih => exact .cons (bag_dt r) ih
noncomputable abbrev sAt : Stmt := top 22
theorem scAt : FnScope ["_law_script", "_law_k"] ["_law_script", "_law_k"] (defScope sAt) := ⟨rfl, rfl, rfl, by decide +kernel, rfl, by decide +kernel, by decide +kernel⟩
theorem ok_at {f : Addr} {fd : FuncData} (F : Fun K "_law_at" "_law_at" sAt f fd) (len : mg "len" = none) : FnOk P w K mg base CX0 1 f fd ["_law_script", "_law_k"] (spAt K) := by
  refine F.ok scAt (fun vs H Q E h => ?_) (fun cdv A outer s H vs Q E hr h => ?_)
  · obtain ⟨a, ns, k, rfl, _⟩ := h
    rfl
  · obtain ⟨a, ns, k, rfl, hS, h0, q⟩ := h
    refine ⟨_, pss_cons (ps_if (pt_cmpR op_lt (pv 1) (pe_callB call_len_seq (by rfl) len PySem.boot_len (pa_cons (pv 0) pa_nil)) (nomark _)) (pss_one (ps_ret (pe_ix ix_list (pv 0) (pv 1) (fun _ _ => rfl)))) pss_nil) (pss_one (ps_ret pe_int)), ?_⟩
    refine ⟨_, rfl, _, rfl, a, _, rfl, .inl hS, _, _, rfl, rfl, _, rfl, ?_⟩
    refine ite2 (fun h => ?_) (fun h => ?_)
    · have h1 := of_decide_eq_true h
      exact ⟨_, rfl, _, rfl, a, _, k, _, rfl, rfl, hS, atI_int h0 h1, q⟩
    · have h1 : ¬ k < ((ns.map V.int).length : Int) := fun z => h (decide_eq_true z)
      rw [List.length_map] at h1
      have e : ns.getD k.toNat 0 = 0 := by
        rw [List.getD, List.getElem?_eq_none (by omega)]
        rfl
      rw [e] at q
      exact q

end
end K1
set_option Elab.async false
set_option linter.all false
set_option maxRecDepth 100000
set_option maxHeartbeats 4000000
namespace K1
open PySem L2 L3
section
variable {P : Program} {w : World} {K : PySem.W.Frag} {mg : Str → Option Value} {base : Heap}
theorem odd_not {x : Str} (hx : x ∈ oddS) {bs : List Bg} (ok : ∀ b ∈ bs, BgR b) (ne : bs ≠ []) (k : Int) : ¬ Rdb (plcL x.cps.toList (planL bs) k) := fun h => by
  obtain ⟨h1, h2, h3, _⟩ := odd_is x hx
  obtain ⟨kp, ep⟩ := rnS_plan bs ne ok
  unfold plcL at h
  by_cases k0 : k = 0
  · rw [if_pos k0] at h
    obtain ⟨j, e⟩ := rdb_run h h1
    rw [e] at h2
    exact h2 rfl
  rw [if_neg k0] at h
  by_cases k1 : k = 1
  · rw [if_pos k1] at h
    obtain ⟨j, e⟩ := rdb_run h (by simp)
    rw [rnS_app, h3, rnS_dead] at e
    cases e
  rw [if_neg k1] at h
  by_cases k2 : k = 2
  · rw [if_pos k2] at h
    obtain ⟨j, e⟩ := rdb_run h (by simp)
    rw [rnS_app, rnS_app, ep] at e
    have e : rnS (0, 0) x.cps.toList = (6, j) := e
    rw [e] at h2
    exact h2 rfl
  · rw [if_neg k2] at h
    obtain ⟨j, e⟩ := rdb_run h (by simp)
    rw [List.append_assoc, List.append_assoc (planL bs ++ [59, 32]), ← List.append_assoc x.cps.toList, rnS_app, rnS_app, rnS_app (0, 0) (planL bs) [59, 32], ep] at e
    have e : rnS (rnS (0, 0) (x.cps.toList ++ [59, 32])) (planL bs) = (6, j) := e
    rw [h3, rnS_dead] at e
    cases e
theorem bg_upd {H : Hp} {D : Addr} {ys zs : List L2.V} (hD : H D = some (.lst ys)) {a : Addr} {b : Bg} (h : BgAt H a b) : BgAt (upd H D (.lst zs)) a b := by
  obtain ⟨c, h1, h2⟩ := h
  exact ⟨c, by rw [upd_ne (ne_of h1 hD (by intro z; cases z))]; exact h1, by rw [upd_ne (ne_of h2 hD (by intro z; cases z))]; exact h2⟩
theorem cut_two (A B : Nat) (m : Int) (hm : m = 1 ∨ m = 2) : ∃ ls : List Nat, cutV [V.int (A : Int), V.int (B : Int)] none (some m) = numV ls ∧ ls ≠ [] ∧ ls.length ≤ 2 ∧ ∀ n ∈ ls, n = A ∨ n = B := by
  rcases hm with rfl | rfl
  · exact ⟨[A], rfl, by simp, by simp, fun n hn => .inl (List.mem_singleton.mp hn)⟩
  · exact ⟨[A, B], rfl, by simp, by simp, fun n hn => by
      rcases List.mem_cons.mp hn with h | h
      · exact .inl h
      · exact .inr (List.mem_singleton.mp h)⟩
noncomputable abbrev nLaw82 : List Str := ["_law_script", "_law_bags", "_law_cell", "_law_n", "_law_text", "_law_odd_here", "_law_other"]
noncomputable abbrev sLaw : Stmt := top 28
theorem scLaw : FnScope nLaw82 ["_law_script"] (defScope sLaw) := ⟨rfl, rfl, rfl, by decide +kernel, rfl, by decide +kernel, by decide +kernel⟩
seal PA PE PS PSs
theorem ok_law {NT f f1 f2 f3 f4 f5 f6 f7 : Addr} {fd fd1 fd2 fd3 fd4 fd5 fd6 fd7 : FuncData} (F : Fun K "law" "law" sLaw f fd) (B : Blt mg)
    (D_show_plan : Dn K mg "show_plan" sShP ["plan"] f1 fd1) (G_show_plan : FnOk P w K mg base CX0 2 f1 fd1 ["plan"] (spShP K))
    (D_read_plan : Dn K mg "read_plan" sRp ["text"] f2 fd2) (G_read_plan : FnOk P w K mg base (CXe P w) 4 f2 fd2 ["text"] (spRpA NT))
    (D__law_at : Dn K mg "_law_at" sAt ["_law_script", "_law_k"] f3 fd3) (G__law_at : FnOk P w K mg base CX0 1 f3 fd3 ["_law_script", "_law_k"] (spAt K))
    (D__law_odd : Dn K mg "_law_odd" sOdd ["_law_cell"] f4 fd4) (G__law_odd : FnOk P w K mg base CX0 1 f4 fd4 ["_law_cell"] spOdd)
    (D__law_placed : Dn K mg "_law_placed" sPl ["_law_odd_here", "_law_text", "_law_way"] f5 fd5) (G__law_placed : FnOk P w K mg base CX0 1 f5 fd5 ["_law_odd_here", "_law_text", "_law_way"] spPl)
    (D__law_refused : Dn K mg "_law_refused" sRf ["_law_text"] f6 fd6) (G__law_refused : FnOk P w K mg base CX0 6 f6 fd6 ["_law_text"] spRf)
    (D__law_bent : Dn K mg "_law_bent" sBn ["_law_text", "_law_cell"] f7 fd7) (G__law_bent : FnOk P w K mg base CX0 1 f7 fd7 ["_law_text", "_law_cell"] spBn) :
    FnOk P w K mg base CX0 7 f fd ["_law_script"] (spLaw K) := by
  refine F.ok scLaw (fun vs H Q E h => ?_) (fun cdv A outer s H vs Q E hr h => ?_)
  · obtain ⟨a, ns, rfl, _⟩ := h
    rfl
  · obtain ⟨a, ns, rfl, hS, hns, q⟩ := h
    refine ⟨_, (pss_cons (ps_set (i := 1) scLaw.nd rfl (Or.inl rfl) (pe_lst pa_nil))
      (pss_cons (ps_for PassesOwn.never rfl (pi_list (pe_op op_cat (pe_lst (pa_cons pe_int pa_nil)) (pe_slice sl_list (pv 0) (po_some pe_int) (po_some pe_int)))) (pg_name (i := 2) scLaw.nd rfl (Or.inl rfl))
        (pss_cons (ps_set (i := 3) scLaw.nd rfl (Or.inl rfl) (pe_op op_mod (pe_op op_mul (pv 2) pe_int) pe_int))
      (pss_one (ps_expr (pe_bm PySem.F.plainAttrs_list PySem.F.slot_list_append PySem.F.type_list_append mt_append (pv 1) (pa_cons (pe_tup (pa_cons (pe_op op_mod (pv 2) (pe_op op_pow pe_int pe_int)) (pa_cons (pe_op op_mod (pv 3) pe_int) (pa_cons (pe_callTy call_tuple_of (by rfl) B.tuple bt_tuple (pa_cons (pe_slice sl_list (pe_lst (pa_cons (pe_op op_mod (pe_op op_fdiv (pv 3) pe_int) pe_int) (pa_cons (pe_op op_mod (pe_op op_fdiv (pv 3) pe_int) pe_int) pa_nil))) po_none (po_some (pe_op op_add pe_int (pe_op op_mod (pe_op op_fdiv (pv 3) pe_int) pe_int)))) pa_nil)) pa_nil)))) pa_nil))))))
      (pss_cons (ps_set (i := 4) scLaw.nd rfl (Or.inl rfl) (pe_call G_show_plan (hr.mono (by decide)) (by rfl) D_show_plan.at_ D_show_plan.fn.kp D_show_plan.bd .nil pass0 (pa_cons (pv 1) pa_nil)))
      (pss_cons (ps_set (i := 5) scLaw.nd rfl (Or.inl rfl) (pe_call G__law_placed (hr.mono (by decide)) (by rfl) D__law_placed.at_ D__law_placed.fn.kp D__law_placed.bd .nil pass0 (pa_cons (pe_call G__law_odd (hr.mono (by decide)) (by rfl) D__law_odd.at_ D__law_odd.fn.kp D__law_odd.bd .nil pass0 (pa_cons (pe_call G__law_at (hr.mono (by decide)) (by rfl) D__law_at.at_ D__law_at.fn.kp D__law_at.bd .nil pass0 (pa_cons (pv 0) (pa_cons pe_int pa_nil))) pa_nil)) (pa_cons (pv 4) (pa_cons (pe_op op_mod (pe_call G__law_at (hr.mono (by decide)) (by rfl) D__law_at.at_ D__law_at.fn.kp D__law_at.bd .nil pass0 (pa_cons (pv 0) (pa_cons pe_int pa_nil))) pe_int) pa_nil)))))
      (pss_cons (ps_if (PW.pt (pw_or (pt_not (pt_val (pe_call G__law_refused (hr.mono (by decide)) (by rfl) D__law_refused.at_ D__law_refused.fn.kp D__law_refused.bd .nil pass0 (pa_cons (pv 5) pa_nil)))) (pw_or1 (pt_cmpR (op_neD hr.units) (pe_call G_read_plan (hr.mono (by decide)) (by rfl) D_read_plan.at_ D_read_plan.fn.kp D_read_plan.bd .nil passE (pa_cons (pv 4) pa_nil)) (pv 1) (nomark _))))) (pss_one (ps_ret pe_bl)) pss_nil)
      (pss_cons (ps_for PassesOwn.never rfl (pi_list (pe_slice sl_list (pv 0) (po_some pe_int) (po_some pe_int))) (pg_name (i := 2) scLaw.nd rfl (Or.inl rfl))
        (pss_cons (ps_set (i := 6) scLaw.nd rfl (Or.inl rfl) (pe_call G__law_bent (hr.mono (by decide)) (by rfl) D__law_bent.at_ D__law_bent.fn.kp D__law_bent.bd .nil pass0 (pa_cons (pv 4) (pa_cons (pv 2) pa_nil))))
      (pss_one (ps_if (PW.pt (pw_and (pt_not (pt_val (pe_call G__law_refused (hr.mono (by decide)) (by rfl) D__law_refused.at_ D__law_refused.fn.kp D__law_refused.bd .nil pass0 (pa_cons (pv 6) pa_nil)))) (pw_and1 (pt_cmpR op_ne (pe_call G_show_plan (hr.mono (by decide)) (by rfl) D_show_plan.at_ D_show_plan.fn.kp D_show_plan.bd .nil pass0 (pa_cons (pe_call G_read_plan (hr.mono (by decide)) (by rfl) D_read_plan.at_ D_read_plan.fn.kp D_read_plan.bd .nil passE (pa_cons (pv 6) pa_nil)) pa_nil)) (pv 6) (nomark _))))) (pss_one (ps_ret pe_bl)) pss_nil))))
      (pss_one (ps_ret (pe_and (pe_call G__law_refused (hr.mono (by decide)) (by rfl) D__law_refused.at_ D__law_refused.fn.kp D__law_refused.bd .nil pass0 (pa_cons (pv 5) pa_nil)) (pe_one (pe_cmpR (op_eqD hr.units) (pe_call G_read_plan (hr.mono (by decide)) (by rfl) D_read_plan.at_ D_read_plan.fn.kp D_read_plan.bd .nil passE (pa_cons (pv 4) pa_nil)) (pv 1) (nomark _)))))))))))), ?_⟩
    refine ⟨(by show 0 ≤ sizeLine; decide), fun D nD => ?_⟩
    refine ⟨(by show 1 ≤ sizeLine; decide), fun p5 n5 => ?_⟩
    have s5 := (upd_free (o := .lst []) nD).trans (upd_free (o := .lst [V.int 5]) n5)
    have hD5 : upd (upd H D (.lst [])) p5 (.lst [V.int 5]) D = some (.lst (refs [])) := upd_free n5 _ _ upd_same
    have h55 : upd (upd H D (.lst [])) p5 (.lst [V.int 5]) p5 = some (.lst [V.int 5]) := upd_same
    generalize upd (upd H D (.lst [])) p5 (.lst [V.int 5]) = H5 at s5 hD5 h55 ⊢
    refine ⟨_, rfl, _, rfl, _, rfl, a, _, rfl, s5.seq hS, fun p6 n6 => ?_⟩
    obtain ⟨cu, ecu⟩ : ∃ cu, cu = cutV (ns.map V.int) (some 2) (some 5) := ⟨_, rfl⟩
    have lcu : cu.length ≤ 3 := by
      rw [ecu]
      unfold cutV
      have f1 : HT.sIx (ns.map V.int).length 0 (some ((2 : Nat) : Int)) = min 2 (ns.map V.int).length := HT.sIx_nat _ 0 2
      have f2 : HT.sIx (ns.map V.int).length (ns.map V.int).length (some ((5 : Nat) : Int)) = min 5 (ns.map V.int).length := HT.sIx_nat _ _ 5
      rw [show (some (2 : Int)) = some ((2 : Nat) : Int) from rfl, show (some (5 : Int)) = some ((5 : Nat) : Int) from rfl, f1, f2, List.length_take]
      omega
    have icu : ∀ v ∈ cu, ∃ c : Int, v = .int c := fun v hv => by
      rw [ecu] at hv
      unfold cutV at hv
      obtain ⟨c, _, rfl⟩ := List.mem_map.mp (List.mem_of_mem_drop (List.mem_of_mem_take hv))
      exact ⟨c, rfl⟩
    rw [← ecu]
    have s6 := upd_free (o := .lst cu) n6
    refine ⟨p5, p6, _, _, rfl, rfl, s6 _ _ h55, upd_same, (by show 1 + cu.length ≤ sizeLine; exact Nat.le_of_lt (small1000 (by omega))), fun p7 n7 => ⟨p7, rfl, ⟨_, SqL.of upd_same⟩, ?_⟩⟩
    have s7 := s6.trans (upd_free (o := .lst ([V.int 5] ++ cu)) n7)
    have hD7 := s7 _ _ hD5
    have h77 : upd (upd H5 p6 (.lst cu)) p7 (.lst ([V.int 5] ++ cu)) p7 = some (.lst ([V.int 5] ++ cu)) := upd_same
    have sH7 := s5.trans s7
    generalize upd (upd H5 p6 (.lst cu)) p7 (.lst ([V.int 5] ++ cu)) = H7 at s7 hD7 h77 sH7 ⊢
    obtain ⟨xs, exs⟩ : ∃ xs, xs = [V.int 5] ++ cu := ⟨_, rfl⟩
    rw [← exs] at h77
    have lxs : 1 ≤ xs.length ∧ xs.length ≤ 4 := by rw [exs, List.length_append]; show 1 ≤ 1 + cu.length ∧ 1 + cu.length ≤ 4; omega
    have ixs : ∀ v ∈ xs, ∃ c : Int, v = .int c := fun v hv => by
      rw [exs] at hv
      rcases List.mem_append.mp hv with h | h
      · exact ⟨5, List.mem_singleton.mp h⟩
      · exact icu v h
    have n7D : D ≠ p7 := fun z => by
      rw [z, h77] at hD7
      have := HO.lst.inj (Option.some.inj hD7)
      rw [this] at lxs
      have := lxs.1
      simp [refs] at this
    refine for_list (xs := xs) (fun i σ Hc => ∃ (as : List Addr) (bs : List Bg) (v2 v3 : Option L2.V), σ = [some (.ref a), some (.ref D), v2, v3, none, none, none] ∧ Same H Hc ∧ Hc p7 = some (.lst xs) ∧ Hc D = some (.lst (refs as)) ∧ Paired (BgAt Hc) as bs ∧ (∀ b ∈ bs, BgL b) ∧ bs.length = i)
      ⟨[], [], none, none, rfl, sH7, h77, hD7, .nil, (fun _ h => nomatch h), rfl⟩ (fun i σ Hc _ ⟨_, _, _, _, _, _, h, _⟩ => SqL.of h) ?_ ?_
    · rintro i z σ Hc ez ⟨as, bs, v2, v3, rfl, sm, hp, hD, bags, ok, li⟩
      obtain ⟨c, rfl⟩ := ixs z (List.mem_of_getElem? ez)
      have il : i < 4 := by have := (List.getElem?_eq_some_iff.mp ez).1; omega
      refine ⟨_, rfl, _, _, rfl, rfl, .inr ⟨by decide, by decide⟩, _, _, rfl, rfl, (by show (0 : Int) < 2147483647; decide), ?_⟩
      obtain ⟨m, em⟩ : ∃ m : Nat, c * 48271 % 2147483647 = (m : Int) := ⟨(c * 48271 % 2147483647).toNat, by omega⟩
      dsimp only
      rw [em]
      refine ⟨_, rfl, .inl ⟨rfl, _, SqL.of hD⟩, ?_⟩
      refine ⟨_, rfl, _, _, rfl, rfl, ⟨by decide, by decide, by decide⟩, _, _, rfl, rfl, (by show (0 : Int) < 10 ^ (9 : Int).toNat; decide), ?_⟩
      refine ⟨_, rfl, _, _, rfl, rfl, (by show (0 : Int) < 40; decide), ?_⟩
      refine ⟨_, rfl, _, _, rfl, rfl, ⟨by decide, by decide⟩, _, _, rfl, rfl, (by show (0 : Int) < 41; decide), ?_⟩
      refine ⟨_, rfl, _, _, rfl, rfl, ⟨by decide, by decide⟩, _, _, rfl, rfl, (by show (0 : Int) < 41; decide), ?_⟩
      obtain ⟨t, et, lt⟩ : ∃ t : Nat, c % (10 ^ (9 : Int).toNat : Int) = (t : Int) ∧ t < 10 ^ 9 := by
        have e9 : (10 ^ (9 : Int).toNat : Int) = 1000000000 := by decide
        rw [e9]
        exact ⟨(c % 1000000000).toNat, by omega, by show _ < 1000000000; omega⟩
      obtain ⟨r, er, lr⟩ : ∃ r : Nat, (m : Int) % 40 = (r : Int) ∧ r < 40 := ⟨m % 40, by omega, by omega⟩
      obtain ⟨x1, e1, l1⟩ : ∃ x1 : Nat, (m : Int) / 64 % 41 = (x1 : Int) ∧ x1 < 41 := ⟨((m : Int) / 64 % 41).toNat, by omega, by omega⟩
      obtain ⟨x2, e2, l2⟩ : ∃ x2 : Nat, (m : Int) / 4096 % 41 = (x2 : Int) ∧ x2 < 41 := ⟨((m : Int) / 4096 % 41).toNat, by omega, by omega⟩
      dsimp only
      rw [et, er, e1, e2]
      refine ⟨(by show 2 ≤ sizeLine; decide), fun q1 m1 => ?_⟩
      have u1 := upd_free (o := .lst [V.int (x1 : Int), V.int (x2 : Int)]) m1
      refine ⟨_, rfl, _, _, rfl, rfl, ⟨by decide, by decide⟩, _, _, rfl, rfl, (by show (0 : Int) < 2; decide), _, _, rfl, rfl, _, rfl, q1, _, rfl, SqL.of upd_same, fun q2 m2 => ?_⟩
      have u2 := u1.trans (upd_free (o := .lst (cutV [V.int (x1 : Int), V.int (x2 : Int)] none (some (1 + (m : Int) / 2 % 2)))) m2)
      obtain ⟨ls, els, nls, lls, mls⟩ := cut_two x1 x2 (1 + (m : Int) / 2 % 2) (by omega)
      refine ⟨q2, _, rfl, .inl ⟨SqL.of upd_same, fun q3 m3 => ?_⟩⟩
      have u3 := u2.trans (upd_free (o := .tup (cutV [V.int (x1 : Int), V.int (x2 : Int)] none (some (1 + (m : Int) / 2 % 2)))) m3)
      refine ⟨(by show 3 ≤ sizeLine; decide), fun q4 m4 => ?_⟩
      have u4 := u3.trans (upd_free (o := .tup [V.int (t : Int), V.int (r : Int), V.ref q3]) m4)
      have h3 := upd_free (o := .tup [V.int (t : Int), V.int (r : Int), V.ref q3]) m4 _ _ (upd_same (H := upd (upd Hc q1 (.lst [V.int (x1 : Int), V.int (x2 : Int)])) q2 (.lst (cutV [V.int (x1 : Int), V.int (x2 : Int)] none (some (1 + (m : Int) / 2 % 2))))) (a := q3) (o := .tup (cutV [V.int (x1 : Int), V.int (x2 : Int)] none (some (1 + (m : Int) / 2 % 2)))))
      rw [els] at h3 u4 ⊢
      have h4 : upd (upd (upd (upd Hc q1 (.lst [V.int (x1 : Int), V.int (x2 : Int)])) q2 (.lst (numV ls))) q3 (.tup (numV ls))) q4 (.tup [V.int (t : Int), V.int (r : Int), V.ref q3]) q4 = some (.tup [V.int (t : Int), V.int (r : Int), V.ref q3]) := upd_same
      generalize upd (upd (upd (upd Hc q1 (.lst [V.int (x1 : Int), V.int (x2 : Int)])) q2 (.lst (numV ls))) q3 (.tup (numV ls))) q4 (.tup [V.int (t : Int), V.int (r : Int), V.ref q3]) = He at h3 h4 u4 ⊢
      have hDe := u4 _ _ hD
      have las := Paired.length bags
      refine ⟨D, _, _, rfl, rfl, hDe, small1000 (by rw [refs_len]; omega), ?_⟩
      refine ⟨as ++ [q4], bs ++ [(t, r, ls)], _, _, rfl, upd_other nD (sm.trans u4), by rw [upd_ne (Ne.symm n7D)]; exact u4 _ _ hp, by rw [upd_same, refs_snoc], Paired.snoc (bg_upd hDe ⟨q3, h4, h3⟩) (Paired.mapP bags fun _ _ h => bg_upd hDe (h.same u4)), fun b hb => ?_, by rw [List.length_append, li]; rfl⟩
      rcases List.mem_append.mp hb with h | h
      · exact ok b h
      · rw [List.mem_singleton.mp h]
        exact ⟨lt, Nat.lt_trans lr (by decide), fun n hn => by rcases mls n hn with h | h <;> (rw [h]; show _ < 100; omega), nls, lls⟩
    · rintro σ Hc ⟨as, bs, v2, v3, rfl, sm, hp, hD, bags, ok, li⟩
      have nbs : bs ≠ [] := fun z => by rw [z] at li; simp at li; omega
      have rd : ∀ b ∈ bs, BgR b := fun b hb => (ok b hb).rd
      have lp := plan_len nbs ok
      have lp : (planL bs).length ≤ 82 := by omega
      have npl : planL bs ≠ [] := plan_ne nbs fun b hb => (ok b hb).ok
      refine ⟨_, rfl, D, as, bs, rfl, SqL.of hD, bags, fun b hb => (ok b hb).ok, by omega, fun H1 s1 => ?_⟩
      refine ⟨_, rfl, a, ns, 0, rfl, (sm.trans s1).seq hS, by decide, _, rfl, fun x hx H2 s2 => ?_⟩
      refine ⟨_, rfl, _, rfl, a, ns, 1, rfl, ((sm.trans s1).trans s2).seq hS, by decide, _, _, rfl, rfl, (by show (0 : Int) < 4; decide), ?_⟩
      obtain ⟨_, _, _, lx⟩ := odd_is x hx
      obtain ⟨k, ek⟩ : ∃ k : Int, k = ns.getD (1 : Int).toNat 0 % 4 := ⟨_, rfl⟩
      refine ⟨x.cps.toList, planL bs, k, (by rw [S_cps, ek]; rfl), by omega, by omega, npl, fun H3 s3 => ?_⟩
      have nodd := odd_not hx rd nbs k
      have lod : (plcL x.cps.toList (planL bs) k).length ≤ 5000 := by
        unfold plcL
        split
        · omega
        · split
          · simp only [List.length_append, List.length_cons, List.length_nil]
            omega
          · split <;> (simp only [List.length_append, List.length_cons, List.length_nil]; omega)
      generalize plcL x.cps.toList (planL bs) k = od at nodd lod ⊢
      have s13 := s1.trans (s2.trans s3)
      have hD3 := s13 _ _ hD
      have bags3 : Paired (BgAt H3) as bs := Paired.mapP bags fun _ _ h => h.same s13
      have same_bs : ∀ bs', (∀ b ∈ bs', BgR b) → planL bs = planL bs' → bs' = bs := fun bs' ok' e => (plan_inj rd ok' (fun z => npl (by rw [e, z]; rfl)) nbs e).symm
      refine ⟨_, rfl, od, rfl, lod, fun h => absurd h nodd, fun _ H4 s4 => ⟨_, rfl, iteN rfl ?_⟩⟩
      refine ⟨_, rfl, planL bs, rfl, by omega, fun bs' ok' e p8 H5' as' np8 s5' h8 bags' => ?_, fun no => absurd rfl (no bs rd)⟩
      obtain rfl := same_bs bs' ok' e
      have hD5' := s5' _ _ (s4 _ _ hD3)
      refine ⟨_, rfl, _, _, .lst (SqL.of h8) (bags_dt bags'), .lst (SqL.of hD5') (bags_dt (Paired.mapP bags3 fun _ _ h => h.same (s4.trans s5'))), bgsD_shaped bs', bgsD_shaped bs', _, rfl, iteN (ne_self (bgsD_can bs')) ?_⟩
      have s35 := s4.trans s5'
      have sS := (sm.trans s13).trans s35
      refine ⟨_, rfl, _, rfl, _, rfl, a, _, rfl, sS.seq hS, fun p9 n9 => ⟨p9, rfl, ⟨_, SqL.of upd_same⟩, ?_⟩⟩
      have s9 := upd_free (o := .lst (cutV (ns.map V.int) (some 1) (some 9))) n9
      have h9 : upd H5' p9 (.lst (cutV (ns.map V.int) (some 1) (some 9))) p9 = some (.lst (cutV (ns.map V.int) (some 1) (some 9))) := upd_same
      have hD9 := s9 _ _ hD5'
      have bags9 : Paired (BgAt (upd H5' p9 (.lst (cutV (ns.map V.int) (some 1) (some 9))))) as bs' := Paired.mapP bags3 fun _ _ h => h.same (s35.trans s9)
      generalize upd H5' p9 (.lst (cutV (ns.map V.int) (some 1) (some 9))) = H9 at s9 h9 hD9 bags9 ⊢
      refine for_list (xs := cutV (ns.map V.int) (some 1) (some 9)) (fun i σ Hd => Same H9 Hd ∧ ∃ w2 w6, σ = [some (.ref a), some (.ref D), w2, v3, some (.str (S (planL bs'))), some (.str (S od)), w6]) ⟨Same.refl _, _, none, rfl⟩ (fun i σ Hd _ h => SqL.of (h.1 _ _ h9)) ?_ ?_
      · rintro i z σ Hd ez ⟨sd, w2, w6, rfl⟩
        obtain ⟨c, rfl⟩ : ∃ c : Int, z = .int c := by
          have hv := List.mem_of_getElem? ez
          unfold cutV at hv
          obtain ⟨c, _, rfl⟩ := List.mem_map.mp (List.mem_of_mem_drop (List.mem_of_mem_take hv))
          exact ⟨c, rfl⟩
        refine ⟨_, rfl, _, rfl, planL bs', c, rfl, npl, by omega, fun l' hl' Ha sa => ?_⟩
        refine ⟨_, rfl, l', rfl, by omega, fun rdb Hb sb => ⟨_, rfl, iteB rfl ?_⟩, fun _ Hb sb => ⟨_, rfl, iteN rfl ?_⟩⟩
        · refine ⟨_, rfl, l', rfl, by omega, fun bs2 ok2 e2 p2 Hx as2 np2 sx hp2 bags2 => ?_, fun no => ?_⟩
          · obtain ⟨okb, lnb⟩ := short_ok ok2 (by rw [← e2]; omega)
            refine ⟨p2, as2, bs2, rfl, SqL.of hp2, bags2, okb, lnb, fun Hy sy => ⟨_, rfl, rfl, _, rfl, iteN (by rw [e2]; simp) ?_⟩⟩
            exact ⟨sd.trans (sa.trans (sb.trans (sx.trans sy))), _, _, rfl⟩
          · obtain ⟨bs2, ok2, e2⟩ := rdb
            exact absurd e2 (no bs2 ok2)
        · exact iteN rfl ⟨sd.trans (sa.trans sb), _, _, rfl⟩
      · rintro σ Hd ⟨sd, w2, w6, rfl⟩
        refine ⟨_, rfl, od, rfl, lod, fun h => absurd h nodd, fun _ Ha sa => ⟨_, rfl, iteB rfl ?_⟩⟩
        refine ⟨_, rfl, planL bs', rfl, by omega, fun bs2 ok2 e2 p2 Hb as2 np2 sb hp2 bags2 => ?_, fun no => absurd rfl (no bs' rd)⟩
        obtain rfl := same_bs bs2 ok2 e2
        have sq := sd.trans (sa.trans sb)
        refine ⟨_, rfl, _, _, .lst (SqL.of hp2) (bags_dt bags2), .lst (SqL.of (sq _ _ hD9)) (bags_dt (Paired.mapP bags9 fun _ _ h => h.same sq)), bgsD_shaped _, bgsD_shaped _, ?_⟩
        exact bl_eq (show (if false = true then _ else PyData.eqv _ _) = true from eqv_self _ (bgsD_can _)) (q _)
unseal PA PE PS PSs
end
end K1
set_option Elab.async false
set_option linter.all false
set_option maxRecDepth 100000
set_option maxHeartbeats 4000000
namespace K1
open PySem L2 L3
theorem kit_ty {K : PySem.W.Frag} {C : Addr} {T : String} {b : Bool} (hm : PySem.W.kitMeta T = true) (hs : PySem.W.subIn K (.ref C) (.type T) = some b) : PySem.W.kitOne K (.ref C) (.type T) = some b := by
  unfold PySem.W.kitOne
  rw [if_neg (by intro z; cases z)]
  unfold PySem.W.kitCls
  show (if PySem.W.kitMeta T = true then _ else _) = _
  rw [if_pos hm, hs]
theorem kit_me (K : PySem.W.Frag) (C : Addr) : PySem.W.kitOne K (.ref C) (.ref C) = some true := by
  unfold PySem.W.kitOne
  exact if_pos (by simp)
theorem len_1 {us : List Value} (h : us.length = 1) : ∃ a0, us = [a0] := by
  rcases us with _ | ⟨a0, _ | ⟨b, r⟩⟩
  · simp at h
  · exact ⟨a0, rfl⟩
  · simp at h
theorem len_2 {us : List Value} (h : us.length = 2) : ∃ a0 a1, us = [a0, a1] := by
  rcases us with _ | ⟨a0, _ | ⟨a1, _ | ⟨b, r⟩⟩⟩
  · simp at h
  · simp at h
  · exact ⟨a0, a1, rfl⟩
  · simp at h
theorem len_3 {us : List Value} (h : us.length = 3) : ∃ a0 a1 a2, us = [a0, a1, a2] := by
  rcases us with _ | ⟨a0, _ | ⟨a1, _ | ⟨a2, _ | ⟨b, r⟩⟩⟩⟩
  · simp at h
  · simp at h
  · simp at h
  · exact ⟨a0, a1, a2, rfl⟩
  · simp at h
theorem all_mk {l : PySem.W.OpenLaw} {w : World} {K : PySem.W.Frag} {h : Heap} {mg : Str → Option Value} {fa fis_written_number fshow_bag fshow_plan fread_number fread_bag fread_plan f_law_at f_law_odd f_law_placed f_law_kept f_law_refused f_law_bent flaw CRoadError CNoText CBadBag CCutOff CManyGoals CNoDay CNoHouse CNoLetter CNoNet CNoRoad CNoRow CNoWay : Addr} {dis_written_number dshow_bag dshow_plan dread_number dread_bag dread_plan d_law_at d_law_odd d_law_placed d_law_kept d_law_refused d_law_bent dlaw : FuncData} (X : K.In h) (G : h.Ns mainGlobals mg) (hfa : mg "law" = some (.ref fa))
    (ais_written_number : PySem.W.nsIn K mainGlobals "is_written_number" = some (some (.ref fis_written_number)))
    (Fis_written_number : Fun K "is_written_number" "is_written_number" sWr fis_written_number dis_written_number)
    (ashow_bag : PySem.W.nsIn K mainGlobals "show_bag" = some (some (.ref fshow_bag)))
    (Fshow_bag : Fun K "show_bag" "show_bag" sShB fshow_bag dshow_bag)
    (ashow_plan : PySem.W.nsIn K mainGlobals "show_plan" = some (some (.ref fshow_plan)))
    (Fshow_plan : Fun K "show_plan" "show_plan" sShP fshow_plan dshow_plan)
    (aread_number : PySem.W.nsIn K mainGlobals "read_number" = some (some (.ref fread_number)))
    (Fread_number : Fun K "read_number" "read_number" sRn fread_number dread_number)
    (aread_bag : PySem.W.nsIn K mainGlobals "read_bag" = some (some (.ref fread_bag)))
    (Fread_bag : Fun K "read_bag" "read_bag" sRb fread_bag dread_bag)
    (aread_plan : PySem.W.nsIn K mainGlobals "read_plan" = some (some (.ref fread_plan)))
    (Fread_plan : Fun K "read_plan" "read_plan" sRp fread_plan dread_plan)
    (a_law_at : PySem.W.nsIn K mainGlobals "_law_at" = some (some (.ref f_law_at)))
    (F_law_at : Fun K "_law_at" "_law_at" sAt f_law_at d_law_at)
    (a_law_odd : PySem.W.nsIn K mainGlobals "_law_odd" = some (some (.ref f_law_odd)))
    (F_law_odd : Fun K "_law_odd" "_law_odd" sOdd f_law_odd d_law_odd)
    (a_law_placed : PySem.W.nsIn K mainGlobals "_law_placed" = some (some (.ref f_law_placed)))
    (F_law_placed : Fun K "_law_placed" "_law_placed" sPl f_law_placed d_law_placed)
    (a_law_kept : PySem.W.nsIn K mainGlobals "_law_kept" = some (some (.ref f_law_kept)))
    (F_law_kept : Fun K "_law_kept" "_law_kept" sKp f_law_kept d_law_kept)
    (a_law_refused : PySem.W.nsIn K mainGlobals "_law_refused" = some (some (.ref f_law_refused)))
    (F_law_refused : Fun K "_law_refused" "_law_refused" sRf f_law_refused d_law_refused)
    (a_law_bent : PySem.W.nsIn K mainGlobals "_law_bent" = some (some (.ref f_law_bent)))
    (F_law_bent : Fun K "_law_bent" "_law_bent" sBn f_law_bent d_law_bent)
    (alaw : PySem.W.nsIn K mainGlobals "law" = some (some (.ref flaw)))
    (Flaw : Fun K "law" "law" sLaw flaw dlaw)
    {ddRoadError : Option Addr} {cdRoadError : ClassData} {slRoadError : Array (Option Value)} (aCRoadError : PySem.W.nsIn K mainGlobals "RoadError" = some (some (.ref CRoadError))) (lCRoadError : K.lookup CRoadError = some ⟨.type "type", ddRoadError, .cls cdRoadError, slRoadError⟩)
    {ddNoText : Option Addr} {cdNoText : ClassData} {slNoText : Array (Option Value)} (aCNoText : PySem.W.nsIn K mainGlobals "NoText" = some (some (.ref CNoText))) (lCNoText : K.lookup CNoText = some ⟨.type "type", ddNoText, .cls cdNoText, slNoText⟩)
    {ddBadBag : Option Addr} {cdBadBag : ClassData} {slBadBag : Array (Option Value)} (aCBadBag : PySem.W.nsIn K mainGlobals "BadBag" = some (some (.ref CBadBag))) (lCBadBag : K.lookup CBadBag = some ⟨.type "type", ddBadBag, .cls cdBadBag, slBadBag⟩)
    {ddCutOff : Option Addr} {cdCutOff : ClassData} {slCutOff : Array (Option Value)} (aCCutOff : PySem.W.nsIn K mainGlobals "CutOff" = some (some (.ref CCutOff))) (lCCutOff : K.lookup CCutOff = some ⟨.type "type", ddCutOff, .cls cdCutOff, slCutOff⟩)
    {ddManyGoals : Option Addr} {cdManyGoals : ClassData} {slManyGoals : Array (Option Value)} (aCManyGoals : PySem.W.nsIn K mainGlobals "ManyGoals" = some (some (.ref CManyGoals))) (lCManyGoals : K.lookup CManyGoals = some ⟨.type "type", ddManyGoals, .cls cdManyGoals, slManyGoals⟩)
    {ddNoDay : Option Addr} {cdNoDay : ClassData} {slNoDay : Array (Option Value)} (aCNoDay : PySem.W.nsIn K mainGlobals "NoDay" = some (some (.ref CNoDay))) (lCNoDay : K.lookup CNoDay = some ⟨.type "type", ddNoDay, .cls cdNoDay, slNoDay⟩)
    {ddNoHouse : Option Addr} {cdNoHouse : ClassData} {slNoHouse : Array (Option Value)} (aCNoHouse : PySem.W.nsIn K mainGlobals "NoHouse" = some (some (.ref CNoHouse))) (lCNoHouse : K.lookup CNoHouse = some ⟨.type "type", ddNoHouse, .cls cdNoHouse, slNoHouse⟩)
    {ddNoLetter : Option Addr} {cdNoLetter : ClassData} {slNoLetter : Array (Option Value)} (aCNoLetter : PySem.W.nsIn K mainGlobals "NoLetter" = some (some (.ref CNoLetter))) (lCNoLetter : K.lookup CNoLetter = some ⟨.type "type", ddNoLetter, .cls cdNoLetter, slNoLetter⟩)
    {ddNoNet : Option Addr} {cdNoNet : ClassData} {slNoNet : Array (Option Value)} (aCNoNet : PySem.W.nsIn K mainGlobals "NoNet" = some (some (.ref CNoNet))) (lCNoNet : K.lookup CNoNet = some ⟨.type "type", ddNoNet, .cls cdNoNet, slNoNet⟩)
    {ddNoRoad : Option Addr} {cdNoRoad : ClassData} {slNoRoad : Array (Option Value)} (aCNoRoad : PySem.W.nsIn K mainGlobals "NoRoad" = some (some (.ref CNoRoad))) (lCNoRoad : K.lookup CNoRoad = some ⟨.type "type", ddNoRoad, .cls cdNoRoad, slNoRoad⟩)
    {ddNoRow : Option Addr} {cdNoRow : ClassData} {slNoRow : Array (Option Value)} (aCNoRow : PySem.W.nsIn K mainGlobals "NoRow" = some (some (.ref CNoRow))) (lCNoRow : K.lookup CNoRow = some ⟨.type "type", ddNoRow, .cls cdNoRow, slNoRow⟩)
    {ddNoWay : Option Addr} {cdNoWay : ClassData} {slNoWay : Array (Option Value)} (aCNoWay : PySem.W.nsIn K mainGlobals "NoWay" = some (some (.ref CNoWay))) (lCNoWay : K.lookup CNoWay = some ⟨.type "type", ddNoWay, .cls cdNoWay, slNoWay⟩)
    (xiNoText : PySem.W.excIn K CNoText [.type "ValueError", .type "Exception", .type "BaseException", .type "object"] "ValueError.__new__" = true)
    (xsRoadError_RoadError : excChk cdRoadError slRoadError CRoadError CRoadError = true)
    (xsNoText_RoadError : excChk cdNoText slNoText CNoText CRoadError = true)
    (zlen : PySem.W.nsIn K mainGlobals "len" = some none)
    (zrange : PySem.W.nsIn K mainGlobals "range" = some none)
    (zisinstance : PySem.W.nsIn K mainGlobals "isinstance" = some none)
    (zall : PySem.W.nsIn K mainGlobals "all" = some none)
    (zint : PySem.W.nsIn K mainGlobals "int" = some none)
    (zbool : PySem.W.nsIn K mainGlobals "bool" = some none)
    (zstr : PySem.W.nsIn K mainGlobals "str" = some none)
    (zlist : PySem.W.nsIn K mainGlobals "list" = some none)
    (ztuple : PySem.W.nsIn K mainGlobals "tuple" = some none)
    (zset : PySem.W.nsIn K mainGlobals "set" = some none)
    (zValueError : PySem.W.nsIn K mainGlobals "ValueError" = some none)
    (zenumerate : PySem.W.nsIn K mainGlobals "enumerate" = some none)
    (zmax : PySem.W.nsIn K mainGlobals "max" = some none)
    (zmin : PySem.W.nsIn K mainGlobals "min" = some none)
    (zsum : PySem.W.nsIn K mainGlobals "sum" = some none)
    (zany : PySem.W.nsIn K mainGlobals "any" = some none)
    (zdict : PySem.W.nsIn K mainGlobals "dict" = some none)
    (zsorted : PySem.W.nsIn K mainGlobals "sorted" = some none)
    (zzip : PySem.W.nsIn K mainGlobals "zip" = some none)
    (suNoText_ve : PySem.W.subIn K (.ref CNoText) (.type "ValueError") = some true)
    (gaNoText : PySem.W.findIn K (.ref CNoText) "__getattribute__" = some (some (.builtin "BaseException.__getattribute__")))
    (noNoText : PySem.W.findIn K (.ref CNoText) "__getattr__" = some none)
    (haNoText : PySem.W.findIn K (.ref CNoText) "__class__" = some (some (.builtin "object.__class__")))
    (hnNoText : PySem.W.specialIn K (.builtin "object.__class__") "__get__" = some (some (.builtin "getset_descriptor.__get__")))
    (htNoText : PySem.W.takesIn K (.builtin "object.__class__") = some true)
    (hmNoText : PySem.W.mroIn K CNoText (.type "object") = some true)
    (hbNoText : PySem.W.mroIn K CNoText (.type "BaseException") = some true)
    (naNoText : notAmong CNoText cdNoText [CBadBag, CCutOff, CManyGoals, CNoDay, CNoHouse, CNoLetter, CNoNet, CNoRoad, CNoRow, CNoWay] = true)
    (icNoText : PySem.W.isClsIn K CNoText = true)
    (tyNoText : PySem.W.typeIn K (.ref CNoText) = some (.type "type"))
    (icBadBag : PySem.W.isClsIn K CBadBag = true)
    (tyBadBag : PySem.W.typeIn K (.ref CBadBag) = some (.type "type"))
    (icCutOff : PySem.W.isClsIn K CCutOff = true)
    (tyCutOff : PySem.W.typeIn K (.ref CCutOff) = some (.type "type"))
    (icManyGoals : PySem.W.isClsIn K CManyGoals = true)
    (tyManyGoals : PySem.W.typeIn K (.ref CManyGoals) = some (.type "type"))
    (icNoDay : PySem.W.isClsIn K CNoDay = true)
    (tyNoDay : PySem.W.typeIn K (.ref CNoDay) = some (.type "type"))
    (icNoHouse : PySem.W.isClsIn K CNoHouse = true)
    (tyNoHouse : PySem.W.typeIn K (.ref CNoHouse) = some (.type "type"))
    (icNoLetter : PySem.W.isClsIn K CNoLetter = true)
    (tyNoLetter : PySem.W.typeIn K (.ref CNoLetter) = some (.type "type"))
    (icNoNet : PySem.W.isClsIn K CNoNet = true)
    (tyNoNet : PySem.W.typeIn K (.ref CNoNet) = some (.type "type"))
    (icNoRoad : PySem.W.isClsIn K CNoRoad = true)
    (tyNoRoad : PySem.W.typeIn K (.ref CNoRoad) = some (.type "type"))
    (icNoRow : PySem.W.isClsIn K CNoRow = true)
    (tyNoRow : PySem.W.typeIn K (.ref CNoRow) = some (.type "type"))
    (icNoWay : PySem.W.isClsIn K CNoWay = true)
    (tyNoWay : PySem.W.typeIn K (.ref CNoWay) = some (.type "type")) :
    ∃ fd : FuncData, (∀ (s : Shared) (v : Value), BindsTo s fd ⟨[v], []⟩ [("_law_script", v)]) ∧ ∀ base : Heap, K.In base → base.Ns mainGlobals mg → FnOk l.prog w K mg base CX0 7 fa fd ["_law_script"] (spLaw K) := by
  have e := hfa.symm.trans (PySem.W.mg_of X G alaw)
  cases e
  have bis_written_number := Fis_written_number.binds (ps := ["text"]) fun _ _ _ _ _ _ us hl => by (obtain ⟨_, rfl⟩ := len_1 hl); rfl
  have D_is_written_number : Dn K mg "is_written_number" sWr ["text"] fis_written_number _ := ⟨Fis_written_number, PySem.W.mg_of X G ais_written_number, bis_written_number⟩
  have bshow_bag := Fshow_bag.binds (ps := ["bag"]) fun _ _ _ _ _ _ us hl => by (obtain ⟨_, rfl⟩ := len_1 hl); rfl
  have D_show_bag : Dn K mg "show_bag" sShB ["bag"] fshow_bag _ := ⟨Fshow_bag, PySem.W.mg_of X G ashow_bag, bshow_bag⟩
  have bshow_plan := Fshow_plan.binds (ps := ["plan"]) fun _ _ _ _ _ _ us hl => by (obtain ⟨_, rfl⟩ := len_1 hl); rfl
  have D_show_plan : Dn K mg "show_plan" sShP ["plan"] fshow_plan _ := ⟨Fshow_plan, PySem.W.mg_of X G ashow_plan, bshow_plan⟩
  have bread_number := Fread_number.binds (ps := ["word"]) fun _ _ _ _ _ _ us hl => by (obtain ⟨_, rfl⟩ := len_1 hl); rfl
  have D_read_number : Dn K mg "read_number" sRn ["word"] fread_number _ := ⟨Fread_number, PySem.W.mg_of X G aread_number, bread_number⟩
  have bread_bag := Fread_bag.binds (ps := ["text"]) fun _ _ _ _ _ _ us hl => by (obtain ⟨_, rfl⟩ := len_1 hl); rfl
  have D_read_bag : Dn K mg "read_bag" sRb ["text"] fread_bag _ := ⟨Fread_bag, PySem.W.mg_of X G aread_bag, bread_bag⟩
  have bread_plan := Fread_plan.binds (ps := ["text"]) fun _ _ _ _ _ _ us hl => by (obtain ⟨_, rfl⟩ := len_1 hl); rfl
  have D_read_plan : Dn K mg "read_plan" sRp ["text"] fread_plan _ := ⟨Fread_plan, PySem.W.mg_of X G aread_plan, bread_plan⟩
  have b_law_at := F_law_at.binds (ps := ["_law_script", "_law_k"]) fun _ _ _ _ _ _ us hl => by (obtain ⟨_, _, rfl⟩ := len_2 hl); rfl
  have D__law_at : Dn K mg "_law_at" sAt ["_law_script", "_law_k"] f_law_at _ := ⟨F_law_at, PySem.W.mg_of X G a_law_at, b_law_at⟩
  have b_law_odd := F_law_odd.binds (ps := ["_law_cell"]) fun _ _ _ _ _ _ us hl => by (obtain ⟨_, rfl⟩ := len_1 hl); rfl
  have D__law_odd : Dn K mg "_law_odd" sOdd ["_law_cell"] f_law_odd _ := ⟨F_law_odd, PySem.W.mg_of X G a_law_odd, b_law_odd⟩
  have b_law_placed := F_law_placed.binds (ps := ["_law_odd_here", "_law_text", "_law_way"]) fun _ _ _ _ _ _ us hl => by (obtain ⟨_, _, _, rfl⟩ := len_3 hl); rfl
  have D__law_placed : Dn K mg "_law_placed" sPl ["_law_odd_here", "_law_text", "_law_way"] f_law_placed _ := ⟨F_law_placed, PySem.W.mg_of X G a_law_placed, b_law_placed⟩
  have b_law_kept := F_law_kept.binds (ps := ["_law_text"]) fun _ _ _ _ _ _ us hl => by (obtain ⟨_, rfl⟩ := len_1 hl); rfl
  have D__law_kept : Dn K mg "_law_kept" sKp ["_law_text"] f_law_kept _ := ⟨F_law_kept, PySem.W.mg_of X G a_law_kept, b_law_kept⟩
  have b_law_refused := F_law_refused.binds (ps := ["_law_text"]) fun _ _ _ _ _ _ us hl => by (obtain ⟨_, rfl⟩ := len_1 hl); rfl
  have D__law_refused : Dn K mg "_law_refused" sRf ["_law_text"] f_law_refused _ := ⟨F_law_refused, PySem.W.mg_of X G a_law_refused, b_law_refused⟩
  have b_law_bent := F_law_bent.binds (ps := ["_law_text", "_law_cell"]) fun _ _ _ _ _ _ us hl => by (obtain ⟨_, _, rfl⟩ := len_2 hl); rfl
  have D__law_bent : Dn K mg "_law_bent" sBn ["_law_text", "_law_cell"] f_law_bent _ := ⟨F_law_bent, PySem.W.mg_of X G a_law_bent, b_law_bent⟩
  have blaw := Flaw.binds (ps := ["_law_script"]) fun _ _ _ _ _ _ us hl => by (obtain ⟨_, rfl⟩ := len_1 hl); rfl
  have at_RoadError := PySem.W.mg_of X G aCRoadError
  have at_NoText := PySem.W.mg_of X G aCNoText
  have at_BadBag := PySem.W.mg_of X G aCBadBag
  have at_CutOff := PySem.W.mg_of X G aCCutOff
  have at_ManyGoals := PySem.W.mg_of X G aCManyGoals
  have at_NoDay := PySem.W.mg_of X G aCNoDay
  have at_NoHouse := PySem.W.mg_of X G aCNoHouse
  have at_NoLetter := PySem.W.mg_of X G aCNoLetter
  have at_NoNet := PySem.W.mg_of X G aCNoNet
  have at_NoRoad := PySem.W.mg_of X G aCNoRoad
  have at_NoRow := PySem.W.mg_of X G aCNoRow
  have at_NoWay := PySem.W.mg_of X G aCNoWay
  have EX_NoText : Exc K mg "NoText" CNoText _ _ := ⟨at_NoText, xiNoText⟩
  have xsRoadError_RoadError := excSub_of lCRoadError xsRoadError_RoadError
  have xsNoText_RoadError := excSub_of lCNoText xsNoText_RoadError
  have B : Blt mg := ⟨PySem.W.mg_none_of X G zlen, PySem.W.mg_none_of X G zrange, PySem.W.mg_none_of X G zisinstance, PySem.W.mg_none_of X G zall, PySem.W.mg_none_of X G zint, PySem.W.mg_none_of X G zbool, PySem.W.mg_none_of X G zstr, PySem.W.mg_none_of X G zlist, PySem.W.mg_none_of X G ztuple, PySem.W.mg_none_of X G zset, PySem.W.mg_none_of X G zValueError, PySem.W.mg_none_of X G zenumerate, PySem.W.mg_none_of X G zmax, PySem.W.mg_none_of X G zmin, PySem.W.mg_none_of X G zsum, PySem.W.mg_none_of X G zany, PySem.W.mg_none_of X G zdict, PySem.W.mg_none_of X G zsorted, PySem.W.mg_none_of X G zzip⟩
  obtain ⟨_, _, kV, dc, pm, an, cd, ct, _, rfl, _, _⟩ := id Flaw.ex
  refine ⟨PySem.W.fnOf "law" "law" (defArgs sLaw) (defBody sLaw) (defScope sLaw) .none kV dc pm an cd ct, fun s v => .of_eq rfl, fun base _ _ => ?_⟩
  have RC : RefT K CRoadError CNoText [CBadBag, CCutOff, CManyGoals, CNoDay, CNoHouse, CNoLetter, CNoNet, CNoRoad, CNoRow, CNoWay] := ⟨xsRoadError_RoadError, xsNoText_RoadError, kit_me K _, (kit_ty (by decide +kernel) suNoText_ve), ⟨gaNoText, noNoText, haNoText, hnNoText, htNoText, hmNoText, hbNoText⟩, (kitAny_not lCNoText (List.forall_mem_cons.mpr ⟨⟨_, _, _, lCBadBag⟩, (List.forall_mem_cons.mpr ⟨⟨_, _, _, lCCutOff⟩, (List.forall_mem_cons.mpr ⟨⟨_, _, _, lCManyGoals⟩, (List.forall_mem_cons.mpr ⟨⟨_, _, _, lCNoDay⟩, (List.forall_mem_cons.mpr ⟨⟨_, _, _, lCNoHouse⟩, (List.forall_mem_cons.mpr ⟨⟨_, _, _, lCNoLetter⟩, (List.forall_mem_cons.mpr ⟨⟨_, _, _, lCNoNet⟩, (List.forall_mem_cons.mpr ⟨⟨_, _, _, lCNoRoad⟩, (List.forall_mem_cons.mpr ⟨⟨_, _, _, lCNoRow⟩, (List.forall_mem_cons.mpr ⟨⟨_, _, _, lCNoWay⟩, (fun _ h => absurd h List.not_mem_nil)⟩)⟩)⟩)⟩)⟩)⟩)⟩)⟩)⟩)⟩) naNoText), (List.forall_mem_cons.mpr ⟨kit_none icNoText tyNoText, (List.forall_mem_cons.mpr ⟨kit_none icBadBag tyBadBag, (List.forall_mem_cons.mpr ⟨kit_none icCutOff tyCutOff, (List.forall_mem_cons.mpr ⟨kit_none icManyGoals tyManyGoals, (List.forall_mem_cons.mpr ⟨kit_none icNoDay tyNoDay, (List.forall_mem_cons.mpr ⟨kit_none icNoHouse tyNoHouse, (List.forall_mem_cons.mpr ⟨kit_none icNoLetter tyNoLetter, (List.forall_mem_cons.mpr ⟨kit_none icNoNet tyNoNet, (List.forall_mem_cons.mpr ⟨kit_none icNoRoad tyNoRoad, (List.forall_mem_cons.mpr ⟨kit_none icNoRow tyNoRow, (List.forall_mem_cons.mpr ⟨kit_none icNoWay tyNoWay, (fun _ h => absurd h List.not_mem_nil)⟩)⟩)⟩)⟩)⟩)⟩)⟩)⟩)⟩)⟩)⟩)⟩
  have G_sb : FnOk l.prog w K mg base CX0 1 fshow_bag _ ["bag"] spShB := ok_shB Fshow_bag B
  have G_sp : FnOk l.prog w K mg base CX0 2 fshow_plan _ ["plan"] (spShP K) := ok_shP Fshow_plan D_show_bag G_sb
  have G_wr : FnOk l.prog w K mg base CX0 1 fis_written_number _ ["text"] spWrA := ok_wrA Fis_written_number B
  have G_rn : FnOk l.prog w K mg base (CXe l.prog w) 2 fread_number _ ["word"] (spRnA CNoText) := ok_rnA Fread_number B PySem.F.excBase_ValueError EX_NoText D_is_written_number G_wr
  have G_rb : FnOk l.prog w K mg base (CXe l.prog w) 3 fread_bag _ ["text"] (spRbA CNoText) := ok_rbA Fread_bag B PySem.F.excBase_ValueError EX_NoText D_read_number G_rn
  have G_rp : FnOk l.prog w K mg base (CXe l.prog w) 4 fread_plan _ ["text"] (spRpA CNoText) := ok_rpA Fread_plan D_read_bag G_rb
  have G_at : FnOk l.prog w K mg base CX0 1 f_law_at _ ["_law_script", "_law_k"] (spAt K) := ok_at F_law_at B.len
  have G_od : FnOk l.prog w K mg base CX0 1 f_law_odd _ ["_law_cell"] spOdd := ok_odd F_law_odd B
  have G_pl : FnOk l.prog w K mg base CX0 1 f_law_placed _ ["_law_odd_here", "_law_text", "_law_way"] spPl := ok_pl F_law_placed
  have G_kp : FnOk l.prog w K mg base CX0 5 f_law_kept _ ["_law_text"] (spKp CNoText) := ok_kp F_law_kept RC at_RoadError D_read_plan G_rp
  have G_rf : FnOk l.prog w K mg base CX0 6 f_law_refused _ ["_law_text"] spRf := ok_rf F_law_refused B RC at_NoText at_BadBag at_CutOff at_ManyGoals at_NoDay at_NoHouse at_NoLetter at_NoNet at_NoRoad at_NoRow at_NoWay D__law_kept G_kp
  have G_bn : FnOk l.prog w K mg base CX0 1 f_law_bent _ ["_law_text", "_law_cell"] spBn := ok_bn F_law_bent B
  exact ok_law Flaw B D_show_plan G_sp D_read_plan G_rp D__law_at G_at D__law_odd G_od D__law_placed G_pl D__law_refused G_rf D__law_bent G_bn
theorem walk {l : PySem.W.OpenLaw} {q : Program} {loose : List Str} {XP : (Str → Option Value) → Heap → Prop} {YP : World → Heap → Prop} {d : DefRec} {K : Params → PySem.W.Frag} (hn : l.most = some 63) (hdf : d.params.defaults = [])
    (hY : ∀ (w : World) (h : Heap), YP w h → (K w.params).In h)
    (F : ∀ (w : World) (mg : Str → Option Value) (fa : Addr) (h : Heap), (K w.params).In h → h.Ns mainGlobals mg → mg d.name = some (.ref fa) →
      ∃ fd : FuncData, (∀ (s : Shared) (u : Value), BindsTo s fd ⟨[u], []⟩ [("_law_script", u)]) ∧ ∀ base : Heap, (K w.params).In base → base.Ns mainGlobals mg → FnOk l.prog w (K w.params) mg base CX0 7 fa fd ["_law_script"] (spLaw (K w.params))) :
    PySem.W.WalkO q loose XP YP l.row.toRowW d [] (fun f vs => PySem.call f vs) :=
  L2.walk_of (n := 63) (k := 7) (x := "_law_script") (CX := fun _ => CX0) (sp := fun w => spLaw (K w.params)) hn (by decide) hdf ⟨rfl, by decide, by decide⟩ hY F (fun _ _ a ns hl _ hS => ⟨a, ns, rfl, hS, hl, fun _ => rfl⟩) fun _ _ _ _ _ z => z
end K1
open PySem PySem.W PyProof.Rows
set_option maxRecDepth 100000 in
set_option maxHeartbeats 0 in
theorem PySem.Challenge.cw_postroad_k82_no_plan_text_holds : PySem.Challenge.rw_postroad_k82_no_plan_text.Holds := by
  w_on; o_law; k_head; (case hw => w_witness2)
  k_fill
  refine K1.walk (l := PySem.Challenge.rw_postroad_k82_no_plan_text) rfl rfl (fun w h Y => PySem.W.kIn_of Y) ?F
  case F =>
    intro w mg fa h KX G hmg
    refine' K1.all_mk KX G hmg ?ais_written_number ?Fis_written_number ?ashow_bag ?Fshow_bag ?ashow_plan ?Fshow_plan ?aread_number ?Fread_number ?aread_bag ?Fread_bag ?aread_plan ?Fread_plan ?a_law_at ?F_law_at ?a_law_odd ?F_law_odd ?a_law_placed ?F_law_placed ?a_law_kept ?F_law_kept ?a_law_refused ?F_law_refused ?a_law_bent ?F_law_bent ?alaw ?Flaw ?aCRoadError ?lCRoadError ?aCNoText ?lCNoText ?aCBadBag ?lCBadBag ?aCCutOff ?lCCutOff ?aCManyGoals ?lCManyGoals ?aCNoDay ?lCNoDay ?aCNoHouse ?lCNoHouse ?aCNoLetter ?lCNoLetter ?aCNoNet ?lCNoNet ?aCNoRoad ?lCNoRoad ?aCNoRow ?lCNoRow ?aCNoWay ?lCNoWay ?xiNoText ?xsRoadError_RoadError ?xsNoText_RoadError ?zlen ?zrange ?zisinstance ?zall ?zint ?zbool ?zstr ?zlist ?ztuple ?zset ?zValueError ?zenumerate ?zmax ?zmin ?zsum ?zany ?zdict ?zsorted ?zzip ?suNoText_ve ?gaNoText ?noNoText ?haNoText ?hnNoText ?htNoText ?hmNoText ?hbNoText ?naNoText ?icNoText ?tyNoText ?icBadBag ?tyBadBag ?icCutOff ?tyCutOff ?icManyGoals ?tyManyGoals ?icNoDay ?tyNoDay ?icNoHouse ?tyNoHouse ?icNoLetter ?tyNoLetter ?icNoNet ?tyNoNet ?icNoRoad ?tyNoRoad ?icNoRow ?tyNoRow ?icNoWay ?tyNoWay
    (case ais_written_number => k_is)
    (case Fis_written_number => refine' L2.fun_mk ?z ?y ?x; (case z => k_is); (case y => k_is); (case x => k_is))
    (case ashow_bag => k_is)
    (case Fshow_bag => refine' L2.fun_mk ?z ?y ?x; (case z => k_is); (case y => k_is); (case x => k_is))
    (case ashow_plan => k_is)
    (case Fshow_plan => refine' L2.fun_mk ?z ?y ?x; (case z => k_is); (case y => k_is); (case x => k_is))
    (case aread_number => k_is)
    (case Fread_number => refine' L2.fun_mk ?z ?y ?x; (case z => k_is); (case y => k_is); (case x => k_is))
    (case aread_bag => k_is)
    (case Fread_bag => refine' L2.fun_mk ?z ?y ?x; (case z => k_is); (case y => k_is); (case x => k_is))
    (case aread_plan => k_is)
    (case Fread_plan => refine' L2.fun_mk ?z ?y ?x; (case z => k_is); (case y => k_is); (case x => k_is))
    (case a_law_at => k_is)
    (case F_law_at => refine' L2.fun_mk ?z ?y ?x; (case z => k_is); (case y => k_is); (case x => k_is))
    (case a_law_odd => k_is)
    (case F_law_odd => refine' L2.fun_mk ?z ?y ?x; (case z => k_is); (case y => k_is); (case x => k_is))
    (case a_law_placed => k_is)
    (case F_law_placed => refine' L2.fun_mk ?z ?y ?x; (case z => k_is); (case y => k_is); (case x => k_is))
    (case a_law_kept => k_is)
    (case F_law_kept => refine' L2.fun_mk ?z ?y ?x; (case z => k_is); (case y => k_is); (case x => k_is))
    (case a_law_refused => k_is)
    (case F_law_refused => refine' L2.fun_mk ?z ?y ?x; (case z => k_is); (case y => k_is); (case x => k_is))
    (case a_law_bent => k_is)
    (case F_law_bent => refine' L2.fun_mk ?z ?y ?x; (case z => k_is); (case y => k_is); (case x => k_is))
    (case alaw => k_is)
    (case Flaw => refine' L2.fun_mk ?z ?y ?x; (case z => k_is); (case y => k_is); (case x => k_is))
    (case aCRoadError => k_is)
    (case lCRoadError => k_is)
    (case aCNoText => k_is)
    (case lCNoText => k_is)
    (case aCBadBag => k_is)
    (case lCBadBag => k_is)
    (case aCCutOff => k_is)
    (case lCCutOff => k_is)
    (case aCManyGoals => k_is)
    (case lCManyGoals => k_is)
    (case aCNoDay => k_is)
    (case lCNoDay => k_is)
    (case aCNoHouse => k_is)
    (case lCNoHouse => k_is)
    (case aCNoLetter => k_is)
    (case lCNoLetter => k_is)
    (case aCNoNet => k_is)
    (case lCNoNet => k_is)
    (case aCNoRoad => k_is)
    (case lCNoRoad => k_is)
    (case aCNoRow => k_is)
    (case lCNoRow => k_is)
    (case aCNoWay => k_is)
    (case lCNoWay => k_is)
    (case xiNoText => k_exc)
    (case xsRoadError_RoadError => decide +kernel)
    (case xsNoText_RoadError => decide +kernel)
    (case zlen => k_is)
    (case zrange => k_is)
    (case zisinstance => k_is)
    (case zall => k_is)
    (case zint => k_is)
    (case zbool => k_is)
    (case zstr => k_is)
    (case zlist => k_is)
    (case ztuple => k_is)
    (case zset => k_is)
    (case zValueError => k_is)
    (case zenumerate => k_is)
    (case zmax => k_is)
    (case zmin => k_is)
    (case zsum => k_is)
    (case zany => k_is)
    (case zdict => k_is)
    (case zsorted => k_is)
    (case zzip => k_is)
    (case suNoText_ve => k_is)
    (case gaNoText => k_is)
    (case noNoText => k_is)
    (case haNoText => k_is)
    (case hnNoText => k_is)
    (case htNoText => k_is)
    (case hmNoText => k_is)
    (case hbNoText => k_is)
    (case naNoText => decide +kernel)
    (case icNoText => k_is)
    (case tyNoText => k_is)
    (case icBadBag => k_is)
    (case tyBadBag => k_is)
    (case icCutOff => k_is)
    (case tyCutOff => k_is)
    (case icManyGoals => k_is)
    (case tyManyGoals => k_is)
    (case icNoDay => k_is)
    (case tyNoDay => k_is)
    (case icNoHouse => k_is)
    (case tyNoHouse => k_is)
    (case icNoLetter => k_is)
    (case tyNoLetter => k_is)
    (case icNoNet => k_is)
    (case tyNoNet => k_is)
    (case icNoRoad => k_is)
    (case tyNoRoad => k_is)
    (case icNoRow => k_is)
    (case tyNoRow => k_is)
    (case icNoWay => k_is)
    (case tyNoWay => k_is)
