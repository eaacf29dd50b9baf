import PyProof.Rows.All
import Wide.All
import OpenK.AllK
import Wide.FinOn
import Lean
import PyProof.EqAt
import PyProof.EqKinds
import PyProof.TupleCall
import PySem.Challenge.RW_postroad_k42_whole_no_plan_beats_a_paper

set_option Elab.async false
set_option linter.all false
set_option maxRecDepth 100000
namespace L2
open PySem PySem.Spec PyProof.Rows

noncomputable abbrev Key := Sum Int Str
noncomputable def keyIs : Key → Value → Bool
  | .inl k, v => Value.isInt k v
  | .inr x, v => Value.isStrOf x v
noncomputable def keyH (w : World) : Key → Int
  | .inl k => hashInt k
  | .inr x => hashStr w x
theorem keyIs_shape : ∀ {k : Key} {v : Value}, keyIs k v = true → (∃ i t, k = Sum.inl i ∧ v = Value.int i t) ∨ (∃ x t, k = Sum.inr x ∧ v = Value.str x t)
  | .inl i, v, h => by
    obtain ⟨t, e⟩ := Value.isInt_shape (k := i) (v := v) h
    exact .inl ⟨i, t, rfl, e⟩
  | .inr x, v, h => by
    obtain ⟨t, e⟩ := Value.isStrOf_shape (x := x) (v := v) h
    exact .inr ⟨x, t, rfl, e⟩
theorem keyIs_int (i : Int) (t : Tok) : keyIs (.inl i) (.int i t) = true := by simp [keyIs, Value.isInt]
theorem keyIs_str (x : Str) (t : Tok) : keyIs (.inr x) (.str x t) = true := by simp [keyIs, Value.isStrOf]
theorem key_ll (a b : Int) : decide ((Sum.inl a : Key) = Sum.inl b) = (a == b) := by
  by_cases e : a = b
  · subst e; simp
  · have h : ¬ (Sum.inl a : Key) = Sum.inl b := fun q => e (Sum.inl.inj q)
    rw [decide_eq_false h]
    exact (beq_eq_false_iff_ne.mpr e).symm
theorem key_rr (a b : Str) : decide ((Sum.inr a : Key) = Sum.inr b) = decide (a = b) := by
  by_cases e : a = b
  · subst e; simp
  · have h : ¬ (Sum.inr a : Key) = Sum.inr b := fun q => e (Sum.inr.inj q)
    rw [decide_eq_false h, decide_eq_false e]
theorem key_lr (a : Int) (b : Str) : decide ((Sum.inl a : Key) = Sum.inr b) = false := decide_eq_false (fun q => nomatch q)
theorem key_rl (a : Str) (b : Int) : decide ((Sum.inr a : Key) = Sum.inl b) = false := decide_eq_false (fun q => nomatch q)

noncomputable def mixKind (prog : Program) (w : World) : PySem.KeyKind prog w Key where
  is := keyIs
  hash := keyH w
  inj := fun v a b ha hb => by
    rcases keyIs_shape ha with ⟨i, t, rfl, rfl⟩ | ⟨x, t, rfl, rfl⟩
    · rcases keyIs_shape hb with ⟨j, u, rfl, e⟩ | ⟨y, u, rfl, e⟩
      · injection e with e1 _; rw [e1]
      · exact nomatch e
    · rcases keyIs_shape hb with ⟨j, u, rfl, e⟩ | ⟨y, u, rfl, e⟩
      · exact nomatch e
      · injection e with e1 _; rw [e1]
  byValue := fun k v h => by
    rcases keyIs_shape h with ⟨i, t, rfl, rfl⟩ | ⟨x, t, rfl, rfl⟩ <;> rfl
  pyHash := fun hv h => by
    rcases keyIs_shape hv with ⟨i, t, rfl, rfl⟩ | ⟨x, t, rfl, rfl⟩
    · exact wpAny_pyHash_int h
    · exact wpAny_pyHash_str h
  eqBool := fun hu hv h => by
    rcases keyIs_shape hu with ⟨i, t, rfl, rfl⟩ | ⟨x, t, rfl, rfl⟩
    · rcases keyIs_shape hv with ⟨j, u, rfl, rfl⟩ | ⟨y, u, rfl, rfl⟩
      · rw [key_ll] at h; exact wpAny_eqBool_int h
      · rw [key_lr] at h; exact SeqAt.EqAt.int_str i t y u _ _ _ _ h
    · rcases keyIs_shape hv with ⟨j, u, rfl, rfl⟩ | ⟨y, u, rfl, rfl⟩
      · rw [key_rl] at h; exact SeqAt.EqAt.str_int x t j u _ _ _ _ h
      · rw [key_rr] at h; exact wpAny_eqBool_str h
  «strs» := fun k x t v h => by
    rcases keyIs_shape h with ⟨i, u, rfl, e⟩ | ⟨y, u, rfl, e⟩
    · exact nomatch e
    · injection e with e1 _
      subst e1
      cases v <;> rfl

theorem mixKind_int (prog : Program) (w : World) (i : Int) (t : Tok) : (mixKind prog w).is (.inl i) (.int i t) = true := keyIs_int i t
theorem mixKind_str (prog : Program) (w : World) (x : Str) (t : Tok) : (mixKind prog w).is (.inr x) (.str x t) = true := keyIs_str x t
end L2

namespace L2
open PySem PySem.Spec PyProof.Rows

inductive V where
  | non | bl (b : Bool) | int (i : Int) | str (x : Str) | byt (b : Array UInt8) | flt (b : UInt64) | ref (a : Addr) | ty (n : String)
  deriving DecidableEq

noncomputable def RelV : V → Value → Prop
  | .non, u => u = Value.none
  | .bl b, u => u = Value.bool b
  | .int i, u => ∃ t, u = Value.int i t
  | .str x, u => ∃ t, u = Value.str x t
  | .byt b, u => ∃ t, u = Value.bytes b t
  | .flt b, u => ∃ t, u = Value.float b t
  | .ref a, u => u = Value.ref a
  | .ty n, u => u = Value.type n

noncomputable abbrev Vals : List V → List Value → Prop := Paired RelV
theorem Vals.length {xs : List V} {us : List Value} (r : Vals xs us) : xs.length = us.length := Paired.length r
theorem Vals.get : ∀ {xs : List V} {us : List Value} {i : Nat} {x : V}, Vals xs us → xs[i]? = some x → ∃ u, us[i]? = some u ∧ RelV x u
  | _, _, _, _, .nil, e => by simp at e
  | _, _, 0, _, .cons r _, e => by simp at e; subst e; exact ⟨_, rfl, r⟩
  | _, _, i + 1, x, .cons _ t, e => by
    obtain ⟨u, h1, h2⟩ := Vals.get (i := i) (x := x) t (by simpa using e)
    exact ⟨u, by simpa using h1, h2⟩
theorem Vals.set {x : V} {u : Value} (r : RelV x u) : ∀ {xs : List V} {us : List Value} (i : Nat), Vals xs us → Vals (xs.set i x) (us.set i u)
  | _, _, _, .nil => .nil
  | _, _, 0, .cons _ t => .cons r t
  | _, _, i + 1, .cons q t => .cons q (Vals.set r i t)
theorem Vals.append : ∀ {xs ys : List V} {us ws : List Value}, Vals xs us → Vals ys ws → Vals (xs ++ ys) (us ++ ws)
  | _, _, _, _, .nil, s => s
  | _, _, _, _, .cons r t, s => .cons r (Vals.append t s)
theorem Vals.take : ∀ {xs : List V} {us : List Value} (n : Nat), Vals xs us → Vals (xs.take n) (us.take n)
  | _, _, 0, _ => .nil
  | _, _, _ + 1, .nil => .nil
  | _, _, n + 1, .cons r t => .cons r (Vals.take n t)
theorem Vals.drop : ∀ {xs : List V} {us : List Value} (n : Nat), Vals xs us → Vals (xs.drop n) (us.drop n)
  | _, _, 0, r => r
  | _, _, _ + 1, .nil => .nil
  | _, _, n + 1, .cons _ t => Vals.drop n t
theorem Vals.none_of : ∀ {xs : List V} {us : List Value} {i : Nat}, Vals xs us → xs[i]? = none → us[i]? = none := fun {xs us i} r e => by
  have h1 := r.length
  have h2 : xs.length ≤ i := List.getElem?_eq_none_iff.mp e
  exact List.getElem?_eq_none_iff.mpr (by omega)

noncomputable def RelO : Option V → Option Value → Prop
  | some v, some u => RelV v u
  | none, none => True
  | _, _ => False
noncomputable def KV {κ : Type} : List (κ × V) → List (κ × Value) → Prop := Paired fun (p : κ × V) (q : κ × Value) => p.1 = q.1 ∧ RelV p.2 q.2

noncomputable def kV : Key → V
  | .inl i => .int i
  | .inr x => .str x

inductive HO where
  /-- a list -/
  | lst (xs : List V)
  /-- a tuple (never changes) -/
  | tup (xs : List V)
  /-- a dict whose keys are ints and texts; one whose keys are tuples of ints and texts (the empty one is both) -/
  | dK (kvs : List (Key × V)) | dT (kvs : List (List Key × V))
  /-- a set of ints: its members, its size -/
  | set (S : Int → Bool) (n : Nat)
  /-- an instance of the class at C, its dict at dx, its attributes -/
  | ins (C dx : Addr) (fs : List (Str × V))
  /-- the dict of the instance at x -/
  | own (x : Addr)
  /-- the dict of an exception -/
  | xd (fs : List (Str × V))
  /-- a bound method, f of x -/
  | met (f x : Addr)
  /-- a range object lo, lo + 1, .. below hi -/
  | rng (lo hi : Int)
  /-- a thing that is known to the object (the script; a dict while a loop walks it): read, never written while it is so -/
  | frz (o : Obj) (u : HO)
  /-- a code object's table -/
  | tbl (ps : Array Value)
  /-- any other thing, by what is true of its one object (a def of one's own: SetO a S n := HO.ext fun h => ..) -/
  | ext (φ : Heap → Prop)

noncomputable abbrev Hp := Addr → Option HO
noncomputable def upd (H : Hp) (a : Addr) (o : HO) : Hp := fun b => if b = a then some o else H b
theorem upd_same {H : Hp} {a : Addr} {o : HO} : upd H a o a = some o := by unfold upd; rw [if_pos rfl]
theorem upd_ne {H : Hp} {a b : Addr} {o : HO} (h : b ≠ a) : upd H a o b = H b := by unfold upd; rw [if_neg h]
theorem upd_upd {H : Hp} {a : Addr} {o u : HO} : upd (upd H a o) a u = upd H a u := by
  funext b; unfold upd; split <;> rfl
theorem ne_of {H : Hp} {a b : Addr} {o u : HO} (h : H a = some o) (h' : H b = some u) (d : o ≠ u) : a ≠ b := by
  intro e; subst e; rw [h] at h'; exact d (Option.some.inj h')
theorem ne_of_none {H : Hp} {a b : Addr} {o : HO} (h : H a = some o) (h' : H b = none) : a ≠ b := by
  intro e; subst e; rw [h] at h'; cases h'

section
variable (P : Program) (w : World)
noncomputable def ObjOk (H : Hp) (h : Heap) (a : Addr) : HO → Prop
  | .lst xs => xs.length ≤ sizeLine ∧ ∃ (its : List Value) (n : Nat), Vals xs its ∧ h.get? a = some { cls := .type "list", data := .seq its.toArray n }
  | .tup xs => xs.length ≤ sizeLine ∧ ∃ its : List Value, Vals xs its ∧ IsTup h a its.toArray
  | .dK kvs => kvs.length ≤ sizeLine ∧ (a == sysModules) = false ∧ ∃ vs, KV kvs vs ∧ h.DictOf (mixKind P w) a vs
  | .dT kvs => kvs.length ≤ sizeLine ∧ (a == sysModules) = false ∧ ∃ xs : List (List Key × Addr × Value),
      Paired (fun (p : List Key × V) (q : List Key × Addr × Value) => p.1 = q.1 ∧ H q.2.1 = some (.tup (p.1.map kV)) ∧ RelV p.2 q.2.2) kvs xs ∧
      ∃ o es ep, h.get? a = some o ∧ o.ExactDict ∧ o.data = .dict es ep ∧ es.toList = xs.map (entryOfKey (tupleKind (mixKind P w))) ∧ (xs.map (·.1)).Nodup
  | .set S n => h.SetOf (intKind P w) a S n
  | .ins C dx fs => H dx = some (.own a) ∧ fs.length ≤ 1000 ∧ dx ≠ a ∧ h.get? a = some (PySem.W.instObj C dx) ∧
      ∃ mA, h.Ns1 dx mA ∧ (∀ f, RelO (fs.lookup f) (mA f)) ∧ PySem.Within mA (fs.map (·.1))
  | .own _ => ∃ o, h.get? a = some o
  | .xd fs => ∃ mA, h.Ns1 a mA ∧ ∀ f, RelO (fs.lookup f) (mA f)
  | .rng lo hi => ∃ t u v, h.get? a = some { cls := .type "range", data := .fields #[.int lo t, .int hi u, .int 1 v] }
  | .frz o u => h.get? a = some o ∧ ObjOk H h a u
  | .tbl ps => h.get? a = some { cls := .none, data := .fields ps }
  | .met f x => h.get? a = some (PySem.W.methodObj (.ref f) (.ref x))
  | .ext φ => φ h ∧ (∃ o, h.get? a = some o) ∧ ∀ h1 h2 : Heap, φ h1 → (∀ o, h1.get? a = some o → h2.get? a = some o) → φ h2
noncomputable def HOk (H : Hp) (h : Heap) : Prop := ∀ a o, H a = some o → ObjOk P w H h a o
end

section
variable {P : Program} {w : World} {H H' : Hp} {h h' : Heap} {a : Addr} {o : HO}
theorem ObjOk.lt (x : ObjOk P w H h a o) : a < h.objs.size := by
  cases o with
  | lst xs => obtain ⟨_, _, _, _, e⟩ := x; exact Heap.lt_size e
  | tup xs => obtain ⟨_, _, _, p⟩ := x; exact p.lt
  | dK kvs => obtain ⟨_, _, _, _, o, _, _, e, _⟩ := x; exact Heap.lt_size e
  | dT kvs => obtain ⟨_, _, _, _, o, _, _, e, _⟩ := x; exact Heap.lt_size e
  | set S n => obtain ⟨o, _, _, _, e, _⟩ := x; exact Heap.lt_size e
  | ins C dx fs => obtain ⟨_, _, _, e, _⟩ := x; exact Heap.lt_size e
  | own y => obtain ⟨_, e⟩ := x; exact Heap.lt_size e
  | xd fs => obtain ⟨_, ⟨_, _, _, e, _⟩, _⟩ := x; exact Heap.lt_size e
  | rng lo hi => obtain ⟨_, _, _, e⟩ := x; exact Heap.lt_size e
  | frz ob u => obtain ⟨e, _⟩ := x; exact Heap.lt_size e
  | tbl ps => exact Heap.lt_size (show h.get? a = some _ from x)
  | met f y => exact Heap.lt_size (show h.get? a = some _ from x)
  | ext φ => obtain ⟨_, ⟨_, e⟩, _⟩ := x; exact Heap.lt_size e
theorem Paired.mapP {α β : Type} {F G : α → β → Prop} : ∀ {l₁ : List α} {l₂ : List β}, Paired F l₁ l₂ → (∀ a b, F a b → G a b) → Paired G l₁ l₂
  | _, _, .nil, _ => .nil
  | _, _, .cons r t, f => .cons (f _ _ r) (Paired.mapP t f)
theorem ObjOk.stay (x : ObjOk P w H h a o) (k : ∀ b u, (b = a ∨ H b = some (.own a)) → h.get? b = some u → h'.get? b = some u)
    (ho : ∀ b, H b = some (.own a) → H' b = some (.own a)) (ht : ∀ b xs, H b = some (.tup xs) → H' b = some (.tup xs)) : ObjOk P w H' h' a o := by
  induction o with
  | lst xs => obtain ⟨z, its, n, r, e⟩ := x; exact ⟨z, its, n, r, k _ _ (.inl rfl) e⟩
  | tup xs => obtain ⟨z, its, r, ob, e, c⟩ := x; exact ⟨z, its, r, ob, k _ _ (.inl rfl) e, c⟩
  | dK kvs => obtain ⟨z, y, vs, r, ob, es, ep, e, c⟩ := x; exact ⟨z, y, vs, r, ob, es, ep, k _ _ (.inl rfl) e, c⟩
  | dT kvs =>
    obtain ⟨z, y, xs, r, ob, es, ep, e, c⟩ := x
    exact ⟨z, y, xs, Paired.mapP r fun p q z => ⟨z.1, ht _ _ z.2.1, z.2.2⟩, ob, es, ep, k _ _ (.inl rfl) e, c⟩
  | set S n => obtain ⟨ob, es, ep, t, e, c⟩ := x; exact ⟨ob, es, ep, t, k _ _ (.inl rfl) e, c⟩
  | ins C dx fs =>
    obtain ⟨d, z, ne, e, mA, ⟨od, es, ep, e2, c⟩, r⟩ := x
    exact ⟨ho _ d, z, ne, k _ _ (.inl rfl) e, mA, ⟨od, es, ep, k _ _ (.inr d) e2, c⟩, r⟩
  | own y => obtain ⟨ob, e⟩ := x; exact ⟨ob, k _ _ (.inl rfl) e⟩
  | xd fs => obtain ⟨mA, ⟨od, es, ep, e, c⟩, r⟩ := x; exact ⟨mA, ⟨od, es, ep, k _ _ (.inl rfl) e, c⟩, r⟩
  | rng lo hi => obtain ⟨t, u, v, e⟩ := x; exact ⟨t, u, v, k _ _ (.inl rfl) e⟩
  | frz ob u ih => obtain ⟨e, q⟩ := x; exact ⟨k _ _ (.inl rfl) e, ih q⟩
  | tbl ps =>
    have e : h.get? a = some { cls := .none, data := .fields ps } := x
    show h'.get? a = some { cls := .none, data := .fields ps }
    exact k a _ (.inl rfl) e
  | met f y =>
    have e : h.get? a = some (PySem.W.methodObj (.ref f) (.ref y)) := x
    show h'.get? a = some (PySem.W.methodObj (.ref f) (.ref y))
    exact k a _ (.inl rfl) e
  | ext φ => obtain ⟨p, ⟨o, e⟩, st⟩ := x; exact ⟨st _ _ p fun o q => k _ _ (.inl rfl) q, ⟨o, k _ _ (.inl rfl) e⟩, st⟩
theorem HOk.lt (x : HOk P w H h) (e : H a = some o) : a < h.objs.size := (x a o e).lt
theorem HOk.fresh (x : HOk P w H h) (e : h.objs.size ≤ a) : H a = none := by
  cases q : H a with
  | none => rfl
  | some u => exact absurd (Nat.lt_of_lt_of_le (x.lt q) e) (Nat.lt_irrefl _)
theorem HOk.kept (x : HOk P w H h) (k : ∀ b u, h.get? b = some u → h'.get? b = some u) : HOk P w H h' := fun a o e =>
  (x a o e).stay (fun b u _ q => k b u q) (fun _ q => q) fun _ _ q => q
theorem HOk.laid (x : HOk P w H h) (k : ∀ b u, h.get? b = some u → h'.get? b = some u) (hp : h.objs.size ≤ a) (new : ObjOk P w (upd H a o) h' a o) : HOk P w (upd H a o) h' := fun b u e => by
  have hn := x.fresh hp
  by_cases hb : b = a
  · subst hb; rw [upd_same] at e; cases e; exact new
  · rw [upd_ne hb] at e
    exact (x b u e).stay (fun c v _ q => k c v q) (fun c q => by rw [upd_ne (ne_of_none q hn)]; exact q) fun c xs q => by rw [upd_ne (ne_of_none q hn)]; exact q
end

noncomputable def Rd (H : Hp) (a : Addr) (u : HO) : Prop := H a = some u ∨ ∃ o, H a = some (.frz o u)
theorem Rd.ok {P : Program} {w : World} {H : Hp} {h : Heap} {a : Addr} {u : HO} (r : Rd H a u) (x : HOk P w H h) : ObjOk P w H h a u := by
  rcases r with r | ⟨o, r⟩
  · exact x a u r
  · obtain ⟨_, q⟩ := x a _ r
    exact q
noncomputable def Mut : Option HO → Prop
  | some (.lst _) => True
  | some (.dK _) => True
  | some (.dT _) => True
  | some (.set _ _) => True
  | some (.ins _ _ _) => True
  | some (.ext _) => True
  | _ => False
section
variable {P : Program} {w : World} {H : Hp} {h h' : Heap} {x e : Addr} {o' : HO}
theorem HOk.write (ok : HOk P w H h) (mu : Mut (H x)) (he : e = x ∨ H e = some (.own x)) (k : ∀ b u, b ≠ e → h.get? b = some u → h'.get? b = some u) (heo : ∃ u, h'.get? e = some u)
    (new : ObjOk P w (upd H x o') h' x o') : HOk P w (upd H x o') h' := fun b u q => by
  have nown : ∀ c y, H c = some (.own y) → c ≠ x := fun c y r z => by subst z; rw [r] at mu; exact mu
  have ntup : ∀ c xs, H c = some (.tup xs) → c ≠ x := fun c xs r z => by subst z; rw [r] at mu; exact mu
  by_cases hb : b = x
  · subst hb; rw [upd_same] at q; cases q; exact new
  · rw [upd_ne hb] at q
    by_cases hbe : b = e
    · have q' : H b = some (.own x) := by
        rcases he with z | z
        · exact absurd (hbe.trans z) hb
        · rw [hbe]; exact z
      rw [q] at q'; cases q'
      obtain ⟨v, hv⟩ := heo
      exact ⟨v, by rw [hbe]; exact hv⟩
    · refine (ok b u q).stay (fun c v hc r => k c v ?_ r) (fun c r => by rw [upd_ne (nown c b r)]; exact r) fun c xs r => by rw [upd_ne (ntup c xs r)]; exact r
      rcases hc with rfl | hc
      · exact hbe
      · rintro rfl
        rcases he with z | z
        · exact nown c b hc z
        · rw [hc] at z; cases z; exact hb rfl
end

structure Un (fs ex : List Addr) (H H' : Hp) (h h' : Heap) : Prop where
  keep : ∀ b o, h.get? b = some o → H b = none → b ∉ fs → b ∉ ex → h'.get? b = some o
  slot : ∀ b o, h.get? b = some o → H b = none → b ∈ fs → b ∉ ex → ∃ sl, h'.get? b = some { o with slots := sl }
  free : ∀ b o, h.get? b = some o → H b = none → b ∉ ex → H' b = none
  there : ∀ b o, h.get? b = some o → b ∉ ex → ∃ o', h'.get? b = some o'
  tups : ∀ b xs, H b = some (.tup xs) → H' b = some (.tup xs)
  frzs : ∀ b o u, H b = some (.frz o u) → H' b = some (.frz o u)
  tbls : ∀ b ps, H b = some (.tbl ps) → ∃ more, H' b = some (.tbl (ps ++ more))
section
variable {fs fs' ex ex' : List Addr} {H H1 H2 : Hp} {h h1 h2 h' : Heap} {a x e : Addr} {o : HO}
theorem Un.any (u : Un fs ex H H1 h h1) {b : Addr} {ob : Obj} (q : h.get? b = some ob) (n : H b = none) (hx : b ∉ ex) : ∃ sl, h1.get? b = some { ob with slots := sl } := by
  by_cases hb : b ∈ fs
  · exact u.slot b ob q n hb hx
  · exact ⟨ob.slots, u.keep b ob q n hb hx⟩
theorem Un.kept (k : ∀ b u, h.get? b = some u → h'.get? b = some u) : Un fs ex H H h h' :=
  ⟨fun b ob q _ _ _ => k b ob q, fun b ob q _ _ _ => ⟨ob.slots, k b ob q⟩, fun _ _ _ n _ => n, fun b ob q _ => ⟨ob, k b ob q⟩, fun _ _ q => q, fun _ _ _ q => q, fun _ ps q => ⟨#[], by rw [q]; simp⟩⟩
theorem Un.refl : Un fs ex H H h h := Un.kept fun _ _ q => q
theorem Un.laid (k : ∀ b u, h.get? b = some u → h'.get? b = some u) (hp : h.objs.size ≤ a) (hn : H a = none) : Un fs ex H (upd H a o) h h' where
  keep := fun b u q _ _ _ => k b u q
  slot := fun b u q _ _ _ => ⟨u.slots, k b u q⟩
  free := fun b u q n _ => by rw [upd_ne (Nat.ne_of_lt (Nat.lt_of_lt_of_le (Heap.lt_size q) hp))]; exact n
  there := fun b u q _ => ⟨u, k b u q⟩
  tups := fun b xs q => by rw [upd_ne (ne_of_none q hn)]; exact q
  frzs := fun b u xs q => by rw [upd_ne (ne_of_none q hn)]; exact q
  tbls := fun b ps q => ⟨#[], by rw [upd_ne (ne_of_none q hn), q]; simp⟩
theorem Un.write (mu : Mut (H x)) (he : e = x ∨ H e = some (.own x)) (k : ∀ b u, b ≠ e → h.get? b = some u → h'.get? b = some u) (heo : ∃ u, h'.get? e = some u) : Un fs ex H (upd H x o) h h' := by
  have hx : ∀ b, H b = none → b ≠ x := fun b n z => by subst z; rw [n] at mu; exact mu
  have hb : ∀ b, H b = none → b ≠ e := fun b n z => by
    subst z
    rcases he with r | r
    · exact hx b n r
    · rw [n] at r; cases r
  have hm : ∀ b u, H b = some u → ¬ Mut (some u) → b ≠ x := fun b u q nm z => by subst z; rw [q] at mu; exact nm mu
  refine ⟨fun b u q n _ _ => k b u (hb b n) q, fun b u q n _ _ => ⟨u.slots, k b u (hb b n) q⟩, fun b u q n _ => by rw [upd_ne (hx b n)]; exact n, fun b u q _ => ?_,
    fun b xs q => by rw [upd_ne (hm b _ q fun z => z)]; exact q, fun b u xs q => by rw [upd_ne (hm b _ q fun z => z)]; exact q, fun b ps q => ⟨#[], by rw [upd_ne (hm b _ q fun z => z), q]; simp⟩⟩
  by_cases hbe : b = e
  · subst hbe; exact heo
  · exact ⟨u, k b u hbe q⟩
end

noncomputable def trk (h : Heap) (H : Hp) : List Addr := (List.range h.objs.size).filter fun a => (H a).isSome
noncomputable def hidT (h : Heap) (H : Hp) : Heap := PySem.W.hideAll h (trk h H)
theorem hidT_size (h : Heap) (H : Hp) : (hidT h H).objs.size = h.objs.size := PySem.W.hideAll_size _ _
theorem hidT_get {h : Heap} {H : Hp} {b : Addr} {o : Obj} (e : h.get? b = some o) (n : H b = none) : (hidT h H).get? b = some o :=
  PySem.W.hideAll_get _ e fun hm => by
    have q : (H b).isSome = true := (List.mem_filter.mp hm).2
    rw [n] at q; simp at q
theorem of_hidT {h : Heap} {H : Hp} {b : Addr} {o : Obj} (e : (hidT h H).get? b = some o) : h.get? b = some o ∧ H b = none := by
  have e' : h.get? b = some o := PySem.W.of_hideAll (trk h H) e
  refine ⟨e', ?_⟩
  cases q : H b with
  | none => rfl
  | some x =>
    have hm : b ∈ trk h H := List.mem_filter.mpr ⟨List.mem_range.mpr (Heap.lt_size e'), by simp [q]⟩
    have z : (hidT h H).get? b = none := PySem.W.hideAll_none (trk h H) hm
    rw [z] at e; cases e

noncomputable def allNews (g h : Heap) (L : Addr) : List (Addr × Obj) := (List.range h.objs.size).filterMap fun a => if a = L ∨ (g.get? a).isSome = true then none else (h.get? a).map fun o => (a, o)
noncomputable def rest (g h : Heap) (L d : Addr) : List (Addr × Obj) := (allNews g h L).filter fun p => decide (p.1 ≠ d)
end L2

namespace L2
open PySem PySem.Spec PyProof.Rows

structure Mod (K : PySem.W.Frag) (mg : Str → Option Value) (base : Heap) : Prop where
  kin : K.In base
  glob : base.Ns mainGlobals mg
  blt : ∃ mb, base.Ns builtinsNs mb ∧ ∀ x : Str, x ≠ "__name__" → mb x = bootBuiltins x
  nolimit : base.NoLimit

structure Cx where
  prog : Program
  w : World
  K : PySem.W.Frag
  mg : Str → Option Value
  base : Heap
  A : Around
  N : List Str
  s₀ : Shared
  H₀ : Hp
  env : Env
  outer : List Env
  stack : List Env
  ex : List Addr
  fn : Str → Bool
  calm : Bool
  pn : List (Addr × Obj)
  xe : Value → Shared → Prop
noncomputable def frs (l : List Env) : List Addr := l.filterMap (·.frame)
noncomputable abbrev Cx.fs (X : Cx) : List Addr := frs X.outer

noncomputable def Vis (sc : Scope) (x : Str) : Prop := sc.names.lookup x = some .local ∨ sc.names.lookup x = some .cell ∨ sc.names.lookup x = some .free
noncomputable def Loc (sc : Scope) (x : Str) : Prop := sc.names.lookup x = some .local ∨ sc.names.lookup x = some .cell
noncomputable def Look (env : Env) (h : Heap) (m : Str → Option Value) (x : Str) (u : Value) : Prop :=
  (env.kindOf x = some .local ∧ m x = some u) ∨ ((env.kindOf x = some .cell ∨ env.kindOf x = some .free) ∧ ∃ c, env.cells.lookup x = some c ∧ h.IsCell c (some u))

structure Cx.Ok (X : Cx) : Prop where
  mod : Mod X.K X.mg X.base
  kind : X.env.scope.kind = .function
  glob : X.env.globals = mainGlobals
  blt : X.env.builtins = builtinsNs
  above : X.s₀.heap.objs.size ≤ X.env.locals
  inj : ∀ x y c, X.env.cells.lookup x = some c → X.env.cells.lookup y = some c → x = y
  has : ∀ x, (X.env.kindOf x = some .cell ∨ X.env.kindOf x = some .free) → ∃ c, X.env.cells.lookup x = some c
  cab : ∀ x c, X.fn x = true → X.env.cells.lookup x = some c → X.s₀.heap.objs.size ≤ c
  hd : X.calm = true → X.A.handled = none
  frames : X.A.frames = some X.stack
  stk : X.stack = X.outer ∨ (X.stack = X.env :: X.outer ∧ X.env.frame = some X.env.locals)
  exf : ∀ b ∈ X.ex, b ≠ X.env.locals ∧ ∀ x c, X.env.cells.lookup x = some c → c ≠ b
  bs : ∀ b o, X.base.get? b = some o → X.s₀.heap.get? b = some o ∧ X.H₀ b = none
  bsz : X.base.objs.size ≤ X.s₀.heap.objs.size
  noex : ∀ b o, X.base.get? b = some o → b ∉ X.ex
  exfs : ∀ b ∈ X.ex, b ∉ X.fs
  funs : X.s₀.heap.FunFrames X.base X.outer
  frf : ∀ b ∈ X.fs, X.H₀ b = none

structure Inv (X : Cx) (pins : List (Addr × Obj)) (σ : List (Option V)) (H : Hp) (s : Shared) : Prop where
  ok : X.Ok
  os : s.os = X.s₀.os
  bare : AllBare s.gens
  base : Un X.fs X.ex X.H₀ H X.s₀.heap s.heap
  loc : ∃ m, s.heap.Ns X.env.locals m ∧ ∀ (i : Nat) (x : Str) (v : V), X.N[i]? = some x → σ[i]? = some (some v) → Vis X.env.scope x → ∃ u, RelV v u ∧ Look X.env s.heap m x u
  cell : ∀ x c, X.env.cells.lookup x = some c → ∃ v, s.heap.IsCell c v
  free : H X.env.locals = none
  freeC : ∀ x c, X.env.cells.lookup x = some c → H c = none
  pin : ∀ p ∈ X.pn ++ pins, s.heap.get? p.1 = some p.2 ∧ H p.1 = none ∧ p.1 ≠ X.env.locals ∧ p.1 ∉ X.fs ∧ ∀ v, p.2.data ≠ .cell v
  hok : HOk X.prog X.w H s.heap
  len : σ.length = X.N.length

section
variable {X : Cx} {pins : List (Addr × Obj)} {σ : List (Option V)} {H H' : Hp} {s : Shared} {h' : Heap}

theorem Cx.Ok.nofr (ok : X.Ok) {b : Addr} {o : Obj} (e : X.base.get? b = some o) : b ∉ X.fs := fun hb => by
  have := (ok.funs.mem hb).1
  rw [e] at this; cases this
theorem Inv.bs (I : Inv X pins σ H s) : ∀ b o, X.base.get? b = some o → s.heap.get? b = some o ∧ H b = none := fun b o e =>
  ⟨I.base.keep b o (I.ok.bs b o e).1 (I.ok.bs b o e).2 (I.ok.nofr e) (I.ok.noex b o e), I.base.free b o (I.ok.bs b o e).1 (I.ok.bs b o e).2 (I.ok.noex b o e)⟩
theorem Inv.bk (I : Inv X pins σ H s) : ∀ b o, X.base.get? b = some o → s.heap.get? b = some o := fun b o e => (I.bs b o e).1
theorem Inv.mod (I : Inv X pins σ H s) : Mod X.K X.mg X.base := I.ok.mod
theorem Inv.kIn (I : Inv X pins σ H s) : X.K.In s.heap := I.ok.mod.kin.keeps I.bk
theorem Inv.lt (I : Inv X pins σ H s) : X.env.locals < s.heap.objs.size := let ⟨_, hn, _⟩ := I.loc; hn.lt
theorem Inv.sz (I : Inv X pins σ H s) : X.s₀.heap.objs.size ≤ s.heap.objs.size := Nat.le_trans I.ok.above (Nat.le_of_lt I.lt)
theorem Inv.nofs (I : Inv X pins σ H s) {a : Addr} (h : s.heap.objs.size ≤ a) : a ∉ X.fs := fun hb => by
  obtain ⟨_, o, ho, _⟩ := I.ok.funs.mem hb
  exact absurd (Nat.lt_of_lt_of_le (Heap.lt_size ho) (Nat.le_trans I.sz h)) (Nat.lt_irrefl _)
theorem Inv.cne (I : Inv X pins σ H s) : ∀ x c, X.env.cells.lookup x = some c → c ≠ X.env.locals := fun x c e z => by
  obtain ⟨v, o, ho, hd⟩ := I.cell x c e
  obtain ⟨m, ⟨o', es, ep, ho', hd', _⟩, _⟩ := I.loc
  rw [z, ho'] at ho; cases ho; rw [hd'] at hd; cases hd
theorem Inv.funs (I : Inv X pins σ H s) : s.heap.FunFrames X.base X.outer := by
  have all : ∀ (l : List Env), (∀ b ∈ frs l, b ∈ X.fs) → X.s₀.heap.FunFrames X.base l → s.heap.FunFrames X.base l := by
    intro l
    induction l with
    | nil => intro _ _; trivial
    | cons env r ih =>
      intro hs hl
      obtain ⟨hk, ⟨L, o, hf, hn, ho, hd⟩, hr⟩ := hl
      have hL : L ∈ X.fs := hs L (by unfold frs; rw [List.filterMap_cons, hf]; exact List.mem_cons_self)
      obtain ⟨sl, e⟩ := I.base.slot L o ho (I.ok.frf L hL) hL fun z => I.ok.exfs L z hL
      exact ⟨hk, ⟨L, _, hf, hn, e, hd⟩, ih (fun b hb => hs b (by unfold frs; rw [List.filterMap_cons, hf]; exact List.mem_cons_of_mem _ hb)) hr⟩
  exact all X.outer (fun _ hb => hb) I.ok.funs

theorem Inv.stack (I : Inv X pins σ H s) : s.heap.FunFrames X.base X.stack := by
  rcases I.ok.stk with e | ⟨e, hf⟩
  · rw [e]; exact I.funs
  · rw [e]
    obtain ⟨m, hn, _⟩ := I.loc
    refine .cons (by rw [I.ok.kind]; decide) hf hn ?_ I.funs
    exact Heap.get?_none_of_le (Nat.le_trans I.ok.bsz I.ok.above)
theorem Inv.stkSub (I : Inv X pins σ H s) : ∀ b ∈ frs X.stack, b ∈ X.env.locals :: X.fs := fun b hb => by
  rcases I.ok.stk with e | ⟨e, hf⟩
  · rw [e] at hb; exact List.mem_cons_of_mem _ hb
  · rw [e] at hb
    unfold frs at hb
    rw [List.filterMap_cons, hf] at hb
    exact hb
theorem Inv.stkFree (I : Inv X pins σ H s) : ∀ b ∈ frs X.stack, H b = none := fun b hb => by
  rcases List.mem_cons.mp (I.stkSub b hb) with e | hb
  · rw [e]; exact I.free
  · obtain ⟨_, o, ho, _⟩ := I.ok.funs.mem hb
    exact I.base.free b o ho (I.ok.frf b hb) fun z => I.ok.exfs b z hb

theorem Inv.step {g' : Array GenState} {t' : Nat} {d' : Drawn} {ch : List Addr} (I : Inv X pins σ H s)
    (hch : ∀ b ∈ ch, (b ∈ X.ex ∨ X.s₀.heap.objs.size ≤ b) ∧ b ≠ X.env.locals ∧ (∀ x c, X.env.cells.lookup x = some c → c ≠ b) ∧ ∀ p ∈ X.pn ++ pins, p.1 ≠ b)
    (keep : ∀ b o, b ≠ X.env.locals → b ∉ X.fs → b ∉ ch → s.heap.get? b = some o → H b = none → h'.get? b = some o)
    (slot : ∀ b o, b ≠ X.env.locals → b ∈ X.fs → b ∉ ch → s.heap.get? b = some o → H b = none → ∃ sl, h'.get? b = some { o with slots := sl }) (free : ∀ b o, b ∉ ch → s.heap.get? b = some o → H b = none → H' b = none)
    (there : ∀ b o, b ∉ ch → s.heap.get? b = some o → ∃ o', h'.get? b = some o')
    (tups : ∀ b xs, H b = some (.tup xs) → H' b = some (.tup xs)) (frzs : ∀ b o u, H b = some (.frz o u) → H' b = some (.frz o u)) (tbls : ∀ b ps, H b = some (.tbl ps) → ∃ more, H' b = some (.tbl (ps ++ more)))
    (ns : ∀ m, s.heap.Ns X.env.locals m → h'.Ns X.env.locals m) (hok : HOk X.prog X.w H' h') (hg : AllBare g') :
    Inv X pins σ H' { s with heap := h', gens := g', drawn := d', toks := t' } := by
  have neL : ∀ b o, X.s₀.heap.get? b = some o → b ≠ X.env.locals := fun b o e => Nat.ne_of_lt (Nat.lt_of_lt_of_le (Heap.lt_size e) I.ok.above)
  have neC : ∀ b o, X.s₀.heap.get? b = some o → b ∉ X.ex → b ∉ ch := fun b o e hx hb => by
    rcases (hch b hb).1 with z | z
    · exact hx z
    · exact absurd (Nat.lt_of_lt_of_le (Heap.lt_size e) z) (Nat.lt_irrefl _)
  have cellK : ∀ x c, X.env.cells.lookup x = some c → ∀ v, s.heap.IsCell c v → h'.IsCell c v := fun x c e v ⟨o, ho, hd⟩ => by
    have nch : c ∉ ch := fun z => (hch c z).2.2.1 x c e rfl
    by_cases hc : c ∈ X.fs
    · obtain ⟨sl, q⟩ := slot c o (I.cne x c e) hc nch ho (I.freeC x c e)
      exact ⟨_, q, hd⟩
    · exact ⟨o, keep c o (I.cne x c e) hc nch ho (I.freeC x c e), hd⟩
  refine ⟨I.ok, I.os, hg, ⟨fun b o e n hb hx => ?_, fun b o e n hb hx => ?_, fun b o e n hx => ?_, fun b o e hx => ?_, fun b xs e => tups b xs (I.base.tups b xs e), fun b o xs e => frzs b o xs (I.base.frzs b o xs e), fun b ps e => ?_⟩, ?_, fun x c e => ?_, ?_, fun x c e => ?_, fun p hp => ?_, hok, I.len⟩
  · exact keep b o (neL b o e) hb (neC b o e hx) (I.base.keep b o e n hb hx) (I.base.free b o e n hx)
  · obtain ⟨sl, e1⟩ := I.base.slot b o e n hb hx
    obtain ⟨sl', e2⟩ := slot b _ (neL b o e) hb (neC b o e hx) e1 (I.base.free b o e n hx)
    exact ⟨sl', e2⟩
  · obtain ⟨o', e1⟩ := I.base.there b o e hx
    exact free b o' (neC b o e hx) e1 (I.base.free b o e n hx)
  · obtain ⟨o', e1⟩ := I.base.there b o e hx
    exact there b o' (neC b o e hx) e1
  · obtain ⟨m1, e1⟩ := I.base.tbls b ps e
    obtain ⟨m2, e2⟩ := tbls b _ e1
    exact ⟨m1 ++ m2, by rw [e2, Array.append_assoc]⟩
  · obtain ⟨m, hn, hl⟩ := I.loc
    refine ⟨m, ns m hn, fun i x v e1 e2 e3 => ?_⟩
    obtain ⟨u, r, l⟩ := hl i x v e1 e2 e3
    refine ⟨u, r, ?_⟩
    rcases l with l | ⟨k, c, e, z⟩
    · exact .inl l
    · exact .inr ⟨k, c, e, cellK x c e _ z⟩
  · obtain ⟨v, z⟩ := I.cell x c e
    exact ⟨v, cellK x c e v z⟩
  · obtain ⟨m, ⟨o, _, _, ho, _⟩, _⟩ := I.loc
    exact free _ o (fun z => (hch _ z).2.1 rfl) ho I.free
  · obtain ⟨v, o, ho, hd⟩ := I.cell x c e
    exact free c o (fun z => (hch c z).2.2.1 x c e rfl) ho (I.freeC x c e)
  · obtain ⟨e, n, ne, nf, d⟩ := I.pin p hp
    have nch : p.1 ∉ ch := fun z => (hch p.1 z).2.2.2 p hp rfl
    exact ⟨keep p.1 p.2 ne nf nch e n, free p.1 p.2 nch e n, ne, nf, d⟩
theorem Inv.un {t' : Nat} (I : Inv X pins σ H s) (u : Un X.fs [] H H' s.heap h') (hok : HOk X.prog X.w H' h') : Inv X pins σ H' { s with heap := h', toks := t' } := by
  obtain ⟨m, ⟨o, es, ep, ho, r⟩, _⟩ := id I.loc
  obtain ⟨sl, hL⟩ := u.any ho I.free (by simp)
  exact I.step (g' := s.gens) (d' := s.drawn) (ch := []) (fun _ z => nomatch z) (fun b o _ hb _ e n => u.keep b o e n hb (by simp)) (fun b o _ hb _ e n => u.slot b o e n hb (by simp)) (fun b o _ e n => u.free b o e n (by simp)) (fun b o _ e => u.there b o e (by simp)) u.tups u.frzs u.tbls (fun m' hm => by
    obtain ⟨o', es', ep', ho', r'⟩ := hm
    rw [ho] at ho'; cases ho'
    exact ⟨_, es', ep', hL, r'⟩) hok I.bare
theorem Inv.call {g' : Array GenState} {t' : Nat} {d' : Drawn} {ch : List Addr} (I : Inv X pins σ H s) (u : Un (frs X.stack) ch H H' s.heap h') (hok : HOk X.prog X.w H' h') (hg : AllBare g')
    (hch : ∀ b ∈ ch, (b ∈ X.ex ∨ X.s₀.heap.objs.size ≤ b) ∧ b ≠ X.env.locals ∧ (∀ x c, X.env.cells.lookup x = some c → c ≠ b) ∧ ∀ p ∈ X.pn ++ pins, p.1 ≠ b) :
    Inv X pins σ H' { s with heap := h', gens := g', drawn := d', toks := t' } := by
  obtain ⟨m, ⟨o, es, ep, ho, r⟩, _⟩ := id I.loc
  obtain ⟨sl, hL⟩ := u.any ho I.free fun z => (hch _ z).2.1 rfl
  exact I.step (ch := ch) hch (fun b o hL hb hc e n => u.keep b o e n (fun z => (List.mem_cons.mp (I.stkSub b z)).elim hL hb) hc) (fun b o _ _ hc e n => u.any e n hc) (fun b o hc e n => u.free b o e n hc) (fun b o hc e => u.there b o e hc) u.tups u.frzs u.tbls (fun m' hm => by
    obtain ⟨o', es', ep', ho', r'⟩ := hm
    rw [ho] at ho'; cases ho'
    exact ⟨_, es', ep', hL, r'⟩) hok hg
theorem Inv.turned {t' : Nat} {it : Addr} (I : Inv X pins σ H s) (k : ∀ b o, b ≠ it → s.heap.get? b = some o → h'.get? b = some o) (hn : H it = none) (hL : it ≠ X.env.locals)
    (h1 : it ∈ X.ex ∨ X.s₀.heap.objs.size ≤ it) (h2 : ∀ x c, X.env.cells.lookup x = some c → c ≠ it) (h3 : ∀ p ∈ X.pn ++ pins, p.1 ≠ it) : Inv X pins σ H { s with heap := h', toks := t' } := by
  have nit : ∀ b u, H b = some u → b ≠ it := fun b u e z => by rw [z, hn] at e; cases e
  refine I.step (g' := s.gens) (d' := s.drawn) (ch := [it]) (fun b hb => ?_) (fun b o _ _ hc e _ => k b o (fun z => hc (by simp [z])) e) (fun b o _ _ hc e _ => ⟨o.slots, k b o (fun z => hc (by simp [z])) e⟩) (fun _ _ _ _ n => n)
    (fun b o hc e => ⟨o, k b o (fun z => hc (by simp [z])) e⟩) (fun _ _ e => e) (fun _ _ _ e => e) (fun b ps e => ⟨#[], by rw [e]; simp⟩) (fun m hm => ?_) (fun b u e => ?_) I.bare
  · have e : b = it := by simpa using hb
    subst e
    exact ⟨h1, hL, h2, h3⟩
  · obtain ⟨o, es, ep, ho, r⟩ := hm
    exact ⟨o, es, ep, k _ o (Ne.symm hL) ho, r⟩
  · refine (I.hok b u e).stay (fun c v hc q => k c v ?_ q) (fun _ q => q) fun _ _ q => q
    rcases hc with z | z
    · rw [z]; exact nit b u e
    · exact nit c _ z
theorem Inv.tok (I : Inv X pins σ H s) (t : Nat) : Inv X pins σ H { s with toks := t } := I.un (h' := s.heap) (t' := t) Un.refl I.hok
theorem Inv.kept {t' : Nat} (I : Inv X pins σ H s) (k : ∀ b u, s.heap.get? b = some u → h'.get? b = some u) : Inv X pins σ H { s with heap := h', toks := t' } := I.un (Un.kept k) (I.hok.kept k)
theorem Inv.laid {a : Addr} {o : HO} {t' : Nat} (I : Inv X pins σ H s) (k : ∀ b u, s.heap.get? b = some u → h'.get? b = some u) (hp : s.heap.objs.size ≤ a) (new : ObjOk X.prog X.w (upd H a o) h' a o) :
    Inv X pins σ (upd H a o) { s with heap := h', toks := t' } := I.un (Un.laid k hp (I.hok.fresh hp)) (I.hok.laid k hp new)
theorem Inv.write {x e : Addr} {o : HO} {t' : Nat} (I : Inv X pins σ H s) (mu : Mut (H x)) (he : e = x ∨ H e = some (.own x)) (k : ∀ b u, b ≠ e → s.heap.get? b = some u → h'.get? b = some u) (heo : ∃ u, h'.get? e = some u)
    (new : ObjOk X.prog X.w (upd H x o) h' x o) : Inv X pins σ (upd H x o) { s with heap := h', toks := t' } := I.un (Un.write mu he k heo) (I.hok.write mu he k heo new)
theorem Inv.pins_of {pins' : List (Addr × Obj)} (I : Inv X pins σ H s) (h : ∀ p ∈ pins', s.heap.get? p.1 = some p.2 ∧ H p.1 = none ∧ p.1 ≠ X.env.locals ∧ p.1 ∉ X.fs ∧ ∀ v, p.2.data ≠ .cell v) : Inv X pins' σ H s :=
  ⟨I.ok, I.os, I.bare, I.base, I.loc, I.cell, I.free, I.freeC, fun p hp => (List.mem_append.mp hp).elim (fun z => I.pin p (List.mem_append_left _ z)) (h p), I.hok, I.len⟩

theorem nodup_ix {N : List Str} (hN : N.Nodup) {i j : Nat} {x : Str} (a : N[i]? = some x) (b : N[j]? = some x) : i = j := by
  obtain ⟨h1, e1⟩ := List.getElem?_eq_some_iff.mp a
  obtain ⟨h2, e2⟩ := List.getElem?_eq_some_iff.mp b
  exact (List.getElem_inj hN).mp (e1.trans e2.symm)

theorem store_ok2 {M : Model} {A : Around} {E : Value → Shared → Prop} {i : Nat} {x : Str} {v : V} {u : Value} {Q : Unit → Shared → Prop} (I : Inv X pins σ H s) (hN : X.N.Nodup) (hi : X.N[i]? = some x) (hx : Loc X.env.scope x) (r : RelV v u)
    (h : ∀ s', Inv X pins (σ.set i (some v)) H s' → (∃ a, Heap.SameBut a s.heap s'.heap ∧ (a = X.env.locals ∨ X.env.cells.lookup x = some a)) → Q () s') (hf : X.fn x = true ∨ X.env.scope.names.lookup x = some .local := by first | exact .inl rfl | exact .inr rfl | assumption) : wpAny M A (storeName X.env x u) Q E s := by
  obtain ⟨m, hn, hl⟩ := id I.loc
  have hcls : (X.env.scope.kind == .class || (X.env.scope.kind == .module && X.env.locals != X.env.globals)) = false := by rw [I.ok.kind]; rfl
  have hiσ : i < σ.length := by rw [I.len]; exact (List.getElem?_eq_some_iff.mp hi).1
  have cne := I.cne
  have tracked : ∀ {a : Addr} {h' : Heap}, (∃ o, s.heap.get? a = some o ∧ H a = none) → Heap.SameBut a s.heap h' → HOk X.prog X.w H h' := fun {a h'} ha hs b ob e => by
    obtain ⟨_, _, hfree⟩ := ha
    refine (I.hok b ob e).stay (fun c w' hc q => (hs.2 c ?_).trans q) (fun _ q => q) fun _ _ q => q
    rintro rfl
    rcases hc with rfl | hc
    · rw [hfree] at e; cases e
    · rw [hfree] at hc; cases hc
  rcases hx with hk | hk
  · refine wpAny_storeName_local hk hn (fun h' hn' hs => ?_) hcls
    obtain ⟨oL, _, _, hoL, _⟩ := id hn
    refine h _ ⟨I.ok, I.os, I.bare, ⟨fun b o e n hb hx => ?_, fun b o e n hb hx => ?_, I.base.free, fun b o e hx => ?_, I.base.tups, I.base.frzs, I.base.tbls⟩, ⟨_, hn', fun j y v' e1 e2 e3 => ?_⟩, fun y c e => ?_, I.free, I.freeC, fun p hp => ?_, tracked ⟨oL, hoL, I.free⟩ hs, by simpa using I.len⟩ ⟨_, hs, .inl rfl⟩
    · exact (hs.2 b (Nat.ne_of_lt (Nat.lt_of_lt_of_le (Heap.lt_size e) I.ok.above))).trans (I.base.keep b o e n hb hx)
    · obtain ⟨sl, e1⟩ := I.base.slot b o e n hb hx
      exact ⟨sl, (hs.2 b (Nat.ne_of_lt (Nat.lt_of_lt_of_le (Heap.lt_size e) I.ok.above))).trans e1⟩
    · obtain ⟨o', e1⟩ := I.base.there b o e hx
      exact ⟨o', (hs.2 b (Nat.ne_of_lt (Nat.lt_of_lt_of_le (Heap.lt_size e) I.ok.above))).trans e1⟩
    · by_cases hj : j = i
      · subst hj
        rw [hi] at e1; cases e1
        rw [List.getElem?_set_self hiσ] at e2
        cases e2
        exact ⟨u, r, .inl ⟨hk, by simp⟩⟩
      · rw [List.getElem?_set_ne (Ne.symm hj)] at e2
        obtain ⟨u', r', q⟩ := hl j y v' e1 e2 e3
        refine ⟨u', r', ?_⟩
        rcases q with ⟨k, e⟩ | ⟨k, c, e, z⟩
        · refine .inl ⟨k, ?_⟩
          have : y ≠ x := fun e => hj (nodup_ix hN e1 (e ▸ hi))
          simp [this, e]
        · exact .inr ⟨k, c, e, z.sameBut hs (cne y c e)⟩
    · obtain ⟨w', z⟩ := I.cell y c e
      exact ⟨w', z.sameBut hs (cne y c e)⟩
    · obtain ⟨e, n, ne, nf, d⟩ := I.pin p hp
      exact ⟨(hs.2 p.1 ne).trans e, n, ne, nf, d⟩
  · have hfn : X.fn x = true := by
      rcases hf with z | z
      · exact z
      · rw [z] at hk; cases hk
    obtain ⟨c, hc⟩ := I.ok.has x (.inl hk)
    obtain ⟨w', z⟩ := I.cell x c hc
    refine wpAny_storeName_cell I.ok.kind hk hc z (fun h' hc' hs => ?_)
    obtain ⟨oc, hoc, hocd⟩ := id z
    refine h { s with heap := h' } ⟨I.ok, I.os, I.bare, ⟨fun b o e n hb hx => ?_, fun b o e n hb hx => ?_, I.base.free, fun b o e hx => ?_, I.base.tups, I.base.frzs, I.base.tbls⟩, ⟨m, hn.sameBut hs (Ne.symm (cne x c hc)), fun j y v' e1 e2 e3 => ?_⟩, fun y c' e => ?_, I.free, I.freeC, fun p hp => ?_, tracked ⟨oc, hoc, I.freeC x c hc⟩ hs, by simpa using I.len⟩ ⟨c, hs, .inr hc⟩
    · exact (hs.2 b (Nat.ne_of_lt (Nat.lt_of_lt_of_le (Heap.lt_size e) (I.ok.cab x c hfn hc)))).trans (I.base.keep b o e n hb hx)
    · obtain ⟨sl, e1⟩ := I.base.slot b o e n hb hx
      exact ⟨sl, (hs.2 b (Nat.ne_of_lt (Nat.lt_of_lt_of_le (Heap.lt_size e) (I.ok.cab x c hfn hc)))).trans e1⟩
    · obtain ⟨o', e1⟩ := I.base.there b o e hx
      exact ⟨o', (hs.2 b (Nat.ne_of_lt (Nat.lt_of_lt_of_le (Heap.lt_size e) (I.ok.cab x c hfn hc)))).trans e1⟩
    · by_cases hj : j = i
      · subst hj
        rw [hi] at e1; cases e1
        rw [List.getElem?_set_self hiσ] at e2
        cases e2
        exact ⟨u, r, .inr ⟨.inl hk, c, hc, hc'⟩⟩
      · rw [List.getElem?_set_ne (Ne.symm hj)] at e2
        obtain ⟨u', r', q⟩ := hl j y v' e1 e2 e3
        refine ⟨u', r', ?_⟩
        rcases q with q | ⟨k, c', e, z'⟩
        · exact .inl q
        · refine .inr ⟨k, c', e, z'.sameBut hs ?_⟩
          rintro rfl
          exact hj (nodup_ix hN e1 (I.ok.inj _ _ _ e hc ▸ hi))
    · by_cases hcc : c' = c
      · subst hcc; exact ⟨_, hc'⟩
      · obtain ⟨w2, z2⟩ := I.cell y c' e
        exact ⟨w2, z2.sameBut hs hcc⟩
    · obtain ⟨e, n, ne, nf, d⟩ := I.pin p hp
      refine ⟨(hs.2 p.1 ?_).trans e, n, ne, nf, d⟩
      intro q
      rw [q, hoc] at e
      have q' : oc = p.2 := Option.some.inj e
      exact d w' (by rw [← q']; exact hocd)
theorem store_ok {M : Model} {A : Around} {E : Value → Shared → Prop} {i : Nat} {x : Str} {v : V} {u : Value} {Q : Unit → Shared → Prop} (I : Inv X pins σ H s) (hN : X.N.Nodup) (hi : X.N[i]? = some x) (hx : Loc X.env.scope x) (r : RelV v u)
    (h : ∀ s', Inv X pins (σ.set i (some v)) H s' → Q () s') (hf : X.fn x = true ∨ X.env.scope.names.lookup x = some .local := by first | exact .inl rfl | exact .inr rfl | assumption) : wpAny M A (storeName X.env x u) Q E s :=
  store_ok2 I hN hi hx r (fun s' I' _ => h s' I') hf
theorem Inv.call' {s' : Shared} {ch : List Addr} (I : Inv X pins σ H s) (ho : s'.os = s.os) (u : Un (frs X.stack) ch H H' s.heap s'.heap) (hok : HOk X.prog X.w H' s'.heap) (hg : AllBare s'.gens)
    (hch : ∀ b ∈ ch, (b ∈ X.ex ∨ X.s₀.heap.objs.size ≤ b) ∧ b ≠ X.env.locals ∧ (∀ x c, X.env.cells.lookup x = some c → c ≠ b) ∧ ∀ p ∈ X.pn ++ pins, p.1 ≠ b) : Inv X pins σ H' s' := by
  obtain ⟨h', g', d', t', o'⟩ := s'
  have e : o' = s.os := ho
  subst e
  exact I.call (g' := g') (t' := t') (d' := d') u hok hg hch
end

noncomputable abbrev XK := Value → Option Addr → Hp → Prop
noncomputable abbrev St := List (Option V)
noncomputable abbrev VK := V → Hp → Prop
noncomputable abbrev TE := St → Hp → VK → Prop
noncomputable abbrev TT := St → Hp → (Bool → Hp → Prop) → Prop
noncomputable abbrev TA := St → Hp → (List V → Hp → Prop) → Prop
structure Ends where
  nx : St → Hp → Prop
  rt : VK
  bk : St → Hp → Prop := fun _ _ => False
  ct : St → Hp → Prop := fun _ _ => False
noncomputable abbrev TS := Ends → St → Hp → Prop

noncomputable def EP (X : Cx) (pins : List (Addr × Obj)) (σ : St) (Q : VK) (u : Value) (s' : Shared) : Prop := ∃ v H', Inv X pins σ H' s' ∧ RelV v u ∧ Q v H'
noncomputable def TP (X : Cx) (pins : List (Addr × Obj)) (σ : St) (Q : Bool → Hp → Prop) (b : Bool) (s' : Shared) : Prop := ∃ H', Inv X pins σ H' s' ∧ Q b H'
noncomputable def AP (X : Cx) (pins : List (Addr × Obj)) (σ : St) (Q : List V → Hp → Prop) (us : List Value) (s' : Shared) : Prop := ∃ vs H', Inv X pins σ H' s' ∧ Vals vs us ∧ Q vs H'
noncomputable def SP (X : Cx) (pins : List (Addr × Obj)) (D : Ends) (f : Flow) (s' : Shared) : Prop :=
  match f with
  | .next => ∃ σ' H', Inv X pins σ' H' s' ∧ D.nx σ' H'
  | .brk => ∃ σ' H', Inv X pins σ' H' s' ∧ D.bk σ' H'
  | .cont => ∃ σ' H', Inv X pins σ' H' s' ∧ D.ct σ' H'
  | .ret u => ∃ v σ' H', Inv X pins σ' H' s' ∧ RelV v u ∧ D.rt v H'

noncomputable def PE (X : Cx) (e : Expr) (t : TE) : Prop :=
  ∀ (pins : List (Addr × Obj)) (s : Shared) (σ : St) (H : Hp) (Q : VK), Inv X pins σ H s → t σ H Q → wpAny (model X.prog X.w) X.A (eval e X.env) (EP X pins σ Q) X.xe s
noncomputable def PT (X : Cx) (e : Expr) (t : TT) : Prop :=
  ∀ (pins : List (Addr × Obj)) (s : Shared) (σ : St) (H : Hp) (Q : Bool → Hp → Prop), Inv X pins σ H s → t σ H Q → wpAny (model X.prog X.w) X.A (isTrue e X.env (eval e X.env)) (TP X pins σ Q) X.xe s
noncomputable def PW (X : Cx) (e : Expr) (t : TT) : Prop :=
  ∀ (whole : Sem Value) (pins : List (Addr × Obj)) (s : Shared) (σ : St) (H : Hp) (Q : Bool → Hp → Prop), Inv X pins σ H s → t σ H Q → wpAny (model X.prog X.w) X.A (isTrue e X.env whole) (TP X pins σ Q) X.xe s
theorem PW.pt {X : Cx} {e : Expr} {t : TT} (h : PW X e t) : PT X e t := h _
noncomputable def PA (X : Cx) (es : List Expr) (t : TA) : Prop :=
  ∀ (pos : Pos) (pins : List (Addr × Obj)) (s : Shared) (σ : St) (H : Hp) (Q : List V → Hp → Prop), Inv X pins σ H s → t σ H Q → wpAny (model X.prog X.w) X.A (spliced (backTo pos (starEach es X.env))) (AP X pins σ Q) X.xe s
noncomputable def PS (X : Cx) (st : Stmt) (t : TS) : Prop :=
  ∀ (pins : List (Addr × Obj)) (s : Shared) (σ : St) (H : Hp) (D : Ends), Inv X pins σ H s → t D σ H → wpAny (model X.prog X.w) X.A (exec st X.env) (SP X pins D) X.xe s
noncomputable def PSs (X : Cx) (st : List Stmt) (t : TS) : Prop :=
  ∀ (pins : List (Addr × Obj)) (s : Shared) (σ : St) (H : Hp) (D : Ends), Inv X pins σ H s → t D σ H → wpAny (model X.prog X.w) X.A (execs st X.env) (SP X pins D) X.xe s
theorem thn {α : Type} {t : Sem α} {Q Q' : α → Shared → Prop} {M : Model} {A : Around} {E : Value → Shared → Prop} {s : Shared} (h : wpAny M A t Q E s) (hQ : ∀ a s, Q a s → Q' a s) : wpAny M A t Q' E s := wpAny_mono h hQ fun _ _ x => x
end L2

namespace L2
open PySem PySem.Spec PyProof.Rows
section
variable {X : Cx}

theorem bin {a b : Expr} {ta tb : TE} (ha : PE X a ta) (hb : PE X b tb) {pins : List (Addr × Obj)} {s : Shared} {σ : St} {H : Hp} {R : V → V → Hp → Prop} (I : Inv X pins σ H s) (h : ta σ H fun x H1 => tb σ H1 fun y H2 => R x y H2)
    {α : Type} {Q : α → Shared → Prop} {f : Value → Value → Sem α}
    (hf : ∀ v u s2 x y H2, Inv X pins σ H2 s2 → RelV x v → RelV y u → R x y H2 → wpAny (model X.prog X.w) X.A (f v u) Q X.xe s2) :
    wpAny (model X.prog X.w) X.A (eval a X.env) (fun v s₁ => wpAny (model X.prog X.w) X.A (eval b X.env) (fun u s₂ => wpAny (model X.prog X.w) X.A (f v u) Q X.xe s₂) X.xe s₁) X.xe s := by
  refine thn (ha pins s σ H _ I h) fun v s1 ⟨x, H1, I1, r1, q1⟩ => ?_
  refine thn (hb pins s1 σ H1 _ I1 q1) fun u s2 ⟨y, H2, I2, r2, q2⟩ => ?_
  exact hf v u s2 x y H2 I2 r1 r2 q2

noncomputable def tVar (i : Nat) : TE := fun σ H Q => ∃ v, σ[i]? = some (some v) ∧ Q v H
noncomputable def tC (v : V) : TE := fun _ H Q => Q v H
theorem pe_var {i : Nat} {x : Str} {pos : Pos} (hN : X.N[i]? = some x) (hv : Vis X.env.scope x) (hd : (x == ("__debug__" : Str)) = false := by decide) (hcd : (x == ("__classdict__" : Str)) = false := by decide) : PE X (.Name x pos) (tVar i) := by
  intro pins s σ H Q I h
  obtain ⟨v, e, h⟩ := h
  obtain ⟨m, hn, hl⟩ := I.loc
  obtain ⟨u, r, l⟩ := hl i x v hN e hv
  have fin : EP X pins σ Q u s := ⟨v, H, I, r, h⟩
  rcases l with ⟨hk, hm⟩ | ⟨hk, c, hc, hcell⟩
  · exact wpAny_Name (wpAny_loadName_local I.ok.kind hk hn hm fin) hd
  · rcases hk with hk | hk
    · exact wpAny_Name (wpAny_loadName_cell I.ok.kind hk hc hcell fin) hd
    · exact wpAny_Name (wpAny_loadName_free I.ok.kind hk hc hcell fin hcd) hd
theorem pe_int {i j pos} : PE X (.Constant (.int i) j pos) (tC (.int i)) := fun _ _ _ H _ I h => wpAny_Constant_int ⟨.int i, H, I.tok _, ⟨_, rfl⟩, h⟩
theorem pe_bl {b j pos} : PE X (.Constant (.bool b) j pos) (tC (.bl b)) := fun _ _ _ H _ I h => Constant_bool ⟨.bl b, H, I, rfl, h⟩
theorem pe_non {j pos} : PE X (.Constant .none j pos) (tC .non) := fun _ _ _ H _ I h => Constant_none ⟨.non, H, I, rfl, h⟩
theorem pe_str {x j pos} : PE X (.Constant (.str x) j pos) (tC (.str x)) := fun _ _ _ H _ I h => Calls.Constant_str ⟨.str x, H, I.tok _, ⟨_, rfl⟩, h⟩

noncomputable def Gl (X : Cx) (x : Str) : Prop := X.env.kindOf x = some .globalImplicit
theorem ld_glob {E : Value → Shared → Prop} {pins : List (Addr × Obj)} {s : Shared} {σ : St} {H : Hp} {x : Str} {u : Value} {pos : Pos} {Q : Value → Shared → Prop} (I : Inv X pins σ H s) (hg : Gl X x) (hm : X.mg x = some u) (h : Q u s)
    (hd : (x == ("__debug__" : Str)) = false := by decide) : wpAny (model X.prog X.w) X.A (eval (.Name x pos) X.env) Q E s :=
  Calls.Name_function_global I.ok.kind hg (Calls.loadGlobal_global (by rw [I.ok.glob]; exact I.mod.glob.keeps I.bk) hm h) hd
theorem ld_blt {E : Value → Shared → Prop} {pins : List (Addr × Obj)} {s : Shared} {σ : St} {H : Hp} {x : Str} {u : Value} {pos : Pos} {Q : Value → Shared → Prop} (I : Inv X pins σ H s) (hg : Gl X x) (hm : X.mg x = none) (hv : bootBuiltins x = some u) (h : Q u s)
    (hn : x ≠ "__name__" := by decide) (hd : (x == ("__debug__" : Str)) = false := by decide) : wpAny (model X.prog X.w) X.A (eval (.Name x pos) X.env) Q E s := by
  obtain ⟨mb, h1, h2⟩ := I.mod.blt
  exact Calls.Name_function_global I.ok.kind hg (Calls.loadGlobal_builtin (by rw [I.ok.glob]; exact I.mod.glob.keeps I.bk) hm (by rw [I.ok.blt]; exact h1.keeps I.bk) ((h2 x hn).trans hv) h) hd
theorem pe_glob {x : Str} {v : V} {u : Value} {pos : Pos} (hg : Gl X x) (hm : X.mg x = some u) (r : RelV v u) (hd : (x == ("__debug__" : Str)) = false := by decide) : PE X (.Name x pos) (tC v) :=
  fun _ _ _ H _ I h => ld_glob I hg hm ⟨v, H, I, r, h⟩ hd
theorem pe_bltn {x : Str} {v : V} {u : Value} {pos : Pos} (hg : Gl X x) (hm : X.mg x = none) (hv : bootBuiltins x = some u) (r : RelV v u) (hn : x ≠ "__name__" := by decide) (hd : (x == ("__debug__" : Str)) = false := by decide) : PE X (.Name x pos) (tC v) :=
  fun _ _ _ H _ I h => ld_blt I hg hm hv ⟨v, H, I, r, h⟩ hn hd

variable {a b : Expr} {ta tb : TE} {pos : Pos}
noncomputable def PC (X : Cx) (op : CmpOp) (a b : Expr) (t : TE) : Prop :=
  ∀ (pins : List (Addr × Obj)) (s : Shared) (σ : St) (H : Hp) (Q : VK), Inv X pins σ H s → t σ H Q →
    wpAny (model X.prog X.w) X.A (eval a X.env) (fun v s₁ => wpAny (model X.prog X.w) X.A (eval b X.env) (fun u s₂ => wpAny (model X.prog X.w) X.A (compareOp op v u) (EP X pins σ Q) X.xe s₂) X.xe s₁) X.xe s
theorem nobehind (b : Expr) {op : CmpOp} (h : op ≠ .In) (h2 : op ≠ .NotIn) : behindInMarks op b = false := by
  have e1 : (op == CmpOp.In) = false := by cases op <;> first | rfl | exact absurd rfl h
  have e2 : (op == CmpOp.NotIn) = false := by cases op <;> first | rfl | exact absurd rfl h2
  cases b <;> simp [behindInMarks, e1, e2]
noncomputable def tB (t : TE) : TT := fun σ H Q => t σ H fun x H1 => ∃ c, x = .bl c ∧ Q c H1
theorem pt_cmp {op : CmpOp} {t : TE} (h : PC X op a b t) (h1 : behindInMarks op b = false := by first | exact nobehind _ (by decide) (by decide) | rfl) : PT X (.Compare a [op] [b] pos) (tB t) := by
  intro pins s σ H Q I hw
  refine wpAny_isTrue_Compare1 (thn (h pins s σ H _ I hw) fun v s1 h1 => thn h1 fun u s2 h2 => thn h2 fun c s3 ⟨x, H1, I1, r1, q1⟩ => ?_) h1
  obtain ⟨d, rfl, q⟩ := q1
  cases r1
  exact wpAny_truthy_bool ⟨H1, I1, q⟩
theorem pt_val {e : Expr} {t : TE} (h : PE X e t) (he : ∀ whole, isTrue e X.env whole = (do let v ← whole; standAt e.pos; holding [v] (truthy v)) := by intro _; rfl) : PT X e (tB t) := by
  intro pins s σ H Q I hw
  refine isTrue_plain (thn (h pins s σ H _ I hw) fun v s1 ⟨x, H1, I1, r1, q1⟩ => ?_) (he _)
  obtain ⟨d, rfl, q⟩ := q1
  cases r1
  exact wpAny_truthy_bool ⟨H1, I1, q⟩

variable {tA tB' : TT} {rest : List Expr}
noncomputable def tAnd (t u : TT) : TT := fun σ H Q => t σ H fun c H1 => if c = true then u σ H1 Q else Q false H1
noncomputable def tOr (t u : TT) : TT := fun σ H Q => t σ H fun c H1 => if c = true then Q true H1 else u σ H1 Q
noncomputable def tNot (t : TT) : TT := fun σ H Q => t σ H fun c H1 => Q (!c) H1
theorem pw_and1 (ha : PT X a tA) : PW X (.BoolOp .And [a] pos) tA := by
  intro wh pins s σ H Q I h
  refine isTrue_and (thn (ha pins s σ H Q I h) fun c s1 e => ?_)
  cases c with
  | true => exact isTrue_and_nil e
  | false => exact e
theorem pw_or1 (ha : PT X a tA) : PW X (.BoolOp .Or [a] pos) tA := by
  intro wh pins s σ H Q I h
  refine isTrue_or (thn (ha pins s σ H Q I h) fun c s1 e => ?_)
  cases c with
  | false => exact isTrue_or_nil e
  | true => exact e
theorem pw_and (ha : PT X a tA) (hb : PW X (.BoolOp .And (b :: rest) pos) tB') : PW X (.BoolOp .And (a :: b :: rest) pos) (tAnd tA tB') := by
  intro wh pins s σ H Q I h
  refine isTrue_and (thn (ha pins s σ H _ I h) fun c s1 ⟨H1, I1, q1⟩ => ?_)
  cases c with
  | true => exact hb wh pins s1 σ H1 Q I1 q1
  | false => exact ⟨H1, I1, q1⟩
theorem pw_or (ha : PT X a tA) (hb : PW X (.BoolOp .Or (b :: rest) pos) tB') : PW X (.BoolOp .Or (a :: b :: rest) pos) (tOr tA tB') := by
  intro wh pins s σ H Q I h
  refine isTrue_or (thn (ha pins s σ H _ I h) fun c s1 ⟨H1, I1, q1⟩ => ?_)
  cases c with
  | true => exact ⟨H1, I1, q1⟩
  | false => exact hb wh pins s1 σ H1 Q I1 q1
theorem pt_not (ha : PT X a tA) : PT X (.UnaryOp .Not a pos) (tNot tA) := by
  intro pins s σ H Q I h
  exact isTrue_not (ha pins s σ H (fun c H1 => Q (!c) H1) I h)
noncomputable def tAndV (ta tb : TE) : TE := fun σ H Q => ta σ H fun x H1 => ∃ c, x = .bl c ∧ if c = true then tb σ H1 Q else Q (.bl false) H1
noncomputable def tNotV (ta : TE) : TE := fun σ H Q => ta σ H fun x H1 => ∃ c, x = .bl c ∧ Q (.bl (!c)) H1
theorem pe_one {op} {t : TE} (h : PE X a t) : PE X (.BoolOp op [a] pos) t := fun pins s σ H Q I hw => BoolOp_one (h pins s σ H Q I hw)
theorem pe_and (ha : PE X a ta) (hb : PE X (.BoolOp .And (b :: rest) pos) tb) : PE X (.BoolOp .And (a :: b :: rest) pos) (tAndV ta tb) := by
  intro pins s σ H Q I h
  refine BoolOp_and (thn (ha pins s σ H _ I h) fun v s1 ⟨x, H1, I1, r1, q1⟩ => ?_)
  obtain ⟨c, rfl, q1⟩ := q1
  cases r1
  refine wpAny_truthy_bool ?_
  cases c with
  | true => exact hb pins s1 σ H1 Q I1 q1
  | false => exact ⟨.bl false, H1, I1, rfl, q1⟩
theorem pe_not (ha : PE X a ta) : PE X (.UnaryOp .Not a pos) (tNotV ta) := by
  intro pins s σ H Q I h
  refine UnaryOp_ (thn (ha pins s σ H _ I h) fun v s1 ⟨x, H1, I1, r1, q1⟩ => ?_)
  obtain ⟨c, rfl, q1⟩ := q1
  cases r1
  exact not_of (wpAny_truthy_bool ⟨.bl (!c), H1, I1, rfl, q1⟩)
end
end L2

namespace L2
open PySem PySem.Spec PyProof.Rows

noncomputable def SqL (K : PySem.W.Frag) (H : Hp) (a : Addr) (xs : List V) : Prop :=
  Rd H a (.lst xs) ∨
    ∃ (o : Obj) (its : Array Value) (n : Nat), K.lookup a = some o ∧ o.cls = .type "list" ∧ o.dict = none ∧ o.data = .seq its n ∧ its.size ≤ sizeLine ∧ Vals xs its.toList
noncomputable def SqT (K : PySem.W.Frag) (H : Hp) (a : Addr) (xs : List V) : Prop :=
  Rd H a (.tup xs) ∨
    ∃ (o : Obj) (its : Array Value) (n : Nat), K.lookup a = some o ∧ o.cls = .type "tuple" ∧ o.data = .seq its n ∧ its.size ≤ sizeLine ∧ Vals xs its.toList
noncomputable def absV : Value → Option V
  | .none => some .non
  | .bool b => some (.bl b)
  | .int i _ => some (.int i)
  | .str x _ => some (.str x)
  | .bytes b _ => some (.byt b)
  | .float b _ => some (.flt b)
  | .ref a => some (.ref a)
  | .type n => some (.ty n)
  | _ => none
theorem RelV.abs {x : V} {u : Value} (r : RelV x u) : absV u = some x := by
  cases x with
  | non => cases r; rfl
  | bl _ => cases r; rfl
  | int _ => obtain ⟨t, rfl⟩ := r; rfl
  | str _ => obtain ⟨t, rfl⟩ := r; rfl
  | byt _ => obtain ⟨t, rfl⟩ := r; rfl
  | flt _ => obtain ⟨t, rfl⟩ := r; rfl
  | ref _ => cases r; rfl
  | ty _ => cases r; rfl
theorem RelV.inj {x y : V} {u : Value} (r : RelV x u) (q : RelV y u) : x = y := Option.some.inj (r.abs.symm.trans q.abs)
theorem Vals.inj : ∀ {xs ys : List V} {us : List Value}, Vals xs us → Vals ys us → xs = ys
  | _, _, _, .nil, .nil => rfl
  | _, _, _, .cons r t, .cons r' t' => by rw [r.inj r', Vals.inj t t']
section
variable {X : Cx} {pins : List (Addr × Obj)} {σ : St} {H : Hp} {s : Shared} {a : Addr} {xs ys : List V}
theorem SqL.of {K : PySem.W.Frag} (h : H a = some (.lst xs)) : SqL K H a xs := .inl (.inl h)
theorem SqT.of {K : PySem.W.Frag} (h : H a = some (.tup xs)) : SqT K H a xs := .inl (.inl h)
theorem Inv.list (I : Inv X pins σ H s) (h : SqL X.K H a xs) : ∃ its : List Value, Vals xs its ∧ PlainL s.heap a its.toArray ∧ xs.length ≤ sizeLine := by
  rcases h with h | ⟨o, its, n, hk, hc, hd, hs, hz, r⟩
  · obtain ⟨z, its, n, r, e⟩ := h.ok I.hok
    exact ⟨its, r, ⟨_, n, e, rfl, rfl, rfl⟩, z⟩
  · refine ⟨its.toList, r, ⟨o, n, I.kIn a o hk, hc, hd, by simpa using hs⟩, ?_⟩
    have e := r.length
    simp only [Array.length_toList] at e
    omega
theorem Inv.tuple (I : Inv X pins σ H s) (h : SqT X.K H a xs) : ∃ its : List Value, Vals xs its ∧ IsTup s.heap a its.toArray ∧ xs.length ≤ sizeLine := by
  rcases h with h | ⟨o, its, n, hk, hc, hs, hz, r⟩
  · obtain ⟨z, its, r, p⟩ := h.ok I.hok
    exact ⟨its, r, p, z⟩
  · refine ⟨its.toList, r, ⟨o, I.kIn a o hk, hc, n, by simpa using hs⟩, ?_⟩
    have e := r.length
    simp only [Array.length_toList] at e
    omega
theorem Inv.list_inj (I : Inv X pins σ H s) (h : SqL X.K H a xs) (h' : SqL X.K H a ys) : xs = ys := by
  obtain ⟨its, r, ⟨o, n, e, _, _, d⟩, _⟩ := I.list h
  obtain ⟨its', r', ⟨o', n', e', _, _, d'⟩, _⟩ := I.list h'
  rw [e] at e'; cases e'
  rw [d] at d'
  injection d' with d1 _
  have : its = its' := by simpa using congrArg Array.toList d1
  subst this
  exact r.inj r'
end

noncomputable abbrev Cx.wish (X : Cx) (E : Value → Shared → Prop) : Cx := { X with xe := E }
noncomputable abbrev Cx.nox (X : Cx) : Cx := X.wish fun _ _ => False
theorem Cx.Ok.wish {X : Cx} (ok : X.Ok) (E : Value → Shared → Prop) : (X.wish E).Ok :=
  ⟨ok.mod, ok.kind, ok.glob, ok.blt, ok.above, ok.inj, ok.has, ok.cab, ok.hd, ok.frames, ok.stk, ok.exf, ok.bs, ok.bsz, ok.noex, ok.exfs, ok.funs, ok.frf⟩
theorem Cx.Ok.unwish {X : Cx} {E : Value → Shared → Prop} (ok : (X.wish E).Ok) : X.Ok :=
  ⟨ok.mod, ok.kind, ok.glob, ok.blt, ok.above, ok.inj, ok.has, ok.cab, ok.hd, ok.frames, ok.stk, ok.exf, ok.bs, ok.bsz, ok.noex, ok.exfs, ok.funs, ok.frf⟩
section
variable {X : Cx} {pins : List (Addr × Obj)} {σ : St} {H : Hp} {s : Shared} {E : Value → Shared → Prop}
theorem Inv.wish (I : Inv X pins σ H s) (E : Value → Shared → Prop) : Inv (X.wish E) pins σ H s := ⟨I.ok.wish E, I.os, I.bare, I.base, I.loc, I.cell, I.free, I.freeC, I.pin, I.hok, I.len⟩
theorem Inv.unwish (I : Inv (X.wish E) pins σ H s) : Inv X pins σ H s := ⟨I.ok.unwish, I.os, I.bare, I.base, I.loc, I.cell, I.free, I.freeC, I.pin, I.hok, I.len⟩
theorem SP.unwish {D : Ends} {f : Flow} {s' : Shared} (h : SP (X.wish E) pins D f s') : SP X pins D f s' := by
  cases f with
  | next => obtain ⟨σ', H', I, q⟩ := h; exact ⟨σ', H', I.unwish, q⟩
  | brk => obtain ⟨σ', H', I, q⟩ := h; exact ⟨σ', H', I.unwish, q⟩
  | cont => obtain ⟨σ', H', I, q⟩ := h; exact ⟨σ', H', I.unwish, q⟩
  | ret u => obtain ⟨v, σ', H', I, r, q⟩ := h; exact ⟨v, σ', H', I.unwish, r, q⟩
theorem PSs.nox {st : List Stmt} {t : TS} (h : PSs X.nox st t) : PSs X st t := fun pins s σ H D I hw =>
  wpAny_mono (h pins s σ H D (I.wish _) hw) (fun _ _ q => q.unwish) fun _ _ z => False.elim z
end

section
variable {X : Cx} {st : Stmt} {rest : List Stmt} {t u : TS} {e : Expr} {te : TE} {pos : Pos}
noncomputable def tNext : TS := fun D σ H => D.nx σ H
noncomputable def tSeq (t u : TS) : TS := fun D σ H => t { D with nx := u D } σ H
theorem pss_nil : PSs X [] tNext := fun _ _ σ H _ I h => wpAny_execs_nil ⟨σ, H, I, h⟩
theorem pss_cons (h1 : PS X st t) (h2 : PSs X rest u) : PSs X (st :: rest) (tSeq t u) := by
  intro pins s σ H D I h
  refine wpAny_execs_cons (thn (h1 pins s σ H { D with nx := u D } I h) fun f s1 q => ?_)
  cases f with
  | next =>
    obtain ⟨σ', H', I', q⟩ := q
    exact h2 pins s1 σ' H' D I' q
  | ret v => exact q
  | brk => exact q
  | cont => exact q
theorem pss_one (h1 : PS X st t) : PSs X [st] t := by
  intro pins s σ H D I h
  refine wpAny_execs_cons (thn (h1 pins s σ H D I h) fun f s1 q => ?_)
  cases f with
  | next => exact wpAny_execs_nil q
  | ret v => exact q
  | brk => exact q
  | cont => exact q
theorem Inv.quiet {pins : List (Addr × Obj)} {σ : St} {H : Hp} {s : Shared} (I : Inv X pins σ H s) : interactive X.env = false := by simp [interactive, I.ok.kind]
noncomputable def tDrop (te : TE) : TS := fun D σ H => te σ H fun _ H1 => D.nx σ H1
theorem ps_expr (he : PE X e te) (hs : swapsWith e none pos.line X.env = pure false := by rfl) : PS X (.Expr e pos) (tDrop te) := by
  intro pins s σ H D I h
  exact wpAny_Expr_any (thn (he pins s σ H _ I h) fun v s1 ⟨x, H1, I1, r1, q1⟩ => ⟨σ, H1, I1, q1⟩) I.quiet hs
noncomputable def tRet (te : TE) : TS := fun D σ H => te σ H D.rt
theorem ps_ret (he : PE X e te) : PS X (.Return (some e) pos) (tRet te) := by
  intro pins s σ H D I h
  exact wpAny_Return_some (thn (he pins s σ H _ I h) fun v s1 ⟨x, H1, I1, r1, q1⟩ => ⟨x, σ, H1, I1, r1, q1⟩)
noncomputable def tIfS (c : TT) (t u : TS) : TS := fun D σ H => c σ H fun b H1 => if b = true then t D σ H1 else u D σ H1
theorem ps_if {c : Expr} {a b : List Stmt} {tc : TT} (hc : PT X c tc) (ha : PSs X a t) (hb : PSs X b u) : PS X (.If c a b pos) (tIfS tc t u) := by
  intro pins s σ H D I h
  refine wpAny_If (thn (hc pins s σ H _ I h) fun d s1 ⟨H1, I1, q1⟩ => ?_)
  cases d with
  | true => exact ha pins s1 σ H1 D I1 q1
  | false => exact hb pins s1 σ H1 D I1 q1
noncomputable def tNever : TS := fun _ _ _ => False
theorem ps_never : PS X st tNever := fun _ _ _ _ _ _ h => h.elim
end

noncomputable abbrev TG := V → St → Hp → (St → Hp → Prop) → Prop
noncomputable abbrev TGs := List V → St → Hp → (St → Hp → Prop) → Prop
noncomputable def PG (X : Cx) (target : Expr) (t : TG) : Prop :=
  ∀ (pins : List (Addr × Obj)) (s : Shared) (σ : St) (H : Hp) (v : V) (u : Value) (Q : St → Hp → Prop), Inv X pins σ H s → RelV v u → t v σ H Q →
    wpAny (model X.prog X.w) X.A (assign target X.env u) (fun _ s' => ∃ σ' H', Inv X pins σ' H' s' ∧ Q σ' H') X.xe s
noncomputable def PGs (X : Cx) (ts : List Expr) (t : TGs) : Prop :=
  ∀ (pins : List (Addr × Obj)) (s : Shared) (σ : St) (H : Hp) (vs : List V) (us : List Value) (Q : St → Hp → Prop), Inv X pins σ H s → Vals vs us → t vs σ H Q →
    wpAny (model X.prog X.w) X.A (assignInOrder ((assignEach ts X.env).map (·.2)) us) (fun _ s' => ∃ σ' H', Inv X pins σ' H' s' ∧ Q σ' H') X.xe s
noncomputable abbrev TSet := V → V → V → Hp → (Hp → Prop) → Prop
noncomputable def PSet (X : Cx) (t : TSet) : Prop :=
  ∀ (pins : List (Addr × Obj)) (s : Shared) (σ : St) (H : Hp) (o i v : V) (ov iv u : Value) (Q : Hp → Prop), Inv X pins σ H s → RelV o ov → RelV i iv → RelV v u → t o i v H Q →
    wpAny (model X.prog X.w) X.A (setItem ov iv u) (fun _ s' => ∃ H', Inv X pins σ H' s' ∧ Q H') X.xe s
section
variable {X : Cx} {pos : Pos}
noncomputable def gName (i : Nat) : TG := fun v σ H Q => Q (σ.set i (some v)) H
theorem pg_name {i : Nat} {x : Str} (hN : X.N.Nodup) (hi : X.N[i]? = some x) (hx : Loc X.env.scope x) (hf : X.fn x = true ∨ X.env.scope.names.lookup x = some .local := by first | exact .inl rfl | exact .inr rfl | assumption) : PG X (.Name x pos) (gName i) := by
  intro pins s σ H v u Q I r h
  exact wpAny_assign_Name (store_ok I hN hi hx r (fun s' I' => ⟨_, H, I', h⟩) hf)
noncomputable def gNil : TGs := fun vs σ H Q => vs = [] ∧ Q σ H
noncomputable def gCons (t : TG) (u : TGs) : TGs := fun vs σ H Q => ∃ v r, vs = v :: r ∧ t v σ H fun σ' H' => u r σ' H' Q
theorem pgs_nil : PGs X [] gNil := by
  intro pins s σ H vs us Q I r h
  obtain ⟨e, h⟩ := h
  subst e
  cases r
  exact assignInOrder_nil ⟨σ, H, I, h⟩
theorem pgs_cons {e : Expr} {es : List Expr} {t : TG} {u : TGs} (h1 : PG X e t) (h2 : PGs X es u)
    (hs : (assignEach (e :: es) X.env).map (·.2) = assign e X.env :: (assignEach es X.env).map (·.2) := by rfl) : PGs X (e :: es) (gCons t u) := by
  intro pins s σ H vs us Q I r h
  obtain ⟨v, vr, e1, h⟩ := h
  subst e1
  cases r with
  | cons r rr =>
    rw [hs]
    refine assignInOrder_cons (thn (h1 pins s σ H _ _ _ I r h) fun _ s1 ⟨σ1, H1, I1, q1⟩ => ?_)
    exact h2 pins s1 σ1 H1 _ _ Q I1 rr q1
noncomputable def gTup (K : PySem.W.Frag) (n : Nat) (t : TGs) : TG := fun v σ H Q => ∃ a xs, v = .ref a ∧ SqT K H a xs ∧ xs.length = n ∧ t xs σ H Q
theorem pg_tup {es : List Expr} {k : Nat} {t : TGs} {n : Nat} (hc : X.calm = true) (h : PGs X es t)
    (hn : (assignEach es X.env).length = n := by rfl) (hst : (assignEach es X.env).findIdx? (·.1) = none := by rfl) : PG X (.Tuple es k pos) (gTup X.K n t) := by
  intro pins s σ H v u Q I r hw
  obtain ⟨a, xs, e1, hq, hl, hw⟩ := hw
  subst e1
  cases r
  obtain ⟨its, rv, ht, hz⟩ := I.tuple hq
  refine assign_Tuple_tuple (I.ok.hd hc) ht (by simp [hn, ← hl, rv.length]) hst fun h' hx => ?_
  have I1 : Inv X pins σ H { s with heap := h' } := I.kept (t' := s.toks) fun b o e => hx b o (Nat.ne_of_lt (Heap.lt_size e)) e
  exact h pins _ σ H xs _ Q I1 (by simpa using rv) hw
noncomputable def gSub (to ti : TE) (t : TSet) : TG := fun v σ H Q => to σ H fun o H1 => ti σ H1 fun i H2 => t o i v H2 fun H3 => Q σ H3
theorem pg_sub {o i : Expr} {to ti : TE} {t : TSet} (ho : PE X o to) (hi : PE X i ti) (hs : PSet X t)
    (ha : ∀ v, assign (.Subscript o i pos) X.env v = (do
      let ov ← holding [v] (eval o X.env)
      let iv ← holding [v, ov] (eval i X.env)
      standAt pos
      holding [v, ov, iv] (setItem ov iv v)
      release [v, ov, iv] []) := by intro _; rfl) : PG X (.Subscript o i pos) (gSub to ti t) := by
  intro pins s σ H v u Q I r h
  rw [ha]
  refine wpAny_bind (wpAny_holding (thn (ho pins s σ H _ I h) fun ov s1 ⟨x, H1, I1, r1, q1⟩ => ?_))
  refine wpAny_bind (wpAny_holding (thn (hi pins s1 σ H1 _ I1 q1) fun iv s2 ⟨y, H2, I2, r2, q2⟩ => ?_))
  refine wpAny_bind (wpAny_standAt (wpAny_bind (wpAny_holding (thn (hs pins s2 σ H2 x y v ov iv u _ I2 r1 r2 r q2) fun _ s3 ⟨H3, I3, q3⟩ => ?_))))
  exact wpAny_release ⟨σ, H3, I3, q3⟩
noncomputable def tAsg (te : TE) (g : TG) : TS := fun D σ H => te σ H fun x H1 => g x σ H1 D.nx
theorem ps_asg {tg e : Expr} {te : TE} {g : TG} (he : PE X e te) (hg : PG X tg g) (hs : swapsWithSole [tg] e pos.line X.env = pure false := by rfl) (hw : swappedStores [tg] e X.env = pure none := by rfl)
    (h1 : (assignEach [tg] X.env).map (·.2) = [assign tg X.env] := by rfl) : PS X (.Assign [tg] e pos) (tAsg te g) := by
  intro pins s σ H D I h
  refine wpAny_Assign_stores (thn (he pins s σ H _ I h) fun v s1 ⟨x, H1, I1, r1, q1⟩ => ?_) hs hw
  rw [h1]
  exact thn (hg pins s1 σ H1 x v _ I1 r1 q1) fun _ s2 q => q
theorem ps_set {i : Nat} {x : Str} {e : Expr} {te : TE} {pos' : Pos} (hN : X.N.Nodup) (hi : X.N[i]? = some x) (hx : Loc X.env.scope x) (he : PE X e te) (hs : swapsWith e (some (.Name x pos')) pos.line X.env = pure false := by rfl) (hf : X.fn x = true ∨ X.env.scope.names.lookup x = some .local := by first | exact .inl rfl | exact .inr rfl | assumption) :
    PS X (.Assign [.Name x pos'] e pos) (tAsg te (gName i)) := by
  intro pins s σ H D I h
  refine wpAny_Assign_Name (thn (he pins s σ H _ I h) fun v s1 ⟨y, H1, I1, r1, q1⟩ => ?_) hs
  exact store_ok I1 hN hi hx r1 (fun s2 I2 => ⟨_, H1, I2, q1⟩) hf
end

section
variable {X : Cx} {pos : Pos}
end

structure It where
  go : Nat → Hp → Prop
  yld : Nat → Hp → V → Hp → Prop
  stop : Nat → Hp → Prop
noncomputable def FpOk (X : Cx) (pins : List (Addr × Obj)) (H : Hp) (b : Addr) : Prop :=
  H b = none ∧ b ≠ X.env.locals ∧ b ∉ X.fs ∧ (b ∈ X.ex ∨ X.s₀.heap.objs.size ≤ b) ∧ (∀ x c, X.env.cells.lookup x = some c → c ≠ b) ∧ ∀ p ∈ X.pn ++ pins, p.1 ≠ b
theorem Inv.fpOk {X : Cx} {pins : List (Addr × Obj)} {σ : St} {H H' : Hp} {s : Shared} {b : Addr} (I : Inv X pins σ H s) (hb : s.heap.objs.size ≤ b) (hn : H' b = none) : FpOk X pins H' b := by
  refine ⟨hn, Nat.ne_of_gt (Nat.lt_of_lt_of_le I.lt hb), I.nofs hb, .inr (Nat.le_trans I.sz hb), fun x c e z => ?_, fun p hp z => ?_⟩
  · obtain ⟨v, q⟩ := I.cell x c e
    exact absurd (Nat.lt_of_lt_of_le q.lt (by rw [z]; exact hb)) (Nat.lt_irrefl _)
  · exact absurd (Nat.lt_of_lt_of_le (Heap.lt_size (I.pin p hp).1) (by rw [z]; exact hb)) (Nat.lt_irrefl _)
structure Turn (P : Program) (w : World) (K : PySem.W.Frag) (tg : Expr) (J : It) (fp : List Addr) (it : Addr) (tn : Nat → Heap → Prop) : Prop where
  mem : it ∈ fp
  obj : ∀ i h, tn i h → ∀ b ∈ fp, ∃ o, h.get? b = some o ∧ ∀ v, o.data ≠ .cell v
  keep : ∀ i h h', tn i h → (∀ b ∈ fp, ∀ o, h.get? b = some o → h'.get? b = some o) → tn i h'
  item : ∀ (X : Cx), X.prog = P → X.w = w → X.K = K → X.calm = true → ∀ (i : Nat) (pins : List (Addr × Obj)) (s : Shared) (σ : St) (H : Hp) (E : Value → Shared → Prop), Inv X pins σ H s → (∀ b ∈ fp, FpOk X pins H b) → tn i s.heap → J.go i H →
    wpAny (model P w) X.A (pyNext (.ref it)) (fun r s1 => ∃ u, r = some u ∧
      wpAny (model P w) X.A (letOwnedTupleGo tg (.ref it) u) (fun _ s2 => ∃ x H', Inv X pins σ H' s2 ∧ RelV x u ∧ J.yld i H x H' ∧ tn (i + 1) s2.heap ∧ ∀ b ∈ fp, H' b = none) E s1) E s
  done : ∀ (X : Cx), X.prog = P → X.w = w → X.K = K → X.calm = true → ∀ (i : Nat) (pins : List (Addr × Obj)) (s : Shared) (σ : St) (H : Hp) (E : Value → Shared → Prop), Inv X pins σ H s → (∀ b ∈ fp, FpOk X pins H b) → tn i s.heap → J.stop i H →
    wpAny (model P w) X.A (pyNext (.ref it)) (fun r s1 => r = none ∧ Inv X pins σ H s1) E s
  self : ∀ (A : Around) (i : Nat) (s : Shared) (Q : Value → Shared → Prop) (E : Value → Shared → Prop), tn i s.heap → Q (.ref it) s → wpAny (model P w) A (pyIter (.ref it)) Q E s
noncomputable abbrev TI := St → Hp → (It → Hp → Prop) → Prop
noncomputable def PIE (X : Cx) (pins : List (Addr × Obj)) (σ : St) (tg : Expr) (R : It → Hp → Prop) (itv : Value) (s2 : Shared) : Prop :=
  ∃ (it : Addr) (fp : List Addr) (tn : Nat → Heap → Prop) (J : It) (H' : Hp), itv = .ref it ∧ Inv X pins σ H' s2 ∧ Turn X.prog X.w X.K tg J fp it tn ∧ tn 0 s2.heap ∧ (∀ b ∈ fp, FpOk X pins H' b) ∧ R J H'
noncomputable def PI (X : Cx) (tg iter : Expr) (wi : TI) : Prop :=
  ∀ (pins : List (Addr × Obj)) (s : Shared) (σ : St) (H : Hp) (R : It → Hp → Prop), Inv X pins σ H s → wi σ H R →
    wpAny (model X.prog X.w) X.A (eval iter X.env) (fun v s1 => wpAny (model X.prog X.w) X.A (pyIter v) (PIE X pins σ tg R) X.xe s1) X.xe s

theorem go_of {M : Model} {A : Around} {E : Value → Shared → Prop} {s : Shared} {tg : Expr} {it : Addr} {u : Value} {o : Obj} {n : String} {vs : Array Value} {Q : Unit → Shared → Prop} (ho : s.heap.get? it = some o) (hc : o.cls = .type n) (hd : o.data = .fields vs)
    (hn : ["enumerate", "zip", "dict_itemiterator", "dict_reverseitemiterator", "odict_iterator", "itertools.zip_longest", "itertools.pairwise"].contains n = false) (hQ : Q () s) : wpAny M A (letOwnedTupleGo tg (.ref it) u) Q E s := by
  unfold letOwnedTupleGo
  cases tg <;> first
    | exact wpAny_pure hQ
    | (cases u <;> first
        | exact wpAny_pure hQ
        | (refine wpAny_bind (wpAny_load ho ?_)
           rw [hc, hd]
           show wpAny M A (if (["enumerate", "zip", "dict_itemiterator", "dict_reverseitemiterator", "odict_iterator", "itertools.zip_longest", "itertools.pairwise"].contains n && vs[0]? == some (rawInt _)) = true then _ else _) Q E s
           rw [if_neg (by intro h; rw [hn, Bool.false_and] at h; cases h)]
           exact wpAny_pure hQ))

noncomputable def Itl (K : PySem.W.Frag) (a : Addr) : It :=
  ⟨fun i H => ∃ xs x, SqL K H a xs ∧ xs[i]? = some x, fun i H x H' => H' = H ∧ ∀ xs, SqL K H a xs → xs[i]? = some x, fun i H => ∃ xs, SqL K H a xs ∧ xs.length ≤ i⟩
noncomputable def Itr (lo : Int) (n : Nat) : It := ⟨fun i _ => i < n, fun i H x H' => H' = H ∧ x = .int (lo + i), fun i _ => n ≤ i⟩
theorem turn_list {P : Program} {w : World} {K : PySem.W.Frag} {tg : Expr} (a it : Addr) : Turn P w K tg (Itl K a) [it] it (fun i h => h.IsListIter it a i) where
  mem := by simp
  obj := fun i h st b hb => by
    have e : b = it := by simpa using hb
    subst e
    obtain ⟨o, e, c, d⟩ := st
    exact ⟨o, e, fun v z => by rw [d] at z; cases z⟩
  keep := fun i h h' st k => st.at fun o e => k it (by simp) o e
  item := by
    intro X hP hw hK hc i pins s σ H E I hf st hg
    subst hP hw hK
    obtain ⟨xs, x, hq, hx⟩ := hg
    obtain ⟨its, rv, p, hz⟩ := I.list hq
    obtain ⟨u, hu, ru⟩ := rv.get hx
    obtain ⟨f0, f1, f2, f3, f4, f5⟩ := hf it (by simp)
    refine wpAny_pyNext_list_item st p.isList (x := u) (by simpa using hu) fun h' st' sb => ?_
    have I1 : Inv X pins σ H { s with heap := h' } := I.turned (t' := s.toks) (fun b o hb e => (sb.2 b hb).trans e) f0 f1 f3 f4 f5
    obtain ⟨o, e, c, d⟩ := id st'
    exact ⟨u, rfl, go_of (s := { s with heap := h' }) e c d (by decide) ⟨x, H, I1, ru, ⟨rfl, fun ys hy => by rw [I.list_inj hy hq]; exact hx⟩, st', fun b hb => (hf b hb).1⟩⟩
  done := by
    intro X hP hw hK hc i pins s σ H E I hf st hg
    subst hP hw hK
    obtain ⟨xs, hq, hx⟩ := hg
    obtain ⟨its, rv, p, hz⟩ := I.list hq
    obtain ⟨f0, f1, f2, f3, f4, f5⟩ := hf it (by simp)
    have hl := rv.length
    exact wpAny_pyNext_list_end (I.ok.hd hc) st p.isList (by simp; omega) fun h' eb => ⟨rfl, I.turned (t' := s.toks) (fun b o hb e => eb b o hb e) f0 f1 f3 f4 f5⟩
  self := fun _ _ _ _ _ st h => wpAny_pyIter_listiter st h
theorem turn_range {P : Program} {w : World} {K : PySem.W.Frag} {tg : Expr} (it : Addr) (lo : Int) (n : Nat) : Turn P w K tg (Itr lo n) [it] it (fun i h => IsRangeIter h it (lo + (i : Nat) * 1) ((n : Int) - (i : Nat)) 1) where
  mem := by simp
  obj := fun i h st b hb => by
    have e : b = it := by simpa using hb
    subst e
    exact ⟨_, st, fun v z => by
      have z' : Data.fields _ = Data.cell v := z
      cases z'⟩
  keep := fun i h h' st k => k it (by simp) _ st
  item := by
    intro X hP hw hK hc i pins s σ H E I hf st hg
    subst hP hw hK
    obtain ⟨f0, f1, f2, f3, f4, f5⟩ := hf it (by simp)
    have W := Walks.range (prog := X.prog) (w := X.w) (I.ok.hd hc) it lo 1 n
    refine W.item i s _ _ hg st fun v h' tk hv st' kk => ?_
    obtain ⟨t, rfl⟩ := hv
    have I1 : Inv X pins σ H { s with heap := h', toks := tk } := I.turned (fun b o hb e => kk b o (by simpa using hb) e) f0 f1 f3 f4 f5
    refine ⟨_, rfl, go_of (s := { s with heap := h', toks := tk }) (n := "range_iterator") st' rfl rfl (by decide) ⟨.int (lo + i), H, I1, ⟨t, ?_⟩, ⟨rfl, rfl⟩, st', fun b hb => (hf b hb).1⟩⟩
    rw [Int.mul_one]
  done := by
    intro X hP hw hK hc i pins s σ H E I hf st hg
    subst hP hw hK
    obtain ⟨f0, f1, f2, f3, f4, f5⟩ := hf it (by simp)
    exact wpAny_pyNext_range_end (I.ok.hd hc) st (by have : n ≤ i := hg; omega) fun h' eb => ⟨rfl, I.turned (t' := s.toks) (fun b o hb e => eb b o hb e) f0 f1 f3 f4 f5⟩
  self := fun _ _ _ _ _ st h => wpAny_pyIter_rangeiter st h
end L2

namespace L2
open PySem PySem.Spec PyProof.Rows
section
variable {X : Cx} {tg : Expr}
noncomputable def iList (K : PySem.W.Frag) (tl : TE) : TI := fun σ H R => tl σ H fun x H1 => ∃ a, x = .ref a ∧ (∃ xs, SqL K H1 a xs) ∧ R (Itl K a) H1
theorem pi_list {l : Expr} {tl : TE} (hl : PE X l tl) : PI X tg l (iList X.K tl) := by
  intro pins s σ H R I h
  refine thn (hl pins s σ H _ I h) fun v s1 ⟨x, H1, I1, r1, q1⟩ => ?_
  obtain ⟨a, e, ⟨xs, hq⟩, q⟩ := q1
  subst e
  cases r1
  obtain ⟨its, rv, p, hz⟩ := I1.list hq
  refine wpAny_pyIter_list p.isList ?_
  refine ⟨s1.heap.objs.size, [s1.heap.objs.size], _, _, H1, rfl, I1.kept (t' := s1.toks) fun b o e => Heap.get?_push_of_some _ e, turn_list a _, ⟨_, Heap.get?_push_size _ rfl, rfl, rfl⟩, fun b hb => ?_, q⟩
  have e : b = s1.heap.objs.size := by simpa using hb
  subst e
  exact I1.fpOk (Nat.le_refl _) (I1.hok.fresh (Nat.le_refl _))
theorem range_it {pins : List (Addr × Obj)} {σ : St} {H : Hp} {s : Shared} {R : It → Hp → Prop} {E : Value → Shared → Prop} {lo hi : Int} {t u v : Tok} {tk : Nat} (I : Inv X pins σ H s) (h1 : -(2 ^ 62) ≤ lo) (h2 : lo < 2 ^ 62) (h3 : -(2 ^ 62) ≤ hi) (h4 : hi < 2 ^ 62)
    (q : R (Itr lo (hi - lo).toNat) H) : wpAny (model X.prog X.w) X.A (pyIter (.ref s.heap.objs.size)) (PIE X pins σ tg R) E { s with heap := s.heap.push { cls := .type "range", data := .fields #[.int lo t, .int hi u, .int 1 v] }, toks := tk } := by
  refine wpAny_pyIter_range (IsRange.new ..) (small_one h1 h2 h3 h4) ?_
  have I1 : Inv X pins σ H { s with heap := s.heap.push { cls := .type "range", data := .fields #[.int lo t, .int hi u, .int 1 v] }, toks := tk } := I.kept fun b o e => Heap.get?_push_of_some _ e
  refine ⟨(s.heap.push { cls := .type "range", data := .fields #[.int lo t, .int hi u, .int 1 v] }).objs.size, [(s.heap.push { cls := .type "range", data := .fields #[.int lo t, .int hi u, .int 1 v] }).objs.size], _, _, H, rfl,
    I1.kept (t' := tk) fun b o e => Heap.get?_push_of_some _ e, turn_range _ lo (hi - lo).toNat, ?_, fun b hb => ?_, q⟩
  · have e1 : lo + ((0 : Nat) : Int) * 1 = lo := by simp
    have e2 : (((hi - lo).toNat : Nat) : Int) - ((0 : Nat) : Int) = Builtin.Range.rangeSize lo hi 1 := by rw [rangeSize_one]; split <;> omega
    show IsRangeIter _ _ (lo + ((0 : Nat) : Int) * 1) ((((hi - lo).toNat : Nat) : Int) - ((0 : Nat) : Int)) 1
    rw [e1, e2]
    exact Heap.get?_push_size _ rfl
  · have e : b = (s.heap.push { cls := .type "range", data := .fields #[.int lo t, .int hi u, .int 1 v] }).objs.size := by simpa using hb
    subst e
    exact I1.fpOk (Nat.le_refl _) (I1.hok.fresh (Nat.le_refl _))
noncomputable def iRng1 (ta : TA) : TI := fun σ H R => ta σ H fun vs H1 => ∃ j : Int, vs = [.int j] ∧ -(2 ^ 62) ≤ j ∧ j < 2 ^ 62 ∧ R (Itr 0 j.toNat) H1
noncomputable def iRng2 (ta : TA) : TI := fun σ H R => ta σ H fun vs H1 => ∃ i j : Int, vs = [.int i, .int j] ∧ (-(2 ^ 62) ≤ i ∧ i < 2 ^ 62 ∧ -(2 ^ 62) ≤ j ∧ j < 2 ^ 62) ∧ R (Itr i (j - i).toNat) H1
theorem pi_range1 {a : Expr} {ta : TA} {p pos : Pos} (hg : Gl X "range") (hm : X.mg "range" = none) (ha : PA X [a] ta) (hs : starEach [a] X.env = [(false, eval a X.env)] := by rfl) : PI X tg (.Call (.Name "range" p) [a] [] pos) (iRng1 ta) := by
  intro pins s σ H R I h
  refine Call_ (ld_blt I hg hm boot_range (PyProof.Rows.callWith_type1 (thn (ha pos pins s σ H _ I h) fun us s1 ⟨vs, H1, I1, r1, q1⟩ => ?_) hs rfl))
  obtain ⟨j, e, q1, q2, q⟩ := q1
  subst e
  cases r1 with
  | cons r rr =>
    cases rr
    obtain ⟨t, rfl⟩ := r
    exact call_range_1 (range_it I1 (by omega) (by omega) q1 q2 (by simpa using q))
theorem pi_range2 {a b : Expr} {ta : TA} {p pos : Pos} (hg : Gl X "range") (hm : X.mg "range" = none) (ha : PA X [a, b] ta) (hs : starEach [a, b] X.env = [(false, eval a X.env), (false, eval b X.env)] := by rfl) (hs2 : starEach [b] X.env = [(false, eval b X.env)] := by rfl) :
    PI X tg (.Call (.Name "range" p) [a, b] [] pos) (iRng2 ta) := by
  intro pins s σ H R I h
  refine Call_ (ld_blt I hg hm boot_range (PyProof.Rows.callWith_type1 (thn (ha pos pins s σ H _ I h) fun us s1 ⟨vs, H1, I1, r1, q1⟩ => ?_) (by rw [hs, hs2]) (by rw [hs2]; rfl)))
  obtain ⟨i, j, e, ⟨q1, q2, q3, q4⟩, q⟩ := q1
  subst e
  cases r1 with
  | cons r rr =>
    cases rr with
    | cons r' rr =>
      cases rr
      obtain ⟨t, rfl⟩ := r
      obtain ⟨t', rfl⟩ := r'
      exact call_range_2 (range_it I1 q1 q2 q3 q4 q)

noncomputable def tFor (wi : TI) (g : TG) (tb : TS) : TS := fun D σ H => wi σ H fun J H1 => ∃ W : Nat → Nat → St → Hp → Prop, (∃ m, W 0 m σ H1) ∧ ∀ i m σ H, W i m σ H →
  (J.stop i H ∧ D.nx σ H) ∨ (J.go i H ∧ ∃ N : St → Hp → Prop, (∀ σ' H', N σ' H' → ∃ m', m' < m ∧ W (i + 1) m' σ' H') ∧ ∀ x H', J.yld i H x H' → g x σ H' fun σ2 H2 => tb { D with nx := N, ct := N, bk := D.nx } σ2 H2)
noncomputable def pinsAt (fp : List Addr) (h : Heap) : List (Addr × Obj) := fp.filterMap fun b => (h.get? b).map fun o => (b, o)
theorem mem_pinsAt {fp : List Addr} {h : Heap} {b : Addr} {o : Obj} (hb : b ∈ fp) (e : h.get? b = some o) : (b, o) ∈ pinsAt fp h := List.mem_filterMap.mpr ⟨b, hb, by rw [e]; rfl⟩
theorem of_pinsAt {fp : List Addr} {h : Heap} {p : Addr × Obj} (hp : p ∈ pinsAt fp h) : p.1 ∈ fp ∧ h.get? p.1 = some p.2 := by
  obtain ⟨b, hb, e⟩ := List.mem_filterMap.mp hp
  cases q : h.get? b with
  | none => rw [q] at e; cases e
  | some o =>
    rw [q] at e
    have e' : (b, o) = p := Option.some.inj e
    subst e'
    exact ⟨hb, q⟩
theorem Inv.pinned {pins : List (Addr × Obj)} {σ : St} {H : Hp} {s : Shared} {fp : List Addr} (I : Inv X pins σ H s) (hf : ∀ b ∈ fp, FpOk X pins H b) (ho : ∀ b ∈ fp, ∃ o, s.heap.get? b = some o ∧ ∀ v, o.data ≠ .cell v) : Inv X (pins ++ pinsAt fp s.heap) σ H s :=
  I.pins_of fun p hp => (List.mem_append.mp hp).elim (fun z => I.pin p (List.mem_append_right _ z)) fun z => by
    obtain ⟨hb, e⟩ := of_pinsAt z
    obtain ⟨f0, f1, f2, _⟩ := hf p.1 hb
    obtain ⟨o, e', d⟩ := ho p.1 hb
    rw [e] at e'; cases e'
    exact ⟨e, f0, f1, f2, d⟩
theorem Inv.unpinned {pins pl : List (Addr × Obj)} {σ : St} {H : Hp} {s : Shared} (I : Inv X (pins ++ pl) σ H s) : Inv X pins σ H s := I.pins_of fun p hp => I.pin p (List.mem_append_right _ (List.mem_append_left _ hp))
theorem ps_for {iter : Expr} {body : List Stmt} {wi : TI} {g : TG} {tb : TS} {pos : Pos} (hp : PassesOwn (model X.prog X.w) X.A X.env X.xe) (hc : X.calm = true) (hi : PI X tg iter wi) (hg : PG X tg g) (hb : PSs X body tb)
    (hs : ∀ x, foldedSetIterable iter X.env x = pure x := by intro _; rfl) : PS X (.For tg iter body [] pos) (tFor wi g tb) := by
  intro pins s σ H D I h
  refine wpAny_For (thn (hi pins s σ H _ I h) fun v s1 h1 => thn h1 fun itv s2 h2 => ?_) hs
  obtain ⟨it, fp, tn, J, H2, e, I2, T, st2, f2, W, ⟨m0, w0⟩, turn⟩ := h2
  subst e
  -- what stays true of the iterator's objects through the loop
  have stat : ∀ {H' : Hp}, (∀ b ∈ fp, H' b = none) → ∀ b ∈ fp, FpOk X pins H' b := fun hn b hb => ⟨hn b hb, (f2 b hb).2⟩
  refine codeAny_forLoop_any (fun n s' => ∃ i σ' H', Inv X pins σ' H' s' ∧ tn i s'.heap ∧ (∀ b ∈ fp, H' b = none) ∧ W i n σ' H') ?_ m0 ⟨0, σ, H2, I2, st2, fun b hb => (f2 b hb).1, w0⟩
  rintro n s3 ⟨i, σ3, H3, I3, st3, fr3, w3⟩
  rcases turn i n σ3 H3 w3 with ⟨stop, qn⟩ | ⟨go, N, hN, step⟩
  · refine wpAny_passesOwn hp (thn (T.done X rfl rfl rfl hc i pins s3 σ3 H3 X.xe I3 (stat fr3) st3 stop) fun r s4 ⟨hr, I4⟩ => ?_)
    subst hr
    exact wpAny_execs_nil ⟨σ3, H3, I4, qn⟩
  · refine wpAny_passesOwn hp (thn (T.item X rfl rfl rfl hc i pins s3 σ3 H3 X.xe I3 (stat fr3) st3 go) fun r s4 ⟨u, hr, h4⟩ => ?_)
    subst hr
    refine wpAny_passesOwn hp (thn h4 fun _ s5 ⟨x, H5, I5, r5, y5, st5, fr5⟩ => ?_)
    have I5' := I5.pinned (stat fr5) (T.obj _ _ st5)
    refine wpAny_passesOwn hp (thn (hg _ s5 σ3 H5 x u _ I5' r5 (step x H5 y5)) fun _ s6 ⟨σ6, H6, I6, q6⟩ => ?_)
    refine wpAny_passesOwn hp (thn (hb _ s6 σ6 H6 _ I6 q6) fun f s7 q7 => ?_)
    have again : ∀ {σ7 : St} {H7 : Hp}, Inv X (pins ++ pinsAt fp s5.heap) σ7 H7 s7 → N σ7 H7 → ∃ m, m < n ∧ ∃ i σ' H', Inv X pins σ' H' s7 ∧ tn i s7.heap ∧ (∀ b ∈ fp, H' b = none) ∧ W i m σ' H' := fun {σ7 H7} I7 n7 => by
      obtain ⟨m', hm, w7⟩ := hN σ7 H7 n7
      refine ⟨m', hm, i + 1, σ7, H7, I7.unpinned, T.keep _ _ _ st5 fun b hb o e => (I7.pin (b, o) (List.mem_append_right _ (List.mem_append_right _ (mem_pinsAt hb e)))).1, fun b hb => ?_, w7⟩
      obtain ⟨o, e, d⟩ := T.obj _ _ st5 b hb
      exact (I7.pin (b, o) (List.mem_append_right _ (List.mem_append_right _ (mem_pinsAt hb e)))).2.1
    cases f with
    | next => obtain ⟨σ7, H7, I7, n7⟩ := q7; exact again I7 n7
    | cont => obtain ⟨σ7, H7, I7, n7⟩ := q7; exact again I7 n7
    | brk => obtain ⟨σ7, H7, I7, q7⟩ := q7; exact ⟨σ7, H7, I7.unpinned, q7⟩
    | ret v => obtain ⟨x7, σ7, H7, I7, r7, q7⟩ := q7; exact ⟨x7, σ7, H7, I7.unpinned, r7, q7⟩
end

theorem for_list {K : PySem.W.Frag} {a : Addr} {xs : List V} {g : TG} {tb : TS} {D : Ends} {σ : St} {H : Hp} (Pv : Nat → St → Hp → Prop) (h0 : Pv 0 σ H) (hl : ∀ i σ H, i ≤ xs.length → Pv i σ H → SqL K H a xs)
    (hs : ∀ i x σ H, xs[i]? = some x → Pv i σ H → g x σ H fun σ2 H2 => tb { D with nx := Pv (i + 1), ct := Pv (i + 1), bk := D.nx } σ2 H2) (hd : ∀ σ H, Pv xs.length σ H → D.nx σ H) :
    ∃ W : Nat → Nat → St → Hp → Prop, (∃ m, W 0 m σ H) ∧ ∀ i m σ H, W i m σ H →
      ((Itl K a).stop i H ∧ D.nx σ H) ∨ ((Itl K a).go i H ∧ ∃ N : St → Hp → Prop, (∀ σ' H', N σ' H' → ∃ m', m' < m ∧ W (i + 1) m' σ' H') ∧ ∀ x H', (Itl K a).yld i H x H' → g x σ H' fun σ2 H2 => tb { D with nx := N, ct := N, bk := D.nx } σ2 H2) := by
  refine ⟨fun i m σ H => m = xs.length - i ∧ i ≤ xs.length ∧ Pv i σ H, ⟨xs.length, by simp, Nat.zero_le _, h0⟩, ?_⟩
  rintro i m σ H ⟨rfl, hi, p⟩
  have q := hl i σ H hi p
  by_cases hlt : i < xs.length
  · refine .inr ⟨⟨xs, xs[i], q, by simp [hlt]⟩, Pv (i + 1), fun σ' H' p' => ⟨xs.length - (i + 1), by omega, rfl, hlt, p'⟩, fun x H' y => ?_⟩
    obtain ⟨e, y⟩ := y
    subst e
    exact hs i x σ _ (y xs q) p
  · have e : i = xs.length := by omega
    subst e
    exact .inl ⟨⟨xs, q, Nat.le_refl _⟩, hd σ H p⟩
theorem for_range {lo : Int} {n : Nat} {g : TG} {tb : TS} {D : Ends} {σ : St} {H : Hp} (Pv : Nat → St → Hp → Prop) (h0 : Pv 0 σ H)
    (hs : ∀ i σ H, i < n → Pv i σ H → g (.int (lo + i)) σ H fun σ2 H2 => tb { D with nx := Pv (i + 1), ct := Pv (i + 1), bk := D.nx } σ2 H2) (hd : ∀ σ H, Pv n σ H → D.nx σ H) :
    ∃ W : Nat → Nat → St → Hp → Prop, (∃ m, W 0 m σ H) ∧ ∀ i m σ H, W i m σ H →
      ((Itr lo n).stop i H ∧ D.nx σ H) ∨ ((Itr lo n).go i H ∧ ∃ N : St → Hp → Prop, (∀ σ' H', N σ' H' → ∃ m', m' < m ∧ W (i + 1) m' σ' H') ∧ ∀ x H', (Itr lo n).yld i H x H' → g x σ H' fun σ2 H2 => tb { D with nx := N, ct := N, bk := D.nx } σ2 H2) := by
  refine ⟨fun i m σ H => m = n - i ∧ i ≤ n ∧ Pv i σ H, ⟨n, by simp, Nat.zero_le _, h0⟩, ?_⟩
  rintro i m σ H ⟨rfl, hi, p⟩
  by_cases hlt : i < n
  · refine .inr ⟨hlt, Pv (i + 1), fun σ' H' p' => ⟨n - (i + 1), by omega, rfl, hlt, p'⟩, fun x H' y => ?_⟩
    obtain ⟨e, y⟩ := y
    subst e y
    exact hs i σ _ hlt p
  · have e : i = n := by omega
    subst e
    exact .inl ⟨Nat.le_refl _, hd σ H p⟩
end L2

namespace L2
open PySem PySem.Spec PyProof.Rows

noncomputable abbrev R2 := V → V → Hp → VK → Prop
noncomputable def OpR (X : Cx) (f : Value → Value → Sem Value) (r : R2) : Prop :=
  ∀ (pins : List (Addr × Obj)) (s : Shared) (σ : St) (H : Hp) (x y : V) (v u : Value) (Q : VK), Inv X pins σ H s → RelV x v → RelV y u → r x y H Q →
    wpAny (model X.prog X.w) X.A (f v u) (EP X pins σ Q) X.xe s
noncomputable def CallR (X : Cx) (f : Value) (r : List V → Hp → VK → Prop) : Prop :=
  ∀ (pins : List (Addr × Obj)) (s : Shared) (σ : St) (H : Hp) (xs : List V) (us : List Value) (Q : VK), Inv X pins σ H s → Vals xs us → r xs H Q →
    wpAny (model X.prog X.w) X.A (call f us) (EP X pins σ Q) X.xe s
noncomputable def tOp (r : R2) (ta tb : TE) : TE := fun σ H Q => ta σ H fun x H1 => tb σ H1 fun y H2 => r x y H2 Q
noncomputable def rI (C : Int → Int → Prop) (g : Int → Int → V) : R2 := fun x y H Q => ∃ i j, x = .int i ∧ y = .int j ∧ C i j ∧ Q (g i j) H
noncomputable def rI0 (g : Int → Int → V) : R2 := fun x y H Q => ∃ i j, x = .int i ∧ y = .int j ∧ Q (g i j) H
section
variable {X : Cx} {a b c : Expr} {ta tb tc : TE} {pos : Pos}

theorem binT (ha : PE X a ta) (hb : PE X b tb) {pins : List (Addr × Obj)} {s : Shared} {σ : St} {H : Hp} {R : V → V → Hp → Prop} (I : Inv X pins σ H s)
    (h : ta σ H fun x H1 => tb σ H1 fun y H2 => R x y H2) {Q : Value → Shared → Prop} {f : Value → Value → Sem Value}
    (hf : ∀ v u s2 x y H2, Inv X pins σ H2 s2 → RelV x v → RelV y u → R x y H2 → wpAny (model X.prog X.w) X.A (f v u) Q X.xe s2) :
    wpAny (model X.prog X.w) X.A (eval a X.env) (fun v s₁ => wpAny (model X.prog X.w) X.A (eval b X.env) (fun u s₂ => wpAny (model X.prog X.w) X.A (f v u) Q X.xe s₂) X.xe s₁) X.xe s := by
  refine thn (ha pins s σ H _ I h) fun v s1 ⟨x, H1, I1, r1, q1⟩ => ?_
  refine thn (hb pins s1 σ H1 _ I1 q1) fun u s2 ⟨y, H2, I2, r2, q2⟩ => ?_
  exact hf v u s2 x y H2 I2 r1 r2 q2

theorem pe_op {op : Operator} {r : R2} (ho : OpR X (binaryOp op) r) (ha : PE X a ta) (hb : PE X b tb) : PE X (.BinOp a op b pos) (tOp r ta tb) := by
  intro pins s σ H Q I h
  exact wpAny_BinOp (binT ha hb I h fun v u s2 x y H2 I2 rx ry q => ho pins s2 σ H2 x y v u Q I2 rx ry q)
theorem opI {f : Value → Value → Sem Value} {C : Int → Int → Prop} {g : Int → Int → Int}
    (rule : ∀ (i j : Int) (t u : Tok) (s : Shared) (Q : Value → Shared → Prop) (E : Value → Shared → Prop), C i j → Q (.int (g i j) s.toks) { s with toks := s.toks + 1 } → wpAny (model X.prog X.w) X.A (f (.int i t) (.int j u)) Q E s) :
    OpR X f (rI C fun i j => .int (g i j)) := by
  intro pins s σ H x y v u Q I rx ry h
  obtain ⟨i, j, rfl, rfl, hc, q⟩ := h
  obtain ⟨t, rfl⟩ := rx
  obtain ⟨t', rfl⟩ := ry
  exact rule i j t t' s _ _ hc ⟨.int (g i j), H, I.tok _, ⟨_, rfl⟩, q⟩
theorem opI0 {f : Value → Value → Sem Value} {g : Int → Int → Int}
    (rule : ∀ (i j : Int) (t u : Tok) (s : Shared) (Q : Value → Shared → Prop) (E : Value → Shared → Prop), Q (.int (g i j) s.toks) { s with toks := s.toks + 1 } → wpAny (model X.prog X.w) X.A (f (.int i t) (.int j u)) Q E s) :
    OpR X f (rI0 fun i j => .int (g i j)) := by
  intro pins s σ H x y v u Q I rx ry h
  obtain ⟨i, j, rfl, rfl, q⟩ := h
  obtain ⟨t, rfl⟩ := rx
  obtain ⟨t', rfl⟩ := ry
  exact rule i j t t' s _ _ ⟨.int (g i j), H, I.tok _, ⟨_, rfl⟩, q⟩
theorem opB0 {f : Value → Value → Sem Value} {g : Int → Int → Bool}
    (rule : ∀ (i j : Int) (t u : Tok) (s : Shared) (Q : Value → Shared → Prop) (E : Value → Shared → Prop), Q (.bool (g i j)) s → wpAny (model X.prog X.w) X.A (f (.int i t) (.int j u)) Q E s) :
    OpR X f (rI0 fun i j => .bl (g i j)) := by
  intro pins s σ H x y v u Q I rx ry h
  obtain ⟨i, j, rfl, rfl, q⟩ := h
  obtain ⟨t, rfl⟩ := rx
  obtain ⟨t', rfl⟩ := ry
  exact rule i j t t' s _ _ ⟨.bl (g i j), H, I, rfl, q⟩

noncomputable def CDiv (i j : Int) : Prop := 0 < j ∧ j < 1073741824
noncomputable def CPow (i j : Int) : Prop := 0 ≤ j ∧ j ≤ 1000000 ∧ i.natAbs < 2 ^ 64
noncomputable def CMul (i j : Int) : Prop := (-(2 ^ 64) < i ∧ i < 2 ^ 64) ∨ (-(2 ^ 64) < j ∧ j < 2 ^ 64)
theorem CMul.ok {i j : Int} (h : CMul i j) : IntMulOk i j := by
  rcases h with ⟨h1, h2⟩ | ⟨h1, h2⟩
  · exact .of_left (intBits_le_64 h1 h2)
  · exact .of_right (intBits_le_64 h1 h2)
theorem op_add : OpR X (binaryOp .Add) (rI0 fun i j => .int (i + j)) := opI0 fun _ _ _ _ _ _ _ q => add_int q
theorem op_sub : OpR X (binaryOp .Sub) (rI0 fun i j => .int (i - j)) := opI0 fun _ _ _ _ _ _ _ q => sub_int q
theorem op_mul : OpR X (binaryOp .Mult) (rI CMul fun i j => .int (i * j)) := opI fun _ _ _ _ _ _ _ hc q => mul_int q hc.ok
theorem op_fdiv : OpR X (binaryOp .FloorDiv) (rI CDiv fun i j => .int (i / j)) := opI fun i j _ _ _ _ _ hc q => by
  have h1 : (0 : Int) < j := hc.1
  have h2 : j < 1073741824 := hc.2
  exact floordiv_int (by omega) (by rw [Int.fdiv_eq_ediv_of_nonneg i (by omega)]; exact q) (.inl (PyProof.noPylong_small (by omega)))
theorem op_mod : OpR X (binaryOp .Mod) (rI (fun _ j => 0 < j) fun i j => .int (i % j)) := opI fun i j _ _ _ _ _ hc q => by
  have h1 : (0 : Int) < j := hc
  exact mod_int' (by omega) (by rw [Int.fmod_eq_emod_of_nonneg i (by omega)]; exact q)
theorem op_pow : OpR X (binaryOp .Pow) (rI CPow fun i j => .int (i ^ j.toNat)) := opI fun _ _ _ _ _ _ _ hc q => pow_int_small hc.1 hc.2.1 hc.2.2 q
end

noncomputable def scal : V → V → Bool
  | .non, .non => true | .non, .int _ => true | .int _, .non => true | .non, .bl _ => true | .bl _, .non => true | .non, .str _ => true | .str _, .non => true
  | .int _, .int _ => true | .bl _, .bl _ => true | .str _, .str _ => true | .byt _, .byt _ => true
  | .int _, .str _ => true | .str _, .int _ => true | .bl _, .str _ => true | .str _, .bl _ => true
  | _, _ => false
noncomputable def rEq : R2 := fun x y H Q => scal x y = true ∧ Q (.bl (decide (x = y))) H
noncomputable def rNe : R2 := fun x y H Q => scal x y = true ∧ Q (.bl (!decide (x = y))) H

theorem dec_int {i j : Int} : decide (V.int i = V.int j) = (i == j) := by
  rw [Bool.eq_iff_iff]
  simp
theorem dec_bl {i j : Bool} : decide (V.bl i = V.bl j) = (i == j) := by
  rw [Bool.eq_iff_iff]
  simp
theorem dec_str {i j : Str} : decide (V.str i = V.str j) = (i == j) := by
  rw [Bool.eq_iff_iff]
  simp
theorem dec_byt {i j : Array UInt8} : decide (V.byt i = V.byt j) = (i.toList == j.toList) := by
  rw [Bool.eq_iff_iff]
  cases i
  cases j
  simp

section
variable {X : Cx} {a b c : Expr} {ta tb tc : TE} {pos : Pos}
theorem fin_bl {pins : List (Addr × Obj)} {σ : St} {H : Hp} {s : Shared} {Q : VK} {k k' : Bool} (I : Inv X pins σ H s) (q : Q (.bl k) H) (e : k = k') : EP X pins σ Q (.bool k') s := by
  subst e
  exact ⟨.bl k, H, I, rfl, q⟩
theorem op_eq : OpR X (compareOp .Eq) rEq := by
  intro pins s σ H x y v u Q I rx ry h
  obtain ⟨hs, q⟩ := h
  cases x with
  | non =>
    cases rx
    cases y with
    | non => cases ry; exact PySem.EqNone.eq_none_none (fin_bl I q (by simp))
    | bl j => cases ry; exact PySem.EqNone.eq_none_bool (fin_bl I q (by simp))
    | int j => obtain ⟨t', rfl⟩ := ry; exact PySem.EqNone.eq_none_int (fin_bl I q (by simp))
    | str j => obtain ⟨t', rfl⟩ := ry; exact PySem.EqNone.eq_none_str (fin_bl I q (by simp))
    | _ => exact absurd (show false = true from hs) Bool.false_ne_true
  | bl i =>
    cases rx
    cases y with
    | non => cases ry; exact PySem.EqNone.eq_bool_none (fin_bl I q (by simp))
    | bl j => cases ry; exact eq_bool (fin_bl I q dec_bl)
    | str j => obtain ⟨t', rfl⟩ := ry; exact PySem.EqMixed.eq_bool_str (fin_bl I q (by simp))
    | _ => exact absurd (show false = true from hs) Bool.false_ne_true
  | int i =>
    obtain ⟨t, rfl⟩ := rx
    cases y with
    | non => cases ry; exact PySem.EqNone.eq_int_none (fin_bl I q (by simp))
    | int j => obtain ⟨t', rfl⟩ := ry; exact eq_int (fin_bl I q dec_int)
    | str j => obtain ⟨t', rfl⟩ := ry; exact PySem.EqMixed.eq_int_str (fin_bl I q (by simp))
    | _ => exact absurd (show false = true from hs) Bool.false_ne_true
  | str i =>
    obtain ⟨t, rfl⟩ := rx
    cases y with
    | non => cases ry; exact PySem.EqNone.eq_str_none (fin_bl I q (by simp))
    | bl j => cases ry; exact PySem.EqMixed.eq_str_bool (fin_bl I q (by simp))
    | int j => obtain ⟨t', rfl⟩ := ry; exact PySem.EqMixed.eq_str_int (fin_bl I q (by simp))
    | str j => obtain ⟨t', rfl⟩ := ry; exact eq_str (fin_bl I q dec_str)
    | _ => exact absurd (show false = true from hs) Bool.false_ne_true
  | byt i =>
    obtain ⟨t, rfl⟩ := rx
    cases y with
    | byt j => obtain ⟨t', rfl⟩ := ry; exact PySem.W.eq_bytes (fin_bl I q dec_byt)
    | _ => exact absurd (show false = true from hs) Bool.false_ne_true
  | _ => cases y <;> exact absurd (show false = true from hs) Bool.false_ne_true
theorem op_ne : OpR X (compareOp .NotEq) rNe := by
  intro pins s σ H x y v u Q I rx ry h
  obtain ⟨hs, q⟩ := h
  cases x with
  | non =>
    cases rx
    cases y with
    | non => cases ry; exact PySem.EqNone.ne_none_none (fin_bl I q (by simp))
    | bl j => cases ry; exact PySem.EqNone.ne_none_bool (fin_bl I q (by simp))
    | int j => obtain ⟨t', rfl⟩ := ry; exact PySem.EqNone.ne_none_int (fin_bl I q (by simp))
    | str j => obtain ⟨t', rfl⟩ := ry; exact PySem.EqNone.ne_none_str (fin_bl I q (by simp))
    | _ => exact absurd (show false = true from hs) Bool.false_ne_true
  | bl i =>
    cases rx
    cases y with
    | non => cases ry; exact PySem.EqNone.ne_bool_none (fin_bl I q (by simp))
    | bl j => cases ry; exact ne_bool (fin_bl I q (congrArg not dec_bl))
    | str j => obtain ⟨t', rfl⟩ := ry; exact PySem.EqMixed.ne_bool_str (fin_bl I q (by simp))
    | _ => exact absurd (show false = true from hs) Bool.false_ne_true
  | int i =>
    obtain ⟨t, rfl⟩ := rx
    cases y with
    | non => cases ry; exact PySem.EqNone.ne_int_none (fin_bl I q (by simp))
    | int j => obtain ⟨t', rfl⟩ := ry; exact ne_int (fin_bl I q (congrArg not dec_int))
    | str j => obtain ⟨t', rfl⟩ := ry; exact PySem.EqMixed.ne_int_str (fin_bl I q (by simp))
    | _ => exact absurd (show false = true from hs) Bool.false_ne_true
  | str i =>
    obtain ⟨t, rfl⟩ := rx
    cases y with
    | non => cases ry; exact PySem.EqNone.ne_str_none (fin_bl I q (by simp))
    | bl j => cases ry; exact PySem.EqMixed.ne_str_bool (fin_bl I q (by simp))
    | int j => obtain ⟨t', rfl⟩ := ry; exact PySem.EqMixed.ne_str_int (fin_bl I q (by simp))
    | str j => obtain ⟨t', rfl⟩ := ry; exact ne_str (fin_bl I q (congrArg not dec_str))
    | _ => exact absurd (show false = true from hs) Bool.false_ne_true
  | byt i =>
    obtain ⟨t, rfl⟩ := rx
    cases y with
    | byt j => obtain ⟨t', rfl⟩ := ry; exact PySem.W.ne_bytes (fin_bl I q (congrArg not dec_byt))
    | _ => exact absurd (show false = true from hs) Bool.false_ne_true
  | _ => cases y <;> exact absurd (show false = true from hs) Bool.false_ne_true

theorem op_lt : OpR X (compareOp .Lt) (rI0 fun i j => .bl (decide (i < j))) := opB0 fun _ _ _ _ _ _ _ q => lt_int q
theorem op_le : OpR X (compareOp .LtE) (rI0 fun i j => .bl (decide (i ≤ j))) := opB0 fun _ _ _ _ _ _ _ q => le_int q
theorem op_gt : OpR X (compareOp .Gt) (rI0 fun i j => .bl (decide (j < i))) := opB0 fun _ _ _ _ _ _ _ q => gt_int q
theorem op_isN : OpR X (compareOp .Is) (fun x y H Q => y = .non ∧ Q (.bl (decide (x = .non))) H) := by
  intro pins s σ H x y v u Q I rx ry h
  obtain ⟨rfl, q⟩ := h
  cases ry
  refine is_none_gen (fin_bl I q ?_)
  cases x <;> first
    | (cases rx; rfl)
    | (obtain ⟨t, rfl⟩ := rx; rfl)
theorem op_notN : OpR X (compareOp .IsNot) (fun x y H Q => y = .non ∧ Q (.bl (!decide (x = .non))) H) := by
  intro pins s σ H x y v u Q I rx ry h
  obtain ⟨rfl, q⟩ := h
  cases ry
  refine isnot_none_gen (fin_bl I q ?_)
  cases x <;> first
    | (cases rx; rfl)
    | (obtain ⟨t, rfl⟩ := rx; rfl)

theorem nomark (b : Expr) {op : CmpOp} (h : op ≠ .In := by decide) (h2 : op ≠ .NotIn := by decide) : behindInMarks op b = false := by
  have e1 : (op == CmpOp.In) = false := by cases op <;> first | rfl | exact absurd rfl h
  have e2 : (op == CmpOp.NotIn) = false := by cases op <;> first | rfl | exact absurd rfl h2
  cases b <;> simp [behindInMarks, e1, e2]
theorem pe_cmpR {op : CmpOp} {r : R2} (ho : OpR X (compareOp op) r) (ha : PE X a ta) (hb : PE X b tb) (hm : behindInMarks op b = false) : PE X (.Compare a [op] [b] pos) (tOp r ta tb) := by
  intro pins s σ H Q I h
  exact wpAny_Compare1 (binT ha hb I h fun v u s2 x y H2 I2 rx ry q => ho pins s2 σ H2 x y v u Q I2 rx ry q) hm
noncomputable def tTest (t : TE) : TT := fun σ H Q => t σ H fun x H' => ∃ k, x = .bl k ∧ Q k H'
theorem pt_cmpR {op : CmpOp} {r : R2} (ho : OpR X (compareOp op) r) (ha : PE X a ta) (hb : PE X b tb) (hm : behindInMarks op b = false) : PT X (.Compare a [op] [b] pos) (tTest (tOp r ta tb)) := by
  intro pins s σ H Q I h
  refine wpAny_isTrue_Compare1 (thn (ha pins s σ H _ I h) fun v s1 ⟨x, H1, I1, r1, q1⟩ => thn (hb pins s1 σ H1 _ I1 q1) fun u s2 ⟨y, H2, I2, r2, q2⟩ =>
    thn (ho pins s2 σ H2 x y v u _ I2 r1 r2 q2) fun c s3 ⟨z, H3, I3, r3, k, e, q3⟩ => ?_) hm
  subst e
  cases r3
  exact wpAny_truthy_bool ⟨H3, I3, q3⟩
noncomputable def tChain (r r' : R2) (ta tb tc : TE) : TE := fun σ H Q => ta σ H fun x H1 => tb σ H1 fun y H2 => r x y H2 fun z H3 => ∃ k, z = .bl k ∧
  (if k = true then tc σ H3 fun w' H4 => r' y w' H4 Q else Q (.bl false) H3)
theorem pe_chain {op op' : CmpOp} {r r' : R2} (ho : OpR X (compareOp op) r) (ho' : OpR X (compareOp op') r') (ha : PE X a ta) (hb : PE X b tb) (hc : PE X c tc)
    (hm : lastMarks [op, op'] [b, c] = false := by with_unfolding_all rfl) : PE X (.Compare a [op, op'] [b, c] pos) (tChain r r' ta tb tc) := by
  intro pins s σ H Q I h
  refine Compare_chain (thn (ha pins s σ H _ I h) fun v s1 ⟨x, H1, I1, r1, q1⟩ => chain_link (thn (hb pins s1 σ H1 _ I1 q1) fun u s2 ⟨y, H2, I2, r2, q2⟩ =>
    thn (ho pins s2 σ H2 x y v u _ I2 r1 r2 q2) fun d s3 ⟨z, H3, I3, r3, k, e, q3⟩ => ?_)) hm
  subst e
  cases r3
  refine wpAny_truthy_bool ?_
  cases k with
  | false => exact ite_ff ⟨.bl false, H3, I3, rfl, q3⟩
  | true => exact ite_tt (chain_last (thn (hc pins s3 σ H3 _ I3 q3) fun w' s4 ⟨z', H4, I4, r4, q4⟩ => ho' pins s4 σ H4 y z' u w' Q I4 r2 r4 q4))
theorem pt_chain {op op' : CmpOp} {r r' : R2} (ho : OpR X (compareOp op) r) (ho' : OpR X (compareOp op') r') (ha : PE X a ta) (hb : PE X b tb) (hc : PE X c tc)
    (hm : lastMarks [op, op'] [b, c] = false := by with_unfolding_all rfl) : PT X (.Compare a [op, op'] [b, c] pos) (tTest (tChain r r' ta tb tc)) := by
  intro pins s σ H Q I h
  refine isTrue_chain (thn (ha pins s σ H _ I h) fun v s1 ⟨x, H1, I1, r1, q1⟩ => test_link (thn (hb pins s1 σ H1 _ I1 q1) fun u s2 ⟨y, H2, I2, r2, q2⟩ =>
    thn (ho pins s2 σ H2 x y v u _ I2 r1 r2 q2) fun d s3 ⟨z, H3, I3, r3, k, e, q3⟩ => ?_)) hm
  subst e
  cases r3
  refine wpAny_truthy_bool ?_
  cases k with
  | false =>
    obtain ⟨k', e', q'⟩ := q3
    cases e'
    exact ite_ff ⟨H3, I3, q'⟩
  | true =>
    refine ite_tt (test_last (thn (hc pins s3 σ H3 _ I3 q3) fun w' s4 ⟨z', H4, I4, r4, q4⟩ => thn (ho' pins s4 σ H4 y z' u w' _ I4 r2 r4 q4) fun d' s5 ⟨z2, H5, I5, r5, k2, e2, q5⟩ => ?_))
    subst e2
    cases r5
    exact wpAny_truthy_bool ⟨H5, I5, q5⟩

theorem line63 : (sizeLine : Nat) < 2 ^ 63 := by rw [sizeLine_eq]; decide
theorem op_add_str : OpR X (binaryOp .Add) (fun x y H Q => ∃ i j, x = .str i ∧ y = .str j ∧ i.length + j.length ≤ sizeLine ∧ Q (.str (i ++ j)) H) := by
  intro pins s σ H x y v u Q I rx ry h
  obtain ⟨i, j, rfl, rfl, hz, q⟩ := h
  obtain ⟨t, rfl⟩ := rx
  obtain ⟨t', rfl⟩ := ry
  exact add_str (fun t' tk => ⟨.str (i ++ j), H, I.tok _, ⟨_, rfl⟩, q⟩) hz
theorem vals1 {x : V} {us : List Value} (r : Vals [x] us) : ∃ u, us = [u] ∧ RelV x u := by
  cases r with
  | cons r1 r2 => cases r2; exact ⟨_, rfl, r1⟩
theorem vals2 {x y : V} {us : List Value} (r : Vals [x, y] us) : ∃ u w', us = [u, w'] ∧ RelV x u ∧ RelV y w' := by
  cases r with
  | cons r1 r2 =>
    cases r2 with
    | cons r3 r4 => cases r4; exact ⟨_, _, rfl, r1, r3⟩
theorem call_max2 (hc : X.calm = true) : CallR X (.builtin "max") (fun xs H Q => ∃ i j, xs = [.int i, .int j] ∧ Q (.int (if j > i then j else i)) H) := by
  intro pins s σ H xs us Q I r h
  obtain ⟨i, j, rfl, q⟩ := h
  obtain ⟨u, w', rfl, ⟨t, rfl⟩, ⟨t', rfl⟩⟩ := vals2 r
  refine max_two_ints (I.ok.hd hc) fun h' tk k => ⟨_, H, I.kept k, ?_, q⟩
  by_cases hj : j > i
  · rw [if_pos hj, if_pos hj]; exact ⟨_, rfl⟩
  · rw [if_neg hj, if_neg hj]; exact ⟨_, rfl⟩
theorem call_min2 (hc : X.calm = true) : CallR X (.builtin "min") (fun xs H Q => ∃ i j, xs = [.int i, .int j] ∧ Q (.int (if j < i then j else i)) H) := by
  intro pins s σ H xs us Q I r h
  obtain ⟨i, j, rfl, q⟩ := h
  obtain ⟨u, w', rfl, ⟨t, rfl⟩, ⟨t', rfl⟩⟩ := vals2 r
  refine min_two_ints (I.ok.hd hc) fun h' tk k => ⟨_, H, I.kept k, ?_, q⟩
  by_cases hj : j < i
  · rw [if_pos hj, if_pos hj]; exact ⟨_, rfl⟩
  · rw [if_neg hj, if_neg hj]; exact ⟨_, rfl⟩
end
end L2

namespace L2
open PySem PySem.Spec PyProof.Rows

structure ObjM (h : Heap) (x dx C : Addr) (mA : Str → Option Value) : Prop where
  obj : h.get? x = some (PySem.W.instObj C dx)
  ns : h.Ns1 dx mA
  ne : dx ≠ x

theorem lookIn_ns {h : Heap} {dx : Addr} {mA : Str → Option Value} (n : h.Ns1 dx mA) : ∃ od, h.get? dx = some od ∧ ∀ name, PySem.W.lookIn name od = some (mA name) := by
  obtain ⟨o, es, ep, ho, hd, hk, _, hm⟩ := n
  refine ⟨o, ho, fun name => ?_⟩
  have e := hm name
  unfold nsFind findBy at e
  rw [← Array.find?_toList] at e
  unfold PySem.W.lookIn
  rw [hd]
  dsimp only
  split
  · rename_i y q
    rw [q] at e
    exact congrArg some e
  · rename_i q
    rw [q] at e
    have a : es.toList.any (·.refKey) = false := by
      rw [List.any_eq_false]
      intro y hy
      obtain ⟨z, t, hkey⟩ := hk y (Array.mem_toList_iff.mp hy)
      simp [DictEntry.refKey, hkey]
    have a' : ¬ es.toList.any (·.refKey) = true := by rw [a]; exact Bool.false_ne_true
    rw [if_neg a']
    exact congrArg some e

theorem ObjM.look {h : Heap} {x dx C : Addr} {mA : Str → Option Value} (I : ObjM h x dx C mA) : ∃ od, PySem.W.InstAt h x (PySem.W.instObj C dx) C (some od) ∧ ∀ name, PySem.W.lookIn name od = some (mA name) :=
  let ⟨od, ho, hl⟩ := lookIn_ns I.ns
  ⟨od, ⟨I.obj, rfl, rfl, ho⟩, hl⟩

section
variable {prog : Program} {w : World} {A : Around} {E : Value → Shared → Prop} {s : Shared} {K : PySem.W.Frag} {x dx C f : Addr} {mA : Str → Option Value} {name : Str} {v : Value}

theorem get_map {expr : Bool} {Q : Value → Shared → Prop} (X : K.In s.heap) (I : ObjM s.heap x dx C mA) (hg : PySem.W.plainGet K C name = true) (hh : PySem.W.hasDictIn K C = true)
    (ha : PySem.W.findIn K (.ref C) name = some none) (hv : mA name = some v) (hv' : PySem.W.handedIn v = true) (h : Q v { s with toks := s.toks + 1 }) :
    wpAny (model prog w) A (getAttr (.ref x) name expr) Q E s := by
  obtain ⟨od, J, hl⟩ := I.look
  exact PySem.W.get_value X J (PySem.W.plainGet_of hg).1 (PySem.W.findObj_own hh ha rfl (by rw [hl, hv])) hv' h

theorem get_meth {pl : Sem Bool} {Q : Value × List Value → Shared → Prop} (X : K.In s.heap) (I : ObjM s.heap x dx C mA) (hg : PySem.W.plainGet K C name = true)
    (hf : PySem.W.findIn K (.ref C) name = some (some (.ref f))) (ht : PySem.W.isFn K (.ref f) = true) (hv : mA name = none) (h : Q (.ref f, [.ref x]) s) :
    wpAny (model prog w) A (getMethod (.ref x) name pl) Q E s := by
  obtain ⟨od, J, hl⟩ := I.look
  exact PySem.W.method_fn X J (PySem.W.plainGet_of hg).1 (PySem.W.plainGet_of hg).2 hf (beq_iff_eq.mp ht) (by show (PySem.W.lookIn name od).map (·.isSome) = some false; rw [hl, hv]; rfl) h

theorem set_map {ns : List Str} {Q : Unit → Shared → Prop} (X : K.In s.heap) (I : ObjM s.heap x dx C mA)
    (hs : PySem.W.findIn K (.ref C) "__setattr__" = some (some (.builtin "object.__setattr__"))) (hp : PySem.W.plainOver K C = true) (ht : PySem.W.takerIn K C name = some none) (hh : PySem.W.hasDictIn K C = true)
    (hw : PySem.Within mA ns) (hsz : ns.length ≤ sizeLine)
    (h : ∀ h', ObjM h' x dx C (fun y => if y = name then some v else mA y) → Heap.SameBut dx s.heap h' → Q () { s with heap := h', toks := s.toks + 2 }) :
    wpAny (model prog w) A (setAttr (.ref x) name v) Q E s := by
  obtain ⟨od, J, hl⟩ := I.look
  refine PySem.W.set_plain X J hs (PySem.W.osa_open (s := { s with toks := s.toks + 1 }) (r := none) X J hp ht fun b => ?_)
  obtain ⟨cd, hc, hd'⟩ := PySem.W.any_some hh
  have hx : s.heap.get? x = some ⟨.ref C, some dx, .plain, #[]⟩ := I.obj
  refine wpAny_bind (wpAny_pure (wpAny_bind (wpAny_bind (wpAny_loadPart hx (wpAny_bind (PySem.W.Looks.here (s := { s with toks := s.toks + 1 }) (PySem.W.looks_clsIn X hc) ?_))))))
  rw [hd']
  refine wpAny_pure (a := some dx) (wpAny_bind (wpAny_pure (wpAny_bind ?_)))
  refine wpAny_nsSet1 (s := { s with toks := s.toks + 1 }) I.ns fun h' hn2 hs2 => ?_
  obtain ⟨oD, esD, epD, hoD, hdD, hcD⟩ := hn2.count (PySem.Within.cons name v hw)
  refine wpAny_bind (wpAny_lookBehind hoD (by rw [hdD]; exact pastItsLine_dict (Nat.le_trans hcD (by rw [List.length_cons]; omega))) ?_)
  exact wpAny_pure (h _ ⟨(hs2.2 _ (Ne.symm I.ne)).trans I.obj, hn2, I.ne⟩ hs2)

theorem make_map {R : Result → Shared → Prop} {vs : List Value} {kw : List (Str × Value)} (X : K.In s.heap) (hm : PySem.W.makesIn K C = true)
    (hi : PySem.W.findIn K (.ref C) "__init__" = some (some (.ref f))) (hf : PySem.W.typeIn K (.ref f) = some (.type "function"))
    (h : codeAny (model prog w) (A.under (.builtin "type.__call__" ⟨.ref C :: vs, kw⟩)) (.call (.ref f) ⟨.ref (s.heap.objs.size + 1) :: vs, kw⟩) (PySem.W.InitBack (s.heap.objs.size + 1) R)
      { s with heap := (s.heap.push PySem.W.emptyDict).push (PySem.W.instObj C s.heap.objs.size) }) :
    codeAny (model prog w) A (.call (.ref C) ⟨vs, kw⟩) R s := by
  obtain ⟨hh, g, d, t, os⟩ := s
  exact PySem.W.make_core (PySem.W.makes_of X hm) (PySem.W.looks_findIn X hi) (fun self => PySem.W.bind_fn X self hf) (.inl rfl) h
end

noncomputable def putF (f : Str) (v : V) : List (Str × V) → List (Str × V)
  | [] => [(f, v)]
  | (g, x) :: r => if g = f then (g, v) :: r else (g, x) :: putF f v r
theorem lookup_putF (f g : Str) (v : V) : ∀ fs : List (Str × V), (putF f v fs).lookup g = if g = f then some v else fs.lookup g
  | [] => by
    show List.lookup g [(f, v)] = _
    by_cases h : g = f
    · have hb : (g == f) = true := beq_iff_eq.mpr h
      simp only [List.lookup, hb, if_pos h]
    · have hb : (g == f) = false := beq_eq_false_iff_ne.mpr h
      simp only [List.lookup, hb, if_neg h]
  | (k, x) :: r => by
    have ih := lookup_putF f g v r
    rw [show putF f v ((k, x) :: r) = (if k = f then (k, v) :: r else (k, x) :: putF f v r) from rfl]
    by_cases hk : k = f
    · rw [if_pos hk]
      by_cases h : g = k
      · have hb : (g == k) = true := beq_iff_eq.mpr h
        simp only [List.lookup, hb, if_pos (h.trans hk)]
      · have hb : (g == k) = false := beq_eq_false_iff_ne.mpr h
        simp only [List.lookup, hb, if_neg (fun e : g = f => h (e.trans hk.symm))]
    · rw [if_neg hk]
      by_cases h : g = k
      · have hb : (g == k) = true := beq_iff_eq.mpr h
        simp only [List.lookup, hb, if_neg (fun e : g = f => hk (h.symm.trans e))]
      · have hb : (g == k) = false := beq_eq_false_iff_ne.mpr h
        simp only [List.lookup, hb]
        exact ih
theorem keys_putF (f : Str) (v : V) : ∀ fs : List (Str × V), f ∈ (putF f v fs).map (·.1) ∧ ∀ g, g ∈ fs.map (·.1) → g ∈ (putF f v fs).map (·.1)
  | [] => ⟨by simp [putF], fun g h => by simp at h⟩
  | (k, x) :: r => by
    obtain ⟨i1, i2⟩ := keys_putF f v r
    rw [show putF f v ((k, x) :: r) = (if k = f then (k, v) :: r else (k, x) :: putF f v r) from rfl]
    by_cases hk : k = f
    · rw [if_pos hk]
      subst hk
      exact ⟨by simp, fun g h => by simpa using h⟩
    · rw [if_neg hk]
      refine ⟨?_, fun g h => ?_⟩
      · rw [List.map_cons]
        exact List.mem_cons_of_mem _ i1
      · rw [List.map_cons] at h ⊢
        rcases List.mem_cons.mp h with e | e
        · exact List.mem_cons.mpr (.inl e)
        · exact List.mem_cons_of_mem _ (i2 g e)
theorem length_putF (f : Str) (v : V) : ∀ fs : List (Str × V), (putF f v fs).length ≤ fs.length + 1
  | [] => by simp [putF]
  | (k, x) :: r => by
    have ih := length_putF f v r
    rw [show putF f v ((k, x) :: r) = (if k = f then (k, v) :: r else (k, x) :: putF f v r) from rfl]
    by_cases hk : k = f
    · rw [if_pos hk, List.length_cons, List.length_cons]; omega
    · rw [if_neg hk, List.length_cons, List.length_cons]; omega

theorem RelO.some_of {v : V} {o : Option Value} (r : RelO (some v) o) : ∃ u, o = some u ∧ RelV v u := by
  cases o with
  | none => exact (show False from r).elim
  | some u => exact ⟨u, rfl, r⟩
theorem RelO.none_of {o : Option Value} (r : RelO none o) : o = none := by
  cases o with
  | none => rfl
  | some u => exact (show False from r).elim
theorem handed_of {v : V} {u : Value} (r : RelV v u) : PySem.W.handedIn u = true := by
  cases v with
  | non => cases (show u = Value.none from r); rfl
  | bl b => cases (show u = Value.bool b from r); rfl
  | int i => obtain ⟨t, e⟩ := (show ∃ t, u = Value.int i t from r); cases e; rfl
  | str x => obtain ⟨t, e⟩ := (show ∃ t, u = Value.str x t from r); cases e; rfl
  | byt b => obtain ⟨t, e⟩ := (show ∃ t, u = Value.bytes b t from r); cases e; rfl
  | flt b => obtain ⟨t, e⟩ := (show ∃ t, u = Value.float b t from r); cases e; rfl
  | ref a => cases (show u = Value.ref a from r); rfl
  | ty n => cases (show u = Value.type n from r); rfl

section
variable {P : Program} {w : World} {H H' : Hp} {h h' : Heap} {a C dx : Addr} {fs fs' : List (Str × V)}
theorem ins_get (hok : HOk P w H h) (e : H a = some (.ins C dx fs)) : ∃ mA, ObjM h a dx C mA ∧ (∀ f, RelO (fs.lookup f) (mA f)) ∧ PySem.Within mA (fs.map (·.1)) ∧ fs.length ≤ 1000 ∧ H dx = some (.own a) := by
  obtain ⟨d, z, ne, ob, mA, n, r, q⟩ := (show ObjOk P w H h a (.ins C dx fs) from hok a _ e)
  exact ⟨mA, ⟨ob, n, ne⟩, r, q, z, d⟩
end

structure Cls (K : PySem.W.Frag) (C : Addr) : Prop where
  pg : PySem.W.plainGet K C Str.empty = true
  hd : PySem.W.hasDictIn K C = true
  po : PySem.W.plainOver K C = true
  sa : PySem.W.findIn K (.ref C) "__setattr__" = some (some (.builtin "object.__setattr__"))
theorem Cls.get {K : PySem.W.Frag} {C : Addr} (c : Cls K C) (f : Str) : PySem.W.plainGet K C f = true := c.pg
noncomputable def NoAttr (K : PySem.W.Frag) (C : Addr) (f : Str) : Prop := PySem.W.findIn K (.ref C) f = some none
theorem NoAttr.taker {K : PySem.W.Frag} {C : Addr} {f : Str} (n : NoAttr K C f) : PySem.W.takerIn K C f = some none := by
  unfold PySem.W.takerIn
  rw [show PySem.W.findIn K (.ref C) f = some none from n]
  rfl
structure Meth (K : PySem.W.Frag) (C : Addr) (m : Str) (f : Addr) : Prop where
  at_ : PySem.W.findIn K (.ref C) m = some (some (.ref f))
  fn : PySem.W.isFn K (.ref f) = true
  kp : PySem.W.keepIn K (.ref f) = true

section
variable {X : Cx} {pins : List (Addr × Obj)} {σ : St} {H : Hp} {s : Shared} {a C dx : Addr} {fs : List (Str × V)} {f : Str} {v : V} {A : Around} {E : Value → Shared → Prop}

theorem getattr_ok {b : Bool} {Q : Value → Shared → Prop} (I : Inv X pins σ H s) (e : H a = some (.ins C dx fs)) (c : Cls X.K C) (n : NoAttr X.K C f) (l : fs.lookup f = some v)
    (h : ∀ u s', Inv X pins σ H s' → RelV v u → Q u s') : wpAny (model X.prog X.w) A (getAttr (.ref a) f b) Q E s := by
  obtain ⟨mA, O, r, _, _, _⟩ := ins_get I.hok e
  obtain ⟨u, hu, ru⟩ := RelO.some_of (v := v) (o := mA f) (by rw [← l]; exact r f)
  exact get_map I.kIn O (c.get f) c.hd n hu (handed_of ru) (h u _ (I.tok _) ru)

theorem getmeth_ok {m : Str} {g : Addr} {pl : Sem Bool} {Q : Value × List Value → Shared → Prop} (I : Inv X pins σ H s) (e : H a = some (.ins C dx fs)) (c : Cls X.K C) (k : Meth X.K C m g) (l : fs.lookup m = none)
    (h : Q (.ref g, [.ref a]) s) : wpAny (model X.prog X.w) A (getMethod (.ref a) m pl) Q E s := by
  obtain ⟨mA, O, r, _, _, _⟩ := ins_get I.hok e
  have hn : mA m = none := RelO.none_of (by rw [← l]; exact r m)
  exact get_meth I.kIn O (c.get m) k.at_ k.fn hn h

theorem setattr_ok {y : V} {u : Value} {Q : Unit → Shared → Prop} (I : Inv X pins σ H s) (e : H a = some (.ins C dx fs)) (c : Cls X.K C) (n : NoAttr X.K C f) (hl : fs.length < 1000) (ry : RelV y u)
    (h : ∀ s', Inv X pins σ (upd H a (.ins C dx (putF f y fs))) s' → Q () s') : wpAny (model X.prog X.w) A (setAttr (.ref a) f u) Q E s := by
  obtain ⟨mA, O, r, wi, _, ho⟩ := ins_get I.hok e
  have hz : (fs.map (·.1)).length ≤ sizeLine := by rw [List.length_map, sizeLine_eq]; omega
  refine set_map I.kIn O c.sa c.po n.taker c.hd wi hz fun h' O' sb => h _ ?_
  have hd : ∃ o, h'.get? dx = some o := let ⟨o, _, _, e', _⟩ := O'.ns; ⟨o, e'⟩
  refine I.write (x := a) (e := dx) (by rw [e]; exact True.intro) (.inr ho) (fun b q hb z => (sb.2 b hb).trans z) hd ?_
  refine ⟨by rw [upd_ne O.ne]; exact ho, ?_, O.ne, O'.obj, _, O'.ns, fun g => ?_, fun g hg => ?_⟩
  · have := length_putF f y fs; omega
  · show RelO ((putF f y fs).lookup g) (if g = f then some u else mA g)
    rw [lookup_putF]
    by_cases q : g = f
    · rw [if_pos q, if_pos q]; exact ry
    · rw [if_neg q, if_neg q]; exact r g
  · by_cases q : g = f
    · rw [q]; exact (keys_putF f y fs).1
    · refine (keys_putF f y fs).2 g (wi g fun z => hg ?_)
      show (if g = f then some u else mA g) = none
      rw [if_neg q]; exact z

theorem Inv.made (I : Inv X pins σ H s) : Inv X pins σ (upd (upd H s.heap.objs.size (.own (s.heap.objs.size + 1))) (s.heap.objs.size + 1) (.ins C s.heap.objs.size []))
    { s with heap := (s.heap.push PySem.W.emptyDict).push (PySem.W.instObj C s.heap.objs.size) } := by
  have e1 : (s.heap.push PySem.W.emptyDict).get? s.heap.objs.size = some PySem.W.emptyDict := Heap.get?_push_size s.heap rfl
  have e2 : ((s.heap.push PySem.W.emptyDict).push (PySem.W.instObj C s.heap.objs.size)).get? (s.heap.objs.size + 1) = some (PySem.W.instObj C s.heap.objs.size) := by
    have := Heap.get?_push_size (s.heap.push PySem.W.emptyDict) (o := PySem.W.instObj C s.heap.objs.size) rfl
    rwa [Heap.size_push] at this
  have e3 : (s.heap.push PySem.W.emptyDict).Ns s.heap.objs.size (fun _ => none) := ⟨PySem.W.emptyDict, #[], _, e1, rfl, (fun e he => absurd he (by simp)), fun _ => rfl⟩
  have I1 := I.laid (a := s.heap.objs.size) (o := .own (s.heap.objs.size + 1)) (h' := s.heap.push PySem.W.emptyDict) (t' := s.toks) (fun b u q => Heap.get?_push_of_some _ q) (Nat.le_refl _) ⟨_, e1⟩
  refine I1.laid (a := s.heap.objs.size + 1) (o := .ins C s.heap.objs.size []) (t' := s.toks) (fun b u q => Heap.get?_push_of_some _ q) (Nat.le_of_eq (Heap.size_push _ _)) ?_
  have ne : s.heap.objs.size ≠ s.heap.objs.size + 1 := Nat.ne_of_lt (Nat.lt_succ_self _)
  refine ⟨by rw [upd_ne ne, upd_same], Nat.zero_le _, ne, e2, fun _ => none, (Heap.Ns1.of_empty e3).at fun o q => Heap.get?_push_of_some _ q, fun _ => True.intro, fun y hy => absurd rfl hy⟩

theorem attr_of {prog : Program} {w : World} {env : Env} {e : Expr} {f : Str} {pos : Pos} {s : Shared} {Q : Value → Shared → Prop} (hb : attributeBase e f env (eval e env) = eval e env)
    (h : wpAny (model prog w) A (eval e env) (fun o s₁ => wpAny (model prog w) A (getAttr o f true) Q E s₁) E s) : wpAny (model prog w) A (eval (.Attribute e f pos) env) Q E s :=
  Attribute_any_ h (by rw [arm_eval_Attribute, hb])
end

noncomputable def tFld (K : PySem.W.Frag) (ta : TE) (f : Str) : TE := fun σ H Q => ta σ H fun x H1 => ∃ a C dx fs v, x = .ref a ∧ H1 a = some (.ins C dx fs) ∧ Cls K C ∧ NoAttr K C f ∧ fs.lookup f = some v ∧ Q v H1
noncomputable def sFld (K : PySem.W.Frag) (ta tv : TE) (f : Str) : TS := fun D σ H => tv σ H fun y H1 => ta σ H1 fun x H2 => ∃ a C dx fs, x = .ref a ∧ H2 a = some (.ins C dx fs) ∧ Cls K C ∧ NoAttr K C f ∧ fs.length < 1000 ∧
  D.nx σ (upd H2 a (.ins C dx (putF f y fs)))
section
variable {X : Cx} {o e value : Expr} {f : Str} {pos pos' tpos : Pos} {ta tv : TE}
theorem pe_fld (he : PE X e ta) (hb : attributeBase e f X.env (eval e X.env) = eval e X.env) : PE X (.Attribute e f pos) (tFld X.K ta f) := by
  intro pins s σ H Q I h
  refine attr_of hb (thn (he pins s σ H _ I h) fun u s1 ⟨x, H1, I1, rx, a, C, dx, fs, v, ex, ea, c, n, l, q⟩ => ?_)
  subst ex
  obtain rfl : u = Value.ref a := rx
  exact getattr_ok I1 ea c n l fun u' s2 I2 ru => ⟨v, H1, I2, ru, q⟩
theorem ps_fld (ha : PE X o ta) (hv : PE X value tv) (hs : swapsWith value (some (.Attribute o f pos')) pos.line X.env = pure false) : PS X (.Assign [.Attribute o f pos'] value pos) (sFld X.K ta tv f) := by
  intro pins s σ H D I h
  refine plainObj_wpAny_Assign_Attribute (thn (hv pins s σ H _ I h) fun u s1 ⟨y, H1, I1, ry, q⟩ => thn (ha pins s1 σ H1 _ I1 q) fun ov s2 ⟨x, H2, I2, rx, a, C, dx, fs, ex, ea, c, n, l, q2⟩ => ?_) hs
  subst ex
  obtain rfl : ov = Value.ref a := rx
  exact setattr_ok I2 ea c n l ry fun s3 I3 => ⟨σ, _, I3, q2⟩
theorem methcall_of {pl : Sem Bool} {m : Str} {apos : Pos} {args : List Expr} {pins : List (Addr × Obj)} {s : Shared} {σ : St} {H : Hp} {Q : Value → Shared → Prop} {te : TE} (he : PE X e te) (I : Inv X pins σ H s)
    (h : te σ H fun x H1 => ∃ a C dx fs g, x = .ref a ∧ H1 a = some (.ins C dx fs) ∧ Cls X.K C ∧ Meth X.K C m g ∧ fs.lookup m = none ∧
      ∀ s1, Inv X pins σ H1 s1 → wpAny (model X.prog X.w) X.A (callWith pos (.ref g) [.ref a] (backTo pos (starEach args X.env)) (backToKw pos (keywordEach [] X.env))) Q X.xe s1)
    (ht : eval (.Call (.Attribute e m apos) args [] pos) X.env = (do
      let ov ← eval e X.env
      standAt apos.atName
      let (f, first) ← holding [ov] (getMethod ov m pl)
      callWith pos f first (backTo pos (starEach args X.env)) (backToKw pos (keywordEach [] X.env)))) :
    wpAny (model X.prog X.w) X.A (eval (.Call (.Attribute e m apos) args [] pos) X.env) Q X.xe s := by
  refine PySem.W.methodCall_KW (pl := pl) (thn (he pins s σ H _ I h) fun u s1 ⟨x, H1, I1, rx, a, C, dx, fs, g, ex, ea, c, k, l, q⟩ => ?_) ht
  subst ex
  obtain rfl : u = Value.ref a := rx
  exact getmeth_ok I1 ea c k l (q s1 I1)
end

section
variable {X : Cx} {pins : List (Addr × Obj)} {σ : St} {H : Hp} {s : Shared} {A : Around} {E : Value → Shared → Prop} {Q : Value → Shared → Prop} {c : Value} {b : Bool}
inductive TyOf (K : PySem.W.Frag) (H : Hp) : V → Value → Prop where
  | non : TyOf K H .non (.type "NoneType")
  | bl (x : Bool) : TyOf K H (.bl x) (.type "bool")
  | int (i : Int) : TyOf K H (.int i) (.type "int")
  | str (x : Str) : TyOf K H (.str x) (.type "str")
  | flt (x : UInt64) : TyOf K H (.flt x) (.type "float")
  | lst {a : Addr} {xs : List V} (e : H a = some (.lst xs)) : TyOf K H (.ref a) (.type "list")
  | frz {a : Addr} {o : Obj} {xs : List V} (e : H a = some (.frz o (.lst xs))) : TyOf K H (.ref a) (.type "list")
  | tup {a : Addr} {xs : List V} (e : H a = some (.tup xs)) : TyOf K H (.ref a) (.type "tuple")
  | dK {a : Addr} {kvs : List (Key × V)} (e : H a = some (.dK kvs)) : TyOf K H (.ref a) (.type "dict")
  | dT {a : Addr} {kvs : List (List Key × V)} (e : H a = some (.dT kvs)) : TyOf K H (.ref a) (.type "dict")
  | ins {a C dx : Addr} {fs : List (Str × V)} (e : H a = some (.ins C dx fs)) (cl : Cls K C) (ha : PySem.W.findIn K (.ref C) "__class__" = some (some (.builtin "object.__class__")))
      (hn : PySem.W.specialIn K (.builtin "object.__class__") "__get__" = some (some (.builtin "getset_descriptor.__get__"))) (htk : PySem.W.takesIn K (.builtin "object.__class__") = some true)
      (hm : PySem.W.mroIn K C (.type "object") = some true) : TyOf K H (.ref a) (.ref C)
theorem isinst_ok {x : V} {u t : Value} (I : Inv X pins σ H s) (rx : RelV x u) (ty : TyOf X.K H x t) (e : PySem.W.kitOne X.K t c = some b) (h : ∀ tk, Q (.bool b) { s with toks := tk }) :
    wpAny (model X.prog X.w) A (call (.builtin "isinstance") [u, c]) Q E s := by
  cases ty with
  | non => cases (show u = Value.none from rx); exact PySem.W.kia_one PySem.W.kitx_none I.kIn True.intro e (fun z => nomatch z) h
  | bl y => cases (show u = Value.bool y from rx); exact PySem.W.kia_one PySem.W.kitx_bool I.kIn True.intro e (fun z => nomatch z) h
  | int i => obtain ⟨t, q⟩ := (show ∃ t, u = Value.int i t from rx); cases q; exact PySem.W.kia_one PySem.W.kitx_int I.kIn True.intro e (fun z => nomatch z) h
  | str y => obtain ⟨t, q⟩ := (show ∃ t, u = Value.str y t from rx); cases q; exact PySem.W.kia_one PySem.W.kitx_str I.kIn True.intro e (fun z => nomatch z) h
  | flt y => obtain ⟨t, q⟩ := (show ∃ t, u = Value.float y t from rx); cases q; exact PySem.W.kia_one PySem.W.kitx_float I.kIn True.intro e (fun z => nomatch z) h
  | @lst a xs ea =>
    cases (show u = Value.ref a from rx)
    obtain ⟨_, _, n, _, h1⟩ := (show ObjOk X.prog X.w H s.heap a (.lst xs) from I.hok a _ ea)
    exact PySem.W.kia_one PySem.W.kitx_list I.kIn ⟨_, h1, rfl⟩ e (fun z => nomatch z) h
  | @frz a ob xs ea =>
    cases (show u = Value.ref a from rx)
    obtain ⟨_, _, _, n, _, h1⟩ := (show ObjOk X.prog X.w H s.heap a (.frz ob (.lst xs)) from I.hok a _ ea)
    exact PySem.W.kia_one PySem.W.kitx_list I.kIn ⟨_, h1, rfl⟩ e (fun z => nomatch z) h
  | @tup a xs ea =>
    cases (show u = Value.ref a from rx)
    obtain ⟨_, _, _, p⟩ := (show ObjOk X.prog X.w H s.heap a (.tup xs) from I.hok a _ ea)
    obtain ⟨o, h1, h2, _⟩ := p
    exact PySem.W.kia_one PySem.W.kitx_tuple I.kIn ⟨o, h1, h2⟩ e (fun z => nomatch z) h
  | @dK a kvs ea =>
    cases (show u = Value.ref a from rx)
    obtain ⟨_, _, vs, _, p⟩ := (show ObjOk X.prog X.w H s.heap a (.dK kvs) from I.hok a _ ea)
    obtain ⟨o, es, ep, h1, h2, _⟩ := p
    exact PySem.W.kia_one PySem.W.kitx_dict I.kIn ⟨o, h1, h2.1⟩ e (fun z => nomatch z) h
  | @dT a kvs ea =>
    cases (show u = Value.ref a from rx)
    obtain ⟨_, _, xs, _, o, es, ep, h1, h2, _⟩ := (show ObjOk X.prog X.w H s.heap a (.dT kvs) from I.hok a _ ea)
    exact PySem.W.kia_one PySem.W.kitx_dict I.kIn ⟨o, h1, h2.1⟩ e (fun z => nomatch z) h
  | @ins a C dx fs ea cl ha hn htk hm =>
    cases (show u = Value.ref a from rx)
    obtain ⟨mA, O, _⟩ := ins_get I.hok ea
    obtain ⟨od, J, _⟩ := O.look
    exact PySem.W.kia_one (PySem.W.kitx_own (cl.get _) cl.hd ha hn htk hm) I.kIn J e (fun z => nomatch z) h
end
end L2

namespace L2
open PySem PySem.Spec PyProof.Rows

structure Room (k : Nat) (A : Around) : Prop where
  hd : A.handled = none
  dp : A.depth + 3 * k + 5 < recursionLimit
  un : A.units + 16 * k + 200 < cLine
theorem Room.mono {j k : Nat} {A : Around} (r : Room k A) (h : j ≤ k) : Room j A := ⟨r.hd, by have := r.dp; omega, by have := r.un; omega⟩
theorem Room.deeper {k : Nat} {A : Around} (r : Room (k + 1) A) (env : Env) : Room k (A.deeper env) :=
  ⟨r.hd, by have := r.dp; show A.depth + 1 + 3 * k + 5 < _; omega, by have := r.un; show A.units + 3 + 16 * k + 200 < _; omega⟩
theorem make_depth {A : Around} {C : Addr} {us : List Value} {kw : List (Str × Value)} : (A.under (.builtin "type.__call__" ⟨.ref C :: us, kw⟩)).depth = A.depth + 1 := by
  first | rfl | simp [Around.under, Code.weight, Code.isCreation, Code.isGuard, Code.isCaller, Code.frames, Code.isFrame, guardIds]
theorem make_units {A : Around} {C : Addr} {us : List Value} {kw : List (Str × Value)} : (A.under (.builtin "type.__call__" ⟨.ref C :: us, kw⟩)).units = A.units + 1 := by
  first | rfl | simp [Around.under, Code.cUnits, Code.frames, Code.isFrame]
theorem Room.make {k : Nat} {A : Around} (r : Room (k + 1) A) (C : Addr) (us : List Value) (kw : List (Str × Value)) : Room k (A.under (.builtin "type.__call__" ⟨.ref C :: us, kw⟩)) :=
  ⟨r.hd, by have := r.dp; rw [make_depth]; omega, by have := r.un; rw [make_units]; omega⟩
theorem Room.depth {k : Nat} {A : Around} (r : Room k A) : A.depth < recursionLimit := by have := r.dp; omega
theorem Room.units {k : Nat} {A : Around} (r : Room k A) : A.units + 64 < cLine := by have := r.un; omega
noncomputable def tNil : TA := fun _ H Q => Q [] H
noncomputable def tCons (ta : TE) (tr : TA) : TA := fun σ H Q => ta σ H fun x H1 => tr σ H1 fun xs H2 => Q (x :: xs) H2
section
variable {X : Cx} {e : Expr} {es : List Expr} {te : TE} {t : TA} {pos : Pos}
theorem pa_nil : PA X [] tNil := fun _ _ _ _ H Q I h => Calls.spliced_nil ⟨[], H, I, .nil, h⟩
theorem pa_cons (ha : PE X e te) (hr : PA X es t) (hs : starEach (e :: es) X.env = (false, eval e X.env) :: starEach es X.env := by rfl) : PA X (e :: es) (tCons te t) := by
  intro pos pins s σ H Q I h
  rw [hs]
  show wpAny _ _ (spliced ((false, eval e X.env) :: backTo pos (starEach es X.env))) _ _ s
  refine Calls.spliced_cons (thn (ha pins s σ H _ I h) fun u s1 ⟨x, H1, I1, r1, q1⟩ => ?_)
  exact thn (hr pos pins s1 σ H1 _ I1 q1) fun us s2 ⟨xs, H2, I2, r2, q2⟩ => ⟨x :: xs, H2, I2, .cons r1 r2, q2⟩

noncomputable def tTup (t : TA) : TE := fun σ H Q => t σ H fun xs H1 => xs.length ≤ sizeLine ∧ ∀ p, H1 p = none → Q (.ref p) (upd H1 p (.tup xs))
noncomputable def tLst (t : TA) : TE := fun σ H Q => t σ H fun xs H1 => xs.length ≤ sizeLine ∧ ∀ p, H1 p = none → Q (.ref p) (upd H1 p (.lst xs))
theorem pe_tup {x1} (h : PA X es t) : PE X (.Tuple es x1 pos) (tTup t) := by
  intro pins s σ H Q I hq
  refine wpAny_Tuple_spliced (thn (h pos pins s σ H _ I hq) fun us s1 ⟨xs, H1, I1, r, z, q⟩ => ⟨by rw [← r.length]; exact z, ?_⟩)
  have hf : H1 s1.heap.objs.size = none := I1.hok.fresh (Nat.le_refl _)
  refine ⟨.ref s1.heap.objs.size, upd H1 s1.heap.objs.size (.tup xs), I1.laid (t' := s1.toks) (fun b u e => Heap.get?_push_of_some _ e) (Nat.le_refl _) ?_, rfl, q _ hf⟩
  exact ⟨z, us, r, ⟨_, Heap.get?_push_size _ rfl, rfl, _, rfl⟩⟩
theorem pe_lst (h : PA X es t) : PE X (.List es pos) (tLst t) := by
  intro pins s σ H Q I hq
  refine wpAny_List_spliced (thn (h pos pins s σ H _ I hq) fun us s1 ⟨xs, H1, I1, r, z, q⟩ => ⟨by rw [← r.length]; exact z, ?_⟩)
  have hf : H1 s1.heap.objs.size = none := I1.hok.fresh (Nat.le_refl _)
  refine ⟨.ref s1.heap.objs.size, upd H1 s1.heap.objs.size (.lst xs), I1.laid (t' := s1.toks) (fun b u e => Heap.get?_push_of_some _ e) (Nat.le_refl _) ?_, rfl, q _ hf⟩
  exact ⟨z, us, 0, r, Heap.get?_push_size _ rfl⟩
end

noncomputable abbrev Sp := List V → Hp → VK → XK → Prop
noncomputable abbrev CXT := List Env → Hp → Shared → XK → Value → Shared → Prop

structure Env0 (P : Program) (w : World) (K : PySem.W.Frag) (mg : Str → Option Value) (base : Heap) (A : Around) (outer : List Env) (s : Shared) (H : Hp) : Prop where
  frames : A.frames = some outer
  mod : Mod K mg base
  bs : ∀ b o, base.get? b = some o → s.heap.get? b = some o ∧ H b = none
  bsz : base.objs.size ≤ s.heap.objs.size
  funs : s.heap.FunFrames base outer
  frf : ∀ b ∈ frs outer, H b = none
  hok : HOk P w H s.heap
  bare : AllBare s.gens
noncomputable def CE (outer : List Env) (P : Program) (w : World) (H : Hp) (s : Shared) (Q : VK) (u : Value) (s' : Shared) : Prop :=
  ∃ v H', s'.os = s.os ∧ AllBare s'.gens ∧ Un (frs outer) [] H H' s.heap s'.heap ∧ HOk P w H' s'.heap ∧ RelV v u ∧ Q v H'
noncomputable def CR (CX : CXT) (outer : List Env) (P : Program) (w : World) (H : Hp) (s : Shared) (Q : VK) (E : XK) (r : Result) (s' : Shared) : Prop :=
  match r with
  | .ok (.ret u) => CE outer P w H s Q u s'
  | .ok _ => False
  | .error e => CX outer H s E e s'
structure FnOk (P : Program) (w : World) (K : PySem.W.Frag) (mg : Str → Option Value) (base : Heap) (CX : CXT) (k : Nat) (f : Addr) (fd : FuncData) (ps : List Str) (sp : Sp) : Prop where
  len : ∀ vs H Q E, sp vs H Q E → vs.length = ps.length
  run : ∀ (A : Around) (outer : List Env) (s : Shared) (H : Hp) (args : Args) (us : List Value) (vs : List V) (Q : VK) (E : XK), Room k A → Env0 P w K mg base A outer s H → BindsTo s fd args (ps.zip us) → Vals vs us → sp vs H Q E →
    codeAny (model P w) A (.call (.ref f) args) (CR CX outer P w H s Q E) s
theorem Env0.make {P : Program} {w : World} {K : PySem.W.Frag} {mg : Str → Option Value} {base : Heap} {A : Around} {outer : List Env} {s : Shared} {H : Hp} (e : Env0 P w K mg base A outer s H) (C : Addr) (us : List Value) (kw : List (Str × Value)) :
    Env0 P w K mg base (A.under (.builtin "type.__call__" ⟨.ref C :: us, kw⟩)) outer s H := ⟨by first | exact e.frames | (simpa [Around.under, Code.envs, Code.isFrame, pushEnvs] using e.frames), e.mod, e.bs, e.bsz, e.funs, e.frf, e.hok, e.bare⟩
section
variable {X : Cx} {pins : List (Addr × Obj)} {σ : St} {H : Hp} {s s' : Shared}
theorem Inv.env0 (I : Inv X pins σ H s) : Env0 X.prog X.w X.K X.mg X.base X.A X.stack s H :=
  ⟨I.ok.frames, I.ok.mod, I.bs, Nat.le_trans I.ok.bsz I.sz, I.stack, I.stkFree, I.hok, I.bare⟩
theorem Inv.after {Q : VK} {u : Value} (I : Inv X pins σ H s) (h : CE X.stack X.prog X.w H s Q u s') : EP X pins σ Q u s' := by
  obtain ⟨v, H', os, bare, un, hok, r, q⟩ := h
  obtain ⟨hh, g, d, t, os'⟩ := s'
  obtain rfl : os' = s.os := os
  exact ⟨v, H', I.call (h' := hh) (g' := g) (d' := d) (t' := t) (ch := []) un hok bare (fun b z => absurd z (by simp)), r, q⟩
end

noncomputable def tCall (sp : Sp) (dvs : List V) (E : XK) (t : TA) : TE := fun σ H Q => t σ H fun vs H1 => sp (vs ++ dvs) H1 Q E
noncomputable def tMeth (C : Addr) (m : Str) (sp : Sp) (dvs : List V) (E : XK) (ta : TE) (t : TA) : TE := fun σ H Q => ta σ H fun x H1 => ∃ a dx fs, x = .ref a ∧ H1 a = some (.ins C dx fs) ∧ fs.lookup m = none ∧
  t σ H1 fun vs H2 => sp (x :: (vs ++ dvs)) H2 Q E
noncomputable def tMake (C : Addr) (sp : Sp) (dvs : List V) (E : XK) (t : TA) : TE := fun σ H Q => t σ H fun vs H1 => ∀ x dx, H1 x = none → H1 dx = none → dx ≠ x →
  sp (.ref x :: (vs ++ dvs)) (upd (upd H1 dx (.own x)) x (.ins C dx [])) (fun v H2 => v = .non ∧ Q (.ref x) H2) E

noncomputable def Binds (K : PySem.W.Frag) (fd : FuncData) (ps : List Str) (ds : List Value) : Prop :=
  ∀ (s : Shared) (us : List Value), K.In s.heap → (us ++ ds).length = ps.length → BindsTo s fd ⟨us, []⟩ (ps.zip (us ++ ds))
theorem Binds.all {K : PySem.W.Frag} {fd : FuncData} {ps : List Str} (h : ∀ us : List Value, us.length = ps.length → bindArgs fd ⟨us, []⟩ = pure (ps.zip us)) : Binds K fd ps [] := fun s us _ hl => by
  rw [List.append_nil] at hl ⊢
  exact .of_eq (h us hl)

noncomputable def Passes (CX : CXT) (X : Cx) (E : XK) : Prop := ∀ (pins : List (Addr × Obj)) (σ : St) (H : Hp) (s : Shared) (e : Value) (s' : Shared), Inv X pins σ H s → CX X.stack H s E e s' → X.xe e s'

section
variable {X : Cx} {CX : CXT} {k : Nat} {f C : Addr} {fd : FuncData} {ps : List Str} {sp : Sp} {dvs : List V} {ds : List Value} {E : XK} {x m : Str} {p pos apos : Pos} {e o : Expr} {es : List Expr} {ta : TE} {t : TA}

theorem run_fn {pins : List (Addr × Obj)} {σ : St} {H : Hp} {s : Shared} {Q : VK} {us : List Value} {vs : List V} (F : FnOk X.prog X.w X.K X.mg X.base CX k f fd ps sp) (hr : Room k X.A) (hb : Binds X.K fd ps ds) (hd : Vals dvs ds) (hx : Passes CX X E)
    (I : Inv X pins σ H s) (r : Vals vs us) (h : sp (vs ++ dvs) H Q E) : wpAny (model X.prog X.w) X.A (call (.ref f) us) (EP X pins σ Q) X.xe s := by
  have r2 : Vals (vs ++ dvs) (us ++ ds) := r.append hd
  have hl : (us ++ ds).length = ps.length := by rw [← r2.length]; exact F.len _ _ _ _ h
  refine wpAny_call (codeAny_mono (F.run X.A X.stack s H ⟨us, []⟩ (us ++ ds) (vs ++ dvs) Q E hr I.env0 (hb s us I.kIn hl) r2 h) fun r s' hq => ?_)
  cases r with
  | error e => exact hx pins σ H s e s' I hq
  | ok fl =>
    cases fl with
    | ret u => exact I.after hq
    | next => exact False.elim hq
    | brk => exact False.elim hq
    | cont => exact False.elim hq

theorem pe_call (F : FnOk X.prog X.w X.K X.mg X.base CX k f fd ps sp) (hr : Room k X.A) (hg : Gl X x) (hm : X.mg x = some (.ref f)) (hk : PySem.W.keepIn X.K (.ref f) = true) (hb : Binds X.K fd ps ds) (hd : Vals dvs ds) (hx : Passes CX X E)
    (ha : PA X (e :: es) t) (hdb : (x == ("__debug__" : Str)) = false := by decide) (he : starEach (e :: es) X.env = (false, eval e X.env) :: starEach es X.env := by rfl) (hpl : (backTo pos (starEach es X.env)).any (·.1) = false := by rfl) :
    PE X (.Call (.Name x p) (e :: es) [] pos) (tCall sp dvs E t) := by
  intro pins s σ H Q I h
  refine wpAny_Call_Name_kw (ld_glob I hg hm ?_ hdb)
  refine PySem.W.callWith_K (h₀ := X.base) I.ok.mod.kin hk (thn (ha pos pins s σ H _ I h) fun us s1 ⟨vs, H1, I1, r, q⟩ => ⟨I1.kIn, ?_⟩) he hpl
  exact run_fn F hr hb hd hx I1 r q
theorem pe_meth0 {pl : Sem Bool} (he : PE X o ta) (c : Cls X.K C) (hm : Meth X.K C m f) (F : FnOk X.prog X.w X.K X.mg X.base CX k f fd ps sp) (hr : Room k X.A) (hb : Binds X.K fd ps ds) (hd : Vals dvs ds) (hx : Passes CX X E)
    (ht : eval (.Call (.Attribute o m apos) [] [] pos) X.env = (do
      let ov ← eval o X.env
      standAt apos.atName
      let (f, first) ← holding [ov] (getMethod ov m pl)
      callWith pos f first (backTo pos (starEach [] X.env)) (backToKw pos (keywordEach [] X.env))) := by rfl) :
    PE X (.Call (.Attribute o m apos) [] [] pos) (tMeth C m sp dvs E ta tNil) := by
  intro pins s σ H Q I h
  refine PySem.W.methodCall_KW (pl := pl) (thn (he pins s σ H _ I h) fun u s1 ⟨x, H1, I1, rx, a, dx, fs, ex, ea, l, q⟩ => ?_) ht
  subst ex
  obtain rfl : u = Value.ref a := rx
  refine getmeth_ok I1 ea c hm l ?_
  exact PySem.W.callWith_K0 (first := [.ref a]) I1.kIn hm.kp (run_fn (us := [.ref a]) (vs := [.ref a]) F hr hb hd hx I1 (.cons rfl .nil) q)

structure Mk (K : PySem.W.Frag) (C f : Addr) : Prop where
  makes : PySem.W.makesIn K C = true
  init : PySem.W.findIn K (.ref C) "__init__" = some (some (.ref f))
  fn : PySem.W.isFn K (.ref f) = true
  kp : PySem.W.keepIn K (.ref C) = true

theorem run_make {pins : List (Addr × Obj)} {σ : St} {H : Hp} {s : Shared} {Q : VK} {us : List Value} {vs : List V} (M : Mk X.K C f) (F : FnOk X.prog X.w X.K X.mg X.base CX k f fd ps sp) (hr : Room (k + 1) X.A) (hb : Binds X.K fd ps ds) (hd : Vals dvs ds)
    (hx : Passes CX X E) (I : Inv X pins σ H s) (r : Vals vs us)
    (h : ∀ x dx, H x = none → H dx = none → dx ≠ x → sp (.ref x :: (vs ++ dvs)) (upd (upd H dx (.own x)) x (.ins C dx [])) (fun v H2 => v = .non ∧ Q (.ref x) H2) E) :
    wpAny (model X.prog X.w) X.A (call (.ref C) us) (EP X pins σ Q) X.xe s := by
  have hq := h (s.heap.objs.size + 1) s.heap.objs.size (I.hok.fresh (Nat.le_succ _)) (I.hok.fresh (Nat.le_refl _)) (Nat.ne_of_lt (Nat.lt_succ_self _))
  have I2 := Inv.made (C := C) I
  have r2 : Vals (V.ref (s.heap.objs.size + 1) :: (vs ++ dvs)) (Value.ref (s.heap.objs.size + 1) :: (us ++ ds)) := .cons rfl (r.append hd)
  have hl : (Value.ref (s.heap.objs.size + 1) :: us ++ ds).length = ps.length := by
    have e := r2.length
    rw [F.len _ _ _ _ hq] at e
    exact e.symm
  refine wpAny_call (make_map (f := f) I.kIn M.makes M.init (beq_iff_eq.mp M.fn) (codeAny_mono (F.run _ X.stack _ _ ⟨Value.ref (s.heap.objs.size + 1) :: us, []⟩ (Value.ref (s.heap.objs.size + 1) :: (us ++ ds)) _ _ E (hr.make C us [])
    (I2.env0.make C us []) (hb _ (Value.ref (s.heap.objs.size + 1) :: us) I2.kIn hl) r2 hq) fun r s' hq' => ?_))
  cases r with
  | error e => exact hx pins σ _ _ e s' I2 hq'
  | ok fl =>
    cases fl with
    | ret u =>
      obtain ⟨v, H', I3, rv, ev, q3⟩ := I2.after hq'
      subst ev
      exact ⟨rv, ⟨V.ref (s.heap.objs.size + 1), H', I3, rfl, q3⟩⟩
    | next => exact False.elim hq'
    | brk => exact False.elim hq'
    | cont => exact False.elim hq'
theorem pe_make (M : Mk X.K C f) (F : FnOk X.prog X.w X.K X.mg X.base CX k f fd ps sp) (hr : Room (k + 1) X.A) (hg : Gl X x) (hm : X.mg x = some (.ref C)) (hb : Binds X.K fd ps ds) (hd : Vals dvs ds) (hx : Passes CX X E)
    (ha : PA X (e :: es) t) (hdb : (x == ("__debug__" : Str)) = false := by decide) (he : starEach (e :: es) X.env = (false, eval e X.env) :: starEach es X.env := by rfl) (hpl : (backTo pos (starEach es X.env)).any (·.1) = false := by rfl) :
    PE X (.Call (.Name x p) (e :: es) [] pos) (tMake C sp dvs E t) := by
  intro pins s σ H Q I h
  refine wpAny_Call_Name_kw (ld_glob I hg hm ?_ hdb)
  refine PySem.W.callWith_K (h₀ := X.base) I.ok.mod.kin M.kp (thn (ha pos pins s σ H _ I h) fun us s1 ⟨vs, H1, I1, r, q⟩ => ⟨I1.kIn, ?_⟩) he hpl
  exact run_make M F hr hb hd hx I1 r q
end

section
variable {X : Cx} {CX : CXT} {k : Nat} {f C : Addr} {fd : FuncData} {ps ks : List Str} {sp : Sp} {E : XK} {x m : Str} {p pos apos kpos : Pos} {e o : Expr} {es : List Expr} {kws : List Keyword} {te ta : TE} {t tk : TA} {nm : Option Str}
variable {g : List Value → List Value → List Value} {gV : List V → List V → List V}
end

structure FnScope (N P : List Str) (sc : Scope) : Prop where
  kind : sc.kind = .function
  co : sc.isCoroutine = false
  gen : sc.isGenerator = false
  nd : N.Nodup
  pre : N.take P.length = P
  par : ∀ x ∈ P, sc.names.lookup x = some .local ∨ sc.names.lookup x = some .cell
  nofree : ∀ y ∈ sc.names, y.2 ≠ .free

theorem bindL_out {kindOf : Str → Option NameKind} {x : Str} : ∀ {binds : List (Str × Value)} {m : Str → Option Value}, (∀ v, (x, v) ∉ binds) → bindL kindOf binds m x = m x
  | [], _, _ => rfl
  | (n, v) :: r, m, h => by
    unfold bindL
    rw [bindL_out fun w hw => h w (List.mem_cons_of_mem _ hw)]
    split
    · have : x ≠ n := by rintro rfl; exact h v List.mem_cons_self
      simp [this]
    · rfl
theorem bindC_out {kindOf : Str → Option NameKind} {x : Str} : ∀ {binds : List (Str × Value)} {m : Str → Option Value}, (∀ v, (x, v) ∉ binds) → bindC kindOf binds m x = m x
  | [], _, _ => rfl
  | (n, v) :: r, m, h => by
    unfold bindC
    rw [bindC_out fun w hw => h w (List.mem_cons_of_mem _ hw)]
    split
    · rfl
    · have : x ≠ n := by rintro rfl; exact h v List.mem_cons_self
      simp [this]
theorem bindL_get {kindOf : Str → Option NameKind} {x : Str} {v : Value} : ∀ {P : List Str} {vs : List Value} {i : Nat} {m : Str → Option Value}, P.Nodup → P[i]? = some x → vs[i]? = some v → kindOf x = some .local →
    bindL kindOf (P.zip vs) m x = some v
  | [], _, _, _, _, h, _, _ => by simp at h
  | _ :: _, [], _, _, _, _, h, _ => by simp at h
  | p :: P, w :: vs, 0, m, nd, h1, h2, hk => by
    simp at h1 h2; subst h1; subst h2
    show bindL kindOf ((p, w) :: P.zip vs) m p = _
    unfold bindL
    rw [bindL_out fun v hv => (List.nodup_cons.mp nd).1 (List.of_mem_zip hv).1, if_pos hk]
    simp
  | p :: P, w :: vs, i + 1, m, nd, h1, h2, hk => by
    show bindL kindOf ((p, w) :: P.zip vs) m x = _
    unfold bindL
    exact bindL_get (i := i) (List.nodup_cons.mp nd).2 (by simpa using h1) (by simpa using h2) hk
theorem bindC_get {kindOf : Str → Option NameKind} {x : Str} {v : Value} : ∀ {P : List Str} {vs : List Value} {i : Nat} {m : Str → Option Value}, P.Nodup → P[i]? = some x → vs[i]? = some v → kindOf x ≠ some .local →
    bindC kindOf (P.zip vs) m x = some v
  | [], _, _, _, _, h, _, _ => by simp at h
  | _ :: _, [], _, _, _, _, h, _ => by simp at h
  | p :: P, w :: vs, 0, m, nd, h1, h2, hk => by
    simp at h1 h2; subst h1; subst h2
    show bindC kindOf ((p, w) :: P.zip vs) m p = _
    unfold bindC
    rw [bindC_out fun v hv => (List.nodup_cons.mp nd).1 (List.of_mem_zip hv).1, if_neg hk]
    simp
  | p :: P, w :: vs, i + 1, m, nd, h1, h2, hk => by
    show bindC kindOf ((p, w) :: P.zip vs) m x = _
    unfold bindC
    exact bindC_get (i := i) (List.nodup_cons.mp nd).2 (by simpa using h1) (by simpa using h2) hk

noncomputable def start (N : List Str) (vs : List V) : St := vs.map some ++ List.replicate (N.length - vs.length) none

noncomputable def cxOf (CX : CXT) (P : Program) (w : World) (K : PySem.W.Frag) (mg : Str → Option Value) (base : Heap) (N : List Str) (qual : Str) (scope : Scope) (f : Addr) (cd : Value) (A : Around) (outer : List Env) (s : Shared) (H : Hp) (E : XK) : Cx where
  prog := P
  w := w
  K := K
  mg := mg
  base := base
  A := A.deeper (envOfC qual scope s.heap.objs.size f cd)
  N := N
  s₀ := s
  H₀ := H
  env := envOfC qual scope s.heap.objs.size f cd
  outer := outer
  stack := envOfC qual scope s.heap.objs.size f cd :: outer
  ex := []
  calm := true
  fn := fun _ => true
  pn := []
  xe := fun e s' => wpAny (model P w) (A.deeper (envOfC qual scope s.heap.objs.size f cd)) (leaving (envOfC qual scope s.heap.objs.size f cd) e) (fun _ s'' => CX outer H s E e s'') (fun e' s'' => CX outer H s E e' s'') s'

theorem cell_has {sc : Scope} {n : Nat} {x : Str} (h : sc.names.lookup x = some .cell) : ∃ c, (cellsFrom n sc.names []).lookup x = some c := by
  have q := PySem.W.cellsFrom_some sc.names n [] (.inl h)
  exact Option.isSome_iff_exists.mp q

theorem inv_start {CX : CXT} {P : Program} {w : World} {K : PySem.W.Frag} {mg : Str → Option Value} {base : Heap} {N ps : List Str} {qual : Str} {scope : Scope} {f : Addr} {cd : Value} {A : Around} {outer : List Env} {s s1 : Shared} {H : Hp} {E : XK} {us : List Value} {vs : List V}
    (S : FnScope N ps scope) (hd : A.handled = none) (e0 : Env0 P w K mg base A outer s H) (hl : vs.length = ps.length) (r : Vals vs us)
    (x : InCallC s s.heap.objs.size (bindL (envOfC qual scope s.heap.objs.size f cd).kindOf (ps.zip us) fun _ => none) (cellsFrom (s.heap.objs.size + 1) scope.names []) (bindC (envOfC qual scope s.heap.objs.size f cd).kindOf (ps.zip us) fun _ => none) s1) :
    Inv (cxOf CX P w K mg base N qual scope f cd A outer s H E) [] (start N vs) H s1 := by
  have hpl : ps.length ≤ N.length := by have := congrArg List.length S.pre; rw [List.length_take] at this; omega
  obtain ⟨h1, tk, rfl, hk⟩ := x.done
  have noA : ∀ b : Addr, b ∉ (cxOf CX P w K mg base N qual scope f cd A outer s H E).ex := fun b z => absurd (show b ∈ ([] : List Addr) from z) (by simp)
  refine ⟨⟨e0.mod, S.kind, rfl, rfl, Nat.le_refl _, fun y z c h1 h2 => ?_, fun y hy => ?_, fun y c _ h => ?_, fun _ => hd, Around.frames_deeper e0.frames, .inr ⟨rfl, rfl⟩, fun b z => absurd z (noA b), e0.bs, e0.bsz, fun b _ _ => noA b, fun b z => absurd z (noA b), e0.funs, e0.frf⟩,
    rfl, e0.bare, Un.kept hk, ⟨_, x.toInCall.ns, fun i y v h1 h2 h3 => ?_⟩, fun y c h => ⟨_, x.cell y c h⟩, e0.hok.fresh (Nat.le_refl _), fun y c h => ?_, fun p hp => absurd (show p ∈ ([] : List (Addr × Obj)) from hp) (by simp), e0.hok.kept hk, ?_⟩
  · exact name_of_addr x.apart (PySem.mem_of_lookup h1) (PySem.mem_of_lookup h2)
  · have hy : scope.names.lookup y = some .cell ∨ scope.names.lookup y = some .free := hy
    rcases hy with hy | hy
    · exact cell_has hy
    · exact absurd rfl (S.nofree _ (PySem.mem_of_lookup hy))
  · exact Nat.le_of_lt (x.above y c (PySem.mem_of_lookup h))
  · have hi : i < vs.length := by
      unfold start at h2
      by_cases hi : i < vs.length
      · exact hi
      · rw [List.getElem?_append_right (by simpa using hi)] at h2
        rw [List.getElem?_replicate] at h2
        split at h2 <;> cases h2
    have ha : vs[i]? = some v := by
      unfold start at h2
      rw [List.getElem?_append_left (by simpa using hi), List.getElem?_map] at h2
      cases e : vs[i]? with
      | none => rw [e] at h2; cases h2
      | some a => rw [e] at h2; cases h2; rfl
    obtain ⟨u, hu, rv⟩ := r.get ha
    have hp : ps[i]? = some y := by
      rw [← S.pre, List.getElem?_take_of_lt (by omega)]; exact h1
    have ndP : ps.Nodup := by rw [← S.pre]; exact S.nd.sublist (List.take_sublist _ _)
    refine ⟨u, rv, ?_⟩
    rcases S.par y (List.mem_of_getElem? hp) with k | k
    · exact .inl ⟨k, bindL_get ndP hp hu k⟩
    · obtain ⟨c, e⟩ := cell_has (n := s.heap.objs.size + 1) k
      refine .inr ⟨.inl k, c, e, ?_⟩
      have q := x.cell y c e
      rw [bindC_get ndP hp hu (by show scope.names.lookup y ≠ _; rw [k]; decide)] at q
      exact q
  · exact e0.hok.fresh (Nat.le_of_lt (x.above y c (PySem.mem_of_lookup h)))
  · unfold start
    show _ = N.length
    rw [List.length_append, List.length_map, List.length_replicate]
    omega

theorem fn_of {CX : CXT} {P : Program} {w : World} {K : PySem.W.Frag} {mg : Str → Option Value} {base : Heap} {k : Nat} {f : Addr} {name qual : Str} {params : Arguments} {body : List Stmt} {scope : Scope} {dV kV doc pm cdv ct oc : Value} {an od : Option Addr}
    {osl : Array (Option Value)} {N ps : List Str} {sp : Sp} (lk : K.lookup f = some ⟨oc, od, .func (PySem.W.fnOf name qual params body scope dV kV doc pm an cdv ct), osl⟩) (hcd : PySem.W.codeIn K cdv qual = true) (S : FnScope N ps scope)
    (len : ∀ vs H Q E, sp vs H Q E → vs.length = ps.length)
    (hbody : ∀ (A : Around) (outer : List Env) (s : Shared) (H : Hp) (vs : List V) (Q : VK) (E : XK), Room k (A.deeper (envOfC qual scope s.heap.objs.size f cdv)) → sp vs H Q E →
      ∃ t, PSs (cxOf CX P w K mg base N qual scope f cdv A outer s H E) body t ∧ t { nx := fun _ H' => Q .non H', rt := Q } (start N vs) H) :
    FnOk P w K mg base CX (k + 1) f (PySem.W.fnOf name qual params body scope dV kV doc pm an cdv ct) ps sp := by
  refine ⟨len, fun A outer s H args us vs Q E hr e0 hb r hsp => ?_⟩
  have hl := len _ _ _ _ hsp
  have KX : K.In s.heap := e0.mod.kin.keeps fun b o e => (e0.bs b o e).1
  have lim : s.heap.NoLimit := e0.mod.nolimit.keeps fun b o e => (e0.bs b o e).1
  have hkind : ∀ y ∈ ps.zip us, scope.names.lookup y.1 = some .local ∨ (scope.names.lookup y.1 = some .cell ∧ ((cellsFrom (s.heap.objs.size + 1) scope.names []).lookup y.1).isSome = true) := fun ⟨n, v⟩ hy => by
    rcases S.par n (List.of_mem_zip hy).1 with q | q
    · exact .inl q
    · exact .inr ⟨q, PySem.W.cellsFrom_some _ _ _ (.inl q)⟩
  refine codeAny_call_function hr.depth (KX _ _ lk) rfl S.co S.gen rfl (PySem.W.codeRec_of KX hcd) (hb _ _ _ _ ?_)
  refine wpAny_newFunctionEnv_cells S.kind hkind fun env he s1 x => ?_
  subst he
  refine ⟨lim.keeps x.toInCall.keep, codeAny_func ?_⟩
  obtain ⟨t, ht, hq⟩ := hbody A outer s H vs Q E (hr.deeper _) hsp
  have I : Inv (cxOf CX P w K mg base N qual scope f cdv A outer s H E) [] (start N vs) H s1 := inv_start S hr.hd e0 hl r x
  refine wpAny_mono (ht [] s1 (start N vs) H _ I hq) (fun fl s' hs => ?_) fun e s' hs => hs
  have fin : ∀ {σ' : St} {H' : Hp} {v : V} {u : Value}, Inv (cxOf CX P w K mg base N qual scope f cdv A outer s H E) [] σ' H' s' → RelV v u → Q v H' → CE outer P w H s Q u s' :=
    fun {σ' H' v u} J rv q => ⟨v, H', J.os, J.bare, J.base, J.hok, rv, q⟩
  cases fl with
  | ret u =>
    obtain ⟨v, σ', H', J, rv, q⟩ := hs
    exact fin J rv q
  | next =>
    obtain ⟨σ', H', J, q⟩ := hs
    exact fin (v := V.non) (u := Value.none) J rfl q
  | brk =>
    obtain ⟨_, _, _, q⟩ := hs
    exact False.elim q
  | cont =>
    obtain ⟨_, _, _, q⟩ := hs
    exact False.elim q
end L2

namespace L2
open PySem PySem.Spec PyProof.Rows
section
variable {X : Cx} {x : Str} {p pos : Pos} {e : Expr} {es : List Expr} {t : TA} {id T : String} {r : List V → Hp → VK → Prop}

noncomputable def tCB (r : List V → Hp → VK → Prop) (t : TA) : TE := fun σ H Q => t σ H fun vs H1 => r vs H1 Q
theorem pe_callB (hc : CallR X (.builtin id) r) (hg : Gl X x) (hm : X.mg x = none) (hv : bootBuiltins x = some (.builtin id)) (ha : PA X (e :: es) t) (hn : x ≠ "__name__" := by decide) (hdb : (x == ("__debug__" : Str)) = false := by decide)
    (he : starEach (e :: es) X.env = (false, eval e X.env) :: starEach es X.env := by rfl) (hpl : (backTo pos (starEach es X.env)).any (·.1) = false := by rfl) : PE X (.Call (.Name x p) (e :: es) [] pos) (tCB r t) := by
  intro pins s σ H Q I h
  refine wpAny_Call_Name_kw (ld_blt I hg hm hv ?_ hn hdb)
  exact PyProof.Rows.callWith_builtin1 (thn (ha pos pins s σ H _ I h) fun us s1 ⟨vs, H1, I1, r1, q1⟩ => hc pins s1 σ H1 vs us Q I1 r1 q1) he hpl
theorem pe_callTy (hc : CallR X (.type T) r) (hg : Gl X x) (hm : X.mg x = none) (hv : bootBuiltins x = some (.type T)) (ha : PA X (e :: es) t) (hn : x ≠ "__name__" := by decide) (hdb : (x == ("__debug__" : Str)) = false := by decide)
    (he : starEach (e :: es) X.env = (false, eval e X.env) :: starEach es X.env := by rfl) (hpl : (backTo pos (starEach es X.env)).any (·.1) = false := by rfl) : PE X (.Call (.Name x p) (e :: es) [] pos) (tCB r t) := by
  intro pins s σ H Q I h
  refine wpAny_Call_Name_kw (ld_blt I hg hm hv ?_ hn hdb)
  exact PyProof.Rows.callWith_type1 (thn (ha pos pins s σ H _ I h) fun us s1 ⟨vs, H1, I1, r1, q1⟩ => hc pins s1 σ H1 vs us Q I1 r1 q1) he hpl
end
end L2

namespace HT
open PySem PyProof.Rows

section
open PySem.SeqAt
open PySem.AutoSeq1 (wpAny_loadPart')
open PySem.MeetsSeq PySem.MeetsSeq2 PySem.MeetsSeq3

end

section
variable {prog : Program} {w : World} {A : Around} {E : Value → Shared → Prop} {s : Shared}

noncomputable def sIx (n d : Nat) : Option Int → Nat
  | none => d
  | some v => if v < 0 then (v + (n : Int)).toNat else min v.toNat n
theorem sIx_none (n d : Nat) : sIx n d none = d := rfl
theorem sIx_nat (n d k : Nat) : sIx n d (some (k : Int)) = min k n := by
  show (if (k : Int) < 0 then ((k : Int) + (n : Int)).toNat else min (k : Int).toNat n) = min k n
  rw [if_neg (by omega), Int.toNat_natCast]
theorem sIx_le (n d : Nat) (hd : d ≤ n) (o : Option Int) : sIx n d o ≤ n := by
  cases o with
  | none => exact hd
  | some v =>
    show (if v < 0 then (v + (n : Int)).toNat else min v.toNat n) ≤ n
    by_cases hv : v < 0
    · rw [if_pos hv]; omega
    · rw [if_neg hv]; exact Nat.min_le_right _ _
end
end HT

namespace L2
open PySem PySem.Spec PyProof.Rows

noncomputable abbrev TO := St → Hp → (Option Int → Hp → Prop) → Prop
noncomputable def PO (X : Cx) (e : Option Expr) (t : TO) : Prop :=
  ∀ (pins : List (Addr × Obj)) (s : Shared) (σ : St) (H : Hp) (Q : Option Int → Hp → Prop), Inv X pins σ H s → t σ H Q →
    wpAny (model X.prog X.w) X.A (evalPart e X.env) (fun u s' => ∃ o H', Inv X pins σ H' s' ∧ IsPart u o ∧ Q o H') X.xe s
noncomputable def tNoPart : TO := fun _ H Q => Q none H
noncomputable def tPart (t : TE) : TO := fun σ H Q => t σ H fun x H1 => ∃ i, x = .int i ∧ Q (some i) H1

section
variable {X : Cx} {e : Expr} {te : TE} {lo hi : Option Expr} {tl th : TO} {pos p2 : Pos}

theorem po_none : PO X none tNoPart := by
  intro pins s σ H Q I h
  rw [evalPart_none]
  exact wpAny_pure ⟨none, H, I, .none, h⟩
theorem po_some (h : PE X e te) : PO X (some e) (tPart te) := by
  intro pins s σ H Q I hw
  rw [evalPart_some]
  refine thn (h pins s σ H _ I hw) fun u s1 ⟨x, H1, I1, r1, q1⟩ => ?_
  obtain ⟨i, rfl, q⟩ := q1
  obtain ⟨t, rfl⟩ := r1
  exact ⟨some i, H1, I1, .int i t, q⟩

noncomputable def SlR (X : Cx) (r : V → Option Int → Option Int → Hp → VK → Prop) : Prop :=
  ∀ (pins : List (Addr × Obj)) (s : Shared) (σ : St) (H : Hp) (x : V) (v vl vu : Value) (lo hi : Option Int) (sl : Addr) (Q : VK), Inv X pins σ H s → RelV x v → s.heap.IsSliceOf sl vl vu .none → IsPart vl lo → IsPart vu hi → r x lo hi H Q →
    ∃ T id, typeLookup (.type T) "__getitem__" = pure (some (.builtin id)) ∧ s.TypeIs v T ∧ wpAny (model X.prog X.w) X.A (getItem v (.ref sl)) (EP X pins σ Q) X.xe s
noncomputable def tSl (r : V → Option Int → Option Int → Hp → VK → Prop) (te : TE) (tl th : TO) : TE := fun σ H Q => te σ H fun x H1 => tl σ H1 fun l H2 => th σ H2 fun u H3 => r x l u H3 Q
theorem pe_slice {r : V → Option Int → Option Int → Hp → VK → Prop} (hr : SlR X r) (he : PE X e te) (hl : PO X lo tl) (hu : PO X hi th) : PE X (.Subscript e (.Slice lo hi none p2) pos) (tSl r te tl th) := by
  intro pins s σ H Q I h
  refine Subscript_ (thn (he pins s σ H _ I h) fun v s1 ⟨x, H1, I1, r1, q1⟩ => ?_)
  refine wpAny_Slice (thn (hl pins s1 σ H1 _ I1 q1) fun vl s2 ⟨l, H2, I2, pl, q2⟩ => thn (hu pins s2 σ H2 _ I2 q2) fun vu s3 ⟨u, H3, I3, pu, q3⟩ => ?_)
  rw [evalPart_none]
  refine wpAny_pure ?_
  have I4 : Inv X pins σ H3 { s3 with heap := s3.heap.push { cls := .type "slice", data := .fields #[vl, vu, .none] } } := I3.kept (t' := s3.toks) fun b ob q => Heap.get?_push_of_some _ q
  obtain ⟨T, id, hT, ht, hg⟩ := hr pins { s3 with heap := s3.heap.push { cls := .type "slice", data := .fields #[vl, vu, .none] } } σ H3 x v vl vu l u s3.heap.objs.size Q I4 r1 (Heap.IsSliceOf.new ..) pl pu q3
  show wpAny (model X.prog X.w) X.A (subscriptTail e (.Slice lo hi none p2) v (.ref s3.heap.objs.size)) (EP X pins σ Q) X.xe { s3 with heap := s3.heap.push { cls := .type "slice", data := .fields #[vl, vu, .none] } }
  exact tail_any (ops := [.ref s3.heap.objs.size, v]) ht hT hg (by with_unfolding_all rfl)

noncomputable def cutV (xs : List V) (lo hi : Option Int) : List V := (xs.drop (HT.sIx xs.length 0 lo)).take (HT.sIx xs.length xs.length hi - HT.sIx xs.length 0 lo)
theorem cutV_length (xs : List V) (lo hi : Option Int) : (cutV xs lo hi).length ≤ xs.length := by
  unfold cutV
  rw [List.length_take, List.length_drop]
  omega
end
end L2

namespace L2
open PySem PySem.Spec PyProof.Rows

noncomputable def ixN (n : Nat) (i : Int) : Option Nat := if 0 ≤ i then (if i < n then some i.toNat else none) else if -(n : Int) ≤ i then some (i + n).toNat else none
noncomputable def atI {α : Type} (xs : List α) (i : Int) : Option α := (ixN xs.length i).bind fun j => xs[j]?
theorem ixN_seq {n : Nat} {i : Int} {j : Nat} (h : ixN n i = some j) : seqIndex? i n = some j ∧ j < n ∧ -(n : Int) ≤ i ∧ i < n := by
  unfold ixN at h
  by_cases h0 : 0 ≤ i
  · rw [if_pos h0] at h
    by_cases h1 : i < n
    · rw [if_pos h1] at h
      have e : i.toNat = j := Option.some.inj h
      exact ⟨by rw [seqIndex_of h0 h1, e], by omega, by omega, h1⟩
    · rw [if_neg h1] at h; cases h
  · rw [if_neg h0] at h
    by_cases h1 : -(n : Int) ≤ i
    · rw [if_pos h1] at h
      have e : (i + n).toNat = j := Option.some.inj h
      exact ⟨by rw [seqIndex_neg (by omega) h1, e], by omega, h1, by omega⟩
    · rw [if_neg h1] at h; cases h
theorem atI_get {α : Type} {xs : List α} {i : Int} {v : α} (h : atI xs i = some v) : ∃ j, seqIndex? i xs.length = some j ∧ xs[j]? = some v ∧ j < xs.length ∧ -(xs.length : Int) ≤ i ∧ i < xs.length := by
  unfold atI at h
  cases e : ixN xs.length i with
  | none => rw [e] at h; cases h
  | some j =>
    rw [e] at h
    obtain ⟨h1, h2, h3, h4⟩ := ixN_seq e
    exact ⟨j, h1, h, h2, h3, h4⟩
theorem atI_nat {α : Type} {xs : List α} {j : Nat} {v : α} (h : xs[j]? = some v) : atI xs (j : Int) = some v := by
  have hj : j < xs.length := (List.getElem?_eq_some_iff.mp h).1
  have e : ixN xs.length (j : Int) = some j := by
    unfold ixN
    rw [if_pos (by omega), if_pos (by omega)]; simp
  unfold atI; rw [e]; exact h
noncomputable def PlainIx (b : Expr) : Prop := ∀ o i, subscripted b false o i = operate [o, i] (getItem o i)
noncomputable def IxR (X : Cx) (r : R2) : Prop :=
  ∀ (value slice : Expr) (pins : List (Addr × Obj)) (s : Shared) (σ : St) (H : Hp) (x y : V) (v u : Value) (Q : VK), Inv X pins σ H s → RelV x v → RelV y u → r x y H Q →
    subscripted slice false v u = operate [v, u] (getItem v u) → wpAny (model X.prog X.w) X.A (subscriptTail value slice v u) (EP X pins σ Q) X.xe s
noncomputable def MtR (X : Cx) (id : String) (r : V → List V → Hp → VK → Prop) : Prop :=
  ∀ (pins : List (Addr × Obj)) (s : Shared) (σ : St) (H : Hp) (x : V) (xs : List V) (v : Value) (us : List Value) (Q : VK), Inv X pins σ H s → RelV x v → Vals xs us → r x xs H Q →
    wpAny (model X.prog X.w) X.A (call (.builtin id) (v :: us)) (EP X pins σ Q) X.xe s
section
variable {X : Cx} {a b : Expr} {ta tb : TE} {pos : Pos}
theorem pe_ix {r : R2} (hr : IxR X r) (ha : PE X a ta) (hb : PE X b tb) (hs : PlainIx b) : PE X (.Subscript a b pos) (tOp r ta tb) := by
  intro pins s σ H Q I h
  exact Subscript_ (binT ha hb I h fun v u s2 x y H2 I2 rx ry q => hr a b pins s2 σ H2 x y v u Q I2 rx ry q (hs _ _))

noncomputable def rIxL (K : PySem.W.Frag) : R2 := fun x y H Q => ∃ p xs i v, x = .ref p ∧ y = .int i ∧ SqL K H p xs ∧ atI xs i = some v ∧ Q v H
noncomputable def rIxT (K : PySem.W.Frag) : R2 := fun x y H Q => ∃ p xs i v, x = .ref p ∧ y = .int i ∧ SqT K H p xs ∧ atI xs i = some v ∧ Q v H
noncomputable def rIxS : R2 := fun x y H Q => ∃ z i c, x = .str z ∧ y = .int i ∧ z.length ≤ sizeLine ∧ atI z.cps.toList i = some c ∧ Q (.str ⟨#[c]⟩) H
theorem ix_list : IxR X (rIxL X.K) := by
  intro value slice pins s σ H x y v u Q I rx ry h hs
  obtain ⟨p, xs, i, z, rfl, rfl, hq, he, q⟩ := h
  cases rx
  obtain ⟨t, rfl⟩ := ry
  obtain ⟨its, r, pl, hz⟩ := I.list hq
  obtain ⟨j, h1, h2, h3, h4, h5⟩ := atI_get he
  obtain ⟨w, ew, rw'⟩ := r.get h2
  have hl := r.length
  have hn := line63
  have fin : EP X pins σ Q w s := ⟨z, H, I, rw', q⟩
  by_cases h0 : 0 ≤ i
  · have hj : i.toNat = j := by
      rw [seqIndex_of h0 h5] at h1
      exact Option.some.inj h1
    exact item_listR pl.isList h0 (by omega) (by rw [hj]; simpa using ew) fin hs
  · have hj : (i + (its.toArray.size : Int)).toNat = j := by
      rw [seqIndex_neg (by omega) h4] at h1
      rw [List.size_toArray, ← hl]
      exact Option.some.inj h1
    exact subscriptTail_builtinR (x := w) pl.isList.typeIs slot_list_getitem.lookup
      (wpAny_getItem_list_neg (Q := fun r s' => r = w ∧ EP X pins σ Q r s') pl.isList (by omega) (by rw [List.size_toArray] <;> omega) (by omega) (by rw [hj]; simpa using ew) ⟨rfl, fin⟩) hs
theorem ix_tup : IxR X (rIxT X.K) := by
  intro value slice pins s σ H x y v u Q I rx ry h hs
  obtain ⟨p, xs, i, z, rfl, rfl, hq, he, q⟩ := h
  cases rx
  obtain ⟨t, rfl⟩ := ry
  obtain ⟨its, r, pl, hz⟩ := I.tuple hq
  obtain ⟨j, h1, h2, h3, h4, h5⟩ := atI_get he
  obtain ⟨w, ew, rw'⟩ := r.get h2
  have hl := r.length
  have hn := line63
  have fin : EP X pins σ Q w s := ⟨z, H, I, rw', q⟩
  exact subscriptTail_builtinR (x := w) pl.typeIs slot_tuple_getitem.lookup
    (getItem_tuple (j := j) (Q := fun r s' => r = w ∧ EP X pins σ Q r s') pl (by omega) (by omega) (by rw [List.size_toArray, ← hl]; exact h1) (by simpa using ew) ⟨rfl, fin⟩) hs
theorem ix_str : IxR X rIxS := by
  intro value slice pins s σ H x y v u Q I rx ry h hs
  obtain ⟨z, i, c, rfl, rfl, hz, he, q⟩ := h
  obtain ⟨t, rfl⟩ := rx
  obtain ⟨t', rfl⟩ := ry
  obtain ⟨j, h1, h2, h3, h4, h5⟩ := atI_get he
  have hl : z.cps.toList.length = z.length := by simp [Str.length]
  rw [hl] at h1 h4 h5
  have hn := line63
  exact tail_any (typeIs_str s z t) slot_str_getitem.lookup (getItem_str (c := c) (by
    have e1 : decide (i < -(2 ^ 63 : Int)) = false := decide_eq_false (by omega)
    have e2 : decide (i ≥ 2 ^ 63) = false := decide_eq_false (by omega)
    rw [e1, e2, Bool.or_false]) (by rw [h1]; simpa using h2) ⟨.str ⟨#[c]⟩, H, I.tok _, ⟨_, rfl⟩, q⟩) hs
theorem mapSeq_set (its : List Value) (n j : Nat) (u : Value) : Obj.mapSeq (·.setIfInBounds j u) { cls := .type "list", data := .seq its.toArray n } = { cls := .type "list", data := .seq (its.set j u).toArray n } := by
  simp [Obj.mapSeq]
theorem Inv.lst {pins : List (Addr × Obj)} {σ : St} {H : Hp} {s : Shared} {p : Addr} {xs : List V} (I : Inv X pins σ H s) (h : H p = some (.lst xs)) :
    ∃ (its : List Value) (n : Nat), Vals xs its ∧ s.heap.get? p = some { cls := .type "list", data := .seq its.toArray n } ∧ xs.length ≤ sizeLine := by
  obtain ⟨z, its, n, r, e⟩ := I.hok p _ h
  exact ⟨its, n, r, e, z⟩
theorem Inv.lstUpd {pins : List (Addr × Obj)} {σ : St} {H : Hp} {s : Shared} {p : Addr} {xs ys : List V} {its its' : List Value} {n n' : Nat} {f : Obj → Obj} (I : Inv X pins σ H s) (h : H p = some (.lst xs))
    (ho : s.heap.get? p = some { cls := .type "list", data := .seq its.toArray n }) (hf : f { cls := .type "list", data := .seq its.toArray n } = { cls := .type "list", data := .seq its'.toArray n' }) (r : Vals ys its') (hz : ys.length ≤ sizeLine) (t : Nat) :
    Inv X pins σ (upd H p (.lst ys)) { s with heap := s.heap.update p f, toks := t } := by
  have e : (s.heap.update p f).get? p = some { cls := .type "list", data := .seq its'.toArray n' } := by
    rw [Heap.get?_update_self f ho (by rw [hf] <;> rfl), hf]
  refine I.write (x := p) (e := p) (by rw [h]; trivial) (.inl rfl) (fun b u hb q => (Heap.get?_update_other _ _ (Ne.symm hb)).trans q) ⟨_, e⟩ ?_
  exact ⟨hz, its', n', r, e⟩
noncomputable def rSetL : V → V → V → Hp → (Hp → Prop) → Prop := fun o i v H Q => ∃ p xs k j, o = .ref p ∧ i = .int k ∧ H p = some (.lst xs) ∧ ixN xs.length k = some j ∧ Q (upd H p (.lst (xs.set j v)))
theorem set_list : PSet X rSetL := by
  intro pins s σ H o i v ov iv u Q I ro ri rv h
  obtain ⟨p, xs, k, j, rfl, rfl, hp, hj, q⟩ := h
  cases ro
  obtain ⟨t, rfl⟩ := ri
  obtain ⟨its, n, r, ho, hz⟩ := I.lst hp
  obtain ⟨h1, h2, h3, h4⟩ := ixN_seq hj
  have hl := r.length
  have hn := line63
  have I' : Inv X pins σ (upd H p (.lst (xs.set j v))) { s with heap := s.heap.update p (Obj.mapSeq (·.setIfInBounds j u)) } :=
    I.lstUpd hp ho (mapSeq_set its n j u) (r.set rv j) (by rw [List.length_set]; exact hz) s.toks
  by_cases h0 : 0 ≤ k
  · have hk : k.toNat = j := by
      rw [seqIndex_of h0 h4] at h1
      exact Option.some.inj h1
    exact PySem.W.ki_setAt ho h0 (by omega) (by rw [List.size_toArray, ← hl]; exact h4) (by rw [hk]; exact ⟨_, I', q⟩)
  · have hk : (k + (its.toArray.size : Int)).toNat = j := by
      rw [seqIndex_neg (by omega) h3] at h1
      rw [List.size_toArray, ← hl]
      exact Option.some.inj h1
    exact PySem.W.ki_setBack ho (by omega) (by rw [List.size_toArray, ← hl]; exact h3) (by omega) (by rw [hk]; exact ⟨_, I', q⟩)

theorem slice_bounds (lo hi : Option Int) (n : Nat) : (sliceBounds lo hi none n).1 = ((HT.sIx n 0 lo : Nat) : Int) ∧ (sliceBounds lo hi none n).2.1 = ((HT.sIx n n hi : Nat) : Int) ∧ (sliceBounds lo hi none n).2.2 = 1 := by
  refine ⟨?_, ?_, rfl⟩
  · cases lo with
    | none => simp [sliceBounds, HT.sIx]
    | some i =>
      simp only [sliceBounds, HT.sIx, Option.getD_none, show (1 : Int) > 0 by decide, if_true]
      by_cases h : i < 0
      · simp only [h, if_true] <;> omega
      · simp only [h, if_false] <;> omega
  · cases hi with
    | none => simp [sliceBounds, HT.sIx]
    | some i =>
      simp only [sliceBounds, HT.sIx, Option.getD_none, show (1 : Int) > 0 by decide, if_true]
      by_cases h : i < 0
      · simp only [h, if_true] <;> omega
      · simp only [h, if_false] <;> omega
theorem slicePick_cut (its : List Value) (lo hi : Option Int) : slicePick its.toArray lo hi none = ((its.drop (HT.sIx its.length 0 lo)).take (HT.sIx its.length its.length hi - HT.sIx its.length 0 lo)).toArray := by
  obtain ⟨h1, h2, h3⟩ := slice_bounds lo hi its.toArray.size
  unfold slicePick
  rw [h1, h2, h3]
  simp only [sliceRange_one, pick_run, List.size_toArray] <;> rfl
noncomputable def rSlL (K : PySem.W.Frag) : V → Option Int → Option Int → Hp → VK → Prop := fun x lo hi H Q => ∃ a xs, x = .ref a ∧ SqL K H a xs ∧ ∀ p, H p = none → Q (.ref p) (upd H p (.lst (cutV xs lo hi)))
theorem sl_list : SlR X (rSlL X.K) := by
  intro pins s σ H x v vl vu lo hi sl Q I rx hs pl pu h
  obtain ⟨a, xs, rfl, hx, q⟩ := h
  cases rx
  obtain ⟨its, r, ht, hz⟩ := I.list hx
  have hlen := r.length
  refine ⟨"list", _, slot_list_getitem.lookup, ht.isList.typeIs, ?_⟩
  refine wpAny_getItem_list_slice ht.isList hs pl pu .none (by simp) ?_ (by rw [List.size_toArray] <;> omega)
  rw [slicePick_cut, ← hlen]
  refine ⟨.ref s.heap.objs.size, _, I.laid (t' := s.toks) (o := .lst (cutV xs lo hi)) (fun b ob q => Heap.get?_push_of_some _ q) (Nat.le_refl _) ?_, rfl, q _ (I.hok.fresh (Nat.le_refl _))⟩
  exact ⟨Nat.le_trans (cutV_length xs lo hi) hz, _, 0, (r.drop (HT.sIx xs.length 0 lo)).take (HT.sIx xs.length xs.length hi - HT.sIx xs.length 0 lo), Heap.get?_push_size _ rfl⟩

noncomputable def flatV : V → Bool
  | .non => true
  | .bl _ => true
  | .int _ => true
  | .str _ => true
  | _ => false
noncomputable def eqV : V → V → Bool
  | .non, .non => true
  | .bl a, .bl b => a == b
  | .bl a, .int b => (if a then 1 else 0) == b
  | .int a, .bl b => a == (if b then 1 else 0)
  | .int a, .int b => a == b
  | .str a, .str b => a == b
  | _, _ => false
theorem eqAt_V {A : Around} {s : Shared} {y x : V} {u v : Value} (ry : RelV y u) (rx : RelV x v) (fy : flatV y = true) (fx : flatV x = true) : SeqAt.EqAt A s u v (eqV y x) := by
  cases y with
  | non =>
    cases ry
    cases x with
    | non => cases rx; exact SeqAt.EqAt.same _
    | bl b => cases rx; exact SeqAt.EqAt.none_bool b
    | int b => obtain ⟨t, rfl⟩ := rx; exact SeqAt.EqAt.none_int b t
    | str b => obtain ⟨t, rfl⟩ := rx; exact SeqAt.EqAt.none_str b t
    | _ => exact absurd (show false = true from fx) Bool.false_ne_true
  | bl a =>
    cases ry
    cases x with
    | non => cases rx; exact SeqAt.EqAt.bool_none a
    | bl b => cases rx; exact SeqAt.EqAt.bool_bool a b
    | int b => obtain ⟨t, rfl⟩ := rx; exact SeqAt.EqAt.bool_int a b t
    | str b => obtain ⟨t, rfl⟩ := rx; exact SeqAt.EqAt.bool_str a b t
    | _ => exact absurd (show false = true from fx) Bool.false_ne_true
  | int a =>
    obtain ⟨t', rfl⟩ := ry
    cases x with
    | non => cases rx; exact SeqAt.EqAt.int_none a t'
    | bl b => cases rx; exact SeqAt.EqAt.int_bool a t' b
    | int b => obtain ⟨t, rfl⟩ := rx; exact SeqAt.EqAt.int_int a t' b t
    | str b => obtain ⟨t, rfl⟩ := rx; exact SeqAt.EqAt.int_str a t' b t
    | _ => exact absurd (show false = true from fx) Bool.false_ne_true
  | str a =>
    obtain ⟨t', rfl⟩ := ry
    cases x with
    | non => cases rx; exact SeqAt.EqAt.str_none a t'
    | bl b => cases rx; exact SeqAt.EqAt.str_bool a t' b
    | int b => obtain ⟨t, rfl⟩ := rx; exact SeqAt.EqAt.str_int a t' b t
    | str b => obtain ⟨t, rfl⟩ := rx; exact SeqAt.EqAt.str_str a t' b t
    | _ => exact absurd (show false = true from fx) Bool.false_ne_true
  | _ => exact absurd (show false = true from fy) Bool.false_ne_true
noncomputable def eqU (x : V) (u : Value) : Bool := match u with
  | .none => eqV .non x
  | .bool b => eqV (.bl b) x
  | .int i _ => eqV (.int i) x
  | .str z _ => eqV (.str z) x
  | _ => false
theorem eqU_of {x y : V} {u : Value} (r : RelV y u) (f : flatV y = true) : eqU x u = eqV y x := by
  cases y with
  | non => cases r; rfl
  | bl b => cases r; rfl
  | int i => obtain ⟨t, rfl⟩ := r; rfl
  | str z => obtain ⟨t, rfl⟩ := r; rfl
  | _ => exact absurd (show false = true from f) Bool.false_ne_true
theorem any_eqU {x : V} : ∀ {xs : List V} {us : List Value}, Vals xs us → xs.all flatV = true → us.any (eqU x) = xs.any fun y => eqV y x
  | _, _, .nil, _ => rfl
  | y :: xs, u :: us, .cons r t, f => by
    rw [List.all_cons, Bool.and_eq_true] at f
    rw [List.any_cons, List.any_cons, eqU_of r f.1, any_eqU t f.2]
theorem mem_eqAt {A : Around} {s : Shared} {x : V} {v : Value} (rx : RelV x v) (fx : flatV x = true) : ∀ {xs : List V} {us : List Value}, Vals xs us → xs.all flatV = true → ∀ u ∈ us, SeqAt.EqAt A s u v (eqU x u)
  | _, _, .nil, _ => fun u hu => by cases hu
  | y :: xs, u :: us, .cons r t, f => fun u' hu => by
    rw [List.all_cons, Bool.and_eq_true] at f
    rcases List.mem_cons.mp hu with rfl | hu
    · rw [eqU_of r f.1]; exact eqAt_V r rx f.1 fx
    · exact mem_eqAt rx fx t f.2 u' hu
noncomputable def inV (x : V) (xs : List V) : Bool := xs.any fun y => eqV y x
noncomputable def rIn (K : PySem.W.Frag) (neg : Bool) : R2 := fun x y H Q => ∃ p xs, y = .ref p ∧ (SqL K H p xs ∨ SqT K H p xs) ∧ flatV x = true ∧ xs.all flatV = true ∧ Q (.bl (if neg then !inV x xs else inV x xs)) H
theorem op_in_seq : OpR X (compareOp .In) (rIn X.K false) := by
  intro pins s σ H x y v u Q I rx ry h
  obtain ⟨p, xs, rfl, hq, fx, fs, q⟩ := h
  cases ry
  rcases hq with hq | hq
  · obtain ⟨its, r, pl, hz⟩ := I.list hq
    refine SeqAt.in_listAt (eqU x) pl.isList (fun w hw => mem_eqAt rx fx r fs w (by simpa using hw)) ⟨.bl _, H, I, rfl, ?_⟩
    rw [show its.toArray.any (eqU x) = its.any (eqU x) by simp, any_eqU r fs]
    exact q
  · obtain ⟨its, r, pl, hz⟩ := I.tuple hq
    refine SeqAt.in_tupleAt (eqU x) pl (fun w hw => mem_eqAt rx fx r fs w (by simpa using hw)) ⟨.bl _, H, I, rfl, ?_⟩
    rw [show its.toArray.any (eqU x) = its.any (eqU x) by simp, any_eqU r fs]
    exact q
theorem call_len_seq : CallR X (.builtin "len") (fun xs H Q => ∃ p ys, xs = [.ref p] ∧ (SqL X.K H p ys ∨ SqT X.K H p ys) ∧ Q (.int ys.length) H) := by
  intro pins s σ H xs us Q I r h
  obtain ⟨p, ys, rfl, hq, q⟩ := h
  obtain ⟨u, rfl, rx⟩ := vals1 r
  cases rx
  have hn := line63
  rcases hq with hq | hq
  · obtain ⟨its, r', pl, hz⟩ := I.list hq
    have hlen := r'.length
    exact Calls.call_len_list pl.isList (by simp only [List.size_toArray] <;> omega) ⟨.int ys.length, H, I.tok _, ⟨s.toks + 1, by rw [List.size_toArray, hlen]⟩, q⟩
  · obtain ⟨its, r', pl, hz⟩ := I.tuple hq
    have hlen := r'.length
    exact len_tuple pl (by simp only [List.size_toArray] <;> omega) ⟨.int ys.length, H, I.tok _, ⟨s.toks + 1, by rw [List.size_toArray, hlen]⟩, q⟩
theorem call_len_str : CallR X (.builtin "len") (fun xs H Q => ∃ z, xs = [.str z] ∧ z.length ≤ sizeLine ∧ Q (.int z.length) H) := by
  intro pins s σ H xs us Q I r h
  obtain ⟨z, rfl, hz, q⟩ := h
  obtain ⟨u, rfl, t, rfl⟩ := vals1 r
  have hn := line63
  exact len_str (by omega) ⟨.int z.length, H, I.tok _, ⟨_, rfl⟩, q⟩
theorem call_list_of : CallR X (.type "list") (fun xs H Q => ∃ p ys, xs = [.ref p] ∧ (SqL X.K H p ys ∨ SqT X.K H p ys) ∧ ∀ l, H l = none → Q (.ref l) (upd H l (.lst ys))) := by
  intro pins s σ H xs us Q I r h
  obtain ⟨p, ys, rfl, hq, q⟩ := h
  obtain ⟨u, rfl, rx⟩ := vals1 r
  cases rx
  have fin : ∀ (its : List Value), Vals ys its → ys.length ≤ sizeLine → ∀ (h' : Heap) (c' : Nat), (∀ b o', s.heap.get? b = some o' → h'.get? b = some o') →
      h'.get? s.heap.objs.size = some { cls := .type "list", dict := none, data := .seq its.toArray c', slots := #[] } → EP X pins σ Q (.ref s.heap.objs.size) { s with heap := h' } := fun its r' hz h' c' kp e =>
    ⟨.ref s.heap.objs.size, _, I.laid (t' := s.toks) kp (Nat.le_refl _) (show ObjOk X.prog X.w _ h' _ (.lst ys) from ⟨hz, its, c', r', e⟩), rfl, q _ (I.hok.fresh (Nat.le_refl _))⟩
  rcases hq with hq | hq
  · obtain ⟨its, r', pl, hz⟩ := I.list hq
    have hlen := r'.length
    obtain ⟨o, ho, hc, n, hd⟩ := pl.isList
    exact call_list_seq p (.inl rfl) ho hc hd (fun h' c' kp e => fin its r' hz h' c' kp e) (by simp only [List.size_toArray] <;> omega)
  · obtain ⟨its, r', pl, hz⟩ := I.tuple hq
    have hlen := r'.length
    obtain ⟨o, ho, hc, n, hd⟩ := pl
    exact call_list_seq p (.inr rfl) ho hc hd (fun h' c' kp e => fin its r' hz h' c' kp e) (by simp only [List.size_toArray] <;> omega)
noncomputable def tyV (K : PySem.W.Frag) (T : String) (x : V) (H : Hp) : Prop := match x with
  | .str _ => T = "str"
  | .int _ => T = "int"
  | .ref p => (T = "list" ∧ ∃ xs, SqL K H p xs) ∨ (T = "tuple" ∧ ∃ o, K.lookup p = some o ∧ o.cls = .type "tuple" ∧ o.dict = none) ∨
      (T = "dict" ∧ ((∃ kvs, H p = some (.dK kvs)) ∨ ∃ kvs, H p = some (.dT kvs))) ∨ (T = "set" ∧ ∃ S n, H p = some (.set S n))
  | _ => False
theorem tyV_is {pins : List (Addr × Obj)} {σ : St} {H : Hp} {s : Shared} {T : String} {x : V} {v : Value} (I : Inv X pins σ H s) (r : RelV x v) (ty : tyV X.K T x H) :
    s.TypeIs v T ∧ ∀ a, v = .ref a → ∃ ob, s.heap.get? a = some ob ∧ ob.dict = none := by
  cases x with
  | str z =>
    obtain ⟨t, rfl⟩ := r
    cases (show T = "str" from ty)
    exact ⟨typeIs_str s z t, fun _ e => nomatch e⟩
  | int i =>
    obtain ⟨t, rfl⟩ := r
    cases (show T = "int" from ty)
    exact ⟨typeIs_int s i t, fun _ e => nomatch e⟩
  | ref p =>
    cases r
    rcases ty with ⟨rfl, xs, hq⟩ | ⟨rfl, o, hk, hc, hd⟩ | ⟨rfl, hk⟩ | ⟨rfl, S, n, hk⟩
    · obtain ⟨its, _, pl, _⟩ := I.list hq
      refine ⟨pl.isList.typeIs, fun a e => ?_⟩
      cases e
      obtain ⟨o, n, e, c, hd, _⟩ := pl
      exact ⟨o, e, hd⟩
    · refine ⟨⟨o, I.kIn p o hk, hc⟩, fun a e => ?_⟩
      cases e
      exact ⟨o, I.kIn _ o hk, hd⟩
    · have z : ∃ o, s.heap.get? p = some o ∧ o.ExactDict := by
        rcases hk with ⟨kvs, hk⟩ | ⟨kvs, hk⟩
        · obtain ⟨_, _, _, _, o, _, _, e, ex, _⟩ := I.hok p _ hk
          exact ⟨o, e, ex⟩
        · obtain ⟨_, _, _, _, o, _, _, e, ex, _⟩ := I.hok p _ hk
          exact ⟨o, e, ex⟩
      obtain ⟨o, e, ex⟩ := z
      refine ⟨⟨o, e, ex.1⟩, fun a e2 => ?_⟩
      cases e2
      exact ⟨o, e, ex.2.1⟩
    · obtain ⟨o, _, _, _, e, ex, _⟩ := I.hok p _ hk
      refine ⟨⟨o, e, ex.1⟩, fun a e2 => ?_⟩
      cases e2
      exact ⟨o, e, ex.2.1⟩
  | _ => exact False.elim ty
noncomputable def tBM (K : PySem.W.Frag) (T : String) (r : V → List V → Hp → VK → Prop) (to : TE) (t : TA) : TE := fun σ H Q => to σ H fun x H1 => tyV K T x H1 ∧ t σ H1 fun xs H2 => r x xs H2 Q
variable {o e : Expr} {es : List Expr} {to : TE} {t : TA} {name : Str} {apos cpos : Pos} {T id : String} {r : V → List V → Hp → VK → Prop}
theorem pe_bm (pa : PlainAttrs T) (slot : Slot T name id) (hty : typeOf (.builtin id) = pure (.type "method_descriptor")) (hm : MtR X id r) (ho : PE X o to) (ha : PA X (e :: es) t)
    (hbase : attributeBase o name X.env (eval o X.env) = eval o X.env := by rfl)
    (hfew : ((backTo cpos (starEach (e :: es) X.env)).all (fun x => !x.1) && (backToKw cpos (keywordEach [] X.env)).all (fun x => x.1.isSome)
      && decide ((e :: es).length + ([] : List Keyword).length + (if ([] : List Keyword).isEmpty then 0 else 1) < 30)) = true := by rfl)
    (hline : (apos.endLine == cpos.line) = true := by rfl) (hs : starEach (e :: es) X.env = (false, eval e X.env) :: starEach es X.env := by rfl) (hplain : (backTo cpos (starEach es X.env)).any (·.1) = false := by rfl) :
    PE X (.Call (.Attribute o name apos) (e :: es) [] cpos) (tBM X.K T r to t) := by
  intro pins s σ H Q I h
  refine wpAny_Call_method_late hbase hfew hline rfl (thn (ho pins s σ H _ I h) fun v s1 ⟨x, H1, I1, r1, ty, q1⟩ => ?_)
  obtain ⟨h1, h2⟩ := tyV_is I1 r1 ty
  refine ⟨T, id, pa, slot, hty, h1, h2, ?_⟩
  have hA := ha cpos pins s1 σ H1 _ I1 q1
  rw [hs] at hA ⊢
  refine Calls.callWith_builtin (by show (false || (backTo cpos (starEach es X.env)).any (·.1)) = false; rw [hplain] <;> rfl) (Calls.evalArgs_plain ?_)
  exact thn hA fun us s2 ⟨vs, H2, I2, r2, q2⟩ => hm pins s2 σ H2 x vs v us Q I2 r1 r2 q2
/- xs.append(e), list.index on a module's tuple .. are MtR facts of 06m -/
end
end L2

namespace L2
open PySem PySem.Spec PyProof.Rows

noncomputable def MtM (X : Cx) (id : String) (r : V → List V → Hp → VK → Prop) : Prop :=
  ∀ (pins : List (Addr × Obj)) (s : Shared) (σ : St) (H : Hp) (x : V) (xs : List V) (v : Value) (us : List Value) (Q : VK), Inv X pins σ H s → RelV x v → Vals xs us → r x xs H Q →
    wpAny (model X.prog X.w) X.A (call (.builtin id) (v :: us)) (EP X pins σ Q) X.xe s

theorem Vals.one : ∀ {x : V} {us : List Value}, Vals [x] us → ∃ u, us = [u] ∧ RelV x u
  | _, _, .cons r .nil => ⟨_, rfl, r⟩
section
variable {X : Cx} {pins : List (Addr × Obj)} {σ : St} {H : Hp} {s : Shared} {l b : Addr} {xs ys zs : List V}

theorem Inv.lset {its its' : List Value} {n : Nat} {f : Array Value → Array Value} {t' : Nat} (I : Inv X pins σ H s) (hH : H l = some (.lst xs))
    (e : s.heap.get? l = some { cls := .type "list", data := .seq its.toArray n }) (hf : f its.toArray = its'.toArray) (hv : Vals ys its') (hz : ys.length ≤ sizeLine) :
    Inv X pins σ (upd H l (.lst ys)) { s with heap := s.heap.update l (Obj.mapSeq f), toks := t' } := by
  have q := PySem.IsL.update e f
  rw [hf] at q
  refine I.write (x := l) (e := l) (by rw [hH]; exact trivial) (.inl rfl) (fun b' u hb hu => (Heap.get?_update_other s.heap (Obj.mapSeq f) (Ne.symm hb)).trans hu) ⟨_, q⟩ ?_
  exact ⟨hz, its', _, hv, q⟩
theorem Inv.lnew {its : List Value} {t' : Nat} (I : Inv X pins σ H s) (hv : Vals ys its) (hz : ys.length ≤ sizeLine) :
    Inv X pins σ (upd H s.heap.objs.size (.lst ys)) { s with heap := s.heap.push { cls := .type "list", data := .seq its.toArray }, toks := t' } :=
  I.laid (fun _ _ q => Heap.get?_push_of_some _ q) (Nat.le_refl _) ⟨hz, its, 0, hv, Heap.get?_push_size _ rfl⟩
theorem Inv.fresh (I : Inv X pins σ H s) : H s.heap.objs.size = none := I.hok.fresh (Nat.le_refl _)
theorem Inv.lstM (I : Inv X pins σ H s) (hH : H l = some (.lst xs)) : xs.length ≤ sizeLine ∧ ∃ (its : List Value) (n : Nat), Vals xs its ∧ xs.length = its.length ∧ s.heap.get? l = some { cls := .type "list", data := .seq its.toArray n } := by
  obtain ⟨z, its, n, r, e⟩ := I.hok l _ hH
  exact ⟨z, its, n, r, r.length, e⟩

end

section
variable {X : Cx}

noncomputable def rAppend : V → List V → Hp → VK → Prop := fun x vs H Q => ∃ l xs y, x = .ref l ∧ vs = [y] ∧ H l = some (.lst xs) ∧ xs.length < sizeLine ∧ Q .non (upd H l (.lst (xs ++ [y])))
theorem mt_append : MtM X "list.append" rAppend := by
  intro pins s σ H x vs v us Q I rx rv h
  obtain ⟨l, xs, y, rfl, rfl, hH, hz, q⟩ := h
  cases rx
  obtain ⟨u, rfl, ru⟩ := rv.one
  obtain ⟨z, its, n, r, hl, e⟩ := I.lstM hH
  refine call_meets F.slot_list_append ⟨_, e, rfl⟩ F.entry_list_append (F.args_list_append_2 _ _) (PySem.list_append l its.toArray n u (by rw [List.size_toArray]; omega)) ⟨e, ?_⟩
  refine ⟨.non, _, I.lset (its' := its ++ [u]) hH e (by simp) (r.append (.cons ru .nil)) ?_, rfl, q⟩
  rw [List.length_append, List.length_singleton]
  omega

end

section
variable {prog : Program} {w : World} {A : Around} {E : Value → Shared → Prop} {s : Shared}
end

section
variable {X : Cx}
end
end L2

namespace Att
open PySem PySem.W PySem.Calls PyProof.Rows

theorem ints_of_wellAll {P : Params} {h : Heap} : ∀ (ns : List Int) (vs : List Value), WellAll P h vs (ns.map WData.int) → IntsAre vs ns := by
  intro ns
  induction ns with
  | nil =>
    intro vs w
    rw [List.map_nil] at w
    cases w
    exact .nil
  | cons n ns ih =>
    intro vs w
    rw [List.map_cons] at w
    cases w with
    | cons a b =>
      cases a
      exact .cons _ _ (ih _ b)

theorem script_of {l : OpenLaw} {n : Nat} (hn : l.most = some n) {P : Params} {h : Heap} {args : List WData} {vals : List Value}
    (hpre : l.row.toRowW.claim.pre args = true) (hwl : WellAll P h vals args) :
    ∃ a vs ns, vals = [Value.ref a] ∧ args = [WData.list (ns.map WData.int)] ∧ h.get? a = some { cls := .type "list", data := .seq vs.toArray } ∧ IntsAre vs ns ∧ ns.length ≤ n := by
  have hsh : WShape.hasAll [] args [.list .int] = true := (pre_splitW hpre).1
  have hc : l.pre.holds [] { args := args } = true := (pre_splitW hpre).2
  obtain ⟨d, r, rfl, h1, h2⟩ := hasAllW_cons hsh
  obtain rfl := hasAllW_nil h2
  obtain ⟨xs, rfl, h3⟩ := hasW_list h1
  obtain ⟨ns, rfl⟩ := items_int h3
  have hlen : ns.length ≤ n := by
    unfold OpenLaw.pre at hc
    have h4 : (WTm.not (.lt (.lit (.int (n : Int))) (.len (.arg 0)))).holds [] { args := [.list (ns.map .int)] } = true := by
      have h4 := (holds_andW hc).1
      rw [hn] at h4
      exact h4
    have h5 := condW_of h4 (w_not (w_lt w_lit (w_len_list (w_arg rfl))))
    rw [List.length_map] at h5
    refine Nat.le_of_not_lt fun q => ?_
    have q' : (n : Int) < ((ns.length : Nat) : Int) := by omega
    first
      | (rw [decide_eq_true q'] at h5; exact absurd h5 (by decide))
      | (simp at h5; omega)
  cases hwl with
  | cons w1 w2 =>
    cases w2
    cases w1 with
    | list ho hall => exact ⟨_, _, ns, rfl, rfl, ho, ints_of_wellAll ns _ hall, hlen⟩

theorem post_true (l : OpenLaw) (args : List WData) : l.row.toRowW.claim.post args (.bool true) args = true :=
  postW_of (r := l.row.toRowW) (X := (true == true))
    (show WShape.has [] (.bool true) .bool = true by first | rfl | decide | simp [WShape.has, WShape.arms, WShape.armsAll])
    (show (WTm.eq .res (.lit (.bool true))).value [] { args := args, res := some (.bool true), after := args } = some (.bool (true == true)) from w_eq_bool (w_res rfl) w_lit) rfl

theorem attach_call {l : OpenLaw} {n : Nat} {q : Program} {loose : List Str} {XP : (Str → Option Value) → Heap → Prop} {YP : World → Heap → Prop} {d : DefRec}
    (hn : l.most = some n) (hdf : d.params.defaults = [])
    (call : ∀ (w : World) (s₀ s₁ : Shared) (mg mb : Str → Option Value) (fa : Addr) (o : Obj) (pm cd doc : Value) (a : Addr) (vs : List Value) (ns : List Int),
      Ground q loose [] XP w s₀ mg mb s₁.heap → YP w s₁.heap →
      s₁.heap.get? fa = some o → o.data = .func (docDef d.name d.params d.body d.scope pm cd doc) → s₁.heap.CodeRec cd d.name → mg d.name = some (.ref fa) →
      s₁.heap.get? a = some { cls := .type "list", data := .seq vs.toArray } → IntsAre vs ns → ns.length ≤ n → s₁.gens = #[] →
      codeAny (model l.prog w) callerA (.call (.ref fa) ⟨[.ref a], []⟩) (fun r s' => r = .ok (.ret (.bool true)) ∧ OldK s₁.heap s'.heap ∧ s'.os = s₁.os ∧ AllBare s'.gens) s₁) :
    WalkO q loose XP YP l.row.toRowW d [] (fun f vs => PySem.call f vs) := by
  intro w s₀ s₁ mg mb G Y fa o pm cd doc dV kV ho hd hcd hD hmg hg args vals as hpre hlay hrd hwl hlo
  obtain rfl : dV = .none := Dflts.none hD hdf
  obtain rfl : kV = .none := Dflts.noKw hD
  obtain ⟨a, vs, ns, rfl, rfl, hobj, hints, hlen⟩ := script_of hn hpre hwl
  refine enter_call (codeAny_mono (call w s₀ s₁ mg mb fa o pm cd doc a vs ns G Y ho (fd_plain hd) hcd hmg hobj hints hlen hg) fun r s' hq => ?_)
  obtain ⟨rfl, h2, h3, h4⟩ := hq
  exact ⟨.inl ⟨.bool true, .bool true, [], rfl, fun _ => rfl, .bool true, post_true l _, fun _ => ⟨List.Pairwise.nil, fun _ hm => (nomatch hm)⟩⟩, h2, h3, h4⟩

section
variable {prog : Program} {w : World} {A : Around} {E : Value → Shared → Prop} {s : Shared} {K : Frag}

end
end Att

namespace L2
open PySem PySem.Spec PyProof.Rows

theorem vals_ints : ∀ {vs : List Value} {ns : List Int}, IntsAre vs ns → Vals (ns.map V.int) vs
  | _, _, .nil => .nil
  | _, _, .cons n t h => .cons ⟨t, rfl⟩ (vals_ints h)

noncomputable def Only (H : Hp) : Prop := ∀ b, H b = none ∨ ∃ o xs, H b = some (.frz o (.lst xs))

theorem law_call {P : Program} {w : World} {K : PySem.W.Frag} {mg mb : Str → Option Value} {CX : CXT} {k : Nat} {fa a : Addr} {fd : FuncData} {x : Str} {sp : Sp} {s₁ : Shared} {vs : List Value} {ns : List Int}
    (KX : K.In s₁.heap) (hns : s₁.heap.Ns mainGlobals mg) (hb : s₁.heap.Ns builtinsNs mb) (hbb : ∀ x : Str, x ≠ "__name__" → mb x = bootBuiltins x) (hlim : s₁.heap.NoLimit) (hg : s₁.gens = #[])
    (ha : s₁.heap.get? a = some { cls := .type "list", data := .seq vs.toArray }) (hi : IntsAre vs ns) (hl : ns.length ≤ sizeLine) (hr : Room k callerA)
    (F : ∀ base : Heap, K.In base → base.Ns mainGlobals mg → FnOk P w K mg base CX k fa fd [x] sp) (hbind : ∀ (s : Shared) (u : Value), BindsTo s fd ⟨[u], []⟩ [(x, u)])
    (hsp : ∀ H : Hp, Only H → SqL K H a (ns.map V.int) → sp [.ref a] H (fun v _ => v = .bl true) fun _ _ _ => False)
    (hCX : ∀ H e s', CX [] H s₁ (fun _ _ _ => False) e s' → False) :
    codeAny (model P w) callerA (.call (.ref fa) ⟨[.ref a], []⟩) (fun r s' => r = .ok (.ret (.bool true)) ∧ OldK s₁.heap s'.heap ∧ s'.os = s₁.os ∧ AllBare s'.gens) s₁ := by
  have rv := vals_ints hi
  have lenV := hi.length
  -- from an abstract heap in which nothing but the script may be tracked
  have core : ∀ H : Hp, Only H → SqL K H a (ns.map V.int) → HOk P w H s₁.heap → (∀ b, H b ≠ none → b = a) → (H a ≠ none → K.lookup a = none) →
      codeAny (model P w) callerA (.call (.ref fa) ⟨[.ref a], []⟩) (fun r s' => r = .ok (.ret (.bool true)) ∧ OldK s₁.heap s'.heap ∧ s'.os = s₁.os ∧ AllBare s'.gens) s₁ := by
    intro H hO hS hok hA hK
    have base_of : ∀ {b : Addr} {o : Obj}, s₁.heap.get? b = some o → H b = none → (hidT s₁.heap H).get? b = some o := fun e n => hidT_get e n
    have noA : ∀ {b : Addr} {o : Obj} {es : Array DictEntry} {ep : Nat}, s₁.heap.get? b = some o → o.data = .dict es ep → H b = none := fun {b o es ep} e d => by
      cases q : H b with
      | none => rfl
      | some u =>
        have e' : b = a := hA b (by rw [q]; simp)
        subst e'
        rw [ha] at e; cases e
        have d' : Data.seq vs.toArray _ = Data.dict es ep := d
        cases d'
    have nsK : ∀ {b : Addr} {m : Str → Option Value}, s₁.heap.Ns b m → (hidT s₁.heap H).Ns b m := fun {b m} ⟨o, es, ep, e, d, r⟩ => ⟨o, es, ep, base_of e (noA e d), d, r⟩
    have hKb : K.In (hidT s₁.heap H) := fun b o e => base_of (KX b o e) (by
      cases q : H b with
      | none => rfl
      | some u =>
        have e' : b = a := hA b (by rw [q]; simp)
        subst e'
        rw [hK (by rw [q]; simp)] at e; cases e)
    have hM : Mod K mg (hidT s₁.heap H) := ⟨hKb, nsK hns, ⟨mb, nsK hb, hbb⟩, let ⟨mc, h1, h2⟩ := hlim; ⟨mc, nsK h1, h2⟩⟩
    have e0 : Env0 P w K mg (hidT s₁.heap H) callerA [] s₁ H := ⟨rfl, hM, fun b o e => of_hidT e, Nat.le_of_eq (hidT_size _ _), trivial, fun b hb => absurd (show b ∈ ([] : List Addr) from hb) (by simp), hok, .of_eq hg⟩
    refine codeAny_mono ((F _ hKb (nsK hns)).run callerA [] s₁ H ⟨[.ref a], []⟩ [.ref a] [.ref a] _ _ hr e0 (hbind s₁ (.ref a)) (.cons rfl .nil) (hsp H hO hS)) fun r s' h => ?_
    cases r with
    | error e => exact (hCX H e s' h).elim
    | ok fl =>
      cases fl with
      | next => exact False.elim h
      | brk => exact False.elim h
      | cont => exact False.elim h
      | ret u =>
        obtain ⟨v, H', os, bare, un, hok', r', q⟩ := h
        have q' : v = .bl true := q
        subst q'
        obtain rfl : u = Value.bool true := r'
        refine ⟨rfl, OldK.of_keep fun b o e => ?_, os, bare⟩
        cases q : H b with
        | none => exact un.keep b o e q (by intro z; exact absurd (show b ∈ ([] : List Addr) from z) (by simp)) (by simp)
        | some u =>
          rcases hO b with z | ⟨ob, xs, z⟩
          · rw [q] at z; cases z
          · have z2 := un.frzs b ob _ z
            obtain ⟨e1, _⟩ := hok b _ z
            obtain ⟨e2, _⟩ := hok' b _ z2
            rw [e] at e1; cases e1
            exact e2
  cases hk : K.lookup a with
  | some o =>
    -- the script is one of the module's own objects
    have e := KX a o hk
    rw [ha] at e
    cases e
    refine core (fun _ => none) (fun _ => .inl rfl) (.inr ⟨_, vs.toArray, _, hk, rfl, rfl, rfl, by rw [List.size_toArray, lenV]; exact hl, by simpa using rv⟩) (fun b u z => by have z' : (none : Option HO) = some u := z; cases z') (fun b z => absurd rfl z) fun z => absurd rfl z
  | none =>
    refine core (fun b => if b = a then some (.frz { cls := .type "list", data := .seq vs.toArray } (.lst (ns.map V.int))) else none) (fun b => ?_) (.inl (.inr ⟨{ cls := .type "list", data := .seq vs.toArray }, if_pos rfl⟩)) (fun b u z => ?_) (fun b z => ?_) fun _ => hk
    · by_cases hb : b = a
      · exact .inr ⟨_, _, if_pos hb⟩
      · exact .inl (if_neg hb)
    · by_cases hb : b = a
      · have z' := (if_pos hb).symm.trans z
        cases z'
        subst hb
        exact ⟨ha, by rw [List.length_map]; exact hl, vs, _, rv, ha⟩
      · have z' := (if_neg hb).symm.trans z
        cases z'
    · by_cases hb : b = a
      · exact hb
      · exact absurd (if_neg hb) z
end L2

namespace L2
open PySem PySem.Spec PyProof.Rows

noncomputable abbrev KOf {K : PySem.W.Frag} {h : Heap} (_ : K.In h) : PySem.W.Frag := K

theorem walk_of {l : PySem.W.OpenLaw} {n k : Nat} {q : Program} {loose : List Str} {XP : (Str → Option Value) → Heap → Prop} {YP : World → Heap → Prop} {d : DefRec} {K : Params → PySem.W.Frag} {CX : World → CXT} {sp : World → Sp} {x : Str}
    (hn : l.most = some n) (hn2 : n ≤ sizeLine) (hdf : d.params.defaults = []) (hr : Room k callerA)
    (hY : ∀ (w : World) (h : Heap), YP w h → (K w.params).In h)
    (F : ∀ (w : World) (mg : Str → Option Value) (fa : Addr) (h : Heap), (K w.params).In h → h.Ns mainGlobals mg → mg d.name = some (.ref fa) →
      ∃ fd : FuncData, (∀ (s : Shared) (u : Value), BindsTo s fd ⟨[u], []⟩ [(x, u)]) ∧
        ∀ base : Heap, (K w.params).In base → base.Ns mainGlobals mg → FnOk l.prog w (K w.params) mg base (CX w) k fa fd [x] (sp w))
    (hsp : ∀ (w : World) (H : Hp) (a : Addr) (ns : List Int), ns.length ≤ n → Only H → SqL (K w.params) H a (ns.map V.int) → sp w [.ref a] H (fun v _ => v = .bl true) fun _ _ _ => False)
    (hCX : ∀ (w : World) (H : Hp) (s : Shared) (e : Value) (s' : Shared), CX w [] H s (fun _ _ _ => False) e s' → False) :
    PySem.W.WalkO q loose XP YP l.row.toRowW d [] (fun f vs => PySem.call f vs) := by
  refine Att.attach_call hn hdf fun w s₀ s₁ mg mb fa o pm cd doc a vs ns G Y ho hd hcd hmg hobj hints hlen hg => ?_
  have KX := hY w _ Y
  obtain ⟨fd, hb, hF⟩ := F w mg fa _ KX G.T.g hmg
  exact law_call KX G.T.g G.T.b G.T.builtins G.T.nolimit hg hobj hints (Nat.le_trans hlen hn2) hr hF hb (fun H hO hS => hsp w H a ns hlen hO hS) fun H e s' => hCX w H s₁ e s'
end L2

/- THE LAST THEOREM (shape; LID, My.* are yours):
   My.Adr: a structure of the addresses that your layer names (classes, functions); My.Txt K t: a structure (Prop) of the equations over K;
   My.txt_mk : {K} {implicit addresses ..} (e1 : nsIn K mainGlobals "law" = some (some (.ref f))) (e2 : K.lookup f = some ⟨oc, od, .func (fnOf "law" "law" params body scope dV kV doc pm an cdv ct), sl⟩) (e3 : codeIn K cdv "law" = true) .. : ∃ t, My.Txt K t

set_option maxRecDepth 100000 in
set_option maxHeartbeats 0 in
theorem PySem.Challenge.cw_LID_holds : PySem.Challenge.rw_LID.Holds := by
  w_on; o_law; k_head; (case hw => w_witness2)
  k_fill
  refine L2.walk_of (l := PySem.Challenge.rw_LID) (n := 63) (k := 40) (x := "script") (CX := fun w => ..) (sp := fun _ => My.sp_law) rfl (by decide) rfl ⟨rfl, by decide, by decide⟩ (fun w h Y => PySem.W.kIn_of Y) ?F ?S ?C
  case F =>
    intro w mg fa h KX G hmg
    have T : ∃ t, My.Txt (L2.KOf KX) t := by
      dsimp only [L2.KOf]                          -- K must stand as «<heap const> w.params» for k_is
      refine' My.txt_mk ?e1 ?e2 ?e3 ..
      (case e1 => PySem.W.k_is)                    -- in the order: a name -> its address -> its object -> its parts
      (case e2 => PySem.W.k_is)
      ..
    obtain ⟨t, T⟩ := T
    have e0 := hmg.symm.trans (PySem.W.mg_of KX G T.law)
    cases e0                                       -- fa is the law's own address
    exact ⟨_, fun s u => .of_eq rfl, fun base kb nb => My.law_fn T kb nb⟩     -- if «.of_eq rfl» comes too early: refine' ⟨_, ?b, fun base kb nb => My.law_fn T kb nb⟩; exact fun s u => .of_eq rfl
  case S => exact fun w H a ns hl hO hS => ..
  case C => exact ..
(the tactic k_is has no namespace: write k_is) -/

namespace L2
open PySem PySem.Spec PyProof.Rows

noncomputable def inClass (s : Stmt) (j : Nat) : Stmt := match s with
  | .ClassDef _ _ _ body _ _ _ _ _ _ _ => body.getD j (.Pass ⟨0, 0, 0, 0⟩)
  | _ => .Pass ⟨0, 0, 0, 0⟩
noncomputable def defArgs (s : Stmt) : Arguments := match s with
  | .FunctionDef _ a _ _ _ _ _ _ _ _ => a
  | _ => { posonlyargs := [], args := [], vararg := none, kwonlyargs := [], kw_defaults := [], kwarg := none, defaults := [] }
noncomputable def defBody (s : Stmt) : List Stmt := match s with
  | .FunctionDef _ _ b _ _ _ _ _ _ _ => b
  | _ => []
noncomputable def defScope (s : Stmt) : Scope := match s with
  | .FunctionDef _ _ _ _ _ _ sc _ _ _ => sc
  | _ => { kind := .function, names := [], isGenerator := false, isCoroutine := false }

noncomputable abbrev CX0 : CXT := fun _ _ _ _ _ _ => False
noncomputable abbrev E0 : XK := fun _ _ _ => False
theorem pass0 {X : Cx} : Passes CX0 X E0 := fun _ _ _ _ _ _ _ h => h.elim

structure Fun (K : PySem.W.Frag) (x qual : Str) (st : Stmt) (f : Addr) (fd : FuncData) : Prop where
  ex : ∃ (oc : Value) (od : Option Addr) (kV doc pm : Value) (an : Option Addr) (cdv ct : Value) (osl : Array (Option Value)),
    fd = PySem.W.fnOf x qual (defArgs st) (defBody st) (defScope st) .none kV doc pm an cdv ct ∧ K.lookup f = some ⟨oc, od, .func fd, osl⟩ ∧ PySem.W.codeIn K cdv qual = true
  kp : PySem.W.keepIn K (.ref f) = true
section
variable {P : Program} {w : World} {K : PySem.W.Frag} {mg : Str → Option Value} {base : Heap}
theorem Fun.ok {x qual : Str} {st : Stmt} {f : Addr} {fd : FuncData} {N ps : List Str} {k : Nat} {sp : Sp} (F : Fun K x qual st f fd) (S : FnScope N ps (defScope st)) (len : ∀ vs H Q E, sp vs H Q E → vs.length = ps.length)
    (hbody : ∀ (cdv : Value) (A : Around) (outer : List Env) (s : Shared) (H : Hp) (vs : List V) (Q : VK) (E : XK), Room k (A.deeper (envOfC qual (defScope st) s.heap.objs.size f cdv)) → sp vs H Q E →
      ∃ t, PSs (cxOf CX0 P w K mg base N qual (defScope st) f cdv A outer s H E).nox (defBody st) t ∧ t { nx := fun _ H' => Q .non H', rt := Q } (start N vs) H) : FnOk P w K mg base CX0 (k + 1) f fd ps sp := by
  obtain ⟨oc, od, kV, doc, pm, an, cdv, ct, osl, rfl, lk, hcd⟩ := F.ex
  refine fn_of lk hcd S len fun A outer s H vs Q E hr hsp => ?_
  obtain ⟨t, h, q⟩ := hbody cdv A outer s H vs Q E hr hsp
  exact ⟨t, h.nox, q⟩
theorem Fun.binds {x qual : Str} {st : Stmt} {f : Addr} {fd : FuncData} {ps : List Str} (F : Fun K x qual st f fd)
    (h : ∀ (kV doc pm : Value) (an : Option Addr) (cdv ct : Value) (us : List Value), us.length = ps.length → bindArgs (PySem.W.fnOf x qual (defArgs st) (defBody st) (defScope st) .none kV doc pm an cdv ct) ⟨us, []⟩ = pure (ps.zip us)) : Binds K fd ps [] := by
  obtain ⟨oc, od, kV, doc, pm, an, cdv, ct, osl, rfl, lk, hcd⟩ := F.ex
  exact .all (h kV doc pm an cdv ct)
theorem fun_mk {x qual : Str} {st : Stmt} {f : Addr} {oc : Value} {od an : Option Addr} {osl : Array (Option Value)} {kV doc pm cdv ct : Value} (l : K.lookup f = some ⟨oc, od, .func (PySem.W.fnOf x qual (defArgs st) (defBody st) (defScope st) .none kV doc pm an cdv ct), osl⟩)
    (c : PySem.W.codeIn K cdv qual = true) (k : PySem.W.keepIn K (.ref f) = true) : Fun K x qual st f (PySem.W.fnOf x qual (defArgs st) (defBody st) (defScope st) .none kV doc pm an cdv ct) := ⟨⟨oc, od, kV, doc, pm, an, cdv, ct, osl, rfl, l, c⟩, k⟩
end
theorem hu_of {A : Around} {k : Nat} (hr : Room k A) : A.units + 1 < cLine := Nat.lt_of_le_of_lt (Nat.add_le_add_left (by decide : 1 ≤ 64) _) hr.units
theorem small1000 {n : Nat} (h : n ≤ 1000) : n < sizeLine := Nat.lt_of_le_of_lt h (by decide)

section
variable {X : Cx}
theorem pv (i : Nat) {x : Str} {pos : Pos} (hN : X.N[i]? = some x := by rfl) (hv : Vis X.env.scope x := by first | exact Or.inl rfl | exact Or.inr (Or.inl rfl) | exact Or.inr (Or.inr rfl)) (hd : (x == ("__debug__" : Str)) = false := by decide)
    (hcd : (x == ("__classdict__" : Str)) = false := by decide) : PE X (.Name x pos) (tVar i) := pe_var hN hv hd hcd
end

theorem iteF {A B : Prop} (h : B) : if false = true then A else B := by
  rw [if_neg Bool.false_ne_true]
  exact h
theorem iteT {A B : Prop} (h : A) : if true = true then A else B := by
  rw [if_pos rfl]
  exact h
theorem ite2 {c A B : Prop} [Decidable c] (h1 : c → A) (h2 : ¬ c → B) : if c then A else B := by
  by_cases h : c
  · rw [if_pos h]
    exact h1 h
  · rw [if_neg h]
    exact h2 h
theorem iteNS {c A B : Prop} [Decidable c] (hc : c) (h : B) : if (!decide c) = true then A else B := by
  rw [decide_eq_true hc]
  exact iteF h

noncomputable def Same (H H' : Hp) : Prop := ∀ b o, H b = some o → H' b = some o
theorem Same.refl (H : Hp) : Same H H := fun _ _ h => h
theorem Same.trans {H H1 H2 : Hp} (a : Same H H1) (b : Same H1 H2) : Same H H2 := fun c o h => b c o (a c o h)
theorem Same.free {H H' : Hp} (e : Same H H') {l : Addr} (h : H' l = Option.none) : H l = Option.none := by
  cases q : H l with
  | none => rfl
  | some o =>
    rw [e l o q] at h
    cases h
theorem Same.seq {K : PySem.W.Frag} {H H' : Hp} {a : Addr} {xs : List V} (e : Same H H') (h : SqL K H a xs) : SqL K H' a xs := by
  rcases h with (h | ⟨o, h⟩) | h
  · exact .inl (.inl (e _ _ h))
  · exact .inl (.inr ⟨o, e _ _ h⟩)
  · exact .inr h

end L2
set_option Elab.async false
set_option linter.all false
set_option maxRecDepth 100000
namespace L2
open PySem PySem.Spec PyProof.Rows

section
variable {κ : Type} [DecidableEq κ]
noncomputable def valV (kvs : List (κ × V)) (k : κ) : Option V := (kvs.find? fun kv => decide (kv.1 = k)).map (·.2)
noncomputable def putK (kvs : List (κ × V)) (k : κ) (v : V) : List (κ × V) :=
  if (kvs.any fun kv => decide (kv.1 = k)) = true then kvs.map (fun kv => if kv.1 = k then (kv.1, v) else kv) else kvs ++ [(k, v)]
theorem valV_pos {p : κ × V} {r : List (κ × V)} {k : κ} (e : p.1 = k) : valV (p :: r) k = some p.2 := by simp [valV, List.find?_cons, e]
theorem valV_neg {p : κ × V} {r : List (κ × V)} {k : κ} (e : ¬ p.1 = k) : valV (p :: r) k = valV r k := by simp [valV, List.find?_cons, e]
theorem valV_any (k : κ) : ∀ kvs : List (κ × V), (kvs.any fun kv => decide (kv.1 = k)) = (valV kvs k).isSome
  | [] => rfl
  | p :: r => by
    rw [List.any_cons]
    by_cases e : p.1 = k
    · simp only [valV_pos e, decide_eq_true e, Bool.true_or, Option.isSome_some]
    · rw [valV_neg e, decide_eq_false e, Bool.false_or]; exact valV_any k r
theorem valV_map (k j : κ) (y : V) : ∀ kvs : List (κ × V), valV (kvs.map fun kv => if kv.1 = k then (kv.1, y) else kv) j = (valV kvs j).map fun x => if j = k then y else x
  | [] => rfl
  | p :: r => by
    have ih := valV_map k j y r
    rw [List.map_cons]
    by_cases h : p.1 = k
    · rw [if_pos h]
      by_cases e : p.1 = j
      · rw [valV_pos (p := (p.1, y)) e, valV_pos e, Option.map_some, if_pos (e.symm.trans h)]
      · rw [valV_neg (p := (p.1, y)) e, valV_neg e, ih]
    · rw [if_neg h]
      by_cases e : p.1 = j
      · rw [valV_pos (p := p) e, valV_pos e, Option.map_some, if_neg (fun z => h (e.trans z))]
      · rw [valV_neg (p := p) e, valV_neg e, ih]
theorem valV_snoc (k j : κ) (y : V) : ∀ kvs : List (κ × V), valV kvs k = none → valV (kvs ++ [(k, y)]) j = if j = k then some y else valV kvs j
  | [], _ => by
    by_cases e : k = j
    · rw [if_pos e.symm]; exact valV_pos (p := (k, y)) e
    · rw [if_neg (fun z => e z.symm)]; exact valV_neg (p := (k, y)) e
  | p :: r, hn => by
    rw [List.cons_append]
    have hk : ¬ p.1 = k := fun z => by rw [valV_pos z] at hn; cases hn
    rw [valV_neg hk] at hn
    have ih := valV_snoc k j y r hn
    by_cases e : p.1 = j
    · rw [valV_pos e, valV_pos e, if_neg (fun z => hk (e.trans z))]
    · rw [valV_neg e, valV_neg e, ih]
theorem valV_put (kvs : List (κ × V)) (k j : κ) (y : V) : valV (putK kvs k y) j = if j = k then some y else valV kvs j := by
  unfold putK
  by_cases a : (kvs.any fun kv => decide (kv.1 = k)) = true
  · rw [if_pos a, valV_map]
    rw [valV_any] at a
    by_cases e : j = k
    · obtain ⟨x, hx⟩ := Option.isSome_iff_exists.mp a
      rw [if_pos e, e, hx, Option.map_some, if_pos rfl]
    · rw [if_neg e]
      cases valV kvs j with
      | none => rfl
      | some x => rw [Option.map_some, if_neg e]
  · rw [if_neg a]
    refine valV_snoc k j y kvs ?_
    rw [valV_any] at a
    cases q : valV kvs k with
    | none => rfl
    | some x => rw [q] at a; exact (a rfl).elim
theorem length_putK (kvs : List (κ × V)) (k : κ) (v : V) : (putK kvs k v).length ≤ kvs.length + 1 := by
  unfold putK
  split
  · rw [List.length_map]; omega
  · rw [List.length_append, List.length_cons, List.length_nil]; omega
theorem putK_new {kvs : List (κ × V)} {k : κ} (v : V) (h : valV kvs k = none) : putK kvs k v = kvs ++ [(k, v)] := by
  unfold putK
  rw [valV_any, h]
  exact if_neg (by decide)

theorem RelO.isSome_eq {o : Option V} {u : Option Value} (r : RelO o u) : o.isSome = u.isSome := by
  cases o with
  | none => cases u with
    | none => rfl
    | some _ => exact (show False from r).elim
  | some _ => cases u with
    | none => exact (show False from r).elim
    | some _ => rfl
theorem KV.val {kvs : List (κ × V)} {vs : List (κ × Value)} (r : KV kvs vs) (k : κ) : RelO (valV kvs k) (valueAt vs k) := by
  unfold KV at r
  induction r with
  | nil => exact True.intro
  | @cons p q ps qs h t ih =>
    obtain ⟨h1, h2⟩ := h
    by_cases e : p.1 = k
    · have e' : q.1 = k := h1.symm.trans e
      have b : valueAt (q :: qs) k = some q.2 := by simp [valueAt, List.find?_cons, e']
      rw [valV_pos e, b]; exact h2
    · have e' : ¬ q.1 = k := fun z => e (h1.trans z)
      have b : valueAt (q :: qs) k = valueAt qs k := by simp [valueAt, List.find?_cons, e']
      rw [valV_neg e, b]; exact ih
theorem KV.any {kvs : List (κ × V)} {vs : List (κ × Value)} (r : KV kvs vs) (k : κ) : (kvs.any fun kv => decide (kv.1 = k)) = vs.any fun kv => decide (kv.1 = k) := by
  unfold KV at r
  induction r with
  | nil => rfl
  | cons h t ih => rw [List.any_cons, List.any_cons, ih, h.1]
theorem KV.repl {kvs : List (κ × V)} {vs : List (κ × Value)} (r : KV kvs vs) (k : κ) {y : V} {u : Value} (ry : RelV y u) :
    KV (kvs.map fun kv => if kv.1 = k then (kv.1, y) else kv) (vs.map fun kv => if kv.1 = k then (kv.1, u) else kv) := by
  unfold KV at r ⊢
  induction r with
  | nil => exact .nil
  | @cons p q ps qs h t ih =>
    rw [List.map_cons, List.map_cons]
    refine .cons ?_ ih
    obtain ⟨h1, h2⟩ := h
    by_cases e : p.1 = k
    · rw [if_pos e, if_pos (h1.symm.trans e)]; exact ⟨h1, ry⟩
    · rw [if_neg e, if_neg (fun z => e (h1.trans z))]; exact ⟨h1, h2⟩
theorem KV.put {kvs : List (κ × V)} {vs : List (κ × Value)} (r : KV kvs vs) (k : κ) {y : V} {u : Value} (ry : RelV y u) : KV (putK kvs k y) (stored vs k u) := by
  unfold putK stored
  rw [r.any k]
  by_cases e : (vs.any fun kv => decide (kv.1 = k)) = true
  · rw [if_pos e, if_pos e]; exact r.repl k ry
  · rw [if_neg e, if_neg e]; exact Paired.snoc r ⟨rfl, ry⟩
theorem KV.length {kvs : List (κ × V)} {vs : List (κ × Value)} (r : KV kvs vs) : kvs.length = vs.length := Paired.length r
end


theorem kV_is {P : Program} {w : World} {k : Key} {u : Value} (r : RelV (kV k) u) : (mixKind P w).is k u = true := by
  cases k with
  | inl i => obtain ⟨t, e⟩ := (show ∃ t, u = Value.int i t from r); subst e; exact mixKind_int P w i t
  | inr x => obtain ⟨t, e⟩ := (show ∃ t, u = Value.str x t from r); subst e; exact mixKind_str P w x t
theorem items_are {P : Program} {w : World} : ∀ {ks : List Key} {us : List Value}, Vals (ks.map kV) us → ItemsAre (mixKind P w) ks us
  | [], _, r => by rw [List.map_nil] at r; cases r; exact .nil
  | k :: ks, _, r => by
    rw [List.map_cons] at r
    cases r with
    | cons h t => exact .cons (kV_is h) (items_are t)

noncomputable abbrev KT (H : Hp) : List (List Key × V) → List (List Key × Addr × Value) → Prop := Paired fun p q => p.1 = q.1 ∧ H q.2.1 = some (.tup (p.1.map kV)) ∧ RelV p.2 q.2.2
theorem KT.val {H : Hp} {kvs : List (List Key × V)} {xs : List (List Key × Addr × Value)} (r : KT H kvs xs) (k : List Key) : RelO (valV kvs k) ((atKey xs k).map (·.2)) := by
  induction r with
  | nil => exact True.intro
  | @cons p q ps qs h t ih =>
    obtain ⟨h1, _, h2⟩ := h
    by_cases e : p.1 = k
    · have e' : q.1 = k := h1.symm.trans e
      have b : atKey (q :: qs) k = some q.2 := by simp [atKey, List.find?_cons, e']
      rw [valV_pos e, b]; exact h2
    · have e' : ¬ q.1 = k := fun z => e (h1.trans z)
      have b : atKey (q :: qs) k = atKey qs k := by simp [atKey, List.find?_cons, e']
      rw [valV_neg e, b]; exact ih
theorem KT.repl {H : Hp} {kvs : List (List Key × V)} {xs : List (List Key × Addr × Value)} (r : KT H kvs xs) (k : List Key) {y : V} {u : Value} (ry : RelV y u) :
    KT H (kvs.map fun kv => if kv.1 = k then (kv.1, y) else kv) (xs.map (putAt k u)) := by
  induction r with
  | nil => exact .nil
  | @cons p q ps qs h t ih =>
    rw [List.map_cons, List.map_cons]
    refine .cons ?_ ih
    obtain ⟨h1, h2, h3⟩ := h
    unfold putAt
    by_cases e : p.1 = k
    · rw [if_pos e, if_pos (h1.symm.trans e)]; exact ⟨h1, h2, ry⟩
    · rw [if_neg e, if_neg (fun z => e (h1.trans z))]; exact ⟨h1, h2, h3⟩
theorem KT.put {H : Hp} {kvs : List (List Key × V)} {xs : List (List Key × Addr × Value)} (r : KT H kvs xs) (k : List Key) {b : Addr} {y : V} {u : Value} (hb : H b = some (.tup (k.map kV))) (ry : RelV y u) :
    KT H (putK kvs k y) (storedH xs k b u) := by
  have e : (kvs.any fun kv => decide (kv.1 = k)) = (atKey xs k).isSome := by
    rw [valV_any, (r.val k).isSome_eq, Option.isSome_map]
  unfold putK storedH
  rw [e]
  by_cases q : (atKey xs k).isSome = true
  · rw [if_pos q, if_pos q]; exact r.repl k ry
  · rw [if_neg q, if_neg q]; exact Paired.snoc r ⟨rfl, hb, ry⟩
theorem KT.keeps {H H' : Hp} {kvs : List (List Key × V)} {xs : List (List Key × Addr × Value)} (r : KT H kvs xs) (ht : ∀ b ys, H b = some (.tup ys) → H' b = some (.tup ys)) : KT H' kvs xs :=
  Paired.mapP r fun _ _ z => ⟨z.1, ht _ _ z.2.1, z.2.2⟩

section
variable {P : Program} {w : World} {H : Hp} {h : Heap} {a : Addr}
theorem rd_of {u : HO} (ok : HOk P w H h) (e : Rd H a u) : ObjOk P w H h a u := e.ok ok
theorem dk_rd {kvs : List (Key × V)} (ok : HOk P w H h) (e : Rd H a (.dK kvs)) : kvs.length ≤ sizeLine ∧ (a == sysModules) = false ∧ ∃ vs, KV kvs vs ∧ h.DictOf (mixKind P w) a vs :=
  show ObjOk P w H h a (.dK kvs) from rd_of ok e
theorem dk_of {kvs : List (Key × V)} (ok : HOk P w H h) (e : H a = some (.dK kvs)) : kvs.length ≤ sizeLine ∧ (a == sysModules) = false ∧ ∃ vs, KV kvs vs ∧ h.DictOf (mixKind P w) a vs := dk_rd ok (.inl e)
theorem key_of {ks : List Key} (ok : HOk P w H h) (e : H a = some (.tup (ks.map kV))) : (tupleKind (mixKind P w)).is h ks a := by
  obtain ⟨_, its, r, o, h1, h2, n, h3⟩ := (show ObjOk P w H h a (.tup (ks.map kV)) from ok a _ e)
  exact ⟨o, its.toArray, n, h1, h2, h3, by simpa using items_are r⟩
theorem dt_rd {kvs : List (List Key × V)} (ok : HOk P w H h) (e : Rd H a (.dT kvs)) : kvs.length ≤ sizeLine ∧ (a == sysModules) = false ∧
    ∃ xs, KT H kvs xs ∧ h.DictOfH (tupleKind (mixKind P w)) a xs := by
  obtain ⟨z, y, xs, r, o, es, ep, h1, h2, h3, h4, h5⟩ := (show ObjOk P w H h a (.dT kvs) from rd_of ok e)
  refine ⟨z, y, xs, r, o, es, ep, h1, h2, h3, h4, fun x hx => ?_, h5⟩
  have all : ∀ {l : List (List Key × V)} {m : List (List Key × Addr × Value)}, KT H l m → ∀ x ∈ m, (tupleKind (mixKind P w)).is h x.1 x.2.1 := by
    intro l m q
    induction q with
    | nil => intro x hx; exact nomatch hx
    | @cons p q ps qs hq t ih =>
      intro x hx
      rcases List.mem_cons.mp hx with e | hx
      · subst e
        exact key_of ok (by rw [← hq.1]; exact hq.2.1)
      · exact ih x hx
  exact all r x hx
theorem dt_of {kvs : List (List Key × V)} (ok : HOk P w H h) (e : H a = some (.dT kvs)) : kvs.length ≤ sizeLine ∧ (a == sysModules) = false ∧
    ∃ xs, KT H kvs xs ∧ h.DictOfH (tupleKind (mixKind P w)) a xs := dt_rd ok (.inl e)
end

noncomputable def DGet (H : Hp) (a : Addr) (y : V) (r : Option V) : Prop :=
  (∃ kvs k, Rd H a (.dK kvs) ∧ y = kV k ∧ r = valV kvs k) ∨ ∃ kvs k b, Rd H a (.dT kvs) ∧ y = .ref b ∧ H b = some (.tup (k.map kV)) ∧ r = valV kvs k
noncomputable def DPut (H : Hp) (a : Addr) (y v : V) (H' : Hp) : Prop :=
  (∃ kvs k, H a = some (.dK kvs) ∧ y = kV k ∧ kvs.length < sizeLine ∧ H' = upd H a (.dK (putK kvs k v))) ∨
  ∃ kvs k b, H a = some (.dT kvs) ∧ y = .ref b ∧ H b = some (.tup (k.map kV)) ∧ kvs.length < sizeLine ∧ H' = upd H a (.dT (putK kvs k v))
theorem DGet.k {H : Hp} {a : Addr} {kvs : List (Key × V)} {k : Key} (e : H a = some (.dK kvs)) : DGet H a (kV k) (valV kvs k) := .inl ⟨kvs, k, .inl e, rfl, rfl⟩
theorem DPut.k {H : Hp} {a : Addr} {kvs : List (Key × V)} {k : Key} {v : V} (e : H a = some (.dK kvs)) (hl : kvs.length < sizeLine) : DPut H a (kV k) v (upd H a (.dK (putK kvs k v))) := .inl ⟨kvs, k, e, rfl, hl, rfl⟩
section
variable {X : Cx} {pins : List (Addr × Obj)} {σ : St} {H : Hp} {s : Shared} {a : Addr} {y v : V} {u r : Value} {o : Option V} {A : Around} {E : Value → Shared → Prop}

theorem Inv.big (I : Inv X pins σ H s) : sysModules < s.heap.objs.size := by
  have h : mainGlobals < s.heap.objs.size := (I.mod.glob.keeps I.bk).lt
  exact Nat.lt_trans (by decide) h

theorem d_getItem {Q : Value → Shared → Prop} (hu : A.units + 1 < cLine) (I : Inv X pins σ H s) (g : DGet H a y (some v)) (ry : RelV y u) (h : ∀ w' s', Inv X pins σ H s' → RelV v w' → Q w' s') :
    wpAny (model X.prog X.w) A (getItem (.ref a) u) Q E s := by
  rcases g with ⟨kvs, k, e, ey, l⟩ | ⟨kvs, k, b, e, ey, eb, l⟩
  · subst ey
    obtain ⟨z, hd, vs, rel, dd⟩ := dk_rd I.hok e
    obtain ⟨w', hw, rw'⟩ := RelO.some_of (v := v) (o := valueAt vs k) (by rw [l]; exact rel.val k)
    exact wpAny_getItem_of (kV_is ry) dd.mapOf hw (h w' _ (I.tok _) rw')
  · subst ey
    cases (show u = Value.ref b from ry)
    obtain ⟨z, hd, xs, rel, dd⟩ := dt_rd I.hok e
    obtain ⟨w', hw, rw'⟩ := RelO.some_of (v := v) (o := (atKey xs k).map (·.2)) (by rw [l]; exact rel.val k)
    obtain ⟨p, hp, hp2⟩ := Option.map_eq_some_iff.mp hw
    refine wpAny_getItem_heap (tupleKind_room_in1 hu) (key_of I.hok eb) dd hp ?_
    rw [hp2]
    exact h w' _ (I.tok _) rw'
theorem d_write {h' : Heap} {t' : Nat} {ob : HO} (I : Inv X pins σ H s) (mu : Mut (H a)) (hs : Heap.SameBut a s.heap h') (he : ∃ q, h'.get? a = some q) (new : ObjOk X.prog X.w (upd H a ob) h' a ob) :
    Inv X pins σ (upd H a ob) { s with heap := h', toks := t' } :=
  I.write (x := a) (e := a) mu (.inl rfl) (fun b q hb z => (hs.2 b hb).trans z) he new
theorem dk_new {P : Program} {w : World} {H' : Hp} {h' : Heap} {kvs : List (Key × V)} {vs : List (Key × Value)} (z : kvs.length ≤ sizeLine) (hd : (a == sysModules) = false) (rel : KV kvs vs) (dd : h'.DictOf (mixKind P w) a vs) :
    ObjOk P w H' h' a (.dK kvs) := ⟨z, hd, vs, rel, dd⟩
theorem d_setItem {H' : Hp} {Q : Unit → Shared → Prop} (hu : A.units + 1 < cLine) (I : Inv X pins σ H s) (g : DPut H a y v H') (ry : RelV y u) (rv : RelV v r) (h : ∀ s', Inv X pins σ H' s' → Q () s') :
    wpAny (model X.prog X.w) A (setItem (.ref a) u r) Q E s := by
  rcases g with ⟨kvs, k, e, ey, l, eH⟩ | ⟨kvs, k, b, e, ey, eb, l, eH⟩
  · subst ey eH
    obtain ⟨z, hd, vs, rel, dd⟩ := dk_of I.hok e
    have hz : vs.length ≤ sizeLine := by rw [← rel.length]; exact z
    have hl : (putK kvs k v).length ≤ sizeLine := by have := length_putK kvs k v; omega
    refine wpAny_setItem_pairs (hsz := hz) (kV_is ry) dd fun h' dd' hs => h _ ?_
    have he : ∃ q, h'.get? a = some q := let ⟨q, _, _, hq, _⟩ := dd'; ⟨q, hq⟩
    exact d_write I (by rw [e]; exact True.intro) hs he (dk_new hl hd (rel.put k rv) dd')
  · subst ey eH
    cases (show u = Value.ref b from ry)
    obtain ⟨z, hd, xs, rel, dd⟩ := dt_of I.hok e
    have hz : xs.length ≤ sizeLine := by rw [← Paired.length rel]; exact z
    have hl : (putK kvs k v).length ≤ sizeLine := by have := length_putK kvs k v; omega
    refine wpAny_setItem_heap (hsz := hz) (tupleKind_room_in1 hu) (key_of I.hok eb) dd fun h' dd' hs => h _ ?_
    obtain ⟨q, es, ep, hq, h2, h3, h4, _, h5⟩ := dd'
    refine d_write I (by rw [e]; exact True.intro) hs ⟨q, hq⟩ ⟨hl, hd, _, (rel.put k eb rv).keeps fun c ys ec => ?_, q, es, ep, hq, h2, h3, h4, h5⟩
    rw [upd_ne (ne_of ec e (fun z => nomatch z))]
    exact ec
end

section
variable {X : Cx} {pins : List (Addr × Obj)} {σ : St} {H : Hp} {s : Shared} {a : Addr} {kvs : List (Key × V)} {k : Key} {u : Value} {A : Around} {E : Value → Shared → Prop}
end


noncomputable def NoSl (i : Expr) : Prop := ∀ ov iv, subscripted i false ov iv = operate [ov, iv] (getItem ov iv)
theorem subD_of {prog : Program} {w : World} {A : Around} {E : Value → Shared → Prop} {s : Shared} {env : Env} {value slice : Expr} {pos : Pos} {T id : String} {Q : Value → Shared → Prop}
    (hl : typeLookup (.type T) "__getitem__" = pure (some (.builtin id))) (hs : NoSl slice)
    (h : wpAny (model prog w) A (eval value env) (fun o s₁ => wpAny (model prog w) A (eval slice env) (fun i s₂ => s₂.TypeIs o T ∧ wpAny (model prog w) A (getItem o i) Q E s₂) E s₁) E s) :
    wpAny (model prog w) A (eval (.Subscript value slice pos) env) Q E s := by
  refine Subscript_ (wpAny_mono h (fun o s₁ h₁ => wpAny_mono h₁ (fun i s₂ h₂ => ?_) fun _ _ x => x) fun _ _ x => x)
  obtain ⟨hT, h₂⟩ := h₂
  unfold subscriptTail
  refine wpAny_bind ?_
  rw [getitemInPython_of_ne hT.not_modules]
  refine wpAny_bind (wpAny_specialOf hT hl ?_)
  have fin : wpAny (model prog w) A (subscripted slice false o i) (fun r s₃ => wpAny (model prog w) A (letTemporaryGo value o r >>= fun _ => pure r) Q E s₃) E s₂ := by
    rw [hs o i]
    exact wpAny_operating (wpAny_mono h₂ (fun r s₃ h₃ => wpAny_bind (wpAny_letTemporaryGo (wpAny_pure h₃))) fun _ _ x => x)
  first
    | exact wpAny_pure (wpAny_bind fin)
    | exact wpAny_bind (wpAny_pure (wpAny_bind fin))
    | exact wpAny_bind fin

theorem dict_typeIs {X : Cx} {pins : List (Addr × Obj)} {σ : St} {H : Hp} {s : Shared} {a : Addr} {y : V} {o : Option V} (I : Inv X pins σ H s) (g : DGet H a y o) : s.TypeIs (.ref a) "dict" := by
  rcases g with ⟨kvs, k, e, _, _⟩ | ⟨kvs, k, b, e, _, _, _⟩
  · obtain ⟨_, _, vs, _, dd⟩ := dk_rd I.hok e
    exact dd.typeIs
  · obtain ⟨_, _, xs, _, dd⟩ := dt_rd I.hok e
    exact dd.typeIs
noncomputable def tDGet (td ty : TE) : TE := fun σ H Q => td σ H fun x H1 => ty σ H1 fun y H2 => ∃ a v, x = .ref a ∧ DGet H2 a y (some v) ∧ Q v H2
noncomputable def sDPut (td ty tv : TE) : TS := fun D σ H => tv σ H fun v H1 => td σ H1 fun x H2 => ty σ H2 fun y H3 => ∃ a H4, x = .ref a ∧ DPut H3 a y v H4 ∧ D.nx σ H4
section
variable {X : Cx} {o i e value : Expr} {pos pos' tpos : Pos} {td ty tv : TE}
theorem pe_dget (hu : X.A.units + 1 < cLine) (ho : PE X o td) (hi : PE X i ty) (hs : NoSl i) : PE X (.Subscript o i pos) (tDGet td ty) := by
  intro pins s σ H Q I h
  refine subD_of PySem.F.slot_dict_getitem.lookup hs (thn (ho pins s σ H _ I h) fun u s1 ⟨x, H1, I1, rx, q1⟩ => thn (hi pins s1 σ H1 _ I1 q1) fun iv s2 ⟨y, H2, I2, ry, a, v, ex, g, q2⟩ => ?_)
  subst ex
  obtain rfl : u = Value.ref a := rx
  exact ⟨dict_typeIs I2 g, d_getItem hu I2 g ry fun w' s3 I3 rw' => ⟨v, H2, I3, rw', q2⟩⟩
theorem ps_dput (hu : X.A.units + 1 < cLine) (ho : PE X o td) (hi : PE X i ty) (hv : PE X value tv) (hs : swapsWith value (some (.Subscript o i pos')) pos.line X.env = pure false) :
    PS X (.Assign [.Subscript o i pos'] value pos) (sDPut td ty tv) := by
  intro pins s σ H D I h
  refine wpAny_Assign_Subscript (thn (hv pins s σ H _ I h) fun r s1 ⟨v, H1, I1, rv, q1⟩ => thn (ho pins s1 σ H1 _ I1 q1) fun u s2 ⟨x, H2, I2, rx, q2⟩ => thn (hi pins s2 σ H2 _ I2 q2) fun iv s3 ⟨y, H3, I3, ry, a, H4, ex, g, q3⟩ => ?_) hs
  subst ex
  obtain rfl : u = Value.ref a := rx
  exact d_setItem hu I3 g ry rv fun s4 I4 => ⟨σ, H4, I4, q3⟩
end


theorem dk_empty {P : Program} {w : World} {H : Hp} (h : Heap) (hb : sysModules < h.objs.size) : ObjOk P w H (h.push { cls := .type "dict", data := .dict #[] }) h.objs.size (.dK []) :=
  ⟨Nat.zero_le _, beq_eq_false_iff_ne.mpr (Ne.symm (Nat.ne_of_lt hb)), [], .nil, Heap.DictOf.new h⟩
section
variable {X : Cx} {pos : Pos}
end

noncomputable def tPairs : List (TE × TE) → St → Hp → (List (V × V) → Hp → Prop) → Prop
  | [], _, H, Q => Q [] H
  | (tk, tv) :: r, σ, H, Q => tk σ H fun x H1 => tv σ H1 fun y H2 => tPairs r σ H2 fun ps H3 => Q ((x, y) :: ps) H3
noncomputable abbrev VV : List (V × V) → List (Value × Value) → Prop := Paired fun p q => RelV p.1 q.1 ∧ RelV p.2 q.2
noncomputable def PPs (X : Cx) (pos : Pos) (keys : List (Option Expr)) (values : List Expr) (trs : List (TE × TE)) : Prop :=
  ∀ (pins : List (Addr × Obj)) (s : Shared) (σ : St) (H : Hp) (Q : List (V × V) → Hp → Prop), Inv X pins σ H s → tPairs trs σ H Q →
    wpAny (model X.prog X.w) X.A (evalPairs (pairTrees keys values X.env pos)) (fun vs s' => ∃ ps H', Inv X pins σ H' s' ∧ VV ps vs ∧ Q ps H') X.xe s
theorem pps_nil {X : Cx} {pos : Pos} : PPs X pos [] [] [] := fun pins s σ H Q I h => pairTrees_nil_walk ⟨[], H, I, .nil, h⟩
theorem pps_cons {X : Cx} {pos : Pos} {k v : Expr} {ks : List (Option Expr)} {vs : List Expr} {tk tv : TE} {trs : List (TE × TE)} (hk : PE X k tk) (hv : PE X v tv) (hr : PPs X pos ks vs trs) :
    PPs X pos (some k :: ks) (v :: vs) ((tk, tv) :: trs) := fun pins s σ H Q I h =>
  pairTrees_cons_walk (thn (hk pins s σ H _ I h) fun u s1 ⟨x, H1, I1, rx, q1⟩ => thn (hv pins s1 σ H1 _ I1 q1) fun w2 s2 ⟨y, H2, I2, ry, q2⟩ =>
    thn (hr pins s2 σ H2 _ I2 q2) fun ws s3 ⟨ps, H3, I3, rel, q3⟩ => ⟨(x, y) :: ps, H3, I3, .cons ⟨rx, ry⟩ rel, q3⟩)

noncomputable def mergeK (kvs more : List (Key × V)) : List (Key × V) := more.foldl (fun acc kv => putK acc kv.1 kv.2) kvs
theorem KV.merge : ∀ {more : List (Key × V)} {rs : List (Key × Value)} {kvs : List (Key × V)} {vs : List (Key × Value)}, KV more rs → KV kvs vs → KV (mergeK kvs more) (merged vs rs) := by
  intro more rs kvs vs r
  unfold KV at r
  induction r generalizing kvs vs with
  | nil => intro q; exact q
  | @cons p q ps qs h t ih =>
    intro r0
    have e : KV (putK kvs p.1 p.2) (stored vs q.1 q.2) := by
      have := r0.put p.1 h.2
      rw [← h.1]; exact this
    exact ih e
theorem length_mergeK : ∀ (more kvs : List (Key × V)), (mergeK kvs more).length ≤ kvs.length + more.length
  | [], kvs => by show kvs.length ≤ kvs.length + 0; omega
  | p :: r, kvs => by
    have h1 := length_mergeK r (putK kvs p.1 p.2)
    have h2 := length_putK kvs p.1 p.2
    show (mergeK (putK kvs p.1 p.2) r).length ≤ _
    rw [List.length_cons]; omega
theorem carries_of {P : Program} {w : World} : ∀ {kvs : List (Key × V)} {ws : List (Value × Value)}, VV (kvs.map fun kv => (kV kv.1, kv.2)) ws → ∃ rs, Carries (mixKind P w) ws rs ∧ KV kvs rs
  | [], _, r => by rw [List.map_nil] at r; cases r; exact ⟨[], True.intro, .nil⟩
  | p :: kvs, _, r => by
    rw [List.map_cons] at r
    cases r with
    | @cons a b as bs h t =>
      obtain ⟨rs, c, q⟩ := carries_of (P := P) (w := w) t
      obtain ⟨b1, b2⟩ := b
      exact ⟨(p.1, b2) :: rs, ⟨kV_is h.1, rfl, c⟩, .cons ⟨rfl, h.2⟩ q⟩
noncomputable def tDisp (trs : List (TE × TE)) : TE := fun σ H Q => ∀ p, H p = none → tPairs trs σ (upd H p (.dK [])) fun ps H2 => H2 p = some (.dK []) ∧ ∃ kvs : List (Key × V), ps = kvs.map (fun kv => (kV kv.1, kv.2)) ∧ kvs.length ≤ 15 ∧ Q (.ref p) (upd H2 p (.dK (mergeK [] kvs)))
theorem pe_disp {X : Cx} {pos : Pos} {keys : List (Option Expr)} {values : List Expr} {trs : List (TE × TE)} (h : PPs X pos keys values trs) (hall : keys.all (·.isSome) = true) (hl : keys.length = values.length) (h0 : keys ≠ [])
    (h15 : keys.length ≤ 15) : PE X (.Dict keys values pos) (tDisp trs) := by
  intro pins s σ H Q I q
  have hn := I.hok.fresh (Nat.le_refl s.heap.objs.size)
  have I1 := I.laid (a := s.heap.objs.size) (o := .dK []) (h' := s.heap.push { cls := .type "dict", data := .dict #[] }) (t' := s.toks) (fun _ _ q => Heap.get?_push_of_some _ q) (Nat.le_refl _) (dk_empty s.heap I.big)
  refine wpAny_Dict_walk (knd := mixKind X.prog X.w) hall hl h0 h15 (thn (h pins _ σ _ _ I1 (q _ hn)) fun ws s2 ⟨ps, H2, I2, rel, e, kvs, ep, lk, q2⟩ => ?_)
  subst ep
  obtain ⟨rs, c, rk⟩ := carries_of (P := X.prog) (w := X.w) rel
  obtain ⟨z, hd, vs0, r0, dd⟩ := dk_of I2.hok e
  cases r0
  refine ⟨rs, c, dd, fun h' dd' hs => ⟨.ref s.heap.objs.size, _, ?_, rfl, q2⟩⟩
  have hz : (mergeK [] kvs).length ≤ sizeLine := by
    have h1 := length_mergeK kvs []
    rw [List.length_nil] at h1
    rw [sizeLine_eq]; omega
  have he : ∃ q, h'.get? s.heap.objs.size = some q := let ⟨q, _, _, hq, _⟩ := dd'; ⟨q, hq⟩
  exact d_write I2 (by rw [e]; exact True.intro) hs he (dk_new hz hd (rk.merge .nil) dd')


structure M1 (X : Cx) (o : Expr) (m : Str) (apos : Pos) (e : Expr) (cpos : Pos) : Prop where
  base : attributeBase o m X.env (eval o X.env) = eval o X.env
  few : ((backTo cpos (starEach [e] X.env)).all (fun x => !x.1) && (backToKw cpos (keywordEach [] X.env)).all (fun x => x.1.isSome)
    && decide (([e] : List Expr).length + ([] : List Keyword).length + (if ([] : List Keyword).isEmpty then 0 else 1) < 30)) = true
  line : (apos.endLine == cpos.line) = true
  trees : backTo cpos (starEach [e] X.env) = [(false, eval e X.env)]
section
variable {X : Cx} {pins : List (Addr × Obj)} {σ : St} {H : Hp} {s : Shared} {a : Addr} {y d : V} {u r : Value} {o : Option V} {A : Around} {E : Value → Shared → Prop}
end

section
variable {X : Cx} {o e f : Expr} {apos cpos : Pos} {td ty tx : TE}
end

section
variable {X : Cx} {pins : List (Addr × Obj)} {σ : St} {H : Hp} {s : Shared} {a : Addr} {kvs : List (Key × V)} {A : Around} {E : Value → Shared → Prop}
end


section
variable {X : Cx} {pins : List (Addr × Obj)} {σ : St} {H : Hp} {s : Shared} {a : Addr} {y : V} {u : Value} {A : Around} {E : Value → Shared → Prop}
end
end L2
namespace L2
open PySem PySem.Spec PyProof.Rows
section
variable {X : Cx}
end
section
variable {κ : Type} [DecidableEq κ]
theorem valV_not {kvs : List (κ × V)} {k : κ} (h : valV kvs k = none) : ¬ k ∈ kvs.map (·.1) := by
  intro m
  obtain ⟨p, hp, e⟩ := List.mem_map.mp m
  have q : (kvs.any fun kv => decide (kv.1 = k)) = true := List.any_eq_true.mpr ⟨p, hp, decide_eq_true e⟩
  rw [valV_any, h] at q
  exact absurd q (by simp)
theorem nd_snoc : ∀ {l : List κ} {k : κ}, l.Nodup → ¬ k ∈ l → (l ++ [k]).Nodup
  | [], k, _, _ => by simp
  | a :: r, k, h, hk => by
    obtain ⟨h1, h2⟩ := List.nodup_cons.mp h
    show (a :: (r ++ [k])).Nodup
    refine List.nodup_cons.mpr ⟨fun m => ?_, nd_snoc h2 fun m => hk (List.mem_cons.mpr (Or.inr m))⟩
    rcases List.mem_append.mp m with q | q
    · exact h1 q
    · exact hk (List.mem_cons.mpr (Or.inl (List.mem_singleton.mp q).symm))
theorem nd_putK {kvs : List (κ × V)} {k : κ} (v : V) (hn : (kvs.map (·.1)).Nodup) (h : valV kvs k = none) : ((putK kvs k v).map (·.1)).Nodup := by
  rw [putK_new v h, List.map_append]
  exact nd_snoc hn (valV_not h)
end
end L2
set_option Elab.async false
set_option linter.all false
set_option maxRecDepth 100000
set_option maxHeartbeats 4000000
namespace L3
open PySem PySem.Spec PyProof.Rows L2
noncomputable abbrev St := L2.St
noncomputable abbrev V := L2.V

noncomputable abbrev NoX : Value → Shared → Prop := fun _ _ => False
theorem noX_any {α : Type} {M : Model} {A : Around} {t : Sem α} {Q : α → Shared → Prop} {E : Value → Shared → Prop} {s : Shared} (h : wpAny M A t Q NoX s) : wpAny M A t Q E s :=
  wpAny_mono h (fun _ _ q => q) fun _ _ z => False.elim z

theorem comp_turns {prog : Program} {w : World} {A : Around} {R : Result → Shared → Prop} {s : Shared} {elt tg iter : Expr} {ifs : List Expr} {scope : Scope} {pos : Pos} {it acc : Value} {env : Env} (I : Nat → Shared → Prop)
    (turn : ∀ n s, I n s → wpAny (model prog w) A (pyNext it) (fun r s1 => match r with
      | none => R (.ok .next) s1
      | some v => wpAny (model prog w) A (letOwnedTupleGo tg it v) (fun _ s2 => wpAny (model prog w) A (assign tg env v) (fun _ s3 =>
          wpAny (model prog w) A (forIn ifs true fun c r => if r = true then do let ok ← isTrue c env (eval c env); pure (ForInStep.yield ok) else pure (ForInStep.yield r)) (fun ok s4 =>
            if ok = true then wpAny (model prog w) A (eval elt env) (fun x s5 => wpAny (model prog w) A (call (.builtin "list.append") [acc, x]) (fun _ s6 => ∃ m, m < n ∧ I m s6) NoX s5) NoX s4
            else ∃ m, m < n ∧ I m s4) NoX s3) NoX s2) NoX s1) NoX s)
    (n : Nat) (h : I n s) : codeAny (model prog w) A (.compLoop (.ListComp elt [⟨tg, iter, ifs, 0⟩] scope pos) 0 it acc env) R s := by
  refine codeAny_loop rfl I (fun n s hI => ?_) n h
  show wpAny _ A ((compTurn (.ListComp elt [⟨tg, iter, ifs, 0⟩] scope pos) 0 it acc env).onRaise (fun x => do noteFrame x env; theTreesLotGoes x)) _ _ s
  refine wpAny_noted (noX_any ?_)
  rw [compTurn_list]
  refine wpAny_bind (wpAny_standAt (wpAny_bind (wpAny_mono (turn n s hI) (fun r s1 h1 => ?_) fun _ _ z => z)))
  cases r with
  | none => exact wpAny_pure h1
  | some v =>
    refine wpAny_bind (wpAny_mono h1 (fun _ s2 h2 => wpAny_bind (wpAny_mono h2 (fun _ s3 h3 => wpAny_bind (wpAny_mono h3 (fun ok s4 h4 => ?_) fun _ _ z => z)) fun _ _ z => z)) fun _ _ z => z)
    cases ok with
    | false => exact wpAny_pure ⟨rfl, h4⟩
    | true => exact wpAny_bind (wpAny_bind (wpAny_mono h4 (fun x s5 h5 => wpAny_bind (wpAny_mono h5 (fun _ s6 h6 => wpAny_pure (wpAny_pure ⟨rfl, h6⟩)) fun _ _ z => z)) fun _ _ z => z))

noncomputable def caps (cs : List (Option Nat)) (σ : St) : St := cs.map fun o => o.bind fun j => (σ[j]?).bind id
noncomputable def cxComp (X : Cx) (N' : List Str) (scope : Scope) (cl : List (Str × Addr)) (C : Addr) (s3 : Shared) (H3 : Hp) (fp : List Addr) (pn : List (Addr × Obj)) : Cx :=
  { X with N := N', s₀ := s3, H₀ := H3, env := compEnvC scope cl C X.env, outer := X.stack, stack := X.stack, ex := fp, fn := fun _ => false, pn := pn, xe := fun _ _ => False }
noncomputable def CellK (k : Option NameKind) : Prop := k = some .cell ∨ k = some .free
inductive Caps (X : Cx) (scope : Scope) (cl : List (Str × Addr)) : List Str → List (Option Nat) → Prop
  | nil : Caps X scope cl [] []
  | own {x N cs} : Caps X scope cl N cs → Caps X scope cl (x :: N) (none :: cs)
  | cap {x j N cs} (h1 : X.N[j]? = some x) (h2 : CellK (X.env.kindOf x)) (h3 : CellK ((relabel scope X.env).names.lookup x)) (h4 : cl.lookup x = X.env.cells.lookup x) :
      Caps X scope cl N cs → Caps X scope cl (x :: N) (some j :: cs)
theorem Caps.len {X : Cx} {scope : Scope} {cl : List (Str × Addr)} {N cs} (h : Caps X scope cl N cs) : cs.length = N.length := by
  induction h with
  | nil => rfl
  | own _ ih => simp [ih]
  | cap _ _ _ _ _ ih => simp [ih]
theorem Caps.get {X : Cx} {scope : Scope} {cl : List (Str × Addr)} {N cs} (h : Caps X scope cl N cs) {σ : St} : ∀ {i : Nat} {x : Str} {v : V}, N[i]? = some x → (caps cs σ)[i]? = some (some v) →
    ∃ j : Nat, X.N[j]? = some x ∧ σ[j]? = some (some v) ∧ CellK (X.env.kindOf x) ∧ CellK ((relabel scope X.env).names.lookup x) ∧ cl.lookup x = X.env.cells.lookup x := by
  induction h with
  | nil => intro i x v h1 h2; simp at h1
  | own _ ih =>
    intro i x v h1 h2
    cases i with
    | zero => simp [caps] at h2
    | succ i => exact ih (i := i) (by simpa using h1) (by simpa [caps] using h2)
  | @cap y j N cs a1 a2 a3 a4 _ ih =>
    intro i x v h1 h2
    cases i with
    | zero =>
      simp at h1
      subst h1
      refine ⟨j, a1, ?_, a2, a3, a4⟩
      simp [caps] at h2
      cases q : σ[j]? with
      | none => rw [q] at h2; simp at h2
      | some o =>
        rw [q] at h2
        simp at h2
        rw [h2]
    | succ i => exact ih (i := i) (by simpa using h1) (by simpa [caps] using h2)
noncomputable def clOk (cl : List (Str × Addr)) (names : List (Str × NameKind)) : Bool := names.all fun y => (y.2 != .cell && y.2 != .free) || (cl.lookup y.1).isSome
theorem clOk_has {cl : List (Str × Addr)} {names : List (Str × NameKind)} (h : clOk cl names = true) {x : Str} (k : CellK (names.lookup x)) : ∃ c, cl.lookup x = some c := by
  have key : ∀ q : NameKind, names.lookup x = some q → (q = .cell ∨ q = .free) → ∃ c, cl.lookup x = some c := fun q e hq => by
    have m := List.all_eq_true.mp h (x, q) (PySem.mem_of_lookup e)
    rcases hq with rfl | rfl
    · exact Option.isSome_iff_exists.mp (by simpa using m)
    · exact Option.isSome_iff_exists.mp (by simpa using m)
  rcases k with k | k
  · exact key _ k (.inl rfl)
  · exact key _ k (.inr rfl)

noncomputable def PIfs (X : Cx) (ifs : List Expr) (t : TT) : Prop :=
  ∀ (pins : List (Addr × Obj)) (s : Shared) (σ : St) (H : Hp) (Q : Bool → Hp → Prop), Inv X pins σ H s → t σ H Q →
    wpAny (model X.prog X.w) X.A (forIn ifs true fun c r => if r = true then do let ok ← isTrue c X.env (eval c X.env); pure (ForInStep.yield ok) else pure (ForInStep.yield r)) (TP X pins σ Q) X.xe s
noncomputable def tAll : TT := fun _ H Q => Q true H
theorem pif_nil {X : Cx} : PIfs X [] tAll := fun _ _ _ H _ I h => wpAny_tests_nil ⟨H, I, h⟩
theorem pif_one {X : Cx} {c : Expr} {t : TT} (h : PT X c t) : PIfs X [c] t := fun pins s σ H Q I q => wpAny_tests_one (h pins s σ H Q I q)

noncomputable def tLC (wi : TI) (cs : List (Option Nat)) (g : TG) (tt : TT) (te : TE) : TE := fun σ H Q => wi σ H fun J H1 => ∀ D, H1 D = none →
  ∃ W : Nat → Nat → List V → St → Hp → Prop, (∃ m, W 0 m [] (caps cs σ) (upd H1 D (.lst []))) ∧ ∀ i m ys σ' H', W i m ys σ' H' → H' D = some (.lst ys) ∧ ys.length < sizeLine ∧
    ((J.stop i H' ∧ Q (.ref D) H') ∨ (J.go i H' ∧ ∀ x H2, J.yld i H' x H2 → g x σ' H2 fun σ3 H3 => tt σ3 H3 fun b H4 =>
      if b = true then te σ3 H4 fun y H5 => H5 D = some (.lst ys) ∧ ∃ m', m' < m ∧ W (i + 1) m' (ys ++ [y]) σ3 (upd H5 D (.lst (ys ++ [y])))
      else ∃ m', m' < m ∧ W (i + 1) m' ys σ3 H4))

section
variable {X : Cx} {elt tg iter : Expr} {ifs : List Expr} {scope : Scope} {pos : Pos} {N' : List Str} {cs : List (Option Nat)} {cl : List (Str × Addr)} {wi : TI} {g : TG} {tt : TT} {te : TE}

theorem lc_any {use : Option (Value → Sem Unit)} {QQ : Value → Shared → Prop} {pins : List (Addr × Obj)} {s : Shared} {σ : St} {H : Hp} {Q : VK} {fpos : Pos} (hc : X.calm = true) (hi : PI X tg iter wi) (hclos : closureFor scope X.env = pure cl) (hcell : ∀ y ∈ scope.names, y.2 ≠ .cell) (hkind : scope.kind = .function)
    (hnames : ∀ y ∈ scope.names, y.2 = .local → scope.names.lookup y.1 = some .local) (hsub : ∀ x c, cl.lookup x = some c → X.env.cells.lookup x = some c)
    (hok : clOk cl (relabel scope X.env).names = true) (hcaps : Caps X scope cl N' cs)
    (hb : ∀ (C : Addr) (s3 : Shared) (H3 : Hp) (fp : List Addr) (pn : List (Addr × Obj)), PG (cxComp X N' scope cl C s3 H3 fp pn) tg g ∧ PIfs (cxComp X N' scope cl C s3 H3 fp pn) ifs tt ∧ PE (cxComp X N' scope cl C s3 H3 fp pn) elt te)
    (hs : ∀ x, foldedSetIterable iter X.env x = pure x := by intro _; rfl) (I : Inv X pins σ H s) (h : tLC wi cs g tt te σ H Q)
    (post : ∀ (D C : Addr) (s4 : Shared) (H' : Hp) (m : Str → Option Value), Inv X pins σ H' s4 → s4.heap.Ns C m → FpOk X pins H' C → Q (.ref D) H' → compPost (model X.prog X.w) X.A X.xe use QQ (.ref D) C (.ok .next) s4) :
    wpAny (model X.prog X.w) X.A (comprehension (.ListComp elt [⟨tg, iter, ifs, 0⟩] scope pos) scope X.env fpos (newList []) false (eval iter X.env) use) QQ X.xe s := by
  refine wpAny_comprehension_free (use := use) rfl hs hclos hkind hnames (thn (hi pins s σ H _ I h) fun v s1 h1 => thn h1 fun itv s2 h2 => ?_)
  obtain ⟨it, fp, tn, J, H2, rfl, I2, T, st2, f2, q2⟩ := h2
  refine wpAny_newObj_type (wpAny_newFunctionEnv hcell (by intro y hy; simp at hy) (fun h1 hns1 hsb1 => ?_) hkind)
  dsimp only at hns1 hsb1 ⊢
  have I3 : Inv X pins σ (upd H2 s2.heap.objs.size (.lst [])) { s2 with heap := s2.heap.push { cls := .type "list", data := .seq ([] : List Value).toArray }, toks := s2.toks } := I2.lnew (its := []) (ys := []) .nil (Nat.zero_le _)
  have hDf : H2 s2.heap.objs.size = none := I2.fresh
  obtain ⟨W, ⟨m0, w0⟩, turn⟩ := q2 _ hDf
  generalize hH3 : s2.heap.push { cls := .type "list", dict := none, data := .seq ([] : List Value).toArray } = h3 at hns1 hsb1 I3 ⊢
  have hsz3 : h3.objs.size = s2.heap.objs.size + 1 := by rw [← hH3, Heap.size_push]
  generalize hD : s2.heap.objs.size = D at *
  have kept : ∀ b o, h3.get? b = some o → h1.get? b = some o := fun b o e => hsb1.extBut b o (Nat.ne_of_lt (Heap.lt_size e)) (Heap.get?_push_of_some _ e)
  have old : ∀ b o, s2.heap.get? b = some o → h3.get? b = some o := fun b o e => by rw [← hH3]; exact Heap.get?_push_of_some _ e
  have fpo : ∀ b ∈ fp, b < D := fun b hb' => by
    obtain ⟨o, e, _⟩ := T.obj 0 _ st2 b hb'
    rw [← hD]
    exact Heap.lt_size e
  have fpfs : ∀ b ∈ fp, b ∉ frs X.stack := fun b hb' z => by
    obtain ⟨_, f1, f3, _⟩ := f2 b hb'
    rcases List.mem_cons.mp (I2.stkSub b z) with e | e
    · exact f1 e
    · exact f3 e
  -- the block's context
  generalize hX : cxComp X N' scope cl h3.objs.size { s2 with heap := h3, toks := s2.toks } (upd H2 D (.lst [])) fp (X.pn ++ pins) = X'
  obtain ⟨hg, hif, he⟩ := hb h3.objs.size { s2 with heap := h3, toks := s2.toks } (upd H2 D (.lst [])) fp (X.pn ++ pins)
  rw [hX] at hg hif he
  have eP : X'.prog = X.prog := by rw [← hX]; rfl
  have eW : X'.w = X.w := by rw [← hX]; rfl
  have eK : X'.K = X.K := by rw [← hX]; rfl
  have eC : X'.calm = X.calm := by rw [← hX]; rfl
  have I4 : Inv X' [] (caps cs σ) (upd H2 D (.lst [])) { s2 with heap := h1, toks := s2.toks + 0 } := by
    rw [← hX]
    refine ⟨⟨I3.ok.mod, hkind, I3.ok.glob, I3.ok.blt, Nat.le_refl _, fun x y c e1 e2 => I3.ok.inj x y c (hsub _ _ e1) (hsub _ _ e2), fun x hx => clOk_has hok hx, fun x c z _ => absurd (show false = true from z) Bool.false_ne_true, I3.ok.hd, I3.ok.frames, .inl rfl,
      fun b hb' => ⟨fun e => ?_, fun x c e => (f2 b hb').2.2.2.2.1 x c (hsub _ _ e)⟩, I3.bs, Nat.le_trans I3.ok.bsz I3.sz, fun b o e hb' => ?_, fpfs, I3.stack, I3.stkFree⟩, rfl, I3.bare, Un.kept kept, ⟨_, hns1, fun i x v e1 e2 e3 => ?_⟩, fun x c e => ?_, I3.hok.fresh (Nat.le_refl _), fun x c e => I3.freeC x c (hsub _ _ e),
      fun p hp => ?_, I3.hok.kept kept, ?_⟩
    · have l := fpo b hb'
      rw [show b = h3.objs.size from e, hsz3] at l
      exact Nat.lt_irrefl _ (Nat.lt_of_succ_lt l)
    · have l := fpo b hb'
      rcases (f2 b hb').2.2.2.1 with z | z
      · exact I2.ok.noex b o e z
      · exact absurd (Nat.lt_of_lt_of_le (Heap.lt_size (I2.ok.bs b o e).1) z) (Nat.lt_irrefl _)
    · obtain ⟨j, a1, a2, a3, a4, a5⟩ := hcaps.get e1 e2
      obtain ⟨m, hn, hl⟩ := I3.loc
      obtain ⟨u, ru, l⟩ := hl j x v a1 a2 (by rcases a3 with z | z; exact .inr (.inl z); exact .inr (.inr z))
      refine ⟨u, ru, .inr ⟨a4, ?_⟩⟩
      rcases l with ⟨k, _⟩ | ⟨k, c, e, z⟩
      · rcases a3 with q | q <;> (rw [k] at q; cases q)
      · obtain ⟨o, ho, hd⟩ := z
        exact ⟨c, a5.trans e, o, kept c o ho, hd⟩
    · obtain ⟨v, o, ho, hd⟩ := I3.cell x c (hsub _ _ e)
      exact ⟨v, o, kept c o ho, hd⟩
    · have hp' : p ∈ X.pn ++ pins := by simpa [cxComp] using hp
      obtain ⟨e, n, ne, nf, d⟩ := I3.pin p hp'
      refine ⟨kept _ _ e, n, Nat.ne_of_lt (Heap.lt_size e), fun z => ?_, d⟩
      rcases List.mem_cons.mp (I3.stkSub p.1 z) with q | q
      · exact ne q
      · exact nf q
    · show (caps cs σ).length = N'.length
      rw [caps, List.length_map]
      exact hcaps.len
  have tn1 : tn 0 h1 := T.keep 0 _ _ st2 fun b hb' o e => kept b o (old b o e)
  have stat : ∀ {H' : Hp}, (∀ b ∈ fp, H' b = none) → ∀ b ∈ fp, FpOk X' [] H' b := fun {H'} hn b hb' => by
    rw [← hX]
    refine ⟨hn b hb', fun e => ?_, fpfs b hb', .inl hb', fun x c e => (f2 b hb').2.2.2.2.1 x c (hsub _ _ e), fun p hp => (f2 b hb').2.2.2.2.2 p (by simpa [cxComp] using hp)⟩
    have l := fpo b hb'
    rw [show b = h3.objs.size from e, hsz3] at l
    exact Nat.lt_irrefl _ (Nat.lt_of_succ_lt l)
  have fr0 : ∀ b ∈ fp, (upd H2 D (.lst [])) b = none := fun b hb' => by
    rw [upd_ne (Nat.ne_of_lt (fpo b hb'))]
    exact (f2 b hb').1
  have xA : X'.A = X.A := by rw [← hX]; rfl
  have xE : X'.env = compEnvC scope cl h3.objs.size X.env := by rw [← hX]; rfl
  have xX : X'.xe = NoX := by rw [← hX]; rfl
  have loop : codeAny (model X.prog X.w) X.A (.compLoop (.ListComp elt [⟨tg, iter, ifs, 0⟩] scope pos) 0 (.ref it) (.ref D) (compEnvC scope cl h3.objs.size X.env))
      (compPost (model X.prog X.w) X.A X.xe use QQ (.ref D) h3.objs.size) { s2 with heap := h1, toks := s2.toks + 0 } := by
    refine comp_turns (fun n s' => ∃ i ys σ' H', Inv X' [] σ' H' s' ∧ tn i s'.heap ∧ (∀ b ∈ fp, H' b = none) ∧ W i n ys σ' H') ?_ m0 ⟨0, [], _, _, I4, tn1, fr0, w0⟩
    rintro n s' ⟨i, ys, σ', H', I', st', fr', w'⟩
    obtain ⟨hHD, hyl, hor⟩ := turn i n ys σ' H' w'
    rcases hor with ⟨stop, q⟩ | ⟨go, step⟩
    · have hd := T.done X' eP eW eK (eC.trans hc) i [] s' σ' H' NoX I' (stat fr') st' stop
      rw [xA] at hd
      refine thn hd fun r s4 hr => ?_
      obtain ⟨rfl, I5⟩ := hr
      obtain ⟨m, hn, _⟩ := id I5.loc
      have eL : X'.env.locals = h3.objs.size := by rw [xE]; rfl
      have hfree : H' h3.objs.size = none := by rw [← eL]; exact I5.free
      have bu := I5.base
      rw [← hX] at bu
      have hos : s4.os = s2.os := by
        have z := I5.os
        rw [← hX] at z
        exact z
      have hk5 := I5.hok
      rw [eP, eW] at hk5
      have Iout : Inv X pins σ H' s4 := I3.call' (s' := s4) (ch := fp) hos ⟨bu.keep, bu.slot, bu.free, bu.there, bu.tups, bu.frzs, bu.tbls⟩ hk5 I5.bare fun b hb' => by
        obtain ⟨_, g1, _, g3, g4, g5⟩ := f2 b hb'
        exact ⟨g3, g1, g4, g5⟩
      exact post D h3.objs.size s4 H' m Iout (by rw [eL] at hn; exact hn) (I3.fpOk (Nat.le_refl _) hfree) q
    · have hit := T.item X' eP eW eK (eC.trans hc) i [] s' σ' H' NoX I' (stat fr') st' go
      rw [xA] at hit
      refine thn hit fun r s4 hr => ?_
      obtain ⟨u, rfl, h4⟩ := hr
      refine thn h4 fun _ s5 h5 => ?_
      obtain ⟨x, H5, I5, r5, y5, st5, fr5⟩ := h5
      have I5' := I5.pinned (stat fr5) (T.obj _ _ st5)
      have ha := hg _ s5 σ' H5 x u _ I5' r5 (step x H5 y5)
      rw [xA, xE, xX, eP, eW] at ha
      refine thn ha fun _ s6 h6 => ?_
      obtain ⟨σ6, H6, I6, q6⟩ := h6
      have ht := hif _ s6 σ6 H6 _ I6 q6
      rw [xA, xE, xX, eP, eW] at ht
      refine thn ht fun ok s7 h7 => ?_
      obtain ⟨H7, I7, q7⟩ := h7
      have back : ∀ {σ8 : St} {H8 : Hp} {s8 : Shared} {ys' : List V} {m' : Nat}, Inv X' ([] ++ pinsAt fp s5.heap) σ8 H8 s8 → m' < n → W (i + 1) m' ys' σ8 H8 →
          ∃ m, m < n ∧ ∃ i ys σ' H', Inv X' [] σ' H' s8 ∧ tn i s8.heap ∧ (∀ b ∈ fp, H' b = none) ∧ W i m ys σ' H' := fun {σ8 H8 s8 ys' m'} I8 hm w8 => by
        refine ⟨m', hm, i + 1, ys', σ8, H8, I8.unpinned, T.keep _ _ _ st5 fun b hb' o e => (I8.pin (b, o) (List.mem_append_right _ (List.mem_append_right _ (mem_pinsAt hb' e)))).1, fun b hb' => ?_, w8⟩
        obtain ⟨o, e, d⟩ := T.obj _ _ st5 b hb'
        exact (I8.pin (b, o) (List.mem_append_right _ (List.mem_append_right _ (mem_pinsAt hb' e)))).2.1
      cases ok with
      | false =>
        rw [if_neg Bool.false_ne_true] at q7 ⊢
        obtain ⟨m', hm, w7⟩ := q7
        exact back I7 hm w7
      | true =>
        rw [if_pos rfl] at q7 ⊢
        have hel := he _ s7 σ6 H7 _ I7 q7
        rw [xA, xE, xX, eP, eW] at hel
        refine thn hel fun yv s8 h8 => ?_
        obtain ⟨y, H8, I8, r8, hD8, m', hm, w8⟩ := h8
        have hap := mt_append (X := X') _ s8 σ6 H8 (.ref D) [y] (.ref D) [yv] (fun _ H9 => H9 = upd H8 D (.lst (ys ++ [y]))) I8 rfl (.cons r8 .nil) ⟨D, ys, y, rfl, rfl, hD8, hyl, rfl⟩
        rw [xA, xX, eP, eW] at hap
        refine thn hap fun _ s9 h9 => ?_
        obtain ⟨_, H9, I9, _, rfl⟩ := h9
        exact back I9 hm w8
  exact codeAny_compStart_list loop (T.self _ 0 _ _ _ tn1 loop)
theorem pe_lc (hc : X.calm = true) (hi : PI X tg iter wi) (hclos : closureFor scope X.env = pure cl) (hcell : ∀ y ∈ scope.names, y.2 ≠ .cell) (hkind : scope.kind = .function)
    (hnames : ∀ y ∈ scope.names, y.2 = .local → scope.names.lookup y.1 = some .local) (hsub : ∀ x c, cl.lookup x = some c → X.env.cells.lookup x = some c)
    (hok : clOk cl (relabel scope X.env).names = true) (hcaps : Caps X scope cl N' cs)
    (hb : ∀ (C : Addr) (s3 : Shared) (H3 : Hp) (fp : List Addr) (pn : List (Addr × Obj)), PG (cxComp X N' scope cl C s3 H3 fp pn) tg g ∧ PIfs (cxComp X N' scope cl C s3 H3 fp pn) ifs tt ∧ PE (cxComp X N' scope cl C s3 H3 fp pn) elt te)
    (hs : ∀ x, foldedSetIterable iter X.env x = pure x := by intro _; rfl) : PE X (.ListComp elt [⟨tg, iter, ifs, 0⟩] scope pos) (tLC wi cs g tt te) := by
  intro pins s σ H Q I h
  rw [eval_ListComp]
  refine lc_any hc hi hclos hcell hkind hnames hsub hok hcaps hb hs I h fun D C s4 H' m I4 hn fC q => ⟨m, hn, fun h' hsb => ⟨.ref D, H', ?_, rfl, q⟩⟩
  obtain ⟨f0, f1, f2, f3, f4, f5⟩ := fC
  exact I4.turned (t' := s4.toks) (fun b o hb e => (hsb.2 b hb).trans e) f0 f1 f3 f4 f5
end

noncomputable def Wk (J : It) (H1 : Hp) (xs : List V) : Prop := ∀ H', Same H1 H' → J.stop xs.length H' ∧ (∀ i, i < xs.length → J.go i H') ∧ ∀ i x H2, i < xs.length → J.yld i H' x H2 → H2 = H' ∧ xs[i]? = some x
theorem wk_list {K : PySem.W.Frag} {a : Addr} {xs : List V} {H1 : Hp} (h : SqL K H1 a xs) : Wk (Itl K a) H1 xs := fun H' sm =>
  ⟨⟨xs, sm.seq h, Nat.le_refl _⟩, fun i hi => ⟨xs, xs[i], sm.seq h, by simp [hi]⟩, fun i x H2 _ y => ⟨y.1, y.2 xs (sm.seq h)⟩⟩
theorem wk_range {H1 : Hp} (lo : Int) (n : Nat) : Wk (Itr lo n) H1 ((List.range n).map fun i : Nat => V.int (lo + i)) := fun H' _ =>
  ⟨by show n ≤ _; simp, fun i hi => (by simpa using hi : i < n), fun i x H2 hi y => by
    obtain ⟨e1, e2⟩ := y
    have hi' : i < n := by simpa using hi
    refine ⟨e1, ?_⟩
    rw [e2]
    simp [hi']⟩
theorem for_wk {J : It} {xs : List V} {g : TG} {tb : TS} {D : Ends} {σ : St} {H : Hp} (Pv : Nat → St → Hp → Prop) (wk : Wk J H xs) (h0 : Pv 0 σ H) (hm : ∀ i σ' H', Pv i σ' H' → Same H H')
    (hs : ∀ i x σ' H', xs[i]? = some x → Pv i σ' H' → g x σ' H' fun σ2 H2 => tb { D with nx := Pv (i + 1), ct := Pv (i + 1), bk := D.nx } σ2 H2) (hd : ∀ σ' H', Pv xs.length σ' H' → D.nx σ' H') :
    ∃ W : Nat → Nat → St → Hp → Prop, (∃ m, W 0 m σ H) ∧ ∀ i m σ H, W i m σ H →
      (J.stop i H ∧ D.nx σ H) ∨ (J.go i H ∧ ∃ N : St → Hp → Prop, (∀ σ' H', N σ' H' → ∃ m', m' < m ∧ W (i + 1) m' σ' H') ∧ ∀ x H', J.yld i H x H' → g x σ H' fun σ2 H2 => tb { D with nx := N, ct := N, bk := D.nx } σ2 H2) := by
  refine ⟨fun i m σ' H' => m = xs.length - i ∧ i ≤ xs.length ∧ Pv i σ' H', ⟨xs.length, by simp, Nat.zero_le _, h0⟩, ?_⟩
  rintro i m σ' H' ⟨rfl, hi, p⟩
  obtain ⟨w1, w2, w3⟩ := wk H' (hm i σ' H' p)
  by_cases hlt : i < xs.length
  · refine .inr ⟨w2 i hlt, Pv (i + 1), fun σ2 H2 p' => ⟨xs.length - (i + 1), by omega, rfl, hlt, p'⟩, fun x H2 y => ?_⟩
    obtain ⟨rfl, ex⟩ := w3 i x H2 hlt y
    exact hs i x σ' _ ex p
  · have e : i = xs.length := by omega
    subst e
    exact .inl ⟨w1, hd σ' H' p⟩
theorem lc_wk {J : It} {xs : List V} {cs : List (Option Nat)} {σ rest : St} {tt : TT} {te : TE} {Q : VK} {H1 : Hp} (hcs : caps cs σ = none :: rest) (wk : Wk J H1 xs) (hl : xs.length < sizeLine) (p : V → Bool) (f : V → V)
    (test : ∀ (i : Nat) (x : V) (H2 : Hp) (R : Bool → Hp → Prop), xs[i]? = some x → Same H1 H2 → (∀ H5, Same H2 H5 → R (p x) H5) → tt (some x :: rest) H2 R)
    (elt : ∀ (i : Nat) (x : V) (H2 : Hp) (R : VK), xs[i]? = some x → p x = true → Same H1 H2 → (∀ H5, Same H2 H5 → R (f x) H5) → te (some x :: rest) H2 R)
    (fin : ∀ (D : Addr) (H' : Hp), H1 D = none → H' D = some (.lst ((xs.filter p).map f)) → Same H1 H' → Q (.ref D) H') :
    ∀ D, H1 D = none → ∃ W : Nat → Nat → List V → St → Hp → Prop, (∃ m, W 0 m [] (caps cs σ) (upd H1 D (.lst []))) ∧ ∀ i m ys σ' H', W i m ys σ' H' → H' D = some (.lst ys) ∧ ys.length < sizeLine ∧
      ((J.stop i H' ∧ Q (.ref D) H') ∨ (J.go i H' ∧ ∀ x H2, J.yld i H' x H2 → gName 0 x σ' H2 fun σ3 H3 => tt σ3 H3 fun b H4 =>
        if b = true then te σ3 H4 fun y H5 => H5 D = some (.lst ys) ∧ ∃ m', m' < m ∧ W (i + 1) m' (ys ++ [y]) σ3 (upd H5 D (.lst (ys ++ [y])))
        else ∃ m', m' < m ∧ W (i + 1) m' ys σ3 H4)) := by
  intro D hD
  refine ⟨fun i m ys σ' H' => m = xs.length - i ∧ i ≤ xs.length ∧ ys = ((xs.take i).filter p).map f ∧ (∃ o, σ' = o :: rest) ∧ Same H1 H' ∧ H' D = some (.lst ys), ⟨xs.length, by simp, Nat.zero_le _, by simp, ⟨none, hcs⟩, fun b o e => ?_, upd_same⟩, ?_⟩
  · rw [upd_ne (ne_of_none e hD)]
    exact e
  · rintro i m ys σ' H' ⟨rfl, hi, rfl, ⟨o, rfl⟩, sm, hHD⟩
    obtain ⟨w1, w2, w3⟩ := wk H' sm
    refine ⟨hHD, Nat.lt_of_le_of_lt ?_ hl, ?_⟩
    · rw [List.length_map]
      refine Nat.le_trans (List.length_filter_le _ _) ?_
      rw [List.length_take]
      exact Nat.min_le_right _ _
    by_cases hlt : i < xs.length
    · refine .inr ⟨w2 i hlt, fun x H2 y => ?_⟩
      obtain ⟨rfl, ex⟩ := w3 i x H2 hlt y
      show tt (some x :: rest) H2 _
      refine test i x H2 _ ex sm fun H4 s4 => ?_
      have tk : xs.take (i + 1) = xs.take i ++ [x] := by rw [List.take_add_one, ex]; rfl
      cases hp : p x with
      | true =>
        refine iteT ?_
        refine elt i x H4 _ ex hp (sm.trans s4) fun H5 s5 => ⟨s5 _ _ (s4 _ _ hHD), xs.length - (i + 1), by omega, rfl, hlt, ?_, ⟨_, rfl⟩, fun b ob e => ?_, upd_same⟩
        · rw [tk, List.filter_append, List.map_append]
          simp [hp]
        · rw [upd_ne (ne_of_none e hD)]
          exact s5 _ _ (s4 _ _ (sm _ _ e))
      | false =>
        refine iteF ⟨xs.length - (i + 1), by omega, rfl, hlt, ?_, ⟨_, rfl⟩, sm.trans s4, s4 _ _ hHD⟩
        rw [tk, List.filter_append, List.map_append]
        simp [hp]
    · have e : i = xs.length := by omega
      subst e
      exact .inl ⟨w1, fin D H' hD (by rw [hHD, List.take_length]) sm⟩
theorem lc_map {J : It} {xs : List V} {cs : List (Option Nat)} {σ rest : St} {te : TE} {Q : VK} {H1 : Hp} (hcs : caps cs σ = none :: rest) (wk : Wk J H1 xs) (hl : xs.length < sizeLine) (f : V → V)
    (elt : ∀ (i : Nat) (x : V) (H2 : Hp) (R : VK), xs[i]? = some x → Same H1 H2 → (∀ H5, Same H2 H5 → R (f x) H5) → te (some x :: rest) H2 R)
    (fin : ∀ (D : Addr) (H' : Hp), H1 D = none → H' D = some (.lst (xs.map f)) → Same H1 H' → Q (.ref D) H') :
    ∀ D, H1 D = none → ∃ W : Nat → Nat → List V → St → Hp → Prop, (∃ m, W 0 m [] (caps cs σ) (upd H1 D (.lst []))) ∧ ∀ i m ys σ' H', W i m ys σ' H' → H' D = some (.lst ys) ∧ ys.length < sizeLine ∧
      ((J.stop i H' ∧ Q (.ref D) H') ∨ (J.go i H' ∧ ∀ x H2, J.yld i H' x H2 → gName 0 x σ' H2 fun σ3 H3 => tAll σ3 H3 fun b H4 =>
        if b = true then te σ3 H4 fun y H5 => H5 D = some (.lst ys) ∧ ∃ m', m' < m ∧ W (i + 1) m' (ys ++ [y]) σ3 (upd H5 D (.lst (ys ++ [y])))
        else ∃ m', m' < m ∧ W (i + 1) m' ys σ3 H4)) :=
  lc_wk hcs wk hl (fun _ => true) f (fun i x H2 R _ _ h => h H2 (Same.refl _)) (fun i x H2 R ex _ sm h => elt i x H2 R ex sm h) fun D H' h1 h2 h3 => fin D H' h1 (by rw [h2, List.filter_eq_self.mpr fun _ _ => rfl]) h3
end L3
set_option Elab.async false
set_option linter.all false
set_option maxRecDepth 100000
set_option maxHeartbeats 4000000
namespace L3
open PySem PySem.Spec PyProof.Rows L2

noncomputable def signs (x : Str) : List V := x.cps.toList.map fun c => V.str ⟨#[c]⟩
noncomputable def Its (x : Str) : It := ⟨fun i _ => i < x.cps.size, fun i H v H' => H' = H ∧ ∃ c, x.cps[i]? = some c ∧ v = .str ⟨#[c]⟩, fun i _ => i = x.cps.size⟩
theorem wk_str {H1 : Hp} (x : Str) : Wk (Its x) H1 (signs x) := fun H' _ => by
  have hl : (signs x).length = x.cps.size := by simp [signs]
  refine ⟨hl, fun i hi => by rw [hl] at hi; exact hi, fun i v H2 hi y => ?_⟩
  obtain ⟨e1, c, e2, e3⟩ := y
  refine ⟨e1, ?_⟩
  subst e3
  have e4 : x.cps.toList[i]? = some c := by simpa using e2
  simp [signs, e4]
theorem turn_str {P : Program} {w : World} {K : PySem.W.Frag} {tg : Expr} (it : Addr) (x : Str) (t : Tok) {ty : String} (hty : ty = "str_ascii_iterator" ∨ ty = "str_iterator") : Turn P w K tg (Its x) [it] it (fun i h => h.IsStrIter it ty x t i) where
  mem := by simp
  obj := fun i h st b hb => by
    have e : b = it := by simpa using hb
    subst e
    obtain ⟨o, e, c, d⟩ := st
    exact ⟨o, e, fun v z => by rw [d] at z; cases z⟩
  keep := fun i h h' st k => by
    obtain ⟨o, e, r⟩ := st
    exact ⟨o, k it (by simp) o e, r⟩
  item := by
    intro X hP hw hK hc i pins s σ H E I hf st hg
    subst hP hw hK
    obtain ⟨f0, f1, f2, f3, f4, f5⟩ := hf it (by simp)
    have hi : i < x.cps.size := hg
    have ec : x.cps[i]? = some x.cps[i] := by simp [hi]
    rcases hty with rfl | rfl
    · refine wpAny_pyNext_ascii_item st ec fun h' st' sb => ?_
      have I1 : Inv X pins σ H { s with heap := h', toks := s.toks + 1 } := I.turned (fun b o hb e => (sb.2 b hb).trans e) f0 f1 f3 f4 f5
      obtain ⟨o, e, c, d⟩ := id st'
      exact ⟨_, rfl, go_of (s := { s with heap := h', toks := s.toks + 1 }) e c d (by decide) ⟨.str ⟨#[x.cps[i]]⟩, H, I1, ⟨_, rfl⟩, ⟨rfl, _, ec, rfl⟩, st', fun b hb => (hf b hb).1⟩⟩
    · refine wpAny_pyNext_wide_item st ec fun h' st' sb => ?_
      have I1 : Inv X pins σ H { s with heap := h', toks := s.toks + 1 } := I.turned (fun b o hb e => (sb.2 b hb).trans e) f0 f1 f3 f4 f5
      obtain ⟨o, e, c, d⟩ := id st'
      exact ⟨_, rfl, go_of (s := { s with heap := h', toks := s.toks + 1 }) e c d (by decide) ⟨.str ⟨#[x.cps[i]]⟩, H, I1, ⟨_, rfl⟩, ⟨rfl, _, ec, rfl⟩, st', fun b hb => (hf b hb).1⟩⟩
  done := by
    intro X hP hw hK hc i pins s σ H E I hf st hg
    subst hP hw hK
    obtain ⟨f0, f1, f2, f3, f4, f5⟩ := hf it (by simp)
    have ec : x.cps[i]? = none := by
      have e : i = x.cps.size := hg
      simp [e]
    rcases hty with rfl | rfl
    · exact wpAny_pyNext_ascii_end (I.ok.hd hc) st ec fun h' eb => ⟨rfl, I.turned (t' := s.toks) (fun b o hb e => eb b o hb e) f0 f1 f3 f4 f5⟩
    · exact wpAny_pyNext_wide_end (I.ok.hd hc) st ec fun h' eb => ⟨rfl, I.turned (t' := s.toks) (fun b o hb e => eb b o hb e) f0 f1 f3 f4 f5⟩
  self := fun _ _ _ _ _ st h => by
    rcases hty with rfl | rfl
    · exact wpAny_pyIter_striter_ascii st h
    · exact wpAny_pyIter_striter_wide st h
section
variable {X : Cx} {tg : Expr}
noncomputable def iStr (tl : TE) : TI := fun σ H R => tl σ H fun x H1 => ∃ z, x = .str z ∧ R (Its z) H1
theorem pi_str {l : Expr} {tl : TE} (hl : PE X l tl) : PI X tg l (iStr tl) := by
  intro pins s σ H R I h
  refine thn (hl pins s σ H _ I h) fun v s1 ⟨x, H1, I1, r1, q1⟩ => ?_
  obtain ⟨z, e, q⟩ := q1
  subst e
  obtain ⟨t, rfl⟩ := r1
  have fin : ∀ (ty : String) (_ : ty = "str_ascii_iterator" ∨ ty = "str_iterator"), PIE X pins σ tg R (.ref s1.heap.objs.size) { s1 with heap := s1.heap.push { cls := .type ty, data := .fields #[.str z t, .int 0 0] } } := fun ty hty => by
    refine ⟨s1.heap.objs.size, [s1.heap.objs.size], _, _, H1, rfl, I1.kept (t' := s1.toks) fun b o e => Heap.get?_push_of_some _ e, turn_str _ z t hty, ⟨_, Heap.get?_push_size _ rfl, rfl, rfl⟩, fun b hb => ?_, q⟩
    have e : b = s1.heap.objs.size := by simpa using hb
    subst e
    exact I1.fpOk (Nat.le_refl _) (I1.hok.fresh (Nat.le_refl _))
  cases ha : z.cps.all (· < 128) with
  | true => exact wpAny_pyIter_ascii ha (fin _ (.inl rfl))
  | false => exact wpAny_pyIter_wide ha (fin _ (.inr rfl))
end

section
variable {X : Cx} {e : Expr} {te : TE} {lo hi : Option Expr} {tl th : TO} {pos p2 : Pos}
theorem op_le_str : OpR X (compareOp .LtE) (fun x y H Q => ∃ i j, x = .str i ∧ y = .str j ∧ Q (.bl (!decide (j.cps.toList < i.cps.toList))) H) := by
  intro pins s σ H x y v u Q I rx ry h
  obtain ⟨i, j, rfl, rfl, q⟩ := h
  obtain ⟨t, rfl⟩ := rx
  obtain ⟨t', rfl⟩ := ry
  exact PySem.P.le_str (fin_bl I q rfl)
theorem le_one (c a : Nat) : (!decide ((⟨#[c]⟩ : Str).cps.toList < (⟨#[a]⟩ : Str).cps.toList)) = decide (a ≤ c) := by
  have h : ((⟨#[c]⟩ : Str).cps.toList < (⟨#[a]⟩ : Str).cps.toList) ↔ c < a := by
    show ([c] : List Nat) < [a] ↔ c < a
    simp [List.cons_lt_cons_iff]
  by_cases q : c < a
  · rw [decide_eq_true (h.mpr q), decide_eq_false (by omega)]
    rfl
  · rw [decide_eq_false fun z => q (h.mp z), decide_eq_true (by omega)]
    rfl

noncomputable def cutS (x : Str) (lo hi : Option Int) : Str := ⟨((x.cps.toList.drop (HT.sIx x.cps.size 0 lo)).take (HT.sIx x.cps.size x.cps.size hi - HT.sIx x.cps.size 0 lo)).toArray⟩
theorem clipI (i : Int) (n d : Nat) : max 0 (min (if i < 0 then i + (n : Int) else i) (n : Int)) = ((HT.sIx n d (some i) : Nat) : Int) := by
  show max 0 (min (if i < 0 then i + (n : Int) else i) (n : Int)) = (((if i < 0 then (i + (n : Int)).toNat else min i.toNat n) : Nat) : Int)
  by_cases h : i < 0
  · simp only [if_pos h]
    omega
  · simp only [if_neg h]
    omega
theorem strIx (lo hi : Option Int) (n : Nat) : Builtin.Str.strSliceIndices lo hi 1 n = (List.range (HT.sIx n n hi - HT.sIx n 0 lo)).map (HT.sIx n 0 lo + ·) := by
  rw [← sliceRange_one]
  unfold Builtin.Str.strSliceIndices
  have h1 : (1 : Int) > 0 := by decide
  simp only [h1, if_true]
  congr 1
  · cases lo with
    | none => rfl
    | some i => exact clipI i n 0
  · cases hi with
    | none => rfl
    | some i => exact clipI i n n
theorem slice_cut (x : Str) (lo hi : Option Int) : Txt.slice x lo hi = cutS x lo hi := by
  unfold Txt.slice cutS
  have hx : x.length = x.cps.size := rfl
  rw [hx, strIx, pick_run]
  by_cases h : ((1 : Int) == 1 && ((List.range (HT.sIx x.cps.size x.cps.size hi - HT.sIx x.cps.size 0 lo)).map (HT.sIx x.cps.size 0 lo + ·)).length == x.cps.size) = true
  · rw [if_pos h]
    simp at h
    have a := HT.sIx_le x.cps.size x.cps.size (Nat.le_refl _) hi
    have b := HT.sIx_le x.cps.size 0 (Nat.zero_le _) lo
    have e0 : x.cps.size = 0 ∨ HT.sIx x.cps.size 0 lo = 0 := by omega
    rcases e0 with e0 | e0
    · have : x.cps = #[] := Array.eq_empty_of_size_eq_zero e0
      obtain ⟨c⟩ := x
      simp only at this
      subst this
      simp
    · have e1 : HT.sIx x.cps.size x.cps.size hi = x.cps.size := by omega
      rw [e0, e1]
      obtain ⟨c⟩ := x
      obtain ⟨l⟩ := c
      simp
  · rw [if_neg h]
noncomputable def rSlS : V → Option Int → Option Int → Hp → VK → Prop := fun x lo hi H Q => ∃ z, x = .str z ∧ z.length ≤ sizeLine ∧ Q (.str (cutS z lo hi)) H
theorem sl_str : SlR X rSlS := by
  intro pins s σ H x v vl vu lo hi sl Q I rx hs pl pu h
  obtain ⟨z, rfl, hz, q⟩ := h
  obtain ⟨t, rfl⟩ := rx
  obtain ⟨l, hl1, hl2⟩ : ∃ l : Option (Int × Tok), vl = partValue l ∧ l.map (·.1) = lo := by
    cases pl with
    | none => exact ⟨none, rfl, rfl⟩
    | int i t => exact ⟨some (i, t), rfl, rfl⟩
  obtain ⟨u, hu1, hu2⟩ : ∃ u : Option (Int × Tok), vu = partValue u ∧ u.map (·.1) = hi := by
    cases pu with
    | none => exact ⟨none, rfl, rfl⟩
    | int i t => exact ⟨some (i, t), rfl, rfl⟩
  subst hl1 hu1
  refine ⟨"str", _, PySem.F.slot_str_getitem.lookup, typeIs_str s z t, ?_⟩
  refine wpAny_getItem_str_slice (l := l) (u := u) (st := none) hs rfl (post_val_or_str ?_)
  have e : ∀ (y : Str), y = Txt.slice z lo hi → y = cutS z lo hi := fun y hy => hy.trans (slice_cut z lo hi)
  have key : (if (((none : Option (Int × Tok)).map (·.1)).getD 1 == 1 && (slicePicked z l u none).length == z.length) = true then z else (⟨((slicePicked z l u none).filterMap (z.cps[·]?)).toArray⟩ : Str)) = cutS z lo hi := by
    refine e _ ?_
    unfold Txt.slice slicePicked
    rw [hl2, hu2]
    rfl
  rw [key]
  refine ⟨?_, fun t' k => ⟨.str (cutS z lo hi), H, I.tok k, ⟨t', rfl⟩, q⟩⟩
  rw [← slice_cut]
  exact Nat.le_trans (Txt.slice_le z _ _) hz

theorem call_all (hc : X.calm = true) : CallR X (.builtin "all") (fun xs H Q => ∃ (p : Addr) (bs : List Bool), xs = [.ref p] ∧ SqL X.K H p (bs.map V.bl) ∧ Q (.bl (bs.all id)) H) := by
  intro pins s σ H xs us Q I r h
  obtain ⟨p, bs, rfl, hq, q⟩ := h
  obtain ⟨u, rfl, ru⟩ := vals1 r
  cases ru
  obtain ⟨its, rv, pl, hz⟩ := I.list hq
  have hlen : bs.length = its.length := by have := rv.length; rwa [List.length_map] at this
  obtain ⟨o, n, eo, _⟩ := id pl
  have hne : p ≠ s.heap.objs.size := Nat.ne_of_lt (Heap.lt_size eo)
  have hh : X.A.in1.handled = none := I.ok.hd hc
  refine call_all_walk (wpAny_pyIter_list pl.isList ?_)
  refine ⟨s.heap.objs.size, [s.heap.objs.size, p], [s.heap.objs.size], its.toArray.size, _, _, fun i => bs.getD i false, rfl, Walks.list hh _ p hne its.toArray, ⟨⟨_, Heap.get?_push_size _ rfl, rfl, rfl⟩, pl.isList.push _⟩, ?_, fun h' tk k => ?_⟩
  · intro i v s' Q' E' hP hQ
    have hP' : its[i]? = some v := by simpa using hP
    have hi : i < its.length := (List.getElem?_eq_some_iff.mp hP').1
    have hb : (bs.map V.bl)[i]? = some (V.bl (bs.getD i false)) := by
      rw [List.getElem?_map, List.getElem?_eq_getElem (by omega : i < bs.length)]
      simp [List.getD, hlen ▸ hi]
    obtain ⟨u', e', r'⟩ := rv.get hb
    rw [hP'] at e'
    cases e'
    cases r'
    exact wpAny_truthy_bool hQ
  · have e : (List.range its.toArray.size).all (fun i => bs.getD i false) = bs.all id := by
      rw [List.size_toArray, ← hlen, Bool.eq_iff_iff]
      simp only [List.all_eq_true, List.mem_range]
      constructor
      · intro a b hb
        obtain ⟨i, hi, rfl⟩ := List.mem_iff_getElem.mp hb
        have := a i hi
        simpa [List.getD, hi] using this
      · intro a i hi
        have := a bs[i] (List.getElem_mem hi)
        simpa [List.getD, hi] using this
    rw [e]
    exact ⟨.bl (bs.all id), H, I.kept fun b ob z => k b ob (by simpa using Nat.ne_of_lt (Heap.lt_size z)) (Heap.get?_push_of_some _ z), rfl, q⟩

theorem call_isi : CallR X (.builtin "isinstance") (fun xs H Q => ∃ x c cv t b, xs = [x, c] ∧ (c = .ty cv ∧ TyOf X.K H x t ∧ PySem.W.kitOne X.K t (.type cv) = some b) ∧ Q (.bl b) H) := by
  intro pins s σ H xs us Q I r h
  obtain ⟨x, c, cv, t, b, rfl, ⟨rfl, ty, e⟩, q⟩ := h
  obtain ⟨u, w', rfl, ru, rw'⟩ := vals2 r
  cases rw'
  exact isinst_ok I ru ty e fun tk => ⟨.bl b, H, I.tok tk, rfl, q⟩
end

section
variable {X : Cx} {pins : List (Addr × Obj)} {σ : St} {H : Hp} {s : Shared}
end
section
variable {X : Cx}
end
end L3
set_option Elab.async false
set_option linter.all false
set_option maxRecDepth 100000
set_option maxHeartbeats 4000000
namespace L3
open PySem PySem.Spec PyProof.Rows L2
section
variable {X : Cx} {e : Expr} {te : TE} {pos p2 : Pos}
end
end L3
set_option Elab.async false
set_option linter.all false
set_option maxRecDepth 100000
set_option maxHeartbeats 4000000
namespace L3
open PySem PySem.Spec PyProof.Rows L2

noncomputable def metS (val : Nat → Str) : Nat → Str → Bool
  | 0 => fun _ => false
  | i + 1 => fun k => metS val i k || decide (k = val i)
noncomputable def cntS (val : Nat → Str) : Nat → Nat
  | 0 => 0
  | i + 1 => if metS val i (val i) then cntS val i else cntS val i + 1
theorem cntS_le (val : Nat → Str) : ∀ i, cntS val i ≤ i
  | 0 => Nat.le_refl _
  | i + 1 => by
    have := cntS_le val i
    unfold cntS
    split <;> omega
theorem metS_iff (val : Nat → Str) (k : Str) : ∀ i, metS val i k = true ↔ ∃ j, j < i ∧ val j = k
  | 0 => by simp [metS]
  | i + 1 => by
    simp only [metS, Bool.or_eq_true, metS_iff val k i, decide_eq_true_eq]
    constructor
    · rintro (⟨j, hj, e⟩ | e)
      · exact ⟨j, by omega, e⟩
      · exact ⟨i, by omega, e.symm⟩
    · rintro ⟨j, hj, e⟩
      by_cases h : j = i
      · subst h
        exact .inr e.symm
      · exact .inl ⟨j, by omega, e⟩
theorem cntS_all (val : Nat → Str) : ∀ n, (∀ i j, i < j → j < n → val i ≠ val j) → cntS val n = n
  | 0, _ => rfl
  | n + 1, h => by
    have ih := cntS_all val n fun i j a b => h i j a (by omega)
    have hm : ¬ metS val n (val n) = true := fun z => by
      obtain ⟨j, hj, e⟩ := (metS_iff val (val n) n).mp z
      exact h j n hj (by omega) e
    unfold cntS
    rw [if_neg hm, ih]
theorem isS (x : Str) (t : Tok) : Value.isStrOf x (.str x t) = true := by simp [Value.isStrOf]
theorem set_turns {prog : Program} {w : World} {A : Around} {R : Result → Shared → Prop} {I : Addr} {fp wr : List Addr} {n : Nat} {Pv : Nat → Value → Prop} {St' : Nat → Heap → Prop} (W : Walks prog w A.in1 I fp wr n Pv St') (S : Addr) (hSf : S ∉ fp)
    (val : Nat → Str) (hval : ∀ i v, Pv i v → ∃ t, v = .str (val i) t) (hb : n + 1 < scanBound) : ∀ (k i : Nat) (s : Shared), n - i = k → i ≤ n → St' i s.heap → s.heap.SetOf (strKind prog w) S (metS val i) (cntS val i) →
      (∀ h' tk, (∀ b o, b ≠ S → b ∉ wr → s.heap.get? b = some o → h'.get? b = some o) → h'.SetOf (strKind prog w) S (metS val n) (cntS val n) → R (.ok (.ret .none)) { s with heap := h', toks := tk }) →
      codeAny (model prog w) A (.builtin "set.update.loop" ⟨[.ref S, .ref I], []⟩) R s := by
  have hSw : S ∉ wr := fun z => hSf (W.sub _ z)
  have stays : ∀ {h h' : Heap} {S' : Str → Bool} {m : Nat}, (∀ o, h.get? S = some o → h'.get? S = some o) → h.SetOf (strKind prog w) S S' m → h'.SetOf (strKind prog w) S S' m := fun kk ⟨o, es, ep, t, ho, r⟩ => ⟨o, es, ep, t, kk o ho, r⟩
  intro k
  induction k with
  | zero =>
    intro i s hk hi st hS hR
    obtain rfl : i = n := by omega
    refine codeAny_builtin PyProof.Rows.F.entry_set_update_loop ?_
    rw [Around.under_plainId PyProof.Rows.F.plain_set_update_loop _]
    show wpAny _ A.in1 (pyNext (.ref I) >>= _) _ _ s
    refine wpAny_bind (W.done s _ _ st fun h' tk kk => ?_)
    show wpAny _ A.in1 (ret Value.none) _ _ _
    exact wpAny_pure (hR h' tk (fun b o _ hb e => kk b o hb e) (stays (fun o e => kk S o hSw e) hS))
  | succ k ih =>
    intro i s hk hi st hS hR
    have hlt : i < n := by omega
    refine codeAny_builtin PyProof.Rows.F.entry_set_update_loop ?_
    rw [Around.under_plainId PyProof.Rows.F.plain_set_update_loop _]
    show wpAny _ A.in1 (pyNext (.ref I) >>= _) _ _ s
    refine wpAny_bind (W.item i s _ _ hlt st fun v h1 tk hP st1 kk => ?_)
    obtain ⟨t, rfl⟩ := hval i v hP
    have hS1 := stays (fun o e => kk S o hSw e) hS
    show wpAny _ A.in1 (holding [Value.str (val i) t] (setAdd S (.str (val i) t)) >>= _) _ _ _
    refine wpAny_bind (wpAny_holding ?_)
    unfold setAdd
    refine wpAny_holding (wpAny_bind ((strKind prog w).pyHash (k := val i) (isS (val i) t) ?_))
    have hroom : cntS val i + 1 < scanBound := by have := cntS_le val i; omega
    refine wpAny_setAddHashed_of (knd := strKind prog w) (isS (val i) t) rfl hS1 hroom fun h2 sb hS2 => ?_
    refine wpAny_pure ⟨plainId_quiet PyProof.Rows.F.plain_set_update_loop _, ih (i + 1) _ (by omega) hlt (W.frame _ _ _ st1 fun b hb' o e => (sb.2 b fun z => hSf (z ▸ hb')).trans e) hS2 fun h3 tk3 kk3 hS3 => ?_⟩
    exact hR h3 tk3 (fun b o hb1 hb2 e => kk3 b o hb1 hb2 ((sb.2 b hb1).trans (kk b o hb2 e))) hS3

set_option maxHeartbeats 8000000 in
theorem set_of_texts {prog : Program} {w : World} {A : Around} {E : Value → Shared → Prop} {s : Shared} {l : Addr} {items : Array Value} {val : Nat → Str} {Q : Value → Shared → Prop} (hh : A.handled = none) (hl : s.heap.IsList l items)
    (hval : ∀ (i : Nat) (v : Value), items[i]? = some v → ∃ t, v = .str (val i) t) (hb : items.size + 1 < scanBound)
    (h : ∀ (h' : Heap) (tk : Nat), h'.SetOf (strKind prog w) s.heap.objs.size (metS val items.size) (cntS val items.size) → (∀ b o, s.heap.get? b = some o → h'.get? b = some o) → Q (.ref s.heap.objs.size) { s with heap := h', toks := tk }) :
    wpAny (model prog w) A (call (.type "set") [.ref l]) Q E s := by
  obtain ⟨c, tl, hmro⟩ := F.called_set.mro
  have m1 := F.called_set.made
  have m2 := F.called_set.sub
  have m3 := F.called_set.notType
  have m4 := F.called_set.canCreate
  have m5 := F.typeCall_set_1 (.ref l)
  refine wpAny_call (codeAny_of_tree ?_)
  show wpAny _ _ (callAny (.type "set") _) _ _ _
  refine wpAny_pure ⟨Code.quiet_builtin _ (by decide +kernel), codeAny_builtin F.entry_type_call ?_⟩
  rw [Around.under_plain (weight_type_call_type "set" [.ref l] []) rfl]
  repeat (any_goals (first | assumption | wp_step))
  generalize hS0 : s.heap.objs.size = S at *
  refine codeAny_mono (code_set_new_1 (.ref l) (E := E) (Q₁ := fun ob s1 => ∃ led : Bool, ob = .ref S ∧ s1 = { s with heap := s.heap.push { cls := .type "set", dict := none, data := .set #[] 0 (.fresh 0 0 led) } }) fun led => ⟨led, by rw [hS0], rfl⟩) fun r s1 hr => ?_
  cases r with
  | error e => exact hr
  | ok fl =>
    cases fl with
    | ret ob =>
      obtain ⟨led, rfl, rfl⟩ := hr
      have hget : (s.heap.push { cls := .type "set", dict := none, data := .set #[] 0 (.fresh 0 0 led) }).get? S = some { cls := .type "set", dict := none, data := .set #[] 0 (.fresh 0 0 led) } := by
        rw [← hS0]
        exact Heap.get?_push_size _ rfl
      have hT : Shared.TypeIs { s with heap := s.heap.push { cls := .type "set", dict := none, data := .set #[] 0 (.fresh 0 0 led) } } (.ref S) "set" := ⟨_, hget, rfl⟩
      have n1 := F.called_set.init.lookup
      have n2 := F.called_set.init.bind (.ref S)
      repeat (any_goals (first | assumption | wp_step))
      refine codeAny_mono (codeAny_call_builtin (R := wants (fun r s2 => r = .none ∧ ∃ h' tk, s2 = { s with heap := h', toks := tk } ∧ h'.SetOf (strKind prog w) S (metS val items.size) (cntS val items.size) ∧ (∀ b o, s.heap.get? b = some o → h'.get? b = some o)) E)
        F.called_set.init.plain F.entry_set_init (check_set_init_1 hT ?_)) fun r2 s2 hr2 => ?_
      · obtain ⟨⟨oc, od, odt, osl⟩, hol, hcl, nl, hdl⟩ := id hl
        simp only at hcl hdl
        subst hcl hdl
        have hol' := Heap.get?_push_of_some (h := s.heap) { cls := .type "set", dict := none, data := .set #[] 0 (.fresh 0 0 led) } hol
        have p1 := F.sub_list_set
        have p2 := F.sub_list_frozenset
        have p3 : (Value.type "list" == Value.type "dict") = false := by decide
        have hl1 := hl.push (o := { cls := .type "set", dict := none, data := .set #[] 0 (.fresh 0 0 led) })
        unfold Builtin.«set.__init__» noKeywords Builtin.Frozenset.updateFrom
        generalize hPI : pyIter = PI
        wp_walk
        subst hPI
        refine wpAny_pyIter_list hl1 (wpAny_bind (wpAny_runValue ?_))
        have hlS : l < S := by rw [← hS0]; exact Heap.lt_size hol
        have hsz : (s.heap.push { cls := .type "set", dict := none, data := .set #[] 0 (.fresh 0 0 led) }).objs.size = S + 1 := by rw [Heap.size_push, hS0]
        refine set_turns (Walks.list (A := A.in1.in1.in1) (by simp [hh]) _ l (by rw [hsz]; exact Nat.ne_of_lt (Nat.lt_succ_of_lt hlS)) items) S ?_ val hval hb (items.size - 0) 0 _ (by omega) (Nat.zero_le _) ⟨⟨_, Heap.get?_push_size _ rfl, rfl, rfl⟩, hl1.push _⟩ ?_ ?_
        · rw [hsz]
          simp only [List.mem_cons, List.not_mem_nil, or_false, not_or]
          exact ⟨Nat.ne_of_lt (Nat.lt_succ_self _), Nat.ne_of_gt hlS⟩
        · have hg2 := Heap.get?_push_of_some (h := s.heap.push { cls := .type "set", dict := none, data := .set #[] 0 (.fresh 0 0 led) }) { cls := .type "list_iterator", data := .fields #[.ref l, .int 0 0] } hget
          exact (PyProof.Rows.setObjOf_fresh (knd := strKind prog w) led).setOf hg2 (by unfold scanBound; omega)
        · intro h' tk kk hS'
          show wpAny _ _ _ _ _ _
          refine wpAny_pure ?_
          show wpAny _ _ (ret Value.none) _ _ _
          refine wpAny_pure ⟨rfl, h', tk, rfl, hS', fun b o e => ?_⟩
          have hbl : b < S := by rw [← hS0]; exact Heap.lt_size e
          exact kk b o (Nat.ne_of_lt hbl) (fun z => Nat.ne_of_lt (Nat.lt_succ_of_lt hbl) (by rw [hsz] at z; simpa using z)) (Heap.get?_push_of_some _ (Heap.get?_push_of_some _ e))
      · cases r2 with
        | error e => exact hr2
        | ok fl2 =>
          cases fl2 with
          | ret r =>
            obtain ⟨rfl, h', tk, rfl, hS', kk⟩ := hr2
            repeat (any_goals (first | assumption | wp_step))
            exact h _ _ hS' kk
          | _ => exact hr2.elim
    | _ => exact hr.elim

noncomputable def setO (P : Program) (w : World) (a : Addr) (n : Nat) : HO := .ext fun h => ∃ S, h.SetOf (strKind P w) a S n
section
variable {X : Cx}
theorem call_set (hc : X.calm = true) : CallR X (.type "set") (fun xs H Q => ∃ (p : Addr) (ys : List Str), xs = [.ref p] ∧ SqL X.K H p (ys.map V.str) ∧ ys.length < 1000 ∧ ∀ q, H q = none → Q (.ref q) (upd H q (setO X.prog X.w q (cntS (fun i => ys.getD i Str.empty) ys.length)))) := by
  intro pins s σ H xs us Q I r h
  obtain ⟨p, ys, rfl, hq, hl, q⟩ := h
  obtain ⟨u, rfl, ru⟩ := vals1 r
  cases ru
  obtain ⟨its, rv, pl, hz⟩ := I.list hq
  have hlen : ys.length = its.length := by have := rv.length; rwa [List.length_map] at this
  have hsz : its.toArray.size = ys.length := by
    rw [hlen]
    rfl
  refine set_of_texts (val := fun i => ys.getD i Str.empty) (I.ok.hd hc) pl.isList (fun i v e => ?_) (by rw [hsz]; unfold scanBound; omega) fun h' tk hS kk => ?_
  · have e' : its[i]? = some v := by simpa using e
    have hi : i < ys.length := by rw [hlen]; exact (List.getElem?_eq_some_iff.mp e').1
    have hb : (ys.map V.str)[i]? = some (V.str (ys.getD i Str.empty)) := by
      rw [List.getElem?_map, List.getElem?_eq_getElem hi]
      simp [List.getD, hi]
    obtain ⟨u', e2, r'⟩ := rv.get hb
    rw [e'] at e2
    cases e2
    exact r'
  · rw [hsz] at hS
    refine ⟨.ref s.heap.objs.size, _, I.laid kk (Nat.le_refl _) ?_, rfl, q _ (I.hok.fresh (Nat.le_refl _))⟩
    obtain ⟨o, es, ep, t, ho, r'⟩ := id hS
    exact ⟨⟨_, hS⟩, ⟨o, ho⟩, fun h1 h2 ⟨S', o', es', ep', t', ho', r2⟩ kk' => ⟨S', o', es', ep', t', kk' _ ho', r2⟩⟩
theorem call_len_setO : CallR X (.builtin "len") (fun xs H Q => ∃ q n, xs = [.ref q] ∧ H q = some (setO X.prog X.w q n) ∧ Q (.int n) H) := by
  intro pins s σ H xs us Q I r h
  obtain ⟨a, n, rfl, hq, q⟩ := h
  obtain ⟨u, rfl, ru⟩ := vals1 r
  cases ru
  obtain ⟨⟨S, o, es, ep, t, ho, hex, hd, _, _, hb, hf, hn⟩, _, _⟩ := (show ObjOk X.prog X.w H s.heap a (setO X.prog X.w a n) from I.hok a _ hq)
  subst hn
  have hfit : (es.size : Int) < 2 ^ 63 := by unfold scanBound at hb; omega
  exact call_len_set ho hex hd hf hfit ⟨.int es.size, H, I.tok _, ⟨_, rfl⟩, q⟩
end
end L3
set_option Elab.async false
set_option linter.all false
set_option maxRecDepth 100000
set_option maxHeartbeats 4000000
namespace L3
open PySem PySem.Spec PyProof.Rows L2

section
variable {P : Program} {w : World} {fr : List Env} {H H' : Hp} {s s' : Shared} {ea : Addr} {cls a0 : Value} {B : Heap}
end

section
variable {P : Program} {w : World} {K : PySem.W.Frag} {mg : Str → Option Value} {base : Heap} {N : List Str} {qual : Str} {scope : Scope} {f : Addr} {cdv : Value} {A : Around} {outer : List Env} {s : Shared} {H : Hp} {E : XK}
end
end L3
set_option Elab.async false
set_option linter.all false
set_option maxRecDepth 100000
set_option maxHeartbeats 4000000
namespace L3
open PySem PySem.Spec PyProof.Rows L2

section
variable {X : Cx} {e o : Expr} {es : List Expr} {pos apos p : Pos} {k : Nat} {f C : Addr} {fd : FuncData} {ps : List Str} {sp : Sp} {ta : TE} {t : TA} {m x : Str}
end

section
variable {X : Cx} {pins : List (Addr × Obj)} {σ : St} {H : Hp} {s : Shared}
end

section
variable {X : Cx}
end
end L3
set_option Elab.async false
set_option linter.all false
set_option maxRecDepth 100000
set_option maxHeartbeats 4000000
namespace L3
open PySem PySem.Spec PyProof.Rows L2

section
variable {X : Cx} {elts : List Expr} {k : Nat} {tpos : Pos}
end
section
variable {X : Cx} {K : PySem.W.Frag} (hK : X.K = K)
include hK
theorem ix_listK : IxR X (rIxL K) := by subst hK; exact ix_list
theorem ix_tupK : IxR X (rIxT K) := by subst hK; exact ix_tup
end
end L3
set_option Elab.async false
set_option linter.all false
set_option maxRecDepth 100000
set_option maxHeartbeats 4000000
namespace L3
section
open PySem PySem.Spec PyProof.Rows
open PySem.Builtin PySem.Builtin.Getset_descriptor
section
variable {prog : Program} {w : World} {A : Around} {E : Value → Shared → Prop} {s : Shared} {K : PySem.W.Frag} {x C : Addr} {name : Str}
end
end
open PySem PySem.Spec PyProof.Rows L2
section
variable {X : Cx}
end
end L3
set_option Elab.async false
set_option linter.all false
set_option maxRecDepth 100000
set_option maxHeartbeats 4000000
namespace L3
open PySem PySem.Spec PyProof.Rows L2
section
variable {X : Cx} {e : Expr} {es : List Expr} {pos p : Pos} {k : Nat} {f C : Addr} {fd : FuncData} {ps : List Str} {sp : Sp} {t : TA} {x : Str}
end
end L3
set_option Elab.async false
set_option linter.all false
set_option maxRecDepth 100000
set_option maxHeartbeats 4000000
namespace L3
open PySem PySem.Spec PyProof.Rows L2
section
variable {X : Cx}
end
end L3
set_option Elab.async false
set_option linter.all false
set_option maxRecDepth 100000
set_option maxHeartbeats 4000000
namespace L3
open PySem PySem.Spec PyProof.Rows L2
section
variable {prog : Program} {w : World} {A : Around} {E : Value → Shared → Prop} {s : Shared} {K : PySem.W.Frag}
variable {nm q : Str} {C N fI : Addr} {bs bm tl : List Value} {hd : Bool} {sn : List Str} {sub : List Value} {ab : Bool} {col : Option Bool} {dC : Option Addr} {k0 k1 k2 k3 k5 : Option Value} {B newId initId : String}
end
end L3
set_option Elab.async false
set_option linter.all false
set_option maxRecDepth 100000
set_option maxHeartbeats 4000000
namespace L3
open PySem PySem.Spec PyProof.Rows L2
section
variable {P : Program} {w : World} {H : Hp} {h : Heap} {e C dx d : Addr}
end
section
variable {X : Cx} {pins : List (Addr × Obj)} {σ : L2.St} {H : Hp} {s : Shared}
end
section
variable {X : Cx} {o e value : Expr} {es : List Expr} {f y : Str} {pos pos' apos np : Pos} {ta tv : TE} {t : TA} {R : Addr}
end
section
variable {X : Cx} {k : Nat} {f C R : Addr} {fd : FuncData} {ps : List Str} {sp : Sp} {y : Str}
end
section
variable {prog : Program} {w : World} {A : Around} {E : Value → Shared → Prop} {s : Shared} {env : Env} {K : PySem.W.Frag} {mg : Str → Option Value} {y : Str} {C R : Addr}
end
section
variable {P : Program} {w : World} {K : PySem.W.Frag} {mg : Str → Option Value} {base : Heap} {N : List Str} {qual : Str} {scope : Scope} {f : Addr} {cdv : Value} {A : Around} {outer : List Env} {s : Shared} {H : Hp} {E : XK}
end
section
variable {X : Cx} {e o : Expr} {es : List Expr} {pos apos p : Pos} {k : Nat} {f C : Addr} {fd : FuncData} {ps : List Str} {sp : Sp} {ta : TE} {t : TA} {m x : Str}
end
section
variable {M : Model} {A : Around} {E : Value → Shared → Prop} {s : Shared} {B : Heap} {e L : Addr} {cls a0 : Value} {Q : Unit → Shared → Prop} {env : Env} {outer l : List Env}
end
section
variable {X : Cx}
end
end L3

set_option Elab.async false
set_option linter.all false
set_option maxRecDepth 100000
set_option maxHeartbeats 4000000
namespace L3
open PySem PySem.Spec PyProof.Rows L2
noncomputable def stepV {α : Type} (xs : List α) (lo hi : Option Int) (st : Int) : List α :=
  (sliceRange (sliceBounds lo hi (some st) xs.length).1 (sliceBounds lo hi (some st) xs.length).2.1 (sliceBounds lo hi (some st) xs.length).2.2).filterMap (xs[·]?)
theorem vals_pick {xs : List V} {us : List Value} (h : Vals xs us) : ∀ is : List Nat, Vals (is.filterMap (xs[·]?)) (is.filterMap (us[·]?))
  | [] => .nil
  | i :: r => by
    cases e : xs[i]? with
    | none =>
      rw [List.filterMap_cons_none e, List.filterMap_cons_none (h.none_of e)]
      exact vals_pick h r
    | some x =>
      obtain ⟨u, e2, ru⟩ := h.get e
      rw [List.filterMap_cons_some e, List.filterMap_cons_some e2]
      exact .cons ru (vals_pick h r)
theorem stepV_map {α β : Type} (f : α → β) (xs : List α) (lo hi : Option Int) (st : Int) : stepV (xs.map f) lo hi st = (stepV xs lo hi st).map f := by
  unfold stepV
  rw [List.length_map, List.map_filterMap]
  congr 1
  funext i
  exact List.getElem?_map
theorem stepV_two {α : Type} (xs : List α) (lo hi : Nat) : (stepV xs (some (lo : Int)) (some (hi : Int)) 2).length ≤ (hi - lo + 1) / 2 := by
  unfold stepV
  refine Nat.le_trans (List.length_filterMap_le _ _) ?_
  unfold sliceRange
  rw [List.length_map, List.length_range]
  have e1 : (sliceBounds (some (lo : Int)) (some (hi : Int)) (some 2) xs.length).1 = max 0 (min (lo : Int) xs.length) := by
    have h0 : ¬ ((lo : Int) < 0) := by omega
    simp [sliceBounds, h0]
  have e2 : (sliceBounds (some (lo : Int)) (some (hi : Int)) (some 2) xs.length).2.1 = max 0 (min (hi : Int) xs.length) := by
    have h0 : ¬ ((hi : Int) < 0) := by omega
    simp [sliceBounds, h0]
  have e3 : (sliceBounds (some (lo : Int)) (some (hi : Int)) (some 2) xs.length).2.2 = 2 := rfl
  rw [e1, e2, e3]
  rw [if_pos (by decide)]
  split <;> omega
section
variable {X : Cx} {e : Expr} {te : TE} {pos p2 : Pos} {lo hi : Option Expr} {tl th : TO}
noncomputable def tSl3 (K : PySem.W.Frag) (te : TE) (tl th : TO) (tk : TE) : TE := fun σ H Q => te σ H fun x H1 => tl σ H1 fun l H2 => th σ H2 fun u H3 => tk σ H3 fun k H4 => ∃ a xs i, x = .ref a ∧ k = .int i ∧ i ≠ 0 ∧ SqL K H4 a xs ∧
  ∀ p, H4 p = none → Q (.ref p) (upd H4 p (.lst (stepV xs l u i)))
theorem pe_slice3 {st : Expr} {tk : TE} (he : PE X e te) (hl : PO X lo tl) (hu : PO X hi th) (hk : PE X st tk) : PE X (.Subscript e (.Slice lo hi (some st) p2) pos) (tSl3 X.K te tl th tk) := by
  intro pins s σ H Q I h
  refine Subscript_ (thn (he pins s σ H _ I h) fun v s1 ⟨x, H1, I1, r1, q1⟩ => ?_)
  refine wpAny_Slice (thn (hl pins s1 σ H1 _ I1 q1) fun vl s2 ⟨l, H2, I2, pl', q2⟩ => thn (hu pins s2 σ H2 _ I2 q2) fun vu s3 ⟨u, H3, I3, pu, q3⟩ => ?_)
  rw [evalPart_some]
  refine thn (hk pins s3 σ H3 _ I3 q3) fun kv s4 ⟨k, H4, I4, r4, q4⟩ => ?_
  obtain ⟨a, xs, i, rfl, rfl, hi0, hx, q⟩ := q4
  cases r1
  obtain ⟨t, rfl⟩ := r4
  have I5 : Inv X pins σ H4 { s4 with heap := s4.heap.push { cls := .type "slice", data := .fields #[vl, vu, .int i t] } } := I4.kept (t' := s4.toks) fun b ob q => Heap.get?_push_of_some _ q
  obtain ⟨its, r, pl, hz⟩ := I5.list hx
  have hlen := r.length
  have hg : wpAny (model X.prog X.w) X.A (getItem (.ref a) (.ref s4.heap.objs.size)) (EP X pins σ Q) X.xe { s4 with heap := s4.heap.push { cls := .type "slice", data := .fields #[vl, vu, .int i t] } } := by
    refine wpAny_getItem_list_slice pl.isList (Heap.IsSliceOf.new ..) pl' pu (.int i t) (by intro z; exact hi0 (Option.some.inj z)) ?_ (by rw [List.size_toArray] <;> omega)
    have ep : slicePick its.toArray l u (some i) = (stepV its l u i).toArray := by
      unfold slicePick stepV
      rw [List.size_toArray]
      simp only [List.getElem?_toArray]
    have rs : Vals (stepV xs l u i) (stepV its l u i) := by
      unfold stepV
      rw [hlen]
      exact vals_pick r _
    have hz2 : (stepV xs l u i).length ≤ sizeLine := by
      have := slicePick_size_le its.toArray l u (some i)
      rw [ep, List.size_toArray, List.size_toArray] at this
      rw [rs.length]
      omega
    rw [ep]
    refine ⟨.ref _, _, I5.laid (t' := s4.toks) (o := .lst (stepV xs l u i)) (fun b ob q => Heap.get?_push_of_some _ q) (Nat.le_refl _) ?_, rfl, q _ (I5.hok.fresh (Nat.le_refl _))⟩
    exact ⟨hz2, _, 0, rs, Heap.get?_push_size _ rfl⟩
  show wpAny (model X.prog X.w) X.A (subscriptTail e (.Slice lo hi (some st) p2) (.ref a) (.ref s4.heap.objs.size)) (EP X pins σ Q) X.xe { s4 with heap := s4.heap.push { cls := .type "slice", data := .fields #[vl, vu, .int i t] } }
  exact tail_any (ops := [.ref a, .ref s4.heap.objs.size]) pl.isList.typeIs slot_list_getitem.lookup hg (by with_unfolding_all rfl)
theorem preSum_take (is : List Int) : ∀ j, preSum (fun i => is.getD i 0) j = (is.take j).sum
  | 0 => rfl
  | j + 1 => by
    show preSum _ j + is.getD j 0 = _
    rw [preSum_take is j, List.take_add_one, List.sum_append]
    congr 1
    rw [List.getD]
    cases is[j]? with
    | none => rfl
    | some x => show x = x + 0; omega
theorem bt_sum : bootBuiltins "sum" = some (.builtin "sum") := by decide +kernel
theorem bt_mn : bootBuiltins "min" = some (.builtin "min") := by decide +kernel
theorem bt_mx : bootBuiltins "max" = some (.builtin "max") := by decide +kernel
theorem call_sum (hc : X.calm = true) : CallR X (.builtin "sum") (fun xs H Q => ∃ (p : Addr) (is : List Int), xs = [.ref p] ∧ SqL X.K H p (is.map V.int) ∧ (∀ x ∈ is, 0 ≤ x) ∧ is.sum < 2 ^ 63 ∧ Q (.int is.sum) H) := by
  intro pins s σ H xs us Q I r h
  obtain ⟨p, is, rfl, hq, h0, hm, q⟩ := h
  obtain ⟨u, rfl, ru⟩ := vals1 r
  cases ru
  obtain ⟨its, rv, pl, hz⟩ := I.list hq
  have hlen : is.length = its.length := by have := rv.length; rwa [List.length_map] at this
  obtain ⟨o, n, eo, _⟩ := id pl
  have hne : p ≠ s.heap.objs.size := Nat.ne_of_lt (Heap.lt_size eo)
  have hh : X.A.in1.handled = none := I.ok.hd hc
  have psum : ∀ (l : List Int), (∀ x ∈ l, 0 ≤ x) → 0 ≤ l.sum := fun l => by
    induction l with
    | nil => intro _; exact Int.le_refl _
    | cons a r ih =>
      intro h
      rw [List.sum_cons]
      have := h a (.head _)
      have := ih fun x hx => h x (.tail _ hx)
      omega
  have tot : ∀ j, 0 ≤ (is.take j).sum ∧ (is.take j).sum ≤ is.sum := fun j => by
    have e : is.sum = (is.take j).sum + (is.drop j).sum := by rw [← List.sum_append, List.take_append_drop]
    have := psum (is.take j) fun x hx => h0 x (List.mem_of_mem_take hx)
    have := psum (is.drop j) fun x hx => h0 x (List.mem_of_mem_drop hx)
    omega
  refine call_sum_walk (wpAny_pyIter_list pl.isList ?_)
  refine ⟨s.heap.objs.size, [s.heap.objs.size, p], [s.heap.objs.size], its.toArray.size, _, _, fun i => is.getD i 0, rfl, Walks.list hh _ p hne its.toArray, ⟨⟨_, Heap.get?_push_size _ rfl, rfl, rfl⟩, pl.isList.push _⟩, ?_, ?_, ?_, fun h' tk t' k => ?_⟩
  · intro b hb
    have l1 : p < s.heap.objs.size := Heap.lt_size eo
    have l2 : (s.heap.push ({ cls := .type "list_iterator", data := .fields #[Value.ref p, rawInt 0] } : Obj)).objs.size = s.heap.objs.size + 1 := by simp [Heap.push]
    simp only [List.mem_cons, List.not_mem_nil, or_false] at hb
    have l3 : b < s.heap.objs.size + 1 := by
      rcases hb with h | h <;> rw [h]
      · exact Nat.lt_succ_self _
      · exact Nat.lt_succ_of_lt l1
    refine Nat.lt_of_lt_of_eq l3 ?_
    simp [Heap.push]
  · intro i v hP
    have hP' : its[i]? = some v := by simpa using hP
    have hi : i < its.length := (List.getElem?_eq_some_iff.mp hP').1
    have hb : (is.map V.int)[i]? = some (V.int (is.getD i 0)) := by
      rw [List.getElem?_map, List.getElem?_eq_getElem (by omega : i < is.length)]
      simp [List.getD, hlen ▸ hi]
    obtain ⟨u', e', r'⟩ := rv.get hb
    rw [hP'] at e'
    cases e'
    exact r'
  · intro j hj
    rw [List.size_toArray, ← hlen] at hj
    have t1 := tot j
    have t2 := tot (j + 1)
    have e1 := preSum_take is j
    have e2 := preSum_take is (j + 1)
    have e3 : preSum (fun i => is.getD i 0) (j + 1) = preSum (fun i => is.getD i 0) j + is.getD j 0 := rfl
    have h1 : 0 ≤ is.getD j 0 := by
      rw [List.getD, List.getElem?_eq_getElem hj]
      exact h0 _ (List.getElem_mem hj)
    refine ⟨⟨?_, ?_⟩, ?_, ?_⟩
    · show -(2 ^ 63) ≤ is.getD j 0
      omega
    · show is.getD j 0 < 2 ^ 63
      omega
    · rw [e2]
      omega
    · rw [e2]
      omega
  · have e : preSum (fun i => is.getD i 0) its.toArray.size = is.sum := by rw [preSum_take, List.size_toArray, ← hlen, List.take_length]
    rw [e]
    exact ⟨.int is.sum, H, I.kept fun b ob z => k b ob (by simpa using Nat.ne_of_lt (Heap.lt_size z)) (Heap.get?_push_of_some _ z), ⟨_, rfl⟩, q⟩
end
end L3
set_option Elab.async false
set_option linter.all false
namespace M1
open PySem
noncomputable def wcs : Nat → Int → List Nat
  | 0, _ => []
  | k + 1, n => (97 + (n % 26).toNat) :: wcs k (n / 26)
noncomputable def wnum (c : Int) : Int := c * 1099087573 % 10000000000037
noncomputable def wsize (c : Int) : Nat := (1 + wnum c % 7).toNat
noncomputable def wordL (c : Int) : List Nat := wcs (wsize c) (wnum c / 7)
theorem wcs_len : ∀ k n, (wcs k n).length = k
  | 0, _ => rfl
  | k + 1, n => by simp [wcs, wcs_len k]
theorem wcs_ok : ∀ k n, ∀ x ∈ wcs k n, 97 ≤ x ∧ x ≤ 122
  | 0, _ => by simp [wcs]
  | k + 1, n => by
    intro x hx
    simp only [wcs, List.mem_cons] at hx
    rcases hx with rfl | hx
    · have h1 : 0 ≤ n % 26 := Int.emod_nonneg _ (by decide)
      have h2 : n % 26 < 26 := Int.emod_lt_of_pos _ (by decide)
      omega
    · exact wcs_ok k _ x hx
theorem wsize_ok (c : Int) : 1 ≤ wsize c ∧ wsize c ≤ 7 := by
  have h1 : 0 ≤ wnum c % 7 := Int.emod_nonneg _ (by decide)
  have h2 : wnum c % 7 < 7 := Int.emod_lt_of_pos _ (by decide)
  unfold wsize
  omega
theorem word_len (c : Int) : (wordL c).length = wsize c := wcs_len _ _
theorem word_ok (c : Int) : ∀ x ∈ wordL c, 97 ≤ x ∧ x ≤ 122 := wcs_ok _ _
noncomputable def Nm (l : List Nat) : Prop := 1 ≤ l.length ∧ l.length ≤ 8 ∧ ∀ x ∈ l, 97 ≤ x ∧ x ≤ 122
noncomputable def letters : List Nat := [107, 99, 120, 113, 97, 109, 122, 102, 116, 98, 106, 101]
noncomputable def hat (c : Int) : Nat := (c % ((wsize c : Int) + 1)).toNat
theorem hat_le (c : Int) : hat c ≤ wsize c := by
  have h1 : 0 ≤ c % ((wsize c : Int) + 1) := Int.emod_nonneg _ (by omega)
  have h2 : c % ((wsize c : Int) + 1) < (wsize c : Int) + 1 := Int.emod_lt_of_pos _ (by omega)
  unfold hat
  omega
noncomputable def house (c : Int) (l : Nat) : List Nat := (wordL c).take (hat c) ++ l :: (wordL c).drop (hat c)
noncomputable def housesL (c : Int) (m : Nat) : List (List Nat) := (letters.take m).map (house c)
theorem letters_ok : ∀ x ∈ letters, 97 ≤ x ∧ x ≤ 122 := by decide
theorem letters_nd : letters.Nodup := by decide
theorem house_nm (c : Int) {l : Nat} (h : 97 ≤ l ∧ l ≤ 122) : Nm (house c l) := by
  have hl := word_len c
  have hs := wsize_ok c
  have ha := hat_le c
  refine ⟨?_, ?_, ?_⟩
  · simp only [house, List.length_append, List.length_cons]
    omega
  · simp only [house, List.length_append, List.length_cons, List.length_take, List.length_drop]
    omega
  · intro x hx
    simp only [house, List.mem_append, List.mem_cons] at hx
    rcases hx with hx | rfl | hx
    · exact word_ok c x (List.mem_of_mem_take hx)
    · exact h
    · exact word_ok c x (List.mem_of_mem_drop hx)
theorem house_inj (c : Int) {l k : Nat} (h : house c l = house c k) : l = k := by
  unfold house at h
  have := List.append_cancel_left h
  exact (List.cons.inj this).1
theorem houses_len (c : Int) (m : Nat) (h : m ≤ 12) : (housesL c m).length = m := by
  simp only [housesL, List.length_map, List.length_take]
  have : letters.length = 12 := rfl
  omega
theorem houses_nm (c : Int) (m : Nat) : ∀ x ∈ housesL c m, Nm x := by
  intro x hx
  obtain ⟨l, hl, rfl⟩ := List.mem_map.mp hx
  exact house_nm c (letters_ok l (List.mem_of_mem_take hl))
theorem nd_map_inj {α β : Type} {f : α → β} (hf : ∀ a b, f a = f b → a = b) : ∀ {l : List α}, l.Nodup → (l.map f).Nodup
  | [], _ => List.nodup_nil
  | a :: r, h => by
    obtain ⟨h1, h2⟩ := List.nodup_cons.mp h
    refine List.nodup_cons.mpr ⟨fun m => ?_, nd_map_inj hf h2⟩
    obtain ⟨b, hb, e⟩ := List.mem_map.mp m
    exact h1 (hf _ _ e ▸ hb)
theorem houses_nd (c : Int) (m : Nat) : (housesL c m).Nodup := nd_map_inj (fun a b h => house_inj c h) (letters_nd.sublist (List.take_sublist _ _))
structure Rd where
  a : Nat
  b : Nat
  t : Int
  m : Int
noncomputable def rnum (c : Int) : Int := c * 48271 % 2147483647
noncomputable def rbeg (n : Nat) (c : Int) : Int := rnum c % n
noncomputable def rend (n : Nat) (c : Int) : Int := (rbeg n c + 1 + rnum c / 12 % ((n : Int) - 1)) % n
noncomputable def rroom (c : Int) : Int := if rnum c / 432 % 5 = 1 then 1 + c % 10 ^ 9 else 1 + rnum c / 144 % 3
noncomputable def rturn (l : Int) (c : Int) : Int := 1 + rnum c / 2160 % l
noncomputable def rd (n : Nat) (c : Int) : Rd := ⟨(rbeg n c).toNat, (rend n c).toNat, rturn 9 c, rroom c⟩
structure Rd.Ok (r : Rd) (n : Nat) : Prop where
  a : r.a < n
  b : r.b < n
  ne : r.a ≠ r.b
  t : 1 ≤ r.t ∧ r.t ≤ 9
  m : 1 ≤ r.m ∧ r.m ≤ 1000000000
theorem rd_ok {n : Nat} (h : 1 < n) (c : Int) : (rd n c).Ok n := by
  have b1 : 0 ≤ rbeg n c := Int.emod_nonneg _ (by omega)
  have b2 : rbeg n c < n := Int.emod_lt_of_pos _ (by omega)
  have e1 : 0 ≤ rend n c := Int.emod_nonneg _ (by omega)
  have e2 : rend n c < n := Int.emod_lt_of_pos _ (by omega)
  have d1 : 0 ≤ rnum c / 12 % ((n : Int) - 1) := Int.emod_nonneg _ (by omega)
  have d2 : rnum c / 12 % ((n : Int) - 1) < (n : Int) - 1 := Int.emod_lt_of_pos _ (by omega)
  have ne : rbeg n c ≠ rend n c := by
    intro e
    generalize hd : rnum c / 12 % ((n : Int) - 1) = d at d1 d2
    have e3 : rend n c = (rbeg n c + 1 + d) % n := by rw [← hd]; rfl
    by_cases hlt : rbeg n c + 1 + d < n
    · rw [Int.emod_eq_of_lt (by omega) hlt] at e3
      omega
    · have : (rbeg n c + 1 + d) % n = rbeg n c + 1 + d - n := by
        have h5 : (rbeg n c + 1 + d) % n = (rbeg n c + 1 + d - n) % n := by
          rw [Int.sub_emod_right]
        rw [h5, Int.emod_eq_of_lt (by omega) (by omega)]
      omega
  have t1 : 0 ≤ rnum c / 2160 % 9 := Int.emod_nonneg _ (by decide)
  have t2 : rnum c / 2160 % 9 < 9 := Int.emod_lt_of_pos _ (by decide)
  have m1 : 0 ≤ rnum c / 144 % 3 := Int.emod_nonneg _ (by decide)
  have m2 : rnum c / 144 % 3 < 3 := Int.emod_lt_of_pos _ (by decide)
  have m3 : 0 ≤ c % 10 ^ 9 := Int.emod_nonneg _ (by decide)
  have m4 : c % 10 ^ 9 < 10 ^ 9 := Int.emod_lt_of_pos _ (by decide)
  refine ⟨by show (rbeg n c).toNat < n; omega, by show (rend n c).toNat < n; omega, ?_, ?_, ?_⟩
  · show (rbeg n c).toNat ≠ (rend n c).toNat
    omega
  · show 1 ≤ rturn 9 c ∧ rturn 9 c ≤ 9
    unfold rturn
    omega
  · show 1 ≤ rroom c ∧ rroom c ≤ 1000000000
    unfold rroom
    split <;> omega
end M1
set_option Elab.async false
set_option linter.all false
namespace M1
open PySem
noncomputable def hsz (c : Int) : Nat := (1 + c % 8).toNat
noncomputable def hpl (c : Int) : Nat := (c / 8 % (1 + c % 8)).toNat
noncomputable def hch (c : Int) (k j : Nat) : Nat := 97 + ((c / 64 + 5 * (j : Int) * (j : Int) + 2 * (k : Int) * (if j = hpl c then 1 else 0)) % 26).toNat
structure Lt where
  a : Nat
  b : Nat
  t : Int
noncomputable def lnum (c : Int) : Int := c * 982451653 % 10000000000037
noncomputable def lbeg (n : Nat) (c : Int) : Int := lnum c % n
noncomputable def lend (n : Nat) (c : Int) : Int := (lbeg n c + 1 + lnum c / n % ((n : Int) - 1)) % n
noncomputable def lt (n : Nat) (c base : Int) : Lt := ⟨(lbeg n c).toNat, (lend n c).toNat, base + lnum c / 1000 % 31⟩
end M1
set_option Elab.async false
set_option linter.all false
namespace M1
noncomputable def inP (pp : Nat → Option Int) (k : Nat) (t : Int) : Bool := match pp k with
  | none => false
  | some u => decide (u ≤ t)
noncomputable def outP (pp : Nat → Option Int) (ls : List Lt) (T : Int) : Nat := (ls.filter fun d => decide (d.t ≤ T) && !inP pp d.a d.t).length
noncomputable def lastP (pp : Nat → Option Int) (b : Nat) (T : Int) : Int := match pp b with
  | none => T
  | some u => if u - 1 < T then u - 1 else T
noncomputable def tcP (pp : Nat → Option Int) (d : Rd) (T : Int) : Int := match pp d.a with
  | none => 0
  | some f => if lastP pp d.b T - d.t - f + 1 > 0 then lastP pp d.b T - d.t - f + 1 else 0
noncomputable def carP (pp : Nat → Option Int) (ds : List Rd) (T : Int) : Int := (ds.map fun d => d.m * tcP pp d T).sum
theorem tc_nonneg (pp : Nat → Option Int) (d : Rd) (T : Int) : 0 ≤ tcP pp d T := by
  unfold tcP
  split
  · omega
  · split <;> omega
theorem tc_le {pp : Nat → Option Int} {d : Rd} {T b : Int} (ht : 1 ≤ d.t) (h : ∀ f, pp d.a = some f → b ≤ f) (hb : b ≤ T + 1) : tcP pp d T ≤ T + 1 - b := by
  unfold tcP
  split
  · omega
  · rename_i f e
    have := h f e
    have hl : lastP pp d.b T ≤ T := by
      unfold lastP
      split
      · omega
      · split <;> omega
    split <;> omega
theorem sum_le {ds : List Int} {b : Int} : (∀ x ∈ ds, x ≤ b) → ds.sum ≤ ds.length * b := by
  induction ds with
  | nil => intro _; simp
  | cons a r ih =>
    intro h
    rw [List.sum_cons, List.length_cons]
    have h1 := h a (.head _)
    have h2 := ih fun x hx => h x (.tail _ hx)
    have e : ((r.length + 1 : Nat) : Int) * b = (r.length : Int) * b + b := by
      rw [show ((r.length + 1 : Nat) : Int) = (r.length : Int) + 1 by omega, Int.add_mul, Int.one_mul]
    omega
noncomputable def l4num (c : Int) : Int := c * 1220703125 % 2147483629
noncomputable def l4 (n g : Nat) (base span c : Int) : Lt := ⟨((l4num c % g + 1 + l4num c / 12 % ((n : Int) - 1)) % n).toNat, (l4num c % g).toNat, base + l4num c / 144 % span⟩
end M1
set_option Elab.async false
set_option linter.all false
namespace M1
noncomputable def spotD (pp : Nat → Option Int) (T : Int) (s : Nat × Int) : Bool := decide (s.2 ≤ T) && !inP pp s.1 s.2
noncomputable def cntD (pp : Nat → Option Int) (T : Int) (ss : List (Nat × Int)) : Nat := (ss.filter (spotD pp T)).length
noncomputable def crossP (pp : Nat → Option Int) (T : Int) (d : Rd) (now : Int) : Bool := inP pp d.a now && decide (now + d.t ≤ T) && !inP pp d.b (now + d.t)
noncomputable def crossN (pp : Nat → Option Int) (T : Int) (d : Rd) (now : Int) : Int := if crossP pp T d now = true then d.m else 0
theorem inP_mono {pp : Nat → Option Int} {k : Nat} {t u : Int} (h : inP pp k t = true) (l : t ≤ u) : inP pp k u = true := by
  unfold inP at *
  cases e : pp k with
  | none => rw [e] at h; cases h
  | some v =>
    rw [e] at h
    have := of_decide_eq_true h
    exact decide_eq_true (by omega)
theorem filter_set {α : Type} (p : α → Bool) : ∀ (ss : List α) (n : Nat) (x y : α), ss[n]? = some x → ((ss.set n y).filter p).length + (if p x = true then 1 else 0) = (ss.filter p).length + (if p y = true then 1 else 0)
  | [], n, x, y, h => by simp at h
  | a :: r, 0, x, y, h => by
    simp only [List.getElem?_cons_zero, Option.some.injEq] at h
    subst h
    rw [List.set_cons_zero, List.filter_cons, List.filter_cons]
    split <;> split <;> (try simp only [List.length_cons]) <;> omega
  | a :: r, n + 1, x, y, h => by
    have ih := filter_set p r n x y (by simpa using h)
    rw [List.set_cons_succ, List.filter_cons, List.filter_cons]
    split <;> (try simp only [List.length_cons]) <;> omega
theorem move_le {pp : Nat → Option Int} {T now t : Int} {d : Rd} {ss : List (Nat × Int)} {n : Nat} (h : ss[n]? = some (d.a, t)) (ht : t ≤ now) (h1 : 1 ≤ d.t) :
    (cntD pp T (ss.set n (d.b, now + d.t)) : Int) ≤ cntD pp T ss + (if crossP pp T d now = true then 1 else 0) := by
  have e := filter_set (spotD pp T) ss n (d.a, t) (d.b, now + d.t) h
  unfold cntD
  by_cases hy : spotD pp T (d.b, now + d.t) = true
  · rw [if_pos hy] at e
    by_cases hx : spotD pp T (d.a, t) = true
    · rw [if_pos hx] at e
      split <;> omega
    · rw [if_neg hx] at e
      have c : crossP pp T d now = true := by
        unfold spotD at hx hy
        rw [Bool.and_eq_true] at hy
        have y1 := of_decide_eq_true hy.1
        have x1 : decide ((d.a, t).2 ≤ T) = true := decide_eq_true (by show t ≤ T; have : now + d.t ≤ T := y1; omega)
        rw [x1, Bool.true_and] at hx
        have x2 : inP pp d.a t = true := by
          cases z : inP pp d.a t with
          | true => rfl
          | false => rw [show inP pp (d.a, t).1 (d.a, t).2 = false from z] at hx; exact absurd rfl hx
        unfold crossP
        rw [inP_mono x2 ht, Bool.true_and, Bool.and_eq_true]
        exact hy
      rw [if_pos c]
      omega
  · rw [if_neg hy] at e
    split <;> omega
noncomputable def crossS (pp : Nat → Option Int) (T : Int) (d : Rd) (b : Int) : Nat → Int
  | 0 => 0
  | n + 1 => crossS pp T d b n + crossN pp T d (b + n)
noncomputable def crossR (pp : Nat → Option Int) (T : Int) (ds : List Rd) (now : Int) : Int := (ds.map fun d => crossN pp T d now).sum
noncomputable def crossA (pp : Nat → Option Int) (T : Int) (ds : List Rd) (b : Int) : Nat → Int
  | 0 => 0
  | n + 1 => crossA pp T ds b n + crossR pp T ds (b + n)
theorem crossA_sum (pp : Nat → Option Int) (T : Int) (b : Int) : ∀ (n : Nat) (ds : List Rd), crossA pp T ds b n = (ds.map fun d => crossS pp T d b n).sum
  | 0, ds => by
    show 0 = _
    induction ds with
    | nil => rfl
    | cons d r ih => rw [List.map_cons, List.sum_cons, ← ih]; rfl
  | n + 1, ds => by
    show crossA pp T ds b n + crossR pp T ds (b + n) = _
    rw [crossA_sum pp T b n ds]
    unfold crossR
    induction ds with
    | nil => rfl
    | cons d r ih =>
      simp only [List.map_cons, List.sum_cons]
      have : crossS pp T d b (n + 1) = crossS pp T d b n + crossN pp T d (b + n) := rfl
      rw [← ih, this]
      omega
theorem crossS_none {pp : Nat → Option Int} {T : Int} {d : Rd} {b : Int} (h : pp d.a = none) : ∀ n, crossS pp T d b n = 0
  | 0 => rfl
  | n + 1 => by
    show crossS pp T d b n + crossN pp T d (b + n) = 0
    rw [crossS_none h n]
    unfold crossN crossP inP
    rw [h]
    rfl
theorem cross_iff {pp : Nat → Option Int} {T : Int} {d : Rd} {f x : Int} (h : pp d.a = some f) : crossP pp T d x = true ↔ f ≤ x ∧ x ≤ lastP pp d.b T - d.t := by
  unfold crossP lastP
  rw [Bool.and_eq_true, Bool.and_eq_true]
  have e1 : inP pp d.a x = decide (f ≤ x) := by unfold inP; rw [h]
  rw [e1]
  cases e : pp d.b with
  | none =>
    have e2 : inP pp d.b (x + d.t) = false := by unfold inP; rw [e]
    rw [e2]
    simp only [decide_eq_true_eq, Bool.not_false, and_true]
    omega
  | some u =>
    have e2 : inP pp d.b (x + d.t) = decide (u ≤ x + d.t) := by unfold inP; rw [e]
    rw [e2]
    simp only [decide_eq_true_eq, Bool.not_eq_true', decide_eq_false_iff_not]
    split <;> omega
noncomputable def crossC (f L b : Int) (n : Nat) : Int := max 0 (min (L + 1) (b + n) - max f b)
theorem crossS_le {pp : Nat → Option Int} {T : Int} {d : Rd} {b f : Int} (h : pp d.a = some f) (hm : 0 ≤ d.m) : ∀ n, crossS pp T d b n ≤ d.m * crossC f (lastP pp d.b T - d.t) b n
  | 0 => Int.mul_nonneg hm (Int.le_max_left _ _)
  | n + 1 => by
    show crossS pp T d b n + crossN pp T d (b + n) ≤ _
    have ih := crossS_le (T := T) (b := b) h hm n
    unfold crossN
    have ci := cross_iff (T := T) (x := b + n) h
    generalize lastP pp d.b T - d.t = L at ih ci ⊢
    by_cases c : crossP pp T d (b + n) = true
    · rw [if_pos c]
      have := ci.mp c
      have e : crossC f L b (n + 1) = crossC f L b n + 1 := by
        unfold crossC
        omega
      rw [e, Int.mul_add, Int.mul_one]
      omega
    · rw [if_neg c]
      have l : crossC f L b n ≤ crossC f L b (n + 1) := by
        unfold crossC
        omega
      have := Int.mul_le_mul_of_nonneg_left l hm
      omega
theorem crossC_le {f L b : Int} {n : Nat} : crossC f L b n ≤ if L - f + 1 > 0 then L - f + 1 else 0 := by
  unfold crossC
  split <;> omega
theorem crossS_tc {pp : Nat → Option Int} {T : Int} {d : Rd} {b : Int} (hm : 0 ≤ d.m) (n : Nat) : crossS pp T d b n ≤ d.m * tcP pp d T := by
  unfold tcP
  cases e : pp d.a with
  | none => rw [crossS_none e]; simp
  | some f =>
    refine Int.le_trans (crossS_le e hm n) (Int.mul_le_mul_of_nonneg_left ?_ hm)
    exact crossC_le
theorem crossA_le {pp : Nat → Option Int} {T : Int} {b : Int} {n : Nat} : ∀ {ds : List Rd}, (∀ d ∈ ds, 0 ≤ d.m) → crossA pp T ds b n ≤ carP pp ds T := fun {ds} h => by
  rw [crossA_sum]
  unfold carP
  induction ds with
  | nil => exact Int.le_refl _
  | cons d r ih =>
    simp only [List.map_cons, List.sum_cons]
    have h1 := crossS_tc (pp := pp) (T := T) (b := b) (h d (.head _)) n
    have h2 := ih fun x hx => h x (.tail _ hx)
    omega
theorem cntD_begin (pp : Nat → Option Int) (T : Int) (ls : List Lt) : cntD pp T (ls.map fun d => (d.a, d.t)) = outP pp ls T := by
  unfold cntD outP
  rw [List.filter_map, List.length_map]
  rfl
theorem homes_le {pp : Nat → Option Int} {T : Int} {g : Nat} (h : pp g = none) : ∀ ss : List (Nat × Int), (((ss.filter fun s => decide (s.1 = g)).map (·.2)).filter fun t => decide (t ≤ T)).length ≤ cntD pp T ss
  | [] => Nat.le_refl _
  | s :: r => by
    have ih := homes_le h (T := T) r
    unfold cntD at *
    rw [List.filter_cons, List.filter_cons]
    by_cases e : s.1 = g
    · rw [if_pos (decide_eq_true e), List.map_cons, List.filter_cons]
      by_cases l : s.2 ≤ T
      · have y : spotD pp T s = true := by
          unfold spotD inP
          rw [e, h, decide_eq_true l]
          rfl
        rw [if_pos (decide_eq_true l), if_pos y, List.length_cons, List.length_cons]
        omega
      · rw [if_neg (by simpa using l)]
        split <;> (try simp only [List.length_cons]) <;> omega
    · rw [if_neg (by simpa using e)]
      split <;> (try simp only [List.length_cons]) <;> omega
end M1
set_option Elab.async false
set_option linter.all false
set_option maxRecDepth 100000
set_option maxHeartbeats 4000000
namespace K1
open PySem L2 L3
theorem bt_len : bootBuiltins "len" = some (.builtin "len") := by decide +kernel
theorem bt_isinstance : bootBuiltins "isinstance" = some (.builtin "isinstance") := by decide +kernel
theorem bt_all : bootBuiltins "all" = some (.builtin "all") := by decide +kernel
theorem bt_int : bootBuiltins "int" = some (.type "int") := by decide +kernel
theorem bt_bool : bootBuiltins "bool" = some (.type "bool") := by decide +kernel
theorem bt_str : bootBuiltins "str" = some (.type "str") := by decide +kernel
theorem bt_list : bootBuiltins "list" = some (.type "list") := by decide +kernel
theorem bt_tuple : bootBuiltins "tuple" = some (.type "tuple") := by decide +kernel
theorem bt_set : bootBuiltins "set" = some (.type "set") := by decide +kernel
structure Blt (mg : Str → Option Value) : Prop where
  len : mg "len" = none
  range : mg "range" = none
  isinstance : mg "isinstance" = none
  all_ : mg "all" = none
  int : mg "int" = none
  bool : mg "bool" = none
  str : mg "str" = none
  list : mg "list" = none
  tuple : mg "tuple" = none
  set_ : mg "set" = none
  ValueError : mg "ValueError" = none
  enumerate : mg "enumerate" = none
  max : mg "max" = none
  min : mg "min" = none
  sum : mg "sum" = none
  any_ : mg "any" = none
  dict : mg "dict" = none
  sorted : mg "sorted" = none
  zip : mg "zip" = none
structure Dn (K : PySem.W.Frag) (mg : Str → Option Value) (x : Str) (st : Stmt) (ps : List Str) (f : Addr) (fd : FuncData) : Prop where
  fn : Fun K x x st f fd
  at_ : mg x = some (.ref f)
  bd : Binds K fd ps []
structure Mn (K : PySem.W.Frag) (C : Addr) (m qual : Str) (st : Stmt) (ps : List Str) (f : Addr) (fd : FuncData) : Prop where
  fn : Fun K m qual st f fd
  me : Meth K C m f
  bd : Binds K fd ps []
structure Inn (K : PySem.W.Frag) (C : Addr) (qual : Str) (st : Stmt) (ps : List Str) (f : Addr) (fd : FuncData) : Prop where
  fn : Fun K "__init__" qual st f fd
  made : Mk K C f
  bd : Binds K fd ps []
noncomputable def Cst (mg : Str → Option Value) (x : Str) (i : Int) : Prop := ∃ t, mg x = some (.int i t)
theorem pe_const {X : Cx} {x : Str} {i : Int} {pos : Pos} (hg : Gl X x) (h : Cst X.mg x i) (hd : (x == ("__debug__" : Str)) = false := by decide) : PE X (.Name x pos) (tC (.int i)) := by
  obtain ⟨t, e⟩ := h
  exact pe_glob hg e ⟨t, rfl⟩ hd
theorem pe_bty {X : Cx} {x : Str} {T : String} {pos : Pos} (hg : Gl X x) (hm : X.mg x = none) (hv : bootBuiltins x = some (.type T)) (hn : x ≠ "__name__" := by decide) (hd : (x == ("__debug__" : Str)) = false := by decide) : PE X (.Name x pos) (tC (.ty T)) :=
  pe_bltn (v := .ty T) hg hm hv rfl hn hd
theorem tlc_map {wi : TI} {cs : List (Option Nat)} {te : TE} {σ rest : L2.St} {H H1 : Hp} {Q : VK} {J : It} {xs : List L2.V} (hw : ∀ R : It → Hp → Prop, R J H1 → wi σ H R) (hcs : caps cs σ = none :: rest) (wk : Wk J H1 xs) (hl : xs.length < sizeLine) (f : L2.V → L2.V)
    (elt : ∀ (i : Nat) (x : L2.V) (H2 : Hp) (R : VK), xs[i]? = some x → Same H1 H2 → (∀ H5, Same H2 H5 → R (f x) H5) → te (some x :: rest) H2 R)
    (fin : ∀ (D : Addr) (H' : Hp), H1 D = none → H' D = some (.lst (xs.map f)) → Same H1 H' → Q (.ref D) H') : tLC wi cs (gName 0) tAll te σ H Q := hw _ (lc_map hcs wk hl f elt fin)
theorem tlc_wk {wi : TI} {cs : List (Option Nat)} {tt : TT} {te : TE} {σ rest : L2.St} {H H1 : Hp} {Q : VK} {J : It} {xs : List L2.V} (hw : ∀ R : It → Hp → Prop, R J H1 → wi σ H R) (hcs : caps cs σ = none :: rest) (wk : Wk J H1 xs) (hl : xs.length < sizeLine) (p : L2.V → Bool) (f : L2.V → L2.V)
    (test : ∀ (i : Nat) (x : L2.V) (H2 : Hp) (R : Bool → Hp → Prop), xs[i]? = some x → Same H1 H2 → (∀ H5, Same H2 H5 → R (p x) H5) → tt (some x :: rest) H2 R)
    (elt : ∀ (i : Nat) (x : L2.V) (H2 : Hp) (R : VK), xs[i]? = some x → p x = true → Same H1 H2 → (∀ H5, Same H2 H5 → R (f x) H5) → te (some x :: rest) H2 R)
    (fin : ∀ (D : Addr) (H' : Hp), H1 D = none → H' D = some (.lst ((xs.filter p).map f)) → Same H1 H' → Q (.ref D) H') : tLC wi cs (gName 0) tt te σ H Q := hw _ (lc_wk hcs wk hl p f test elt fin)
theorem kit_eq (K : PySem.W.Frag) (t : String) : PySem.W.kitOne K (.type t) (.type t) = some true := by
  unfold PySem.W.kitOne
  exact if_pos (by simp)
theorem sub_of {cl big : List (Str × Addr)} (h : ∀ p ∈ cl, big.lookup p.1 = some p.2) (x : Str) (c : Addr) (e : cl.lookup x = some c) : big.lookup x = some c := by
  induction cl with
  | nil => cases e
  | cons p r ih =>
    obtain ⟨y, d⟩ := p
    rw [List.lookup_cons] at e
    by_cases hb : (x == y) = true
    · rw [hb] at e
      cases e
      have := h (y, c) (List.mem_cons_self ..)
      rw [show x = y from eq_of_beq hb]
      exact this
    · rw [Bool.not_eq_true] at hb
      rw [hb] at e
      exact ih (fun p hp => h p (List.mem_cons_of_mem _ hp)) e
end K1
set_option Elab.async false
set_option linter.all false
set_option maxRecDepth 100000
set_option maxHeartbeats 4000000
namespace K1
open PySem L2 L3 M1
section
variable {P : Program} {w : World} {K : PySem.W.Frag} {mg : Str → Option Value} {base : Heap}
noncomputable abbrev S (l : List Nat) : Str := ⟨l.toArray⟩
theorem atI_int {ns : List Int} {k : Int} (h0 : 0 ≤ k) (h1 : k < (ns.map V.int).length) : atI (ns.map V.int) k = some (V.int (ns.getD k.toNat 0)) := by
  have h2 : k.toNat < ns.length := by rw [List.length_map] at h1; omega
  have e : (ns.map V.int)[k.toNat]? = some (V.int (ns.getD k.toNat 0)) := by
    rw [List.getElem?_map, List.getElem?_eq_getElem h2]
    simp [List.getD, h2]
  have := atI_nat e
  rwa [Int.toNat_of_nonneg h0] at this
noncomputable def spAt (K : PySem.W.Frag) : Sp := fun vs H Q _ => ∃ (a : Addr) (ns : List Int) (k : Int), vs = [.ref a, .int k] ∧ SqL K H a (ns.map V.int) ∧ 0 ≤ k ∧ Q (.int (ns.getD k.toNat 0)) H
theorem alpha_codes : (Str.ofString "abcdefghijklmnopqrstuvwxyz").cps.toList = (List.range 26).map (97 + ·) := by decide +kernel
theorem alpha_at {i : Int} (h0 : 0 ≤ i) (h1 : i < 26) : atI (Str.ofString "abcdefghijklmnopqrstuvwxyz").cps.toList i = some (97 + i.toNat) := by
  have e : (Str.ofString "abcdefghijklmnopqrstuvwxyz").cps.toList[i.toNat]? = some (97 + i.toNat) := by
    rw [alpha_codes, List.getElem?_map, List.getElem?_range (by omega)]
    rfl
  have := atI_nat e
  rwa [Int.toNat_of_nonneg h0] at this
noncomputable def nAt : Nat → Int → Int
  | 0, n => n
  | k + 1, n => nAt k (n / 26)
theorem nAt_succ : ∀ k n, nAt (k + 1) n = nAt k n / 26
  | 0, _ => rfl
  | k + 1, n => nAt_succ k (n / 26)
theorem wcs_snoc : ∀ k n, wcs (k + 1) n = wcs k n ++ [97 + (nAt k n % 26).toNat]
  | 0, _ => rfl
  | k + 1, n => by
    show _ :: wcs (k + 1) (n / 26) = _
    rw [wcs_snoc k (n / 26)]
    rfl
theorem S_app (a b : List Nat) : S a ++ S b = S (a ++ b) := by
  show Str.append _ _ = _
  simp [Str.append, S]
theorem S_len (a : List Nat) : (S a).length = a.length := by simp [S, Str.length]
noncomputable def spWord : Sp := fun vs H Q _ => ∃ c : Int, vs = [.int c] ∧ Q (.str (S (wordL c))) H
noncomputable def txs (hs : List (List Nat)) : List L2.V := hs.map fun l => V.str (S l)
theorem txs_map (hs : List (List Nat)) : txs hs = (hs.map S).map V.str := by simp [txs]
theorem cut_take (l : List Nat) (k : Nat) (h : k ≤ l.length) : cutS (S l) none (some (k : Int)) = S (l.take k) := by
  have e : (S l).cps.size = l.length := by simp [S]
  unfold cutS
  rw [e, HT.sIx_none, HT.sIx_nat]
  simp [S, Nat.min_eq_left h]
theorem cut_drop (l : List Nat) (k : Nat) (h : k ≤ l.length) : cutS (S l) (some (k : Int)) none = S (l.drop k) := by
  have e : (S l).cps.size = l.length := by simp [S]
  unfold cutS
  rw [e, HT.sIx_none, HT.sIx_nat, Nat.min_eq_left h]
  show (⟨((l.toArray.toList.drop k).take (l.length - k)).toArray⟩ : Str) = S (l.drop k)
  simp [S, List.take_of_length_le]
theorem menu_S : Str.ofString "kcxqamzftbje" = S letters := by decide +kernel
theorem signs_S (l : List Nat) : signs (S l) = l.map fun c => V.str (S [c]) := by simp [signs, S]
noncomputable def spHouses : Sp := fun vs H Q _ => ∃ (c : Int) (m : Nat), vs = [.int c, .int m] ∧ m ≤ 12 ∧ ∀ (p : Addr) (H' : Hp), H p = none → Same H H' → H' p = some (.lst (txs (housesL c m))) → Q (.ref p) H'
noncomputable def putIn (c : Int) : L2.V → L2.V
  | .str z => .str (S ((wordL c).take (hat c)) ++ z ++ S ((wordL c).drop (hat c)))
  | v => v
noncomputable def rdV (hs : List (List Nat)) (r : M1.Rd) : List L2.V := [.str (S (hs.getD r.a [])), .str (S (hs.getD r.b [])), .int r.t, .int r.m]
noncomputable def Tups (H : Hp) : List Addr → List (List L2.V) → Prop := Paired fun r d => H r = some (.tup d)
theorem Tups.same {H H' : Hp} (sm : Same H H') {rs ds} (h : Tups H rs ds) : Tups H' rs ds := Paired.mapP h fun _ _ e => sm _ _ e
noncomputable def refs (rs : List Addr) : List L2.V := rs.map V.ref
theorem Paired.snoc {α β : Type} {F : α → β → Prop} {x : α} {y : β} (q : F x y) : ∀ {l : List α} {m : List β}, Paired F l m → Paired F (l ++ [x]) (m ++ [y])
  | _, _, .nil => .cons q .nil
  | _, _, .cons r t => .cons r (Paired.snoc q t)
theorem txs_at {hs : List (List Nat)} {k : Int} (h0 : 0 ≤ k) (h1 : k < hs.length) : atI (txs hs) k = some (V.str (S (hs.getD k.toNat []))) := by
  have h2 : k.toNat < hs.length := by omega
  have e : (txs hs)[k.toNat]? = some (V.str (S (hs.getD k.toNat []))) := by
    unfold txs
    rw [List.getElem?_map, List.getElem?_eq_getElem h2]
    simp [List.getD, h2]
  have := atI_nat e
  rwa [Int.toNat_of_nonneg h0] at this
theorem txs_len (hs : List (List Nat)) : (txs hs).length = hs.length := List.length_map ..
noncomputable def nRoads : List Str := ["_law_cells", "_law_houses_here", "_law_long", "_law_roads_here", "_law_cell", "_law_n", "_law_begin", "_law_end", "_law_room"]
theorem upd_other {H H' : Hp} {p : Addr} {o : HO} (hp : H p = none) (sm : Same H H') : Same H (upd H' p o) := fun b u e => by
  rw [upd_ne (ne_of_none e hp)]
  exact sm b u e
theorem Tups.upd {H : Hp} {p : Addr} {o u : HO} {rs ds} (h : Tups H rs ds) (e : H p = some u) (hu : ∀ d, u ≠ .tup d) : Tups (upd H p o) rs ds := Paired.mapP h fun r d q => by
  rw [upd_ne]
  · exact q
  · rintro rfl
    rw [e] at q
    exact hu d (Option.some.inj q)
theorem refs_snoc (rs : List Addr) (t : Addr) : refs rs ++ [V.ref t] = refs (rs ++ [t]) := by simp [refs]
theorem refs_len (rs : List Addr) : (refs rs).length = rs.length := List.length_map ..
theorem Tups.len {H rs ds} (h : Tups H rs ds) : rs.length = ds.length := Paired.length h
theorem upd_free {H : Hp} {t : Addr} {o : HO} (ht : H t = none) : Same H (upd H t o) := fun b u e => by
  rw [upd_ne (ne_of_none e ht)]
  exact e
theorem iteB {b : Bool} {A B : Prop} (h : b = true) (q : A) : if b = true then A else B := by rw [if_pos h]; exact q
theorem iteN {b : Bool} {A B : Prop} (h : b = false) (q : B) : if b = true then A else B := by subst h; exact q
theorem bl_of {R : VK} {b : Bool} {H : Hp} (e : b = true) (h : R (.bl true) H) : R (.bl b) H := by rw [e]; exact h
theorem map_true (xs : List L2.V) : xs.map (fun _ => V.bl true) = (List.replicate xs.length true).map V.bl := by
  induction xs with
  | nil => rfl
  | cons x r ih => simp [List.replicate_succ, ih]
theorem all_true (n : Nat) : (List.replicate n true).all id = true := by
  rw [List.all_eq_true]
  intro x hx
  exact (List.mem_replicate.mp hx).2
structure Kit (K : PySem.W.Frag) : Prop where
  ib : PySem.W.kitOne K (.type "int") (.type "bool") = some false
noncomputable def spWhole : Sp := fun vs H Q _ => ∃ i : Int, vs = [.int i] ∧ Q (.bl true) H
noncomputable def spWithin : Sp := fun vs H Q _ => ∃ i a b : Int, vs = [.int i, .int a, .int b] ∧ a ≤ i ∧ i ≤ b ∧ Q (.bl true) H
noncomputable def spTupOf : Sp := fun vs H Q _ => ∃ (r : Addr) (xs : List L2.V) (n : Int), vs = [.ref r, .int n] ∧ H r = some (.tup xs) ∧ (xs.length : Int) = n ∧ Q (.bl true) H
theorem flat_strs (ys : List Str) : (ys.map V.str).all flatV = true := by
  rw [List.all_eq_true]
  intro x hx
  obtain ⟨y, _, rfl⟩ := List.mem_map.mp hx
  rfl
theorem in_strs {ys : List Str} {x : Str} (h : x ∈ ys) : inV (.str x) (ys.map V.str) = true := by
  unfold inV
  rw [List.any_eq_true]
  exact ⟨.str x, List.mem_map.mpr ⟨x, h, rfl⟩, by show (x == x) = true; exact beq_self_eq_true x⟩
noncomputable def spUnlike (K : PySem.W.Frag) : Sp := fun vs H Q _ => ∃ (a : Addr) (ys : List Str) (x y : Str), vs = [.ref a, .str x, .str y] ∧ SqL K H a (ys.map V.str) ∧ x ∈ ys ∧ y ∈ ys ∧ x ≠ y ∧ Q (.bl true) H
theorem sA : Str.ofString "a" = ⟨#[97]⟩ := by decide +kernel
theorem sZ : Str.ofString "z" = ⟨#[122]⟩ := by decide +kernel
noncomputable def spName : Sp := fun vs H Q _ => ∃ l : List Nat, vs = [.str (S l)] ∧ Nm l ∧ ∀ H', Same H H' → Q (.bl true) H'
structure Csts (mg : Str → Option Value) : Prop where
  MOST_HOUSES : Cst mg "MOST_HOUSES" 12
  MOST_ROADS : Cst mg "MOST_ROADS" 40
  MOST_SIGNS : Cst mg "MOST_SIGNS" 8
  MOST_TURNS : Cst mg "MOST_TURNS" 9
  MOST_ROOM : Cst mg "MOST_ROOM" 1000000000
theorem S_inj {a b : List Nat} (h : S a = S b) : a = b := by
  have := congrArg (fun x => x.cps.toList) h
  simpa [S] using this
theorem nodup_S {hs : List (List Nat)} (h : hs.Nodup) : ∀ i j, i < j → j < (hs.map S).length → (hs.map S).getD i Str.empty ≠ (hs.map S).getD j Str.empty := by
  intro i j hij hj e
  rw [List.length_map] at hj
  have hi : i < hs.length := by omega
  rw [List.getD, List.getD, List.getElem?_map, List.getElem?_map, List.getElem?_eq_getElem hi, List.getElem?_eq_getElem hj] at e
  have e2 := S_inj (show S hs[i] = S hs[j] from e)
  exact List.pairwise_iff_getElem.mp h i j hi hj hij e2
structure Good (hs : List (List Nat)) : Prop where
  nm : ∀ x ∈ hs, Nm x
  nd : hs.Nodup
  few : hs.length ≤ 12
noncomputable def spAreH : Sp := fun vs H Q _ => ∃ (a : Addr) (hs : List (List Nat)), vs = [.ref a] ∧ H a = some (.lst (txs hs)) ∧ Good hs ∧ ∀ H', Same H H' → Q (.bl true) H'
theorem Paired.get {α β : Type} {F : α → β → Prop} : ∀ {l : List α} {m : List β} {i : Nat} {x : α}, Paired F l m → l[i]? = some x → ∃ y, m[i]? = some y ∧ F x y
  | _, _, _, _, .nil, e => by simp at e
  | _, _, 0, _, .cons r _, e => by simp at e; subst e; exact ⟨_, rfl, r⟩
  | _, _, i + 1, x, .cons _ t, e => by
    obtain ⟨y, h1, h2⟩ := Paired.get (i := i) (x := x) t (by simpa using e)
    exact ⟨y, by simpa using h1, h2⟩
structure RoadsAt (H : Hp) (hs : List (List Nat)) (rs : List Addr) (ds : List M1.Rd) : Prop where
  tups : Tups H rs (ds.map (rdV hs))
  ok : ∀ d ∈ ds, d.Ok hs.length
theorem RoadsAt.same {H H' : Hp} {hs rs ds} (r : RoadsAt H hs rs ds) (sm : Same H H') : RoadsAt H' hs rs ds := ⟨r.tups.same sm, r.ok⟩
theorem RoadsAt.get {H : Hp} {hs rs ds} {i : Nat} {r : Addr} (q : RoadsAt H hs rs ds) (e : rs[i]? = some r) : ∃ d, ds[i]? = some d ∧ d.Ok hs.length ∧ H r = some (.tup (rdV hs d)) := by
  obtain ⟨y, h1, h2⟩ := Paired.get q.tups e
  rw [List.getElem?_map] at h1
  obtain ⟨d, hd, rfl⟩ := Option.map_eq_some_iff.mp h1
  exact ⟨d, hd, q.ok d (List.mem_of_getElem? hd), h2⟩
theorem RoadsAt.len {H : Hp} {hs rs ds} (q : RoadsAt H hs rs ds) : rs.length = ds.length := by
  have := q.tups.len
  rwa [List.length_map] at this
theorem mem_at {hs : List (List Nat)} {a : Nat} (h : a < hs.length) : S (hs.getD a []) ∈ hs.map S := by
  refine List.mem_map.mpr ⟨hs.getD a [], ?_, rfl⟩
  rw [List.getD, List.getElem?_eq_getElem h]
  exact List.getElem_mem h
theorem ne_at {hs : List (List Nat)} {a b : Nat} (nd : hs.Nodup) (ha : a < hs.length) (hb : b < hs.length) (ne : a ≠ b) : S (hs.getD a []) ≠ S (hs.getD b []) := by
  intro e
  have e2 := S_inj e
  rw [List.getD, List.getD, List.getElem?_eq_getElem ha, List.getElem?_eq_getElem hb] at e2
  rcases Nat.lt_or_gt_of_ne ne with h | h
  · exact List.pairwise_iff_getElem.mp nd a b ha hb h e2
  · exact List.pairwise_iff_getElem.mp nd b a hb ha h e2.symm
noncomputable def spRoad (K : PySem.W.Frag) : Sp := fun vs H Q _ => ∃ (a r : Addr) (hs : List (List Nat)) (d : M1.Rd), vs = [.ref a, .ref r] ∧ SqL K H a (txs hs) ∧ hs.Nodup ∧ d.Ok hs.length ∧ H r = some (.tup (rdV hs d)) ∧ Q (.bl true) H
noncomputable def spAreR (K : PySem.W.Frag) : Sp := fun vs H Q _ => ∃ (a b : Addr) (hs : List (List Nat)) (rs : List Addr) (ds : List M1.Rd), vs = [.ref a, .ref b] ∧ SqL K H a (txs hs) ∧ hs.Nodup ∧ H b = some (.lst (refs rs)) ∧ RoadsAt H hs rs ds ∧ rs.length ≤ 40 ∧ ∀ H', Same H H' → Q (.bl true) H'
noncomputable def SameBut (x : Addr) (H H' : Hp) : Prop := ∀ b o, b ≠ x → H b = some o → H' b = some o
noncomputable def netF (a b : Addr) : List (Str × L2.V) := [("kept_houses", .ref a), ("kept_roads", .ref b)]
structure NetC (K : PySem.W.Frag) (C : Addr) : Prop where
  cl : Cls K C
  nh : NoAttr K C "kept_houses"
  nr : NoAttr K C "kept_roads"
noncomputable def spInit (K : PySem.W.Frag) (C : Addr) : Sp := fun vs H Q _ => ∃ (x dx a b : Addr) (hs : List (List Nat)) (rs : List Addr) (ds : List M1.Rd), vs = [.ref x, .ref a, .ref b] ∧ H x = some (.ins C dx []) ∧ H a = some (.lst (txs hs)) ∧ Good hs ∧
  H b = some (.lst (refs rs)) ∧ RoadsAt H hs rs ds ∧ rs.length ≤ 40 ∧
  ∀ (H' : Hp) (a' b' : Addr), SameBut x H H' → H' x = some (.ins C dx (netF a' b')) → H' a' = some (.lst (txs hs)) → H' b' = some (.lst (refs rs)) → H a' = none → H b' = none → Q .non H'
structure NetAt (C : Addr) (H : Hp) (x a' b' : Addr) (xs ys : List L2.V) : Prop where
  ins : ∃ dx, H x = some (.ins C dx (netF a' b'))
  hou : H a' = some (.lst xs)
  roa : H b' = some (.lst ys)
theorem NetAt.same {C : Addr} {H H' : Hp} {x a' b' : Addr} {xs ys : List L2.V} (n : NetAt C H x a' b' xs ys) (sm : Same H H') : NetAt C H' x a' b' xs ys :=
  let ⟨dx, h⟩ := n.ins
  ⟨⟨dx, sm _ _ h⟩, sm _ _ n.hou, sm _ _ n.roa⟩
noncomputable def spRoadsM (C : Addr) : Sp := fun vs H Q _ => ∃ (x a' b' : Addr) (xs ys : List L2.V), vs = [.ref x] ∧ NetAt C H x a' b' xs ys ∧ ∀ l, H l = none → Q (.ref l) (upd H l (.lst ys))
noncomputable def hD (hs : List (List Nat)) : List PyData := (hs.map S).map PyData.str
theorem refs_at {rs : List Addr} {i : Nat} {r : Addr} (e : rs[i]? = some r) : atI (refs rs) ((0 : Int) + (i : Int)) = some (V.ref r) := by
  rw [Int.zero_add]
  refine atI_nat ?_
  unfold refs
  rw [List.getElem?_map, e]
  rfl
theorem make_same {Hc H4 : Hp} {x dx : Addr} {o u : HO} (hx : Hc x = none) (hd : Hc dx = none) (sb : SameBut x (upd (upd Hc dx o) x u) H4) : Same Hc H4 := fun b v e => by
  have n1 := ne_of_none e hx
  have n2 := ne_of_none e hd
  refine sb b v n1 ?_
  rw [upd_ne n1, upd_ne n2]
  exact e
theorem houses_good (c : Int) (m : Nat) (h : m ≤ 12) : Good (housesL c m) := ⟨houses_nm c m, houses_nd c m, by rw [houses_len c m h]; exact h⟩
noncomputable def spLaw (K : PySem.W.Frag) : Sp := fun vs H Q _ => ∃ (a : Addr) (ns : List Int), vs = [.ref a] ∧ SqL K H a (ns.map V.int) ∧ ns.length ≤ 63 ∧ ∀ H', Q (.bl true) H'
theorem kit_ib (K : PySem.W.Frag) : PySem.W.kitOne K (.type "int") (.type "bool") = some false := by
  show (if (Value.type "int" == Value.type "bool") = true then some true else if PySem.W.kitMeta "bool" = true then (fastBuiltinMro "int").map (·.contains (.type "bool")) else none) = some false
  decide +kernel
theorem ne_int {i j : Int} (h : i ≠ j) : decide (V.int i = V.int j) = false := decide_eq_false fun z => h (V.int.inj z)
end
end K1
set_option Elab.async false
set_option linter.all false
set_option maxRecDepth 100000
set_option maxHeartbeats 4000000
namespace K1
open PySem L2 L3 M1
end K1
set_option Elab.async false
set_option linter.all false
set_option maxRecDepth 100000
set_option maxHeartbeats 4000000
namespace K1
open PySem PySem.Spec PyProof.Rows L2 L3 M1
structure Pd where
  p : Hp → L2.V → Prop
  up : ∀ {H H' : Hp} {v : L2.V}, Same H H' → p H v → p H' v
section
variable {X : Cx} {e a b : Expr} {es : List Expr} {pos p2 : Pos} {Γ : List (Option Pd)} {A B R : Pd}
variable {i j : Int}
variable {st : List Stmt}
end
section
variable {X : Cx} {K : PySem.W.Frag} {o e : Expr} {es : List Expr} {to : TE} {t : TA} {name : Str} {apos cpos : Pos} {T id : String} {r : L2.V → List L2.V → Hp → VK → Prop}
end
end K1
set_option Elab.async false
set_option linter.all false
set_option maxRecDepth 100000
set_option maxHeartbeats 4000000
namespace K1
open PySem L2 L3 M1
noncomputable abbrev L (x : String) : Str := Str.ofString x
noncomputable def DN (x p : Str) : List PyData := [.str (L ""), .str (x ++ L "A"), .str (cutS x none (some ((x.length : Int) - 1)) ++ L "9"), .str (L "abcdefghi"), .int 7, .none, .list [.str (L "a")], .str p, .str (L "a b"), .str (x ++ L "_")] ++ [.bool true]
noncomputable def dN (x p : Str) (c : Int) : PyData := (DN x p).getD (c % 11).toNat .none
end K1
set_option Elab.async false
set_option linter.all false
set_option maxRecDepth 100000
set_option maxHeartbeats 4000000
namespace K1
open PySem L2 L3 M1
theorem tlc_tup {wi : TI} {cs : List (Option Nat)} {te : TE} {σ rest : L2.St} {H H1 : Hp} {Q : VK} {J : It} {xs : List L2.V} (hw : ∀ R : It → Hp → Prop, R J H1 → wi σ H R) (hcs : caps cs σ = none :: rest) (wk : Wk J H1 xs) (hl : xs.length < sizeLine) (f : L2.V → List L2.V)
    (elt : ∀ (i : Nat) (x : L2.V) (H2 : Hp) (R : VK), xs[i]? = some x → Same H1 H2 → (∀ r H5, Same H2 H5 → H5 r = some (.tup (f x)) → R (.ref r) H5) → te (some x :: rest) H2 R)
    (fin : ∀ (D : Addr) (H' : Hp) (rs : List Addr), H1 D = none → H' D = some (.lst (refs rs)) → Tups H' rs (xs.map f) → Same H1 H' → Q (.ref D) H') : tLC wi cs (gName 0) tAll te σ H Q := by
  refine hw _ fun D hD => ?_
  refine ⟨fun i m ys σ' H' => m = xs.length - i ∧ i ≤ xs.length ∧ (∃ rs, ys = refs rs ∧ Tups H' rs ((xs.take i).map f)) ∧ (∃ o, σ' = o :: rest) ∧ Same H1 H' ∧ H' D = some (.lst ys), ⟨xs.length, by simp, Nat.zero_le _, ⟨[], rfl, .nil⟩, ⟨none, hcs⟩, fun b o e => ?_, upd_same⟩, ?_⟩
  · rw [upd_ne (ne_of_none e hD)]
    exact e
  · rintro i m ys σ' H' ⟨rfl, hi, ⟨rs, rfl, tp⟩, ⟨o, rfl⟩, sm, hHD⟩
    obtain ⟨w1, w2, w3⟩ := wk H' sm
    have ln := tp.len
    rw [List.length_map, List.length_take, Nat.min_eq_left hi] at ln
    refine ⟨hHD, Nat.lt_of_le_of_lt (by rw [refs_len]; omega) hl, ?_⟩
    by_cases hlt : i < xs.length
    · refine .inr ⟨w2 i hlt, fun x H2 y => ?_⟩
      obtain ⟨rfl, ex⟩ := w3 i x H2 hlt y
      have tk : xs.take (i + 1) = xs.take i ++ [x] := by rw [List.take_add_one, ex]; rfl
      show te (some x :: rest) H2 _
      refine elt i x H2 _ ex sm fun r H5 s5 hr => ⟨s5 _ _ hHD, xs.length - (i + 1), by omega, rfl, hlt, ⟨rs ++ [r], refs_snoc rs r, ?_⟩, ⟨_, rfl⟩, fun b ob e => ?_, upd_same⟩
      · rw [tk, List.map_append]
        exact Tups.upd (Paired.snoc (F := fun r d => H5 r = some (.tup d)) hr (tp.same s5)) (s5 _ _ hHD) (by intro d z; cases z)
      · rw [upd_ne (ne_of_none e hD)]
        exact s5 _ _ (sm _ _ e)
    · have e : i = xs.length := by omega
      subst e
      rw [List.take_length] at tp
      exact .inl ⟨w1, fin D H' rs hD hHD tp sm⟩
section
variable {X : Cx} {Γ : List (Option Pd)} {A : Pd} {a b c e : Expr} {pos p2 : Pos}
end
end K1
set_option Elab.async false
set_option linter.all false
set_option maxRecDepth 100000
set_option maxHeartbeats 4000000
namespace K1
open PySem L2 L3 M1
theorem tlc_fi {wi : TI} {cs : List (Option Nat)} {tt : TT} {te : TE} {σ rest : L2.St} {H H1 : Hp} {Q : VK} {J : It} {xs : List L2.V} (hw : ∀ R : It → Hp → Prop, R J H1 → wi σ H R) (hcs : caps cs σ = none :: rest) (wk : Wk J H1 xs) (hl : xs.length < sizeLine) (p : Nat → Bool) (f : Nat → L2.V)
    (test : ∀ (i : Nat) (x : L2.V) (H2 : Hp) (R : Bool → Hp → Prop), xs[i]? = some x → Same H1 H2 → (∀ H5, Same H2 H5 → R (p i) H5) → tt (some x :: rest) H2 R)
    (elt : ∀ (i : Nat) (x : L2.V) (H2 : Hp) (R : VK), xs[i]? = some x → p i = true → Same H1 H2 → (∀ H5, Same H2 H5 → R (f i) H5) → te (some x :: rest) H2 R)
    (fin : ∀ (D : Addr) (H' : Hp), H1 D = none → H' D = some (.lst (((List.range xs.length).filter p).map f)) → Same H1 H' → Q (.ref D) H') : tLC wi cs (gName 0) tt te σ H Q := by
  refine hw _ fun D hD => ?_
  refine ⟨fun i m ys σ' H' => m = xs.length - i ∧ i ≤ xs.length ∧ ys = ((List.range i).filter p).map f ∧ (∃ o, σ' = o :: rest) ∧ Same H1 H' ∧ H' D = some (.lst ys), ⟨xs.length, by simp, Nat.zero_le _, rfl, ⟨none, by rw [hcs]⟩, fun b o e => ?_, upd_same⟩, ?_⟩
  · rw [upd_ne (ne_of_none e hD)]
    exact e
  · rintro i m ys σ' H' ⟨rfl, hi, rfl, ⟨o, rfl⟩, sm, hHD⟩
    obtain ⟨w1, w2, w3⟩ := wk H' sm
    refine ⟨hHD, Nat.lt_of_le_of_lt ?_ hl, ?_⟩
    · rw [List.length_map]
      refine Nat.le_trans (List.length_filter_le _ _) ?_
      rw [List.length_range]
      exact hi
    by_cases hlt : i < xs.length
    · refine .inr ⟨w2 i hlt, fun x H2 y => ?_⟩
      obtain ⟨rfl, ex⟩ := w3 i x H2 hlt y
      show tt (some x :: rest) H2 _
      refine test i x H2 _ ex sm fun H4 s4 => ?_
      cases hp : p i with
      | true =>
        refine iteT ?_
        refine elt i x H4 _ ex hp (sm.trans s4) fun H5 s5 => ⟨s5 _ _ (s4 _ _ hHD), xs.length - (i + 1), by omega, rfl, hlt, ?_, ⟨_, rfl⟩, fun b ob e => ?_, upd_same⟩
        · rw [List.range_succ, List.filter_append, List.map_append]
          simp [hp]
        · rw [upd_ne (ne_of_none e hD)]
          exact s5 _ _ (s4 _ _ (sm _ _ e))
      | false =>
        refine iteF ⟨xs.length - (i + 1), by omega, rfl, hlt, ?_, ⟨_, rfl⟩, sm.trans s4, s4 _ _ hHD⟩
        rw [List.range_succ, List.filter_append, List.map_append]
        simp [hp]
    · have e : i = xs.length := by omega
      subst e
      exact .inl ⟨w1, fin D H' hD hHD sm⟩
theorem filter_range_len {α : Type} (q : α → Bool) (d0 : α) : ∀ (ls : List α), ((List.range ls.length).filter fun i => q (ls.getD i d0)).length = (ls.filter q).length := fun ls => by
  have h : ls = (List.range ls.length).map fun i => ls.getD i d0 := by
    apply List.ext_getElem
    · simp
    · intro i h1 h2
      simp [List.getD, h1]
  have e : (ls.filter q).length = (((List.range ls.length).map fun i => ls.getD i d0).filter q).length := by rw [← h]
  rw [e, List.filter_map, List.length_map]
  rfl
theorem gd_of {α : Type} {l : List α} {i : Nat} {x d : α} (e : l[i]? = some x) : l.getD i d = x := by rw [List.getD, e]; rfl
theorem filter_range_map {α β : Type} (q : α → Bool) (g : α → β) (d0 : α) (ls : List α) : (((List.range ls.length).filter fun i => q (ls.getD i d0)).map fun i => g (ls.getD i d0)) = (ls.filter q).map g := by
  have h : ls = (List.range ls.length).map fun i => ls.getD i d0 := by
    apply List.ext_getElem
    · simp
    · intro i h1 h2
      simp [List.getD, h1]
  have e : (ls.filter q).map g = (((List.range ls.length).map fun i => ls.getD i d0).filter q).map g := by rw [← h]
  rw [e, List.filter_map, List.map_map]
  rfl
theorem paired_set {α β : Type} {F : α → β → Prop} {x : α} {y : β} (q : F x y) : ∀ {l : List α} {m : List β} (i : Nat), Paired F l m → Paired F (l.set i x) (m.set i y)
  | _, _, _, .nil => .nil
  | _, _, 0, .cons _ t => .cons q t
  | _, _, i + 1, .cons r t => .cons r (paired_set q i t)
theorem tlc_mS {K : PySem.W.Frag} {wi : TI} {cs : List (Option Nat)} {te : TE} {σ rest : L2.St} {H Hs : Hp} {Q : VK} {xs : List L2.V} (hw : ∀ R : It → Hp → Prop, (∀ p, Hs p = none → R (Itl K p) (upd Hs p (.lst xs))) → wi σ H R) (hcs : caps cs σ = none :: rest) (hl : xs.length < sizeLine) (f : Nat → L2.V)
    (elt : ∀ (i : Nat) (x : L2.V) (H2 : Hp) (R : VK), xs[i]? = some x → Same Hs H2 → (∀ H5, Same H2 H5 → R (f i) H5) → te (some x :: rest) H2 R)
    (fin : ∀ (D : Addr) (H' : Hp), Hs D = none → H' D = some (.lst ((List.range xs.length).map f)) → Same Hs H' → Q (.ref D) H') : tLC wi cs (gName 0) tAll te σ H Q :=
  hw _ fun p hp => tlc_fi (wi := fun _ _ R => R (Itl K p) (upd Hs p (.lst xs))) (H := Hs) (fun R h => h) hcs (wk_list (SqL.of upd_same)) hl (fun _ => true) f (fun i x H2 R ex sm k => k H2 (Same.refl _)) (fun i x H2 R ex _ sm k => elt i x H2 R ex ((upd_free hp).trans sm) k) fun D H' n h2 s => by
    refine fin D H' ?_ ?_ ((upd_free hp).trans s)
    · cases e : Hs D with
      | none => rfl
      | some o => rw [upd_free hp _ _ e] at n; cases n
    · rw [h2, List.filter_eq_self.mpr (fun _ _ => rfl)]
theorem range_getD {α β : Type} (g : α → β) (d0 : α) (ls : List α) : ((List.range ls.length).map fun i => g (ls.getD i d0)) = ls.map g := by
  apply List.ext_getElem
  · simp
  · intro i h1 h2
    simp only [List.length_map, List.length_range] at h1
    simp [List.getD, h1]
end K1
set_option Elab.async false
set_option linter.all false
set_option maxRecDepth 100000
set_option maxHeartbeats 4000000
namespace K1
open PySem L2 L3 M1
section
variable {P : Program} {w : World} {K : PySem.W.Frag} {mg : Str → Option Value} {base : Heap}
noncomputable def top (i : Nat) : Stmt := PySem.Challenge.pw_postroad_k42_whole_no_plan_beats_a_paper.main.body.getD i (.Pass ⟨0, 0, 0, 0⟩)
end
end K1
set_option Elab.async false
set_option linter.all false
set_option maxRecDepth 100000
set_option maxHeartbeats 4000000
namespace K1
open PySem L2 L3 M1
section
variable {P : Program} {w : World} {K : PySem.W.Frag} {mg : Str → Option Value} {base : Heap}
noncomputable abbrev sWhole : Stmt := top 11
noncomputable abbrev sWithin : Stmt := top 12
noncomputable abbrev sTupOf : Stmt := top 13
noncomputable abbrev sUnlike : Stmt := top 14
noncomputable abbrev sName : Stmt := top 21
noncomputable abbrev sAreH : Stmt := top 22
noncomputable abbrev sRoad : Stmt := top 23
noncomputable abbrev sAreR : Stmt := top 24
theorem scWhole : FnScope ["thing"] ["thing"] (defScope sWhole) := ⟨rfl, rfl, rfl, by decide +kernel, rfl, by decide +kernel, by decide +kernel⟩
theorem ok_whole {f : Addr} {fd : FuncData} (F : Fun K "is_whole" "is_whole" sWhole f fd) (B : Blt mg) (KT : Kit K) : FnOk P w K mg base CX0 1 f fd ["thing"] spWhole := by
  refine F.ok scWhole (fun vs H Q E h => ?_) (fun cdv A outer s H vs Q E hr h => ?_)
  · obtain ⟨i, rfl, _⟩ := h
    rfl
  · obtain ⟨i, rfl, q⟩ := h
    refine ⟨_, (pss_one (ps_ret (pe_and (pe_callB call_isi (by rfl) B.isinstance bt_isinstance (pa_cons (pv 0) (pa_cons (pe_bty (by rfl) B.int bt_int) pa_nil))) (pe_one (pe_not (pe_callB call_isi (by rfl) B.isinstance bt_isinstance (pa_cons (pv 0) (pa_cons (pe_bty (by rfl) B.bool bt_bool) pa_nil)))))))), ?_⟩
    refine ⟨_, rfl, _, _, _, _, _, rfl, ⟨rfl, .int _, kit_eq _ _⟩, _, rfl, iteT ?_⟩
    exact ⟨_, rfl, _, _, _, _, _, rfl, ⟨rfl, .int _, KT.ib⟩, _, rfl, q⟩
theorem scWithin : FnScope ["thing", "least", "greatest"] ["thing", "least", "greatest"] (defScope sWithin) := ⟨rfl, rfl, rfl, by decide +kernel, rfl, by decide +kernel, by decide +kernel⟩
theorem ok_within {f fW : Addr} {fd fdW : FuncData} (F : Fun K "is_whole_within" "is_whole_within" sWithin f fd) (D_is_whole : Dn K mg "is_whole" sWhole ["thing"] fW fdW)
    (G_is_whole : FnOk P w K mg base CX0 1 fW fdW ["thing"] spWhole) : FnOk P w K mg base CX0 2 f fd ["thing", "least", "greatest"] spWithin := by
  refine F.ok scWithin (fun vs H Q E h => ?_) (fun cdv A outer s H vs Q E hr h => ?_)
  · obtain ⟨i, a, b, rfl, _⟩ := h
    rfl
  · obtain ⟨i, a, b, rfl, h1, h2, q⟩ := h
    refine ⟨_, (pss_one (ps_ret (pe_and (pe_call G_is_whole (hr.mono (by decide)) (by rfl) D_is_whole.at_ D_is_whole.fn.kp D_is_whole.bd .nil pass0 (pa_cons (pv 0) pa_nil)) (pe_one (pe_chain op_le op_le (pv 1) (pv 0) (pv 2)))))), ?_⟩
    refine ⟨_, rfl, _, rfl, _, rfl, iteT ?_⟩
    exact ⟨_, rfl, _, rfl, _, _, rfl, rfl, _, rfl, iteB (decide_eq_true h1) ⟨_, rfl, _, _, rfl, rfl, bl_of (decide_eq_true h2) q⟩⟩
theorem scTupOf : FnScope ["thing", "length"] ["thing", "length"] (defScope sTupOf) := ⟨rfl, rfl, rfl, by decide +kernel, rfl, by decide +kernel, by decide +kernel⟩
theorem ok_tupOf {f : Addr} {fd : FuncData} (F : Fun K "is_tuple_of" "is_tuple_of" sTupOf f fd) (B : Blt mg) : FnOk P w K mg base CX0 1 f fd ["thing", "length"] spTupOf := by
  refine F.ok scTupOf (fun vs H Q E h => ?_) (fun cdv A outer s H vs Q E hr h => ?_)
  · obtain ⟨r, xs, n, rfl, _⟩ := h
    rfl
  · obtain ⟨r, xs, n, rfl, h1, h2, q⟩ := h
    refine ⟨_, (pss_one (ps_ret (pe_and (pe_callB call_isi (by rfl) B.isinstance bt_isinstance (pa_cons (pv 0) (pa_cons (pe_bty (by rfl) B.tuple bt_tuple) pa_nil))) (pe_one (pe_cmpR op_eq (pe_callB call_len_seq (by rfl) B.len bt_len (pa_cons (pv 0) pa_nil)) (pv 1) (nomark _)))))), ?_⟩
    refine ⟨_, rfl, _, _, _, _, _, rfl, ⟨rfl, .tup h1, kit_eq _ _⟩, _, rfl, iteT ?_⟩
    exact ⟨_, rfl, r, _, rfl, .inr (SqT.of h1), _, rfl, rfl, bl_of (decide_eq_true (congrArg V.int h2)) q⟩
theorem scUnlike : FnScope ["houses", "one", "other"] ["houses", "one", "other"] (defScope sUnlike) := ⟨rfl, rfl, rfl, by decide +kernel, rfl, by decide +kernel, by decide +kernel⟩
theorem ok_unlike {f : Addr} {fd : FuncData} (F : Fun K "are_unlike_houses" "are_unlike_houses" sUnlike f fd) : FnOk P w K mg base CX0 1 f fd ["houses", "one", "other"] (spUnlike K) := by
  refine F.ok scUnlike (fun vs H Q E h => ?_) (fun cdv A outer s H vs Q E hr h => ?_)
  · obtain ⟨a, ys, x, y, rfl, _⟩ := h
    rfl
  · obtain ⟨a, ys, x, y, rfl, hS, hx, hy, ne, q⟩ := h
    refine ⟨_, (pss_one (ps_ret (pe_and (pe_cmpR op_in_seq (pv 1) (pv 0) (by rfl)) (pe_and (pe_cmpR op_in_seq (pv 2) (pv 0) (by rfl)) (pe_one (pe_cmpR op_ne (pv 1) (pv 2) (nomark _))))))), ?_⟩
    refine ⟨_, rfl, _, rfl, a, _, rfl, .inl hS, rfl, flat_strs ys, _, rfl, iteB (in_strs hx) ?_⟩
    refine ⟨_, rfl, _, rfl, a, _, rfl, .inl hS, rfl, flat_strs ys, _, rfl, iteB (in_strs hy) ?_⟩
    refine ⟨_, rfl, _, rfl, rfl, bl_of ?_ q⟩
    rw [decide_eq_false (fun z => ne (V.str.inj z))]
    rfl
theorem scName : FnScope ["thing"] ["thing"] (defScope sName) := ⟨rfl, rfl, rfl, by decide +kernel, rfl, by decide +kernel, by decide +kernel⟩
theorem ok_name {f : Addr} {fd : FuncData} (F : Fun K "is_name" "is_name" sName f fd) (B : Blt mg) (Cn : Csts mg) : FnOk P w K mg base CX0 1 f fd ["thing"] spName := by
  refine F.ok scName (fun vs H Q E h => ?_) (fun cdv A outer s H vs Q E hr h => ?_)
  · obtain ⟨l, rfl, _⟩ := h
    rfl
  · obtain ⟨l, rfl, hN, q⟩ := h
    refine ⟨_, (pss_cons (ps_if (PW.pt (pw_or (pt_not (pt_val (pe_callB call_isi (by rfl) B.isinstance bt_isinstance (pa_cons (pv 0) (pa_cons (pe_bty (by rfl) B.str bt_str) pa_nil))))) (pw_or1 (pt_not (pt_chain op_le op_le pe_int (pe_callB call_len_str (by rfl) B.len bt_len (pa_cons (pv 0) pa_nil)) (pe_const (by rfl) Cn.MOST_SIGNS)))))) (pss_one (ps_ret pe_bl)) pss_nil)
      (pss_one (ps_ret (pe_callB (call_all rfl) (by rfl) B.all_ bt_all (pa_cons (pe_lc (N' := ["sign"]) (cs := [none]) rfl (pi_str (pv 0)) rfl (by decide +kernel) rfl (by decide +kernel) (sub_of (fun p hp => absurd hp (List.not_mem_nil))) rfl
        (.own .nil)
        (fun C s3 H3 fp pn => ⟨(pg_name (i := 0) (by show (["sign"] : List Str).Nodup; decide +kernel) rfl (.inl rfl)), pif_nil, (pe_chain op_le_str op_le_str pe_str (pv 0) pe_str)⟩)) pa_nil))))), ?_⟩
    have hl := S_len l
    have hz : (S l).length ≤ sizeLine := Nat.le_of_lt (small1000 (by rw [hl]; have := hN.2.1; omega))
    have h1 : (1 : Int) ≤ ((S l).length : Int) := by have := hN.1; omega
    have h8 : ((S l).length : Int) ≤ 8 := by have := hN.2.1; omega
    refine ⟨_, rfl, _, _, _, _, _, rfl, ⟨rfl, .str _, kit_eq _ _⟩, _, rfl, iteF ?_⟩
    refine ⟨_, rfl, _, rfl, hz, _, _, rfl, rfl, _, rfl, iteB (decide_eq_true h1) ⟨_, _, rfl, rfl, _, rfl, iteNS h8 ?_⟩⟩
    dsimp only [tNext, tRet, tAndV, tCB, tCons]
    refine tlc_map (J := Its (S l)) (H1 := H) (xs := signs (S l)) (rest := []) (fun R h => ⟨_, rfl, _, rfl, h⟩) rfl (wk_str _) (small1000 ?_) (fun _ => .bl true) (fun i x H2 R ex sm hR => ?_) (fun D H' h1 h2 h3 => ?_)
    · rw [signs_S, List.length_map]
      have := hN.2.1
      omega
    · rw [signs_S] at ex
      obtain ⟨k, hk, rfl⟩ := List.mem_map.mp (List.mem_of_getElem? ex)
      have hk2 := hN.2.2 k hk
      have e1 : (!decide ((S [k]).cps.toList < (Str.ofString "a").cps.toList)) = true := by
        rw [sA]
        exact (le_one k 97).trans (decide_eq_true hk2.1)
      have e2 : (!decide ((Str.ofString "z").cps.toList < (S [k]).cps.toList)) = true := by
        rw [sZ]
        exact (le_one 122 k).trans (decide_eq_true hk2.2)
      exact ⟨_, rfl, _, _, rfl, rfl, _, rfl, iteB e1 ⟨_, _, rfl, rfl, bl_of e2 (hR H2 (Same.refl _))⟩⟩
    · exact ⟨D, List.replicate (signs (S l)).length true, rfl, SqL.of (by rw [h2, map_true]), bl_of (all_true _) (q H' h3)⟩
theorem scAreH : FnScope ["things"] ["things"] (defScope sAreH) := ⟨rfl, rfl, rfl, by decide +kernel, rfl, by decide +kernel, by decide +kernel⟩
theorem ok_areH {f fN : Addr} {fd fdN : FuncData} (F : Fun K "are_houses" "are_houses" sAreH f fd) (B : Blt mg) (Cn : Csts mg) (D_is_name : Dn K mg "is_name" sName ["thing"] fN fdN) (G_is_name : FnOk P w K mg base CX0 1 fN fdN ["thing"] spName) :
    FnOk P w K mg base CX0 2 f fd ["things"] spAreH := by
  refine F.ok scAreH (fun vs H Q E h => ?_) (fun cdv A outer s H vs Q E hr h => ?_)
  · obtain ⟨a, hs, rfl, _⟩ := h
    rfl
  · obtain ⟨a, hs, rfl, ha, hG, q⟩ := h
    refine ⟨_, (pss_cons (ps_if (PW.pt (pw_or (pt_not (pt_val (pe_callB call_isi (by rfl) B.isinstance bt_isinstance (pa_cons (pv 0) (pa_cons (pe_bty (by rfl) B.list bt_list) pa_nil))))) (pw_or1 (pt_cmpR op_gt (pe_callB call_len_seq (by rfl) B.len bt_len (pa_cons (pv 0) pa_nil)) (pe_const (by rfl) Cn.MOST_HOUSES) (nomark _))))) (pss_one (ps_ret pe_bl)) pss_nil)
      (pss_one (ps_ret (pe_and (pe_callB (call_all rfl) (by rfl) B.all_ bt_all (pa_cons (pe_lc (N' := ["thing"]) (cs := [none]) rfl (pi_list (pv 0)) rfl (by decide +kernel) rfl (by decide +kernel) (sub_of (fun p hp => absurd hp (List.not_mem_nil))) rfl
        (.own .nil)
        (fun C s3 H3 fp pn => ⟨(pg_name (i := 0) (by show (["thing"] : List Str).Nodup; decide +kernel) rfl (.inl rfl)), pif_nil, (pe_call G_is_name (hr.mono (by decide)) (by rfl) D_is_name.at_ D_is_name.fn.kp D_is_name.bd .nil pass0 (pa_cons (pv 0) pa_nil))⟩)) pa_nil)) (pe_one (pe_cmpR op_eq (pe_callB call_len_setO (by rfl) B.len bt_len (pa_cons (pe_callTy (call_set rfl) (by rfl) B.set_ bt_set (pa_cons (pv 0) pa_nil)) pa_nil)) (pe_callB call_len_seq (by rfl) B.len bt_len (pa_cons (pv 0) pa_nil)) (nomark _))))))), ?_⟩
    have hl := txs_len hs
    have hf := hG.few
    refine ⟨_, rfl, _, _, _, _, _, rfl, ⟨rfl, .lst ha, kit_eq _ _⟩, _, rfl, iteF ?_⟩
    refine ⟨_, rfl, a, _, rfl, .inl (SqL.of ha), _, _, rfl, rfl, _, rfl, iteN (decide_eq_false (by omega)) ?_⟩
    dsimp only [tNext, tRet, tAndV, tCB, tCons]
    refine tlc_map (J := Itl K a) (H1 := H) (xs := txs hs) (rest := []) (fun R h => ⟨_, rfl, a, rfl, ⟨_, SqL.of ha⟩, h⟩) rfl (wk_list (SqL.of ha)) (small1000 (by omega)) (fun _ => .bl true) (fun i x H2 R ex sm hR => ?_) (fun D H' h1 h2 h3 => ?_)
    · obtain ⟨l, hl', rfl⟩ := List.mem_map.mp (List.mem_of_getElem? ex)
      exact ⟨_, rfl, l, rfl, hG.nm l hl', fun H' sm' => hR H' sm'⟩
    · refine ⟨D, List.replicate (txs hs).length true, rfl, SqL.of (by rw [h2, map_true]), _, rfl, iteB (all_true _) ?_⟩
      have ha' := h3 _ _ ha
      refine ⟨_, rfl, a, hs.map S, rfl, SqL.of (by rw [ha', txs_map]), (by rw [List.length_map]; omega), fun p hp => ?_⟩
      have s2 : Same H' (upd H' p (setO P w p (cntS (fun i => (hs.map S).getD i Str.empty) (hs.map S).length))) := upd_free hp
      refine ⟨p, _, rfl, upd_same, _, rfl, a, _, rfl, .inl (SqL.of (s2 _ _ ha')), rfl, bl_of (decide_eq_true ?_) (q _ (h3.trans s2))⟩
      rw [cntS_all _ _ (nodup_S hG.nd), List.length_map, hl]
theorem scRoad : FnScope ["houses", "thing"] ["houses", "thing"] (defScope sRoad) := ⟨rfl, rfl, rfl, by decide +kernel, rfl, by decide +kernel, by decide +kernel⟩
theorem ok_road {f f1 f2 f3 : Addr} {fd fd1 fd2 fd3 : FuncData} (F : Fun K "is_road" "is_road" sRoad f fd) (Cn : Csts mg)
    (D_is_tuple_of : Dn K mg "is_tuple_of" sTupOf ["thing", "length"] f1 fd1) (G_is_tuple_of : FnOk P w K mg base CX0 1 f1 fd1 ["thing", "length"] spTupOf)
    (D_are_unlike_houses : Dn K mg "are_unlike_houses" sUnlike ["houses", "one", "other"] f2 fd2) (G_are_unlike_houses : FnOk P w K mg base CX0 1 f2 fd2 ["houses", "one", "other"] (spUnlike K))
    (D_is_whole_within : Dn K mg "is_whole_within" sWithin ["thing", "least", "greatest"] f3 fd3) (G_is_whole_within : FnOk P w K mg base CX0 2 f3 fd3 ["thing", "least", "greatest"] spWithin) :
    FnOk P w K mg base CX0 3 f fd ["houses", "thing"] (spRoad K) := by
  refine F.ok scRoad (fun vs H Q E h => ?_) (fun cdv A outer s H vs Q E hr h => ?_)
  · obtain ⟨a, r, hs, d, rfl, _⟩ := h
    rfl
  · obtain ⟨a, r, hs, d, rfl, hS, nd, ok, hr', q⟩ := h
    refine ⟨_, (pss_one (ps_ret (pe_and (pe_call G_is_tuple_of (hr.mono (by decide)) (by rfl) D_is_tuple_of.at_ D_is_tuple_of.fn.kp D_is_tuple_of.bd .nil pass0 (pa_cons (pv 1) (pa_cons pe_int pa_nil))) (pe_and (pe_call G_are_unlike_houses (hr.mono (by decide)) (by rfl) D_are_unlike_houses.at_ D_are_unlike_houses.fn.kp D_are_unlike_houses.bd .nil pass0 (pa_cons (pv 0) (pa_cons (pe_ix ix_tup (pv 1) pe_int (fun _ _ => rfl)) (pa_cons (pe_ix ix_tup (pv 1) pe_int (fun _ _ => rfl)) pa_nil)))) (pe_and (pe_call G_is_whole_within (hr.mono (by decide)) (by rfl) D_is_whole_within.at_ D_is_whole_within.fn.kp D_is_whole_within.bd .nil pass0 (pa_cons (pe_ix ix_tup (pv 1) pe_int (fun _ _ => rfl)) (pa_cons pe_int (pa_cons (pe_const (by rfl) Cn.MOST_TURNS) pa_nil)))) (pe_one (pe_call G_is_whole_within (hr.mono (by decide)) (by rfl) D_is_whole_within.at_ D_is_whole_within.fn.kp D_is_whole_within.bd .nil pass0 (pa_cons (pe_ix ix_tup (pv 1) pe_int (fun _ _ => rfl)) (pa_cons pe_int (pa_cons (pe_const (by rfl) Cn.MOST_ROOM) pa_nil)))))))))), ?_⟩
    have hS' : SqL K H a ((hs.map S).map V.str) := by rw [← txs_map]; exact hS
    refine ⟨_, rfl, r, _, _, rfl, hr', rfl, _, rfl, iteT ?_⟩
    refine ⟨_, rfl, _, rfl, r, _, _, _, rfl, rfl, SqT.of hr', rfl, _, rfl, r, _, _, _, rfl, rfl, SqT.of hr', rfl, a, hs.map S, _, _, rfl, hS', mem_at ok.a, mem_at ok.b, ne_at nd ok.a ok.b ok.ne, _, rfl, iteT ?_⟩
    refine ⟨_, rfl, r, _, _, _, rfl, rfl, SqT.of hr', rfl, _, _, _, rfl, ok.t.1, ok.t.2, _, rfl, iteT ?_⟩
    exact ⟨_, rfl, r, _, _, _, rfl, rfl, SqT.of hr', rfl, _, _, _, rfl, ok.m.1, ok.m.2, q⟩
theorem scAreR : FnScope ["houses", "things"] ["houses", "things"] (defScope sAreR) := ⟨rfl, rfl, rfl, by decide +kernel, rfl, by decide +kernel, by decide +kernel⟩
theorem ok_areR {f fN : Addr} {fd fdN : FuncData} (F : Fun K "are_roads" "are_roads" sAreR f fd) (B : Blt mg) (Cn : Csts mg) (D_is_road : Dn K mg "is_road" sRoad ["houses", "thing"] fN fdN) (G_is_road : FnOk P w K mg base CX0 3 fN fdN ["houses", "thing"] (spRoad K)) :
    FnOk P w K mg base CX0 4 f fd ["houses", "things"] (spAreR K) := by
  refine F.ok scAreR (fun vs H Q E h => ?_) (fun cdv A outer s H vs Q E hr h => ?_)
  · obtain ⟨a, b, hs, rs, ds, rfl, _⟩ := h
    rfl
  · obtain ⟨a, b, hs, rs, ds, rfl, ha, nd, hb, hR, few, q⟩ := h
    refine ⟨_, (pss_cons (ps_if (PW.pt (pw_or (pt_not (pt_val (pe_callB call_isi (by rfl) B.isinstance bt_isinstance (pa_cons (pv 1) (pa_cons (pe_bty (by rfl) B.list bt_list) pa_nil))))) (pw_or1 (pt_cmpR op_gt (pe_callB call_len_seq (by rfl) B.len bt_len (pa_cons (pv 1) pa_nil)) (pe_const (by rfl) Cn.MOST_ROADS) (nomark _))))) (pss_one (ps_ret pe_bl)) pss_nil)
      (pss_one (ps_ret (pe_callB (call_all rfl) (by rfl) B.all_ bt_all (pa_cons (pe_lc (N' := ["thing", "houses"]) (cs := [none, some 0]) rfl (pi_list (pv 1)) rfl (by decide +kernel) rfl (by decide +kernel) (sub_of (List.forall_mem_cons.mpr ⟨rfl, (fun p hp => absurd hp (List.not_mem_nil))⟩)) rfl
        (.own (.cap rfl (.inl rfl) (.inl rfl) rfl .nil))
        (fun C s3 H3 fp pn => ⟨(pg_name (i := 0) (by show (["thing", "houses"] : List Str).Nodup; decide +kernel) rfl (.inl rfl)), pif_nil, (pe_call G_is_road (hr.mono (by decide)) (by rfl) D_is_road.at_ D_is_road.fn.kp D_is_road.bd .nil pass0 (pa_cons (pv 1) (pa_cons (pv 0) pa_nil)))⟩)) pa_nil))))), ?_⟩
    have hl := refs_len rs
    refine ⟨_, rfl, _, _, _, _, _, rfl, ⟨rfl, .lst hb, kit_eq _ _⟩, _, rfl, iteF ?_⟩
    refine ⟨_, rfl, b, _, rfl, .inl (SqL.of hb), _, _, rfl, rfl, _, rfl, iteN (decide_eq_false (by omega)) ?_⟩
    dsimp only [tNext, tRet, tAndV, tCB, tCons]
    refine tlc_map (J := Itl K b) (H1 := H) (xs := refs rs) (rest := [some (.ref a)]) (fun R h => ⟨_, rfl, b, rfl, ⟨_, SqL.of hb⟩, h⟩) rfl (wk_list (SqL.of hb)) (small1000 (by omega)) (fun _ => .bl true) (fun i x H2 R ex sm hr2 => ?_) (fun D H' h1 h2 h3 => ?_)
    · unfold refs at ex
      rw [List.getElem?_map] at ex
      obtain ⟨r, er, rfl⟩ := Option.map_eq_some_iff.mp ex
      obtain ⟨d, _, ok, hd⟩ := hR.get er
      exact ⟨_, rfl, _, rfl, a, r, hs, d, rfl, sm.seq ha, nd, ok, sm _ _ hd, hr2 H2 (Same.refl _)⟩
    · exact ⟨D, List.replicate (refs rs).length true, rfl, SqL.of (by rw [h2, map_true]), bl_of (all_true _) (q H' h3)⟩
noncomputable abbrev sInit : Stmt := inClass (top 25) 0
noncomputable abbrev sHousesM : Stmt := inClass (top 25) 1
noncomputable abbrev sRoadsM : Stmt := inClass (top 25) 2
theorem scInit : FnScope ["self", "houses", "roads"] ["self", "houses", "roads"] (defScope sInit) := ⟨rfl, rfl, rfl, by decide +kernel, rfl, by decide +kernel, by decide +kernel⟩
theorem ok_init {C f fH fR : Addr} {fd fdH fdR : FuncData} (F : Fun K "__init__" "Net.__init__" sInit f fd) (B : Blt mg) (NC : NetC K C)
    (D_are_houses : Dn K mg "are_houses" sAreH ["things"] fH fdH) (G_are_houses : FnOk P w K mg base CX0 2 fH fdH ["things"] spAreH)
    (D_are_roads : Dn K mg "are_roads" sAreR ["houses", "things"] fR fdR) (G_are_roads : FnOk P w K mg base CX0 4 fR fdR ["houses", "things"] (spAreR K)) :
    FnOk P w K mg base CX0 5 f fd ["self", "houses", "roads"] (spInit K C) := by
  refine F.ok scInit (fun vs H Q E h => ?_) (fun cdv A outer s H vs Q E hr h => ?_)
  · obtain ⟨x, dx, a, b, hs, rs, ds, rfl, _⟩ := h
    rfl
  · obtain ⟨x, dx, a, b, hs, rs, ds, rfl, hx, ha, hG, hb, hR, few, q⟩ := h
    refine ⟨_, (pss_cons (ps_if (pt_not (pt_val (pe_call G_are_houses (hr.mono (by decide)) (by rfl) D_are_houses.at_ D_are_houses.fn.kp D_are_houses.bd .nil pass0 (pa_cons (pv 1) pa_nil)))) (pss_one ps_never) pss_nil)
      (pss_cons (ps_if (pt_not (pt_val (pe_call G_are_roads (hr.mono (by decide)) (by rfl) D_are_roads.at_ D_are_roads.fn.kp D_are_roads.bd .nil pass0 (pa_cons (pv 1) (pa_cons (pv 2) pa_nil))))) (pss_one ps_never) pss_nil)
      (pss_cons (ps_fld (pv 0) (pe_callTy call_list_of (by rfl) B.list bt_list (pa_cons (pv 1) pa_nil)) rfl)
      (pss_one (ps_fld (pv 0) (pe_callTy call_list_of (by rfl) B.list bt_list (pa_cons (pv 2) pa_nil)) rfl))))), ?_⟩
    refine ⟨_, rfl, a, hs, rfl, ha, hG, fun H1 s1 => ⟨_, rfl, iteF ?_⟩⟩
    refine ⟨_, rfl, _, rfl, a, b, hs, rs, ds, rfl, SqL.of (s1 _ _ ha), hG.nd, s1 _ _ hb, hR.same s1, few, fun H2 s2 => ⟨_, rfl, iteF ?_⟩⟩
    have s12 := s1.trans s2
    refine ⟨_, rfl, a, _, rfl, .inl (SqL.of (s12 _ _ ha)), fun a' ha' => ?_⟩
    have s3 : Same H2 (upd H2 a' (.lst (txs hs))) := upd_free ha'
    have s13 := s12.trans s3
    have nx : x ≠ a' := ne_of_none (s12 _ _ hx) ha'
    refine ⟨_, rfl, x, C, dx, _, rfl, s13 _ _ hx, NC.cl, NC.nh, (by decide), ?_⟩
    have hbx : b ≠ x := fun e => by rw [e, hx] at hb; cases hb
    have hb4 : upd (upd H2 a' (.lst (txs hs))) x (.ins C dx (putF "kept_houses" (.ref a') [])) b = some (.lst (refs rs)) := by
      rw [upd_ne hbx]
      exact s13 _ _ hb
    refine ⟨_, rfl, b, _, rfl, .inl (SqL.of hb4), fun b' hb' => ?_⟩
    have nx2 : b' ≠ x := fun e => by rw [e, upd_same] at hb'; cases hb'
    have nb : b' ≠ a' := fun e => by rw [e, upd_ne nx.symm, upd_same] at hb'; cases hb'
    refine ⟨_, rfl, x, C, dx, _, rfl, (by rw [upd_ne nx2.symm, upd_same]), NC.cl, NC.nr, (by show 1 < 1000; decide), ?_⟩
    refine q _ a' b' (fun c o hc hH => ?_) (by rw [upd_same]; rfl) ?_ ?_ ?_ ?_
    · rw [upd_ne hc]
      have : c ≠ b' := fun e => by
        rw [← e, upd_ne hc, s13 _ _ hH] at hb'
        cases hb'
      rw [upd_ne this, upd_ne hc]
      exact s13 _ _ hH
    · rw [upd_ne nx.symm, upd_ne nb.symm, upd_ne nx.symm, upd_same]
    · rw [upd_ne nx2, upd_same]
    · exact s12.free ha'
    · rw [upd_ne nx2, upd_ne nb] at hb'
      exact s12.free hb'
theorem scHousesM : FnScope ["self"] ["self"] (defScope sHousesM) := ⟨rfl, rfl, rfl, by decide +kernel, rfl, by decide +kernel, by decide +kernel⟩
theorem scRoadsM : FnScope ["self"] ["self"] (defScope sRoadsM) := ⟨rfl, rfl, rfl, by decide +kernel, rfl, by decide +kernel, by decide +kernel⟩
theorem ok_roadsM {C f : Addr} {fd : FuncData} (F : Fun K "roads" "Net.roads" sRoadsM f fd) (B : Blt mg) (NC : NetC K C) : FnOk P w K mg base CX0 1 f fd ["self"] (spRoadsM C) := by
  refine F.ok scRoadsM (fun vs H Q E h => ?_) (fun cdv A outer s H vs Q E hr h => ?_)
  · obtain ⟨x, a', b', xs, ys, rfl, _⟩ := h
    rfl
  · obtain ⟨x, a', b', xs, ys, rfl, n, q⟩ := h
    obtain ⟨dx, hx⟩ := n.ins
    refine ⟨_, (pss_one (ps_ret (pe_callTy call_list_of (by rfl) B.list bt_list (pa_cons (pe_fld (pv 0) (by rfl)) pa_nil)))), ?_⟩
    exact ⟨_, rfl, x, C, dx, _, _, rfl, hx, NC.cl, NC.nr, rfl, b', _, rfl, .inl (SqL.of n.roa), q⟩
end
end K1
set_option Elab.async false
set_option linter.all false
set_option maxRecDepth 100000
set_option maxHeartbeats 4000000
namespace K1
open PySem L2 L3 M1
noncomputable def papV : Option Int → L2.V
  | none => .non
  | some v => .int v
noncomputable abbrev hk (hs : List (List Nat)) (k : Nat) : Key := Sum.inr (S (hs.getD k []))
noncomputable def ppK (kvs : List (Key × L2.V)) (hs : List (List Nat)) (k : Nat) : Option Int := match valV kvs (hk hs k) with
  | some (.int u) => some u
  | _ => none
structure Pap (kvs : List (Key × L2.V)) (hs : List (List Nat)) : Prop where
  all : ∀ k, k < hs.length → ∃ o : Option Int, valV kvs (hk hs k) = some (papV o)
theorem Pap.at {kvs : List (Key × L2.V)} {hs : List (List Nat)} (P : Pap kvs hs) {k : Nat} (h : k < hs.length) : valV kvs (hk hs k) = some (papV (ppK kvs hs k)) := by
  obtain ⟨o, e⟩ := P.all k h
  unfold ppK
  rw [e]
  cases o <;> rfl
noncomputable def ltW (hs : List (List Nat)) (d : M1.Lt) : List L2.V := [.str (S (hs.getD d.a [])), .int d.t, .str (S (hs.getD d.b []))]
structure LetsAt (H : Hp) (hs : List (List Nat)) (ts : List Addr) (ls : List M1.Lt) : Prop where
  tups : Tups H ts (ls.map (ltW hs))
  ok : ∀ d ∈ ls, d.a < hs.length ∧ d.b < hs.length
theorem LetsAt.same {H H' : Hp} {hs ts ls} (r : LetsAt H hs ts ls) (sm : Same H H') : LetsAt H' hs ts ls := ⟨r.tups.same sm, r.ok⟩
theorem LetsAt.get {H : Hp} {hs ts ls} {i : Nat} {r : Addr} (q : LetsAt H hs ts ls) (e : ts[i]? = some r) : ∃ d, ls[i]? = some d ∧ d.a < hs.length ∧ d.b < hs.length ∧ H r = some (.tup (ltW hs d)) := by
  obtain ⟨y, h1, h2⟩ := Paired.get q.tups e
  rw [List.getElem?_map] at h1
  obtain ⟨d, hd, rfl⟩ := Option.map_eq_some_iff.mp h1
  exact ⟨d, hd, (q.ok d (List.mem_of_getElem? hd)).1, (q.ok d (List.mem_of_getElem? hd)).2, h2⟩
theorem LetsAt.len {H : Hp} {hs ts ls} (q : LetsAt H hs ts ls) : ts.length = ls.length := by
  have := q.tups.len
  rwa [List.length_map] at this
noncomputable def spIsIn : Sp := fun vs H Q _ => ∃ (p : Addr) (hs : List (List Nat)) (kvs : List (Key × L2.V)) (k : Nat) (t : Int), vs = [.ref p, .str (S (hs.getD k [])), .int t] ∧ H p = some (.dK kvs) ∧ Pap kvs hs ∧ k < hs.length ∧ Q (.bl (inP (ppK kvs hs) k t)) H
noncomputable def spLO : Sp := fun vs H Q _ => ∃ (l p : Addr) (hs : List (List Nat)) (ts : List Addr) (ls : List M1.Lt) (kvs : List (Key × L2.V)) (T : Int), vs = [.ref l, .ref p, .int T] ∧ H l = some (.lst (refs ts)) ∧ LetsAt H hs ts ls ∧ ls.length ≤ 40 ∧ H p = some (.dK kvs) ∧ Pap kvs hs ∧
  ∀ (D : Addr) (zs : List L2.V) (H' : Hp), H D = none → Same H H' → H' D = some (.lst zs) → zs.length = outP (ppK kvs hs) ls T → Q (.ref D) H'
noncomputable def spTC : Sp := fun vs H Q _ => ∃ (r p : Addr) (hs : List (List Nat)) (d : M1.Rd) (kvs : List (Key × L2.V)) (T : Int), vs = [.ref r, .ref p, .int T] ∧ H r = some (.tup (rdV hs d)) ∧ d.Ok hs.length ∧ H p = some (.dK kvs) ∧ Pap kvs hs ∧ Q (.int (tcP (ppK kvs hs) d T)) H
noncomputable def spPS (C : Addr) : Sp := fun vs H Q _ => ∃ (x a' b' l p : Addr) (hs : List (List Nat)) (rs ts : List Addr) (ds : List M1.Rd) (ls : List M1.Lt) (kvs : List (Key × L2.V)) (T b : Int), vs = [.ref x, .ref l, .ref p, .int T] ∧ NetAt C H x a' b' (txs hs) (refs rs) ∧ RoadsAt H hs rs ds ∧ rs.length ≤ 40 ∧
  H l = some (.lst (refs ts)) ∧ LetsAt H hs ts ls ∧ ls.length ≤ 40 ∧ H p = some (.dK kvs) ∧ Pap kvs hs ∧ (∀ k f, k < hs.length → ppK kvs hs k = some f → b ≤ f) ∧ b ≤ T + 1 ∧ T ≤ b + 1000 ∧
  ∀ (D : Addr) (H' : Hp), H D = none → Same H H' → H' D = some (.tup [.int (outP (ppK kvs hs) ls T : Nat), .int (carP (ppK kvs hs) ds T)]) → Q (.ref D) H'
section
variable {P : Program} {w : World} {K : PySem.W.Frag} {mg : Str → Option Value} {base : Heap}
noncomputable abbrev sIsIn : Stmt := top 2
noncomputable abbrev sLO : Stmt := top 3
noncomputable abbrev sTC : Stmt := top 4
noncomputable abbrev sPS : Stmt := top 5
theorem scIsIn : FnScope ["paper", "house", "turn"] ["paper", "house", "turn"] (defScope sIsIn) := ⟨rfl, rfl, rfl, by decide +kernel, rfl, by decide +kernel, by decide +kernel⟩
theorem scLO : FnScope ["letters", "paper", "turn"] ["letters", "paper", "turn"] (defScope sLO) := ⟨rfl, rfl, rfl, by decide +kernel, rfl, by decide +kernel, by decide +kernel⟩
theorem scTC : FnScope ["road", "paper", "turn", "first", "last_there"] ["road", "paper", "turn"] (defScope sTC) := ⟨rfl, rfl, rfl, by decide +kernel, rfl, by decide +kernel, by decide +kernel⟩
theorem scPS : FnScope ["net", "letters", "paper", "turn", "carried"] ["net", "letters", "paper", "turn"] (defScope sPS) := ⟨rfl, rfl, rfl, by decide +kernel, rfl, by decide +kernel, by decide +kernel⟩
theorem ok_isIn {f : Addr} {fd : FuncData} (F : Fun K "is_in" "is_in" sIsIn f fd) : FnOk P w K mg base CX0 1 f fd ["paper", "house", "turn"] spIsIn := by
  refine F.ok scIsIn (fun vs H Q E h => ?_) (fun cdv A outer s H vs Q E hr h => ?_)
  · obtain ⟨p, hs, kvs, k, t, rfl, _⟩ := h
    rfl
  · obtain ⟨p, hs, kvs, k, t, rfl, hp, P', hk', q⟩ := h
    refine ⟨_, (pss_one (ps_ret (pe_and (pe_cmpR op_notN (pe_dget (hu_of hr) (pv 0) (pv 1) (fun _ _ => rfl)) pe_non (nomark _)) (pe_one (pe_cmpR op_le (pe_dget (hu_of hr) (pv 0) (pv 1) (fun _ _ => rfl)) (pv 2) (nomark _)))))), ?_⟩
    have g := DGet.k (k := hk hs k) hp
    rw [P'.at hk'] at g
    unfold inP at q
    cases e : ppK kvs hs k with
    | none =>
      rw [e] at g q
      exact ⟨_, rfl, _, rfl, p, _, rfl, g, rfl, _, rfl, iteN rfl q⟩
    | some u =>
      rw [e] at g q
      exact ⟨_, rfl, _, rfl, p, _, rfl, g, rfl, _, rfl, iteB rfl ⟨_, rfl, _, rfl, p, _, rfl, g, _, rfl, _, _, rfl, rfl, q⟩⟩
theorem ok_tc {f : Addr} {fd : FuncData} (F : Fun K "turns_carried" "turns_carried" sTC f fd) (B : Blt mg) : FnOk P w K mg base CX0 1 f fd ["road", "paper", "turn"] spTC := by
  refine F.ok scTC (fun vs H Q E h => ?_) (fun cdv A outer s H vs Q E hr h => ?_)
  · obtain ⟨r, p, hs, d, kvs, T, rfl, _⟩ := h
    rfl
  · obtain ⟨r, p, hs, d, kvs, T, rfl, hR, ok, hp, P', q⟩ := h
    refine ⟨_, (pss_cons (ps_set (i := 3) scTC.nd rfl (Or.inl rfl) (pe_dget (hu_of hr) (pv 1) (pe_ix ix_tup (pv 0) pe_int (fun _ _ => rfl)) (fun _ _ => rfl)))
      (pss_cons (ps_if (pt_cmpR op_isN (pv 3) pe_non (nomark _)) (pss_one (ps_ret pe_int)) pss_nil)
      (pss_cons (ps_set (i := 4) scTC.nd rfl (Or.inl rfl) (pv 2))
      (pss_cons (ps_if (pt_cmpR op_notN (pe_dget (hu_of hr) (pv 1) (pe_ix ix_tup (pv 0) pe_int (fun _ _ => rfl)) (fun _ _ => rfl)) pe_non (nomark _)) (pss_one (ps_set (i := 4) scTC.nd rfl (Or.inl rfl) (pe_callB (call_min2 rfl) (by rfl) B.min bt_mn (pa_cons (pv 2) (pa_cons (pe_op op_sub (pe_dget (hu_of hr) (pv 1) (pe_ix ix_tup (pv 0) pe_int (fun _ _ => rfl)) (fun _ _ => rfl)) pe_int) pa_nil))))) pss_nil)
      (pss_one (ps_ret (pe_callB (call_max2 rfl) (by rfl) B.max bt_mx (pa_cons pe_int (pa_cons (pe_op op_add (pe_op op_sub (pe_op op_sub (pv 4) (pe_ix ix_tup (pv 0) pe_int (fun _ _ => rfl))) (pv 3)) pe_int) pa_nil))))))))), ?_⟩
    have ga := DGet.k (k := hk hs d.a) hp
    have gb := DGet.k (k := hk hs d.b) hp
    rw [P'.at ok.a] at ga
    rw [P'.at ok.b] at gb
    unfold tcP lastP at q
    refine ⟨_, rfl, _, rfl, r, _, _, _, rfl, rfl, SqT.of hR, rfl, p, _, rfl, ga, ?_⟩
    refine ⟨_, rfl, rfl, _, rfl, ?_⟩
    cases ea : ppK kvs hs d.a with
    | none =>
      rw [ea] at q
      exact iteB rfl q
    | some fi =>
      rw [ea] at q
      refine iteN rfl ?_
      refine ⟨_, rfl, _, rfl, _, rfl, r, _, _, _, rfl, rfl, SqT.of hR, rfl, p, _, rfl, gb, rfl, _, rfl, ?_⟩
      cases eb : ppK kvs hs d.b with
      | none =>
        rw [eb] at q
        exact iteN rfl ⟨_, rfl, _, rfl, r, _, _, _, rfl, rfl, SqT.of hR, rfl, _, _, rfl, rfl, _, rfl, _, _, rfl, rfl, _, _, rfl, rfl, _, _, rfl, q⟩
      | some u =>
        rw [eb] at q gb
        exact iteB rfl ⟨_, rfl, _, rfl, _, rfl, r, _, _, _, rfl, rfl, SqT.of hR, rfl, p, _, rfl, gb, _, _, rfl, rfl, _, _, rfl, _, rfl, _, rfl, r, _, _, _, rfl, rfl, SqT.of hR, rfl, _, _, rfl, rfl, _, rfl, _, _, rfl, rfl, _, _, rfl, rfl, _, _, rfl, q⟩
theorem ok_lo {f fi : Addr} {fd fdi : FuncData} (F : Fun K "letters_out" "letters_out" sLO f fd) (D_is_in : Dn K mg "is_in" sIsIn ["paper", "house", "turn"] fi fdi) (G_is_in : FnOk P w K mg base CX0 1 fi fdi ["paper", "house", "turn"] spIsIn) :
    FnOk P w K mg base CX0 2 f fd ["letters", "paper", "turn"] spLO := by
  refine F.ok scLO (fun vs H Q E h => ?_) (fun cdv A outer s H vs Q E hr h => ?_)
  · obtain ⟨l, p, hs, ts, ls, kvs, T, rfl, _⟩ := h
    rfl
  · obtain ⟨l, p, hs, ts, ls, kvs, T, rfl, hl, hL, few, hp, P', q⟩ := h
    refine ⟨_, (pss_one (ps_ret (pe_lc (N' := ["letter", "turn", "paper"]) (cs := [none, some 2, some 1]) rfl (pi_list (pv 0)) rfl (by decide +kernel) rfl (by decide +kernel) (sub_of (List.forall_mem_cons.mpr ⟨rfl, (List.forall_mem_cons.mpr ⟨rfl, (fun p hp => absurd hp (List.not_mem_nil))⟩)⟩)) rfl
        (.own (.cap rfl (.inl rfl) (.inl rfl) rfl (.cap rfl (.inl rfl) (.inl rfl) rfl .nil)))
        (fun C s3 H3 fp pn => ⟨(pg_name (i := 0) (by show (["letter", "turn", "paper"] : List Str).Nodup; decide +kernel) rfl (.inl rfl)), (pif_one (PW.pt (pw_and (pt_cmpR op_le (pe_ix (ix_tupK (K := K) rfl) (pv 0) pe_int (fun _ _ => rfl)) (pv 1) (nomark _)) (pw_and1 (pt_not (pt_val (pe_call G_is_in (hr.mono (by decide)) (by rfl) D_is_in.at_ D_is_in.fn.kp D_is_in.bd .nil pass0 (pa_cons (pv 2) (pa_cons (pe_ix (ix_tupK (K := K) rfl) (pv 0) pe_int (fun _ _ => rfl)) (pa_cons (pe_ix (ix_tupK (K := K) rfl) (pv 0) pe_int (fun _ _ => rfl)) pa_nil)))))))))), (pv 0)⟩)))), ?_⟩
    have hlen := hL.len
    have tl := refs_len ts
    have item : ∀ {i : Nat} {v : L2.V}, (refs ts)[i]? = some v → ∃ r d, v = .ref r ∧ ls.getD i ⟨0, 0, 0⟩ = d ∧ d.a < hs.length ∧ H r = some (.tup (ltW hs d)) := fun {i v} ev => by
      unfold refs at ev
      rw [List.getElem?_map] at ev
      obtain ⟨r, er, rfl⟩ := Option.map_eq_some_iff.mp ev
      obtain ⟨d, ed, dA, _, hd⟩ := hL.get er
      exact ⟨r, d, rfl, gd_of ed, dA, hd⟩
    dsimp only [tRet]
    refine tlc_fi (J := Itl K l) (H1 := H) (xs := refs ts) (rest := [some (.int T), some (.ref p)]) (fun R h => ⟨_, rfl, l, rfl, ⟨_, SqL.of hl⟩, h⟩) rfl (wk_list (SqL.of hl)) (small1000 (by omega))
      (fun i => decide ((ls.getD i ⟨0, 0, 0⟩).t ≤ T) && !inP (ppK kvs hs) (ls.getD i ⟨0, 0, 0⟩).a (ls.getD i ⟨0, 0, 0⟩).t) (fun i => (refs ts).getD i .non) (fun i v H2 R ev sm hR2 => ?_) (fun i v H2 R ev _ sm hR2 => ?_) (fun D H' nD hD sD => ?_)
    · obtain ⟨r, d, rfl, ed, dA, hd⟩ := item ev
      rw [ed] at hR2
      refine ⟨_, rfl, r, _, _, _, rfl, rfl, SqT.of (sm _ _ hd), rfl, _, rfl, _, _, rfl, rfl, _, rfl, ?_⟩
      by_cases h : d.t ≤ T
      · refine iteB (decide_eq_true h) ?_
        rw [decide_eq_true h, Bool.true_and] at hR2
        exact ⟨_, rfl, _, rfl, r, _, _, _, rfl, rfl, SqT.of (sm _ _ hd), rfl, _, rfl, r, _, _, _, rfl, rfl, SqT.of (sm _ _ hd), rfl, p, hs, kvs, d.a, d.t, rfl, sm _ _ hp, P', dA, _, rfl, hR2 H2 (Same.refl _)⟩
      · refine iteN (decide_eq_false h) ?_
        rw [decide_eq_false h, Bool.false_and] at hR2
        exact hR2 H2 (Same.refl _)
    · refine ⟨_, rfl, ?_⟩
      rw [show (refs ts).getD i .non = v from gd_of ev] at hR2
      exact hR2 H2 (Same.refl _)
    · refine q D _ H' nD sD hD ?_
      rw [List.length_map, tl, hlen]
      exact filter_range_len (fun d : M1.Lt => decide (d.t ≤ T) && !inP (ppK kvs hs) d.a d.t) ⟨0, 0, 0⟩ ls
theorem ok_ps {C f f1 f2 f3 : Addr} {fd fd1 fd2 fd3 : FuncData} (F : Fun K "paper_sum" "paper_sum" sPS f fd) (B : Blt mg) (Cl_Net : Cls K C) (M_Net_roads : Mn K C "roads" "Net.roads" sRoadsM ["self"] f1 fd1) (G_Net_roads : FnOk P w K mg base CX0 1 f1 fd1 ["self"] (spRoadsM C))
    (D_letters_out : Dn K mg "letters_out" sLO ["letters", "paper", "turn"] f2 fd2) (G_letters_out : FnOk P w K mg base CX0 2 f2 fd2 ["letters", "paper", "turn"] spLO)
    (D_turns_carried : Dn K mg "turns_carried" sTC ["road", "paper", "turn"] f3 fd3) (G_turns_carried : FnOk P w K mg base CX0 1 f3 fd3 ["road", "paper", "turn"] spTC) :
    FnOk P w K mg base CX0 3 f fd ["net", "letters", "paper", "turn"] (spPS C) := by
  refine F.ok scPS (fun vs H Q E h => ?_) (fun cdv A outer s H vs Q E hr h => ?_)
  · obtain ⟨x, a', b', l, p, hs, rs, ts, ds, ls, kvs, T, b, rfl, _⟩ := h
    rfl
  · obtain ⟨x, a', b', l, p, hs, rs, ts, ds, ls, kvs, T, b, rfl, n, hR, fewR, hl, hL, fewL, hp, P', hb, bT, Tb, q⟩ := h
    obtain ⟨dx, hx⟩ := n.ins
    refine ⟨_, (pss_cons (ps_set (i := 4) scPS.nd rfl (Or.inl rfl) (pe_callB (call_sum rfl) (by rfl) B.sum bt_sum (pa_cons (pe_lc (N' := ["road", "paper", "turn"]) (cs := [none, some 2, some 3]) rfl (pi_list (pe_meth0 (pv 0) Cl_Net M_Net_roads.me G_Net_roads (hr.mono (by decide)) M_Net_roads.bd .nil pass0)) rfl (by decide +kernel) rfl (by decide +kernel) (sub_of (List.forall_mem_cons.mpr ⟨rfl, (List.forall_mem_cons.mpr ⟨rfl, (fun p hp => absurd hp (List.not_mem_nil))⟩)⟩)) rfl
        (.own (.cap rfl (.inl rfl) (.inl rfl) rfl (.cap rfl (.inl rfl) (.inl rfl) rfl .nil)))
        (fun C s3 H3 fp pn => ⟨(pg_name (i := 0) (by show (["road", "paper", "turn"] : List Str).Nodup; decide +kernel) rfl (.inl rfl)), pif_nil, (pe_op op_mul (pe_ix (ix_tupK (K := K) rfl) (pv 0) pe_int (fun _ _ => rfl)) (pe_call G_turns_carried (hr.mono (by decide)) (by rfl) D_turns_carried.at_ D_turns_carried.fn.kp D_turns_carried.bd .nil pass0 (pa_cons (pv 0) (pa_cons (pv 1) (pa_cons (pv 2) pa_nil)))))⟩)) pa_nil)))
      (pss_one (ps_ret (pe_tup (pa_cons (pe_callB call_len_seq (by rfl) B.len bt_len (pa_cons (pe_call G_letters_out (hr.mono (by decide)) (by rfl) D_letters_out.at_ D_letters_out.fn.kp D_letters_out.bd .nil pass0 (pa_cons (pv 1) (pa_cons (pv 2) (pa_cons (pv 3) pa_nil)))) pa_nil)) (pa_cons (pv 4) pa_nil)))))), ?_⟩
    have hlen := hR.len
    have tl := refs_len rs
    have item : ∀ {i : Nat} {v : L2.V}, (refs rs)[i]? = some v → ∃ r d, v = .ref r ∧ ds.getD i ⟨0, 0, 0, 0⟩ = d ∧ d.Ok hs.length ∧ H r = some (.tup (rdV hs d)) := fun {i v} ev => by
      unfold refs at ev
      rw [List.getElem?_map] at ev
      obtain ⟨r, er, rfl⟩ := Option.map_eq_some_iff.mp ev
      obtain ⟨d, ed, ok, hd⟩ := hR.get er
      exact ⟨r, d, rfl, gd_of ed, ok, hd⟩
    dsimp only [tSeq, tAsg, tCB, tCons]
    refine tlc_mS (K := K) (Hs := H) (xs := refs rs) (rest := [some (.ref p), some (.int T)]) (fun R h => ⟨_, rfl, x, dx, _, rfl, hx, rfl, x, a', b', _, _, rfl, n, fun p0 np0 => ⟨p0, rfl, ⟨_, SqL.of upd_same⟩, h p0 np0⟩⟩) rfl (small1000 (by omega))
      (fun i => .int ((ds.getD i ⟨0, 0, 0, 0⟩).m * tcP (ppK kvs hs) (ds.getD i ⟨0, 0, 0, 0⟩) T)) (fun i v H2 R ev sm hR2 => ?_) (fun D H1 nD hD sD => ?_)
    · obtain ⟨r, d, rfl, ed, ok, hd⟩ := item ev
      rw [ed] at hR2
      have := ok.m
      exact ⟨_, rfl, r, _, _, _, rfl, rfl, SqT.of (sm _ _ hd), rfl, _, rfl, _, rfl, _, rfl, r, p, hs, d, kvs, T, rfl, sm _ _ hd, ok, sm _ _ hp, P', _, _, rfl, rfl, .inl ⟨by omega, by omega⟩, hR2 H2 (Same.refl _)⟩
    have eD : (List.range (refs rs).length).map (fun i => V.int ((ds.getD i ⟨0, 0, 0, 0⟩).m * tcP (ppK kvs hs) (ds.getD i ⟨0, 0, 0, 0⟩) T)) = (ds.map fun d => d.m * tcP (ppK kvs hs) d T).map V.int := by
      rw [tl, hlen, List.map_map]
      exact range_getD (fun d : M1.Rd => V.int (d.m * tcP (ppK kvs hs) d T)) ⟨0, 0, 0, 0⟩ ds
    rw [eD] at hD
    have hle : ∀ y ∈ ds.map fun d => d.m * tcP (ppK kvs hs) d T, 0 ≤ y ∧ y ≤ 1001000000000 := fun y hy => by
      obtain ⟨d, hd, rfl⟩ := List.mem_map.mp hy
      have ok := hR.ok d hd
      have h1 := tc_nonneg (ppK kvs hs) d T
      have h2 := tc_le (pp := ppK kvs hs) (d := d) (T := T) (b := b) ok.t.1 (fun f e => hb d.a f ok.a e) bT
      have h3 := Int.mul_nonneg (show 0 ≤ d.m by have := ok.m; omega) h1
      have h4 := Int.mul_le_mul (show d.m ≤ 1000000000 from ok.m.2) (show tcP (ppK kvs hs) d T ≤ 1001 by omega) h1 (by decide)
      exact ⟨h3, Int.le_trans h4 (by decide)⟩
    have hsum : (ds.map fun d => d.m * tcP (ppK kvs hs) d T).sum < 2 ^ 63 := by
      have h5 := sum_le fun y hy => (hle y hy).2
      rw [List.length_map] at h5
      have h6 : (ds.length : Int) ≤ 40 := by omega
      omega
    refine ⟨D, _, rfl, SqL.of hD, fun y hy => (hle y hy).1, hsum, ?_⟩
    refine ⟨_, rfl, _, rfl, _, rfl, l, p, hs, ts, ls, kvs, T, rfl, sD _ _ hl, hL.same sD, fewL, sD _ _ hp, P', fun D2 zs H2 n2 s2 h2 hz => ?_⟩
    refine ⟨D2, zs, rfl, .inl (SqL.of h2), _, rfl, (by show 2 ≤ sizeLine; decide), fun t nt => ?_⟩
    have s12 := sD.trans s2
    refine q t _ ?_ (s12.trans (upd_free nt)) ?_
    · cases e : H t with
      | none => rfl
      | some o => rw [s12 _ _ e] at nt; cases nt
    · rw [upd_same, hz]
      rfl
end
end K1
set_option Elab.async false
set_option linter.all false
set_option maxRecDepth 100000
set_option maxHeartbeats 4000000
namespace K1
open PySem L2 L3 M1
section
variable {P : Program} {w : World} {K : PySem.W.Frag} {mg : Str → Option Value} {base : Heap}
noncomputable abbrev sAt : Stmt := top 27
noncomputable abbrev sWord : Stmt := top 28
noncomputable abbrev sHouses : Stmt := top 29
theorem scAt : FnScope ["_law_script", "_law_k"] ["_law_script", "_law_k"] (defScope sAt) := ⟨rfl, rfl, rfl, by decide +kernel, rfl, by decide +kernel, by decide +kernel⟩
theorem ok_at {f : Addr} {fd : FuncData} (F : Fun K "_law_at" "_law_at" sAt f fd) (len : mg "len" = none) : FnOk P w K mg base CX0 1 f fd ["_law_script", "_law_k"] (spAt K) := by
  refine F.ok scAt (fun vs H Q E h => ?_) (fun cdv A outer s H vs Q E hr h => ?_)
  · obtain ⟨a, ns, k, rfl, _⟩ := h
    rfl
  · obtain ⟨a, ns, k, rfl, hS, h0, q⟩ := h
    refine ⟨_, pss_cons (ps_if (pt_cmpR op_lt (pv 1) (pe_callB call_len_seq (by rfl) len PySem.boot_len (pa_cons (pv 0) pa_nil)) (nomark _)) (pss_one (ps_ret (pe_ix ix_list (pv 0) (pv 1) (fun _ _ => rfl)))) pss_nil) (pss_one (ps_ret pe_int)), ?_⟩
    refine ⟨_, rfl, _, rfl, a, _, rfl, .inl hS, _, _, rfl, rfl, _, rfl, ?_⟩
    refine ite2 (fun h => ?_) (fun h => ?_)
    · have h1 := of_decide_eq_true h
      exact ⟨_, rfl, _, rfl, a, _, k, _, rfl, rfl, hS, atI_int h0 h1, q⟩
    · have h1 : ¬ k < ((ns.map V.int).length : Int) := fun z => h (decide_eq_true z)
      rw [List.length_map] at h1
      have e : ns.getD k.toNat 0 = 0 := by
        rw [List.getD, List.getElem?_eq_none (by omega)]
        rfl
      rw [e] at q
      exact q
theorem scWord : FnScope ["_law_cell", "_law_n", "_law_size", "_law_word_here", "_law_k"] ["_law_cell"] (defScope sWord) := ⟨rfl, rfl, rfl, by decide +kernel, rfl, by decide +kernel, by decide +kernel⟩
theorem ok_word {f : Addr} {fd : FuncData} (F : Fun K "_law_word" "_law_word" sWord f fd) (rng : mg "range" = none) : FnOk P w K mg base CX0 1 f fd ["_law_cell"] spWord := by
  refine F.ok scWord (fun vs H Q E h => ?_) (fun cdv A outer s H vs Q E hr h => ?_)
  · obtain ⟨c, rfl, _⟩ := h
    rfl
  · obtain ⟨c, rfl, q⟩ := h
    refine ⟨_, pss_cons (ps_set (i := 1) scWord.nd rfl (Or.inl rfl) (pe_op op_mod (pe_op op_mul (pv 0) pe_int) pe_int))
      (pss_cons (ps_set (i := 2) scWord.nd rfl (Or.inl rfl) (pe_op op_add pe_int (pe_op op_mod (pv 1) pe_int)))
      (pss_cons (ps_set (i := 1) scWord.nd rfl (Or.inl rfl) (pe_op op_fdiv (pv 1) pe_int))
      (pss_cons (ps_set (i := 3) scWord.nd rfl (Or.inl rfl) pe_str)
      (pss_cons (ps_for PassesOwn.never rfl (pi_range1 rfl rng (pa_cons (pv 2) pa_nil)) (pg_name (i := 4) scWord.nd rfl (Or.inl rfl))
        (pss_cons (ps_set (i := 3) scWord.nd rfl (Or.inl rfl) (pe_op op_add_str (pv 3) (pe_ix ix_str pe_str (pe_op op_mod (pv 1) pe_int) (fun _ _ => rfl))))
        (pss_one (ps_set (i := 1) scWord.nd rfl (Or.inl rfl) (pe_op op_fdiv (pv 1) pe_int)))))
      (pss_one (ps_ret (pv 3))))))), ?_⟩
    have hw := wsize_ok c
    have hsz : (1 + wnum c % 7) = (wsize c : Int) := by
      have h1 : 0 ≤ wnum c % 7 := Int.emod_nonneg _ (by decide)
      unfold wsize
      omega
    refine ⟨_, rfl, _, _, rfl, rfl, .inr ⟨by decide, by decide⟩, _, _, rfl, rfl, (by show (0 : Int) < 10000000000037; decide), ?_⟩
    refine ⟨_, rfl, _, _, rfl, rfl, (by show (0 : Int) < 7; decide), _, _, rfl, rfl, ?_⟩
    refine ⟨_, rfl, _, _, rfl, rfl, ⟨by decide, by decide⟩, ?_⟩
    refine ⟨_, rfl, _, rfl, (by show -(2 ^ 62) ≤ 1 + wnum c % 7; omega), (by show 1 + wnum c % 7 < 2 ^ 62; omega), ?_⟩
    have e2 : (1 + wnum c % 7).toNat = wsize c := rfl
    show ∃ W : Nat → Nat → L2.St → Hp → Prop, _
    refine for_range (lo := 0) (n := wsize c) (fun i σ H2 => H2 = H ∧ ∃ v, σ = [some (.int c), some (.int (nAt i (wnum c / 7))), some (.int (1 + wnum c % 7)), some (.str (S (wcs i (wnum c / 7)))), v]) ⟨rfl, none, rfl⟩ ?_ ?_
    · rintro i σ H2 hi ⟨rfl, v, rfl⟩
      have m1 : 0 ≤ nAt i (wnum c / 7) % 26 := Int.emod_nonneg _ (by decide)
      have m2 : nAt i (wnum c / 7) % 26 < 26 := Int.emod_lt_of_pos _ (by decide)
      refine ⟨_, rfl, _, rfl, _, _, rfl, rfl, (by show (0 : Int) < 26; decide), _, _, _, rfl, rfl, (by decide +kernel), alpha_at m1 m2, _, _, rfl, rfl, ?_, ?_⟩
      · rw [S_len, wcs_len]
        have : (⟨#[97 + (nAt i (wnum c / 7) % 26).toNat]⟩ : Str).length = 1 := rfl
        rw [this]
        exact Nat.le_of_lt (small1000 (by omega))
      · refine ⟨_, rfl, _, _, rfl, rfl, ⟨by decide, by decide⟩, rfl, some (.int (0 + (i : Int))), ?_⟩
        rw [nAt_succ, wcs_snoc, ← S_app]
        rfl
    · rintro σ H2 ⟨rfl, v, rfl⟩
      exact ⟨_, rfl, q⟩
noncomputable abbrev sRoads : Stmt := top 30
theorem scHouses : FnScope ["_law_cell", "_law_many", "_law_word_here", "_law_at_here"] ["_law_cell", "_law_many"] (defScope sHouses) := ⟨rfl, rfl, rfl, by decide +kernel, rfl, by decide +kernel, by decide +kernel⟩
theorem ok_houses {f fW : Addr} {fd fdW : FuncData} (F : Fun K "_law_houses" "_law_houses" sHouses f fd) (len : mg "len" = none) (mW : mg "_law_word" = some (.ref fW)) (kW : PySem.W.keepIn K (.ref fW) = true) (bW : Binds K fdW ["_law_cell"] [])
    (GW : FnOk P w K mg base CX0 1 fW fdW ["_law_cell"] spWord) : FnOk P w K mg base CX0 2 f fd ["_law_cell", "_law_many"] spHouses := by
  refine F.ok scHouses (fun vs H Q E h => ?_) (fun cdv A outer s H vs Q E hr h => ?_)
  · obtain ⟨c, m, rfl, _⟩ := h
    rfl
  · obtain ⟨c, m, rfl, hm, q⟩ := h
    refine ⟨_, pss_cons (ps_set (i := 2) scHouses.nd rfl (Or.inr rfl) (pe_call GW hr rfl mW kW bW .nil pass0 (pa_cons (pv 0) pa_nil)))
      (pss_cons (ps_set (i := 3) scHouses.nd rfl (Or.inr rfl) (pe_op op_mod (pv 0) (pe_op op_add (pe_callB call_len_str (by rfl) len PySem.boot_len (pa_cons (pv 2) pa_nil)) pe_int)))
      (pss_one (ps_ret (pe_lc (N' := ["_law_letter", "_law_word_here", "_law_at_here"]) (cs := [none, some 2, some 3]) rfl (pi_str (pe_slice sl_str pe_str po_none (po_some (pv 1)))) rfl (by decide +kernel) rfl (by decide +kernel) (fun x c e => ?sub) rfl
        (.own (.cap rfl (.inl rfl) (.inl rfl) rfl (.cap rfl (.inl rfl) (.inl rfl) rfl .nil)))
        (fun C s3 H3 fp pn => ⟨pg_name (i := 0) (by show (["_law_letter", "_law_word_here", "_law_at_here"] : List Str).Nodup; decide +kernel) rfl (.inl rfl), pif_nil,
          pe_op op_add_str (pe_op op_add_str (pe_slice sl_str (pv 1) po_none (po_some (pv 2))) (pv 0)) (pe_slice sl_str (pv 1) (po_some (pv 2)) po_none)⟩))))), ?_⟩
    case sub =>
      exact sub_of (List.forall_mem_cons.mpr ⟨rfl, List.forall_mem_cons.mpr ⟨rfl, fun p hp => absurd hp List.not_mem_nil⟩⟩) x c e
    have hw := wsize_ok c
    have hl := word_len c
    have ha := hat_le c
    refine ⟨_, rfl, c, rfl, ?_⟩
    refine ⟨_, rfl, _, rfl, _, rfl, Nat.le_of_lt (small1000 (by rw [S_len, hl]; omega)), _, _, rfl, rfl, _, _, rfl, rfl, ?_, ?_⟩
    · show (0 : Int) < ((S (wordL c)).length : Int) + 1
      omega
    · have eh : c % (((S (wordL c)).length : Int) + 1) = (hat c : Int) := by
        rw [S_len, hl]
        have h1 : 0 ≤ c % ((wsize c : Int) + 1) := Int.emod_nonneg _ (by omega)
        unfold hat
        omega
      dsimp only
      rw [eh]
      refine ⟨_, rfl, _, rfl, _, rfl, (by decide +kernel), _, rfl, ?_⟩
      rw [menu_S, cut_take letters m (by show m ≤ 12; exact hm)]
      refine lc_map (xs := signs (S (letters.take m))) (rest := [some (.str (S (wordL c))), some (.int (hat c))]) rfl (wk_str _) (small1000 ?_) (putIn c) (fun i x H2 R ex sm hR => ?_) fun D H' h1 h2 h3 => ?_
      · rw [signs_S, List.length_map, List.length_take]
        have : letters.length = 12 := rfl
        omega
      · rw [signs_S] at ex
        obtain ⟨k, hk, rfl⟩ := List.mem_map.mp (List.mem_of_getElem? ex)
        have l1 : (S ((wordL c).take (hat c))).length ≤ 8 := by rw [S_len, List.length_take]; omega
        have l2 : (S ((wordL c).drop (hat c))).length ≤ 8 := by rw [S_len, List.length_drop]; omega
        refine ⟨_, rfl, _, rfl, _, rfl, _, rfl, Nat.le_of_lt (small1000 (by rw [S_len, hl]; omega)), _, rfl, _, _, rfl, rfl, ?_, _, rfl, _, rfl, _, rfl, _, rfl, Nat.le_of_lt (small1000 (by rw [S_len, hl]; omega)), _, _, rfl, rfl, ?_, ?_⟩
        · rw [cut_take _ _ (by omega), S_len [k]]
          exact Nat.le_of_lt (small1000 (by show _ + 1 ≤ 1000; omega))
        · rw [cut_take _ _ (by omega), cut_drop _ _ (by omega), S_app, S_len (_ ++ [k]), List.length_append]
          rw [S_len] at l1
          exact Nat.le_of_lt (small1000 (by show _ + 1 + _ ≤ 1000; omega))
        · rw [cut_take _ _ (by omega), cut_drop _ _ (by omega)]
          exact hR H2 (Same.refl _)
      · refine q D H' h1 h3 ?_
        rw [h2, signs_S, List.map_map]
        congr 2
        simp only [txs, housesL, List.map_map]
        refine List.map_congr_left fun k _ => ?_
        show putIn c (V.str (S [k])) = V.str (S (house c k))
        show V.str (S ((wordL c).take (hat c)) ++ S [k] ++ S ((wordL c).drop (hat c))) = _
        rw [S_app, S_app]
        congr 2
        unfold house
        simp
theorem scRoads : FnScope nRoads ["_law_cells", "_law_houses_here", "_law_long"] (defScope sRoads) := ⟨rfl, rfl, rfl, by decide +kernel, rfl, by decide +kernel, by decide +kernel⟩
end
end K1
set_option Elab.async false
set_option linter.all false
set_option maxRecDepth 100000
set_option maxHeartbeats 4000000
namespace K1
open PySem L2 L3 M1
noncomputable def rdG (l : Int) (n : Nat) (c : Int) : M1.Rd := { rd n c with t := rturn l c }
theorem rdG_ok {l : Int} (l1 : 1 ≤ l) (l9 : l ≤ 9) {n : Nat} (h : 1 < n) (c : Int) : (rdG l n c).Ok n := by
  have k := rd_ok h c
  have t1 : 0 ≤ rnum c / 2160 % l := Int.emod_nonneg _ (by omega)
  have t2 : rnum c / 2160 % l < l := Int.emod_lt_of_pos _ (by omega)
  refine ⟨k.a, k.b, k.ne, ?_, k.m⟩
  show 1 ≤ rturn l c ∧ rturn l c ≤ 9
  unfold rturn
  omega
noncomputable def rdsG (l : Int) (hs : List (List Nat)) (ns : List Int) : List M1.Rd := if 1 < hs.length then ns.map (rdG l hs.length) else []
noncomputable def roadsVG (l : Int) (hs : List (List Nat)) (ns : List Int) : List (List L2.V) := if 1 < hs.length then ns.map fun c => rdV hs (rdG l hs.length c) else []
theorem roadsVG_eq (l : Int) (hs : List (List Nat)) (ns : List Int) : roadsVG l hs ns = (rdsG l hs ns).map (rdV hs) := by
  unfold roadsVG rdsG
  split
  · rw [List.map_map]
    rfl
  · rfl
theorem rdsG_ok {l : Int} (l1 : 1 ≤ l) (l9 : l ≤ 9) (hs : List (List Nat)) (ns : List Int) : ∀ d ∈ rdsG l hs ns, d.Ok hs.length := by
  unfold rdsG
  split
  · rename_i h
    intro d hd
    obtain ⟨c, _, rfl⟩ := List.mem_map.mp hd
    exact rdG_ok l1 l9 h c
  · intro d hd
    exact absurd hd List.not_mem_nil
theorem rdsG_len (l : Int) (hs : List (List Nat)) (ns : List Int) : (rdsG l hs ns).length ≤ ns.length := by
  unfold rdsG
  split
  · rw [List.length_map]
    exact Nat.le_refl _
  · exact Nat.zero_le _
noncomputable def spRoadsG (K : PySem.W.Frag) : Sp := fun vs H Q _ => ∃ (a b : Addr) (ns : List Int) (hs : List (List Nat)) (l : Int), vs = [.ref a, .ref b, .int l] ∧ SqL K H a (ns.map V.int) ∧ SqL K H b (txs hs) ∧ hs.length ≤ 12 ∧ ns.length ≤ 40 ∧ 1 ≤ l ∧ l ≤ 9 ∧
  ∀ (p : Addr) (H' : Hp) (rs : List Addr), H p = none → Same H H' → H' p = some (.lst (refs rs)) → Tups H' rs (roadsVG l hs ns) → Q (.ref p) H'
section
variable {P : Program} {w : World} {K : PySem.W.Frag} {mg : Str → Option Value} {base : Heap}
theorem ok_roadsG {f : Addr} {fd : FuncData} (F : Fun K "_law_roads" "_law_roads" sRoads f fd) (B : Blt mg) : FnOk P w K mg base CX0 1 f fd ["_law_cells", "_law_houses_here", "_law_long"] (spRoadsG K) := by
  refine F.ok scRoads (fun vs H Q E h => ?_) (fun cdv A outer s H vs Q E hr h => ?_)
  · obtain ⟨a, b, ns, hs, l, rfl, _⟩ := h
    rfl
  · obtain ⟨a, b, ns, hs, l, rfl, ha, hb, hl, hn, l1, l9, q⟩ := h
    refine ⟨_, (pss_cons (ps_set (i := 3) scRoads.nd rfl (Or.inl rfl) (pe_lst pa_nil))
      (pss_cons (ps_if (pt_cmpR op_gt (pe_callB call_len_seq (by rfl) B.len bt_len (pa_cons (pv 1) pa_nil)) pe_int (nomark _)) (pss_one (ps_for PassesOwn.never rfl (pi_list (pv 0)) (pg_name (i := 4) scRoads.nd rfl (Or.inl rfl))
        (pss_cons (ps_set (i := 5) scRoads.nd rfl (Or.inl rfl) (pe_op op_mod (pe_op op_mul (pv 4) pe_int) pe_int))
      (pss_cons (ps_set (i := 6) scRoads.nd rfl (Or.inl rfl) (pe_op op_mod (pv 5) (pe_callB call_len_seq (by rfl) B.len bt_len (pa_cons (pv 1) pa_nil))))
      (pss_cons (ps_set (i := 7) scRoads.nd rfl (Or.inl rfl) (pe_op op_mod (pe_op op_add (pe_op op_add (pv 6) pe_int) (pe_op op_mod (pe_op op_fdiv (pv 5) pe_int) (pe_op op_sub (pe_callB call_len_seq (by rfl) B.len bt_len (pa_cons (pv 1) pa_nil)) pe_int))) (pe_callB call_len_seq (by rfl) B.len bt_len (pa_cons (pv 1) pa_nil))))
      (pss_cons (ps_set (i := 8) scRoads.nd rfl (Or.inl rfl) (pe_op op_add pe_int (pe_op op_mod (pe_op op_fdiv (pv 5) pe_int) pe_int)))
      (pss_cons (ps_if (pt_cmpR op_eq (pe_op op_mod (pe_op op_fdiv (pv 5) pe_int) pe_int) pe_int (nomark _)) (pss_one (ps_set (i := 8) scRoads.nd rfl (Or.inl rfl) (pe_op op_add pe_int (pe_op op_mod (pv 4) (pe_op op_pow pe_int pe_int))))) pss_nil)
      (pss_one (ps_expr (pe_bm PySem.F.plainAttrs_list PySem.F.slot_list_append PySem.F.type_list_append mt_append (pv 3) (pa_cons (pe_tup (pa_cons (pe_ix ix_list (pv 1) (pv 6) (fun _ _ => rfl)) (pa_cons (pe_ix ix_list (pv 1) (pv 7) (fun _ _ => rfl)) (pa_cons (pe_op op_add pe_int (pe_op op_mod (pe_op op_fdiv (pv 5) pe_int) (pv 2))) (pa_cons (pv 8) pa_nil))))) pa_nil))))))))))) pss_nil)
      (pss_one (ps_ret (pv 3))))), ?_⟩
    refine ⟨Nat.zero_le _, fun p hp => ?_⟩
    have s0 : Same H (upd H p (.lst [])) := upd_free hp
    refine ⟨_, rfl, b, _, rfl, .inl (s0.seq hb), _, _, rfl, rfl, _, rfl, ?_⟩
    refine ite2 (fun h => ?_) (fun h => ?_)
    · have h1 := of_decide_eq_true h
      rw [txs_len] at h1
      have h1 : 1 < hs.length := by omega
      refine ⟨_, rfl, a, rfl, ⟨_, s0.seq ha⟩, ?_⟩
      refine for_list (xs := ns.map V.int) (fun i σ Hc => ∃ (rs : List Addr) (v4 v5 v6 v7 v8 : Option L2.V), σ = [some (.ref a), some (.ref b), some (.int l), some (.ref p), v4, v5, v6, v7, v8] ∧ Same H Hc ∧ Hc p = some (.lst (refs rs)) ∧
        Tups Hc rs ((ns.take i).map fun c => rdV hs (rdG l hs.length c))) ⟨[], none, none, none, none, none, rfl, s0, upd_same, .nil⟩ ?_ ?_ ?_
      · rintro i σ Hc hi ⟨rs, v4, v5, v6, v7, v8, rfl, sm, hpc, ht⟩
        exact sm.seq ha
      · rintro i x σ Hc ex ⟨rs, v4, v5, v6, v7, v8, rfl, sm, hpc, ht⟩
        rw [List.getElem?_map] at ex
        obtain ⟨c, ec, rfl⟩ := Option.map_eq_some_iff.mp ex
        have hbc : SqL K Hc b (txs hs) := sm.seq hb
        have hk := rdG_ok l1 l9 h1 c
        have tl := txs_len hs
        have hi : i < ns.length := (List.getElem?_eq_some_iff.mp ec).1
        have b1 : 0 ≤ rbeg hs.length c := Int.emod_nonneg _ (by omega)
        have b2 : rbeg hs.length c < hs.length := Int.emod_lt_of_pos _ (by omega)
        have e1 : 0 ≤ rend hs.length c := Int.emod_nonneg _ (by omega)
        have e2 : rend hs.length c < hs.length := Int.emod_lt_of_pos _ (by omega)
        refine ⟨_, rfl, _, _, rfl, rfl, .inr ⟨by decide, by decide⟩, _, _, rfl, rfl, (by show (0 : Int) < 2147483647; decide), ?_⟩
        refine ⟨_, rfl, _, rfl, b, _, rfl, .inl hbc, _, _, rfl, rfl, (by show (0 : Int) < ((txs hs).length : Int); omega), ?_⟩
        refine ⟨_, rfl, _, _, rfl, rfl, _, rfl, _, _, rfl, rfl, ⟨by decide, by decide⟩, _, rfl, b, _, rfl, .inl hbc, _, _, rfl, rfl, _, _, rfl, rfl, (by show (0 : Int) < ((txs hs).length : Int) - 1; omega), _, _, rfl, rfl, _, rfl, b, _, rfl, .inl hbc, _, _, rfl, rfl, (by show (0 : Int) < ((txs hs).length : Int); omega), ?_⟩
        refine ⟨_, rfl, _, _, rfl, rfl, ⟨by decide, by decide⟩, _, _, rfl, rfl, (by show (0 : Int) < 3; decide), _, _, rfl, rfl, ?_⟩
        refine ⟨_, rfl, _, _, rfl, rfl, ⟨by decide, by decide⟩, _, _, rfl, rfl, (by show (0 : Int) < 5; decide), rfl, _, rfl, ?_⟩
        have at1 : atI (txs hs) (rnum c % ((txs hs).length : Int)) = some (V.str (S (hs.getD (rbeg hs.length c).toNat []))) := by
          rw [tl]
          exact txs_at b1 b2
        have at2 : atI (txs hs) ((rnum c % ((txs hs).length : Int) + 1 + rnum c / 12 % (((txs hs).length : Int) - 1)) % ((txs hs).length : Int)) = some (V.str (S (hs.getD (rend hs.length c).toNat []))) := by
          rw [tl]
          exact txs_at e1 e2
        have lr : (refs rs).length < sizeLine := by
          have := ht.len
          rw [List.length_map, List.length_take] at this
          rw [refs_len]
          exact small1000 (by omega)
        have tk : (ns.take (i + 1)).map (fun c => rdV hs (rdG l hs.length c)) = (ns.take i).map (fun c => rdV hs (rdG l hs.length c)) ++ [rdV hs (rdG l hs.length c)] := by
          rw [List.take_add_one, ec, List.map_append]
          rfl
        refine ite2 (fun h => ?_) (fun h => ?_)
        · have h5 : rnum c / 432 % 5 = 1 := V.int.inj (of_decide_eq_true h)
          have em : 1 + c % 10 ^ 9 = rroom c := by unfold rroom; rw [if_pos h5]
          refine ⟨_, rfl, _, _, rfl, rfl, ⟨by decide, by decide, by decide⟩, _, _, rfl, rfl, (by show (0 : Int) < 10 ^ (9 : Int).toNat; decide), _, _, rfl, rfl, ?_⟩
          refine ⟨_, rfl, .inl ⟨rfl, _, SqL.of hpc⟩, _, rfl, _, rfl, b, _, _, _, rfl, rfl, hbc, at1, _, rfl, _, rfl, b, _, _, _, rfl, rfl, hbc, at2, _, rfl, _, _, rfl, rfl, ⟨by decide, by decide⟩, _, rfl, _, _, rfl, rfl, (by show (0 : Int) < l; omega), _, _, rfl, rfl, _, rfl,
            (by show 4 ≤ sizeLine; decide), fun t ht' => ?_⟩
          refine ⟨p, _, _, rfl, rfl, (by rw [upd_ne (ne_of_none hpc ht')]; exact hpc), lr, ?_⟩
          refine ⟨rs ++ [t], _, _, _, _, _, rfl, upd_other hp (sm.trans (upd_free ht')), (by rw [upd_same, refs_snoc]), ?_⟩
          rw [tk]
          refine Paired.snoc ?_ ((ht.same (upd_free ht')).upd (o := _) (u := .lst (refs rs)) (by rw [upd_ne (ne_of_none hpc ht')]; exact hpc) (fun d z => nomatch z))
          rw [upd_ne (ne_of_none hpc ht').symm, upd_same]
          show some (HO.tup [_, _, V.int (1 + rnum c / 2160 % l), V.int (1 + c % 10 ^ 9)]) = some (HO.tup (rdV hs (rdG l hs.length c)))
          rw [em]
          rfl
        · have h5 : ¬ rnum c / 432 % 5 = 1 := fun z => h (decide_eq_true (congrArg V.int z))
          have em : 1 + rnum c / 144 % 3 = rroom c := by unfold rroom; rw [if_neg h5]
          refine ⟨_, rfl, .inl ⟨rfl, _, SqL.of hpc⟩, _, rfl, _, rfl, b, _, _, _, rfl, rfl, hbc, at1, _, rfl, _, rfl, b, _, _, _, rfl, rfl, hbc, at2, _, rfl, _, _, rfl, rfl, ⟨by decide, by decide⟩, _, rfl, _, _, rfl, rfl, (by show (0 : Int) < l; omega), _, _, rfl, rfl, _, rfl,
            (by show 4 ≤ sizeLine; decide), fun t ht' => ?_⟩
          refine ⟨p, _, _, rfl, rfl, (by rw [upd_ne (ne_of_none hpc ht')]; exact hpc), lr, ?_⟩
          refine ⟨rs ++ [t], _, _, _, _, _, rfl, upd_other hp (sm.trans (upd_free ht')), (by rw [upd_same, refs_snoc]), ?_⟩
          rw [tk]
          refine Paired.snoc ?_ ((ht.same (upd_free ht')).upd (o := _) (u := .lst (refs rs)) (by rw [upd_ne (ne_of_none hpc ht')]; exact hpc) (fun d z => nomatch z))
          rw [upd_ne (ne_of_none hpc ht').symm, upd_same]
          show some (HO.tup [_, _, V.int (1 + rnum c / 2160 % l), V.int (1 + rnum c / 144 % 3)]) = some (HO.tup (rdV hs (rdG l hs.length c)))
          rw [em]
          rfl
      · rintro σ Hc ⟨rs, v4, v5, v6, v7, v8, rfl, sm, hpc, ht⟩
        refine ⟨_, rfl, q p Hc rs hp sm hpc ?_⟩
        rw [List.length_map, List.take_length] at ht
        unfold roadsVG
        rw [if_pos h1]
        exact ht
    · have h1 : ¬ 1 < hs.length := fun z => h (decide_eq_true (by rw [txs_len]; omega))
      refine ⟨_, rfl, q p _ [] hp s0 upd_same ?_⟩
      unfold roadsVG
      rw [if_neg h1]
      exact .nil
end
end K1
set_option Elab.async false
set_option linter.all false
set_option maxRecDepth 100000
set_option maxHeartbeats 4000000
namespace K1
open PySem L2 L3 M1
noncomputable def letsOf (hs : List (List Nat)) (g : Nat) (bs span : Int) (ns : List Int) : List M1.Lt := ns.map (l4 hs.length g bs span)
theorem l4_ok {n g : Nat} {bs span c : Int} (h2 : 2 ≤ n) (g1 : 1 ≤ g) (g2 : g ≤ n) : (l4 n g bs span c).a < n ∧ (l4 n g bs span c).b < n := by
  have a1 : 0 ≤ (l4num c % g + 1 + l4num c / 12 % ((n : Int) - 1)) % n := Int.emod_nonneg _ (by omega)
  have a2 : (l4num c % g + 1 + l4num c / 12 % ((n : Int) - 1)) % n < n := Int.emod_lt_of_pos _ (by omega)
  have b1 : 0 ≤ l4num c % g := Int.emod_nonneg _ (by omega)
  have b2 : l4num c % g < g := Int.emod_lt_of_pos _ (by omega)
  exact ⟨by show Int.toNat _ < n; omega, by show Int.toNat _ < n; omega⟩
noncomputable def spLets (K : PySem.W.Frag) : Sp := fun vs H Q _ => ∃ (a b : Addr) (ns : List Int) (hs : List (List Nat)) (g : Nat) (bs span : Int), vs = [.ref a, .ref b, .int g, .int bs, .int span] ∧ SqL K H a (ns.map V.int) ∧ SqL K H b (txs hs) ∧ 2 ≤ hs.length ∧ hs.length ≤ 12 ∧ 1 ≤ g ∧ g ≤ hs.length ∧ 1 ≤ span ∧ ns.length ≤ 40 ∧
  ∀ (p : Addr) (H' : Hp) (ts : List Addr), H p = none → Same H H' → H' p = some (.lst (refs ts)) → LetsAt H' hs ts (letsOf hs g bs span ns) → Q (.ref p) H'
noncomputable abbrev nLets : List Str := ["_law_cells", "_law_houses_here", "_law_goals", "_law_base", "_law_span", "_law_letters_here", "_law_cell", "_law_n", "_law_goal", "_law_begin"]
section
variable {P : Program} {w : World} {K : PySem.W.Frag} {mg : Str → Option Value} {base : Heap}
noncomputable abbrev sLets : Stmt := top 31
noncomputable abbrev pLets : List Str := ["_law_cells", "_law_houses_here", "_law_goals", "_law_base", "_law_span"]
theorem scLets : FnScope nLets pLets (defScope sLets) := ⟨rfl, rfl, rfl, by decide +kernel, rfl, by decide +kernel, by decide +kernel⟩
theorem ok_lets {f : Addr} {fd : FuncData} (F : Fun K "_law_letters" "_law_letters" sLets f fd) (B : Blt mg) : FnOk P w K mg base CX0 1 f fd pLets (spLets K) := by
  refine F.ok scLets (fun vs H Q E h => ?_) (fun cdv A outer s H vs Q E hr h => ?_)
  · obtain ⟨a, b, ns, hs, g, bs, span, rfl, _⟩ := h
    rfl
  · obtain ⟨a, b, ns, hs, g, bs, span, rfl, ha, hb, h2, hl, g1, g2, sp1, hn, q⟩ := h
    refine ⟨_, (pss_cons (ps_set (i := 5) scLets.nd rfl (Or.inl rfl) (pe_lst pa_nil))
      (pss_cons (ps_for PassesOwn.never rfl (pi_list (pv 0)) (pg_name (i := 6) scLets.nd rfl (Or.inl rfl))
        (pss_cons (ps_set (i := 7) scLets.nd rfl (Or.inl rfl) (pe_op op_mod (pe_op op_mul (pv 6) pe_int) pe_int))
      (pss_cons (ps_set (i := 8) scLets.nd rfl (Or.inl rfl) (pe_ix ix_list (pv 1) (pe_op op_mod (pv 7) (pv 2)) (fun _ _ => rfl)))
      (pss_cons (ps_set (i := 9) scLets.nd rfl (Or.inl rfl) (pe_op op_mod (pe_op op_add (pe_op op_add (pe_op op_mod (pv 7) (pv 2)) pe_int) (pe_op op_mod (pe_op op_fdiv (pv 7) pe_int) (pe_op op_sub (pe_callB call_len_seq (by rfl) B.len bt_len (pa_cons (pv 1) pa_nil)) pe_int))) (pe_callB call_len_seq (by rfl) B.len bt_len (pa_cons (pv 1) pa_nil))))
      (pss_one (ps_expr (pe_bm PySem.F.plainAttrs_list PySem.F.slot_list_append PySem.F.type_list_append mt_append (pv 5) (pa_cons (pe_tup (pa_cons (pe_ix ix_list (pv 1) (pv 9) (fun _ _ => rfl)) (pa_cons (pe_op op_add (pv 3) (pe_op op_mod (pe_op op_fdiv (pv 7) pe_int) (pv 4))) (pa_cons (pv 8) pa_nil)))) pa_nil))))))))
      (pss_one (ps_ret (pv 5))))), ?_⟩
    refine ⟨Nat.zero_le _, fun p hp => ?_⟩
    have s0 : Same H (upd H p (.lst [])) := upd_free hp
    refine ⟨_, rfl, a, rfl, ⟨_, s0.seq ha⟩, ?_⟩
    refine for_list (xs := ns.map V.int) (fun i σ Hc => ∃ (ts : List Addr) (v6 v7 v8 v9 : Option L2.V), σ = [some (.ref a), some (.ref b), some (.int g), some (.int bs), some (.int span), some (.ref p), v6, v7, v8, v9] ∧ Same H Hc ∧ Hc p = some (.lst (refs ts)) ∧
      Tups Hc ts ((ns.take i).map fun c => ltW hs (l4 hs.length g bs span c))) ⟨[], none, none, none, none, rfl, s0, upd_same, .nil⟩ ?_ ?_ ?_
    · rintro i σ Hc hi ⟨ts, v6, v7, v8, v9, rfl, sm, hpc, ht⟩
      exact sm.seq ha
    · rintro i x σ Hc ex ⟨ts, v6, v7, v8, v9, rfl, sm, hpc, ht⟩
      rw [List.getElem?_map] at ex
      obtain ⟨c, ec, rfl⟩ := Option.map_eq_some_iff.mp ex
      have hbc : SqL K Hc b (txs hs) := sm.seq hb
      have tl := txs_len hs
      have hi : i < ns.length := (List.getElem?_eq_some_iff.mp ec).1
      have b1 : 0 ≤ l4num c % g := Int.emod_nonneg _ (by omega)
      have b2 : l4num c % g < g := Int.emod_lt_of_pos _ (by omega)
      have e1 : 0 ≤ (l4num c % g + 1 + l4num c / 12 % ((hs.length : Int) - 1)) % hs.length := Int.emod_nonneg _ (by omega)
      have e2 : (l4num c % g + 1 + l4num c / 12 % ((hs.length : Int) - 1)) % hs.length < hs.length := Int.emod_lt_of_pos _ (by omega)
      have at1 : atI (txs hs) (l4num c % g) = some (V.str (S (hs.getD (l4num c % g).toNat []))) := txs_at b1 (by omega)
      have at2 : atI (txs hs) ((l4num c % g + 1 + l4num c / 12 % (((txs hs).length : Int) - 1)) % ((txs hs).length : Int)) = some (V.str (S (hs.getD ((l4num c % g + 1 + l4num c / 12 % ((hs.length : Int) - 1)) % hs.length).toNat []))) := by
        rw [tl]
        exact txs_at e1 e2
      have lr : (refs ts).length < sizeLine := by
        have := ht.len
        rw [List.length_map, List.length_take] at this
        rw [refs_len]
        exact small1000 (by omega)
      have tk : (ns.take (i + 1)).map (fun c => ltW hs (l4 hs.length g bs span c)) = (ns.take i).map (fun c => ltW hs (l4 hs.length g bs span c)) ++ [ltW hs (l4 hs.length g bs span c)] := by
        rw [List.take_add_one, ec, List.map_append]
        rfl
      refine ⟨_, rfl, _, _, rfl, rfl, .inr ⟨by decide, by decide⟩, _, _, rfl, rfl, (by show (0 : Int) < 2147483629; decide), ?_⟩
      refine ⟨_, rfl, _, rfl, _, rfl, _, _, rfl, rfl, (by show (0 : Int) < (g : Int); omega), b, _, _, _, rfl, rfl, hbc, at1, ?_⟩
      refine ⟨_, rfl, _, rfl, _, _, rfl, rfl, (by show (0 : Int) < (g : Int); omega), _, _, rfl, rfl, _, rfl, _, _, rfl, rfl, ⟨by decide, by decide⟩, _, rfl, b, _, rfl, .inl hbc, _, _, rfl, rfl, _, _, rfl, rfl, (by show (0 : Int) < ((txs hs).length : Int) - 1; omega), _, _, rfl, rfl, _, rfl, b, _, rfl, .inl hbc, _, _, rfl, rfl, (by show (0 : Int) < ((txs hs).length : Int); omega), ?_⟩
      refine ⟨_, rfl, .inl ⟨rfl, _, SqL.of hpc⟩, _, rfl, _, rfl, b, _, _, _, rfl, rfl, hbc, at2, _, rfl, _, rfl, _, _, rfl, rfl, ⟨by decide, by decide⟩, _, rfl, _, _, rfl, rfl, (by show (0 : Int) < span; omega), _, _, rfl, rfl, _, rfl, (by show 3 ≤ sizeLine; decide), fun t ht' => ?_⟩
      refine ⟨p, _, _, rfl, rfl, (by rw [upd_ne (ne_of_none hpc ht')]; exact hpc), lr, ?_⟩
      refine ⟨ts ++ [t], _, _, _, _, rfl, upd_other hp (sm.trans (upd_free ht')), (by rw [upd_same, refs_snoc]), ?_⟩
      rw [tk]
      refine Paired.snoc ?_ ((ht.same (upd_free ht')).upd (o := _) (u := .lst (refs ts)) (by rw [upd_ne (ne_of_none hpc ht')]; exact hpc) (fun d z => nomatch z))
      rw [upd_ne (ne_of_none hpc ht').symm, upd_same]
      rfl
    · rintro σ Hc ⟨ts, v6, v7, v8, v9, rfl, sm, hpc, ht⟩
      refine ⟨_, rfl, q p Hc ts hp sm hpc ⟨?_, fun d hd => ?_⟩⟩
      · rw [List.length_map, List.take_length] at ht
        unfold letsOf
        rw [List.map_map]
        exact ht
      · obtain ⟨c, _, rfl⟩ := List.mem_map.mp hd
        exact l4_ok h2 g1 g2
end
end K1
set_option Elab.async false
set_option linter.all false
set_option maxRecDepth 100000
set_option maxHeartbeats 4000000
namespace K1
open PySem L2 L3 M1
theorem mem_putK {κ : Type} [DecidableEq κ] {kvs : List (κ × L2.V)} {k : κ} {v : L2.V} {p : κ × L2.V} (h : p ∈ putK kvs k v) : p ∈ kvs ∨ p.2 = v := by
  unfold putK at h
  split at h
  · obtain ⟨q, hq, rfl⟩ := List.mem_map.mp h
    split
    · exact .inr rfl
    · exact .inl hq
  · rcases List.mem_append.mp h with h | h
    · exact .inl h
    · rw [List.mem_singleton.mp h]
      exact .inr rfl
theorem keys_putK {κ : Type} [DecidableEq κ] {kvs : List (κ × L2.V)} {k : κ} {u v : L2.V} (h : valV kvs k = some u) : (putK kvs k v).map (·.1) = kvs.map (·.1) := by
  unfold putK
  rw [if_pos (by rw [valV_any, h]; rfl), List.map_map]
  refine List.map_congr_left fun p _ => ?_
  show (if p.1 = k then (p.1, v) else p).1 = p.1
  split <;> rfl
theorem hk_ne {hs : List (List Nat)} (nd : hs.Nodup) {a b : Nat} (ha : a < hs.length) (hb : b < hs.length) (ne : a ≠ b) : hk hs a ≠ hk hs b := fun z => ne_at nd ha hb ne (Sum.inr.inj z)
structure Drawn (kvs : List (Key × L2.V)) (hs : List (List Nat)) (m : Nat) (lo hi : Int) : Prop where
  at_ : ∀ k, k < m → ∃ o : Option Int, valV kvs (hk hs k) = some (papV o) ∧ ∀ f, o = some f → lo ≤ f ∧ f ≤ hi
  nd : (kvs.map (·.1)).Nodup
  vs : ∀ p ∈ kvs, p.2 = .non ∨ ∃ i, p.2 = .int i
  len : kvs.length ≤ m
  no : ∀ k, m ≤ k → k < hs.length → valV kvs (hk hs k) = none
theorem papV_or (o : Option Int) : papV o = .non ∨ ∃ i, papV o = .int i := by
  cases o with
  | none => exact .inl rfl
  | some i => exact .inr ⟨i, rfl⟩
theorem Drawn.new {kvs : List (Key × L2.V)} {hs : List (List Nat)} {m : Nat} {lo hi : Int} (d : Drawn kvs hs m lo hi) (nd : hs.Nodup) (hm : m < hs.length) (o : Option Int) (ho : ∀ f, o = some f → lo ≤ f ∧ f ≤ hi) : Drawn (putK kvs (hk hs m) (papV o)) hs (m + 1) lo hi := by
  have h0 := d.no m (Nat.le_refl _) hm
  refine ⟨fun k hk' => ?_, nd_putK _ d.nd h0, fun p hp => ?_, ?_, fun k h1 h2 => ?_⟩
  · rw [valV_put]
    by_cases e : k = m
    · subst e
      rw [if_pos rfl]
      exact ⟨o, rfl, ho⟩
    · rw [if_neg (hk_ne nd (by omega) hm e)]
      exact d.at_ k (by omega)
  · rcases mem_putK hp with h | h
    · exact d.vs p h
    · rw [h]
      exact papV_or o
  · have := length_putK kvs (hk hs m) (papV o)
    have := d.len
    omega
  · rw [valV_put, if_neg (hk_ne nd h2 hm (by omega))]
    exact d.no k (by omega) h2
theorem Drawn.old {kvs : List (Key × L2.V)} {hs : List (List Nat)} {m : Nat} {lo hi : Int} (d : Drawn kvs hs (m + 1) lo hi) (nd : hs.Nodup) (hm : m < hs.length) (o : Option Int) (ho : ∀ f, o = some f → lo ≤ f ∧ f ≤ hi) : Drawn (putK kvs (hk hs m) (papV o)) hs (m + 1) lo hi := by
  obtain ⟨o0, h0, _⟩ := d.at_ m (Nat.lt_succ_self _)
  refine ⟨fun k hk' => ?_, ?_, fun p hp => ?_, ?_, fun k h1 h2 => ?_⟩
  · rw [valV_put]
    by_cases e : k = m
    · subst e
      rw [if_pos rfl]
      exact ⟨o, rfl, ho⟩
    · rw [if_neg (hk_ne nd (by omega) hm e)]
      exact d.at_ k hk'
  · rw [keys_putK h0]
    exact d.nd
  · rcases mem_putK hp with h | h
    · exact d.vs p h
    · rw [h]
      exact papV_or o
  · have e := congrArg List.length (keys_putK (v := papV o) h0)
    rw [List.length_map, List.length_map] at e
    rw [e]
    exact d.len
  · rw [valV_put, if_neg (hk_ne nd h2 hm (by omega))]
    exact d.no k h1 h2
theorem Drawn.pap {kvs : List (Key × L2.V)} {hs : List (List Nat)} {lo hi : Int} (d : Drawn kvs hs hs.length lo hi) : Pap kvs hs := ⟨fun k hk => let ⟨o, e, _⟩ := d.at_ k hk; ⟨o, e⟩⟩
theorem Drawn.le {kvs : List (Key × L2.V)} {hs : List (List Nat)} {lo hi : Int} (d : Drawn kvs hs hs.length lo hi) {k : Nat} (hk' : k < hs.length) {f : Int} (e : ppK kvs hs k = some f) : lo ≤ f ∧ f ≤ hi := by
  obtain ⟨o, h, ho⟩ := d.at_ k hk'
  refine ho f ?_
  unfold ppK at e
  rw [h] at e
  cases o with
  | none => cases e
  | some i => exact e
theorem Drawn.one {hs : List (List Nat)} {lo hi : Int} (nd : hs.Nodup) (h : 0 < hs.length) : Drawn [(hk hs 0, papV none)] hs 1 lo hi := by
  refine ⟨fun k hk' => ⟨none, ?_, fun f z => nomatch z⟩, List.nodup_cons.mpr ⟨List.not_mem_nil, List.nodup_nil⟩, fun p hp => ?_, Nat.le_refl _, fun k h1 h2 => ?_⟩
  · obtain rfl : k = 0 := by omega
    exact valV_pos rfl
  · rw [List.mem_singleton.mp hp]
    exact .inl rfl
  · rw [valV_neg (hk_ne nd h h2 (by omega))]
    rfl
end K1
set_option Elab.async false
set_option linter.all false
set_option maxRecDepth 100000
set_option maxHeartbeats 4000000
namespace K1
open PySem L2 L3 M1
theorem gName_ap' {i : Nat} {v : L2.V} {σ : L2.St} {H : Hp} {R : L2.St → Hp → Prop} (h : R (σ.set i (some v)) H) : gName i v σ H R := h
noncomputable def spGoes : Sp := fun vs H Q _ => ∃ (c t m n : Int), vs = [.int c, .int t, .int m, .int n] ∧ 0 ≤ n ∧ n ≤ 1000 ∧ ∀ b, Q (.bl b) H
noncomputable abbrev pGoes : List Str := ["_law_cell", "_law_now", "_law_number", "_law_n"]
noncomputable def spV (hs : List (List Nat)) (s : Nat × Int) : List L2.V := [.str (S (hs.getD s.1 [])), .int s.2]
noncomputable def spHomes : Sp := fun vs H Q _ => ∃ (r l : Addr) (hs : List (List Nat)) (rs ts : List Addr) (ds : List M1.Rd) (ls : List M1.Lt) (bs c : Int), vs = [.ref r, .ref l, .int bs, .int c] ∧ H r = some (.lst (refs rs)) ∧ RoadsAt H hs rs ds ∧ rs.length ≤ 40 ∧ hs.Nodup ∧
  H l = some (.lst (refs ts)) ∧ LetsAt H hs ts ls ∧ ls.length ≤ 40 ∧ (∀ d ∈ ls, d.b = 0) ∧ 0 ≤ bs ∧ bs ≤ 1000 ∧
  ∀ (D : Addr) (H' : Hp) (ss : List (Nat × Int)), H D = none → Same H H' → (∀ pp T, (cntD pp T ss : Int) ≤ outP pp ls T + carP pp ds T) → ss.length ≤ 40 → H' D = some (.lst (((ss.filter fun s => decide (s.1 = 0)).map (·.2)).map V.int)) → Q (.ref D) H'
theorem ixN_nat {n i : Nat} (h : i < n) : ixN n ((0 : Int) + (i : Int)) = some i := by
  unfold ixN
  rw [if_pos (by omega), if_pos (by omega)]
  congr 1
  omega
noncomputable def two (H : Hp) : L2.V → List L2.V
  | .ref r => match H r with
    | some (.tup (a :: b :: _)) => [a, b]
    | _ => []
  | _ => []
theorem two_ref {H : Hp} {r : Addr} {a b : L2.V} {xs : List L2.V} (h : H r = some (.tup (a :: b :: xs))) : two H (.ref r) = [a, b] := by
  show (match H r with
    | some (.tup (a :: b :: _)) => [a, b]
    | _ => []) = [a, b]
  rw [h]
theorem dec_house {hs : List (List Nat)} {a b : Nat} (nd : hs.Nodup) (ha : a < hs.length) (hb : b < hs.length) : decide (V.str (S (hs.getD a [])) = V.str (S (hs.getD b []))) = decide (a = b) := by
  by_cases h : a = b
  · subst h
    rw [decide_eq_true rfl, decide_eq_true rfl]
  · rw [decide_eq_false h, decide_eq_false fun z => ne_at nd ha hb h (V.str.inj z)]
theorem map_two {H : Hp} {hs : List (List Nat)} : ∀ {ts : List Addr} {ls : List M1.Lt}, Tups H ts (ls.map (ltW hs)) → (refs ts).map (two H) = (ls.map fun d => (d.a, d.t)).map (spV hs)
  | [], [], _ => rfl
  | t :: ts, d :: ls, .cons h r => by
    have ih := map_two r
    show two H (.ref t) :: (refs ts).map (two H) = spV hs (d.a, d.t) :: _
    rw [ih]
    congr 1
    exact two_ref h
  | [], d :: ls, h => nomatch h
  | t :: ts, [], h => nomatch h
structure Spots (H Hc : Hp) (D : Addr) (us : List Addr) (hs : List (List Nat)) (ss : List (Nat × Int)) (n : Nat) : Prop where
  sm : Same H Hc
  at_ : Hc D = some (.lst (refs us))
  tp : Tups Hc us (ss.map (spV hs))
  len : ss.length = n
  ok : ∀ s ∈ ss, s.1 < hs.length
theorem Spots.get {H Hc : Hp} {D : Addr} {us : List Addr} {hs : List (List Nat)} {ss : List (Nat × Int)} {n i : Nat} (q : Spots H Hc D us hs ss n) (h : i < n) : ∃ u s, us[i]? = some u ∧ ss[i]? = some s ∧ s.1 < hs.length ∧ Hc u = some (.tup (spV hs s)) := by
  have hu : i < us.length := by
    have := q.tp.len
    rw [List.length_map, q.len] at this
    omega
  have eu : us[i]? = some us[i] := List.getElem?_eq_getElem hu
  obtain ⟨y, h1, h2⟩ := Paired.get q.tp eu
  rw [List.getElem?_map] at h1
  obtain ⟨s, hs', rfl⟩ := Option.map_eq_some_iff.mp h1
  exact ⟨_, s, eu, hs', q.ok s (List.mem_of_getElem? hs'), h2⟩
theorem Spots.set {H Hc : Hp} {D t : Addr} {us : List Addr} {hs : List (List Nat)} {ss : List (Nat × Int)} {n i : Nat} {s : Nat × Int} (q : Spots H Hc D us hs ss n) (hD : H D = none) (nt : Hc t = none) (hs' : s.1 < hs.length) :
    Spots H (upd (upd Hc t (.tup (spV hs s))) D (.lst ((refs us).set i (.ref t)))) D (us.set i t) hs (ss.set i s) n := by
  have atD := upd_free (o := .tup (spV hs s)) nt _ _ q.at_
  refine ⟨upd_other hD (q.sm.trans (upd_free nt)), ?_, ?_, ?_, ?_⟩
  · rw [upd_same]
    unfold refs
    rw [List.map_set]
  · rw [List.map_set]
    refine paired_set ?_ i ((q.tp.same (upd_free nt)).upd atD (by intro d z; cases z))
    rw [upd_ne (fun z => by rw [z, q.at_] at nt; cases nt), upd_same]
  · rw [List.length_set]
    exact q.len
  · intro x hx
    rcases List.mem_or_eq_of_mem_set hx with h | h
    · exact q.ok x h
    · rw [h]; exact hs'
noncomputable abbrev nHomes : List Str := ["_law_roads_here", "_law_letters_here", "_law_base", "_law_cell", "_law_spots", "_law_now", "_law_number", "_law_begin", "_law_end", "_law_turns", "_law_room", "_law_n", "_law_here"]
noncomputable abbrev pHomes : List Str := ["_law_roads_here", "_law_letters_here", "_law_base", "_law_cell"]
noncomputable def spDr2 (K : PySem.W.Frag) : Sp := fun vs H Q _ => ∃ (b : Addr) (hs : List (List Nat)) (bs c : Int), vs = [.ref b, .int bs, .int c] ∧ SqL K H b (txs hs) ∧ hs.Nodup ∧ 1 ≤ hs.length ∧ hs.length ≤ 12 ∧ 0 ≤ bs ∧
  ∀ (p : Addr) (H' : Hp) (kvs : List (Key × L2.V)), H p = none → Same H H' → H' p = some (.dK kvs) → Drawn kvs hs hs.length bs (bs + 20) → valV kvs (hk hs 0) = some .non → Q (.ref p) H'
noncomputable abbrev nDr2 : List Str := ["_law_houses_here", "_law_base", "_law_cell", "_law_paper", "_law_k", "_law_n"]
section
variable {P : Program} {w : World} {K : PySem.W.Frag} {mg : Str → Option Value} {base : Heap}
noncomputable abbrev sGoes : Stmt := top 32
noncomputable abbrev sHomes : Stmt := top 33
noncomputable abbrev sDr2 : Stmt := top 34
theorem scGoes : FnScope pGoes pGoes (defScope sGoes) := ⟨rfl, rfl, rfl, by decide +kernel, rfl, by decide +kernel, by decide +kernel⟩
theorem scHomes : FnScope nHomes pHomes (defScope sHomes) := ⟨rfl, rfl, rfl, by decide +kernel, rfl, by decide +kernel, by decide +kernel⟩
theorem scDr2 : FnScope nDr2 ["_law_houses_here", "_law_base", "_law_cell"] (defScope sDr2) := ⟨rfl, rfl, rfl, by decide +kernel, rfl, by decide +kernel, by decide +kernel⟩
theorem ok_goes {f : Addr} {fd : FuncData} (F : Fun K "_law_goes" "_law_goes" sGoes f fd) : FnOk P w K mg base CX0 1 f fd pGoes spGoes := by
  refine F.ok scGoes (fun vs H Q E h => ?_) (fun cdv A outer s H vs Q E hr h => ?_)
  · obtain ⟨c, t, m, n, rfl, _⟩ := h
    rfl
  · obtain ⟨c, t, m, n, rfl, n0, n1, q⟩ := h
    refine ⟨_, (pss_one (ps_ret (pe_cmpR op_lt (pe_op op_mod (pe_op op_mod (pe_op op_mul (pe_op op_add (pe_op op_add (pe_op op_add (pv 0) (pe_op op_mul (pv 1) pe_int)) (pe_op op_mul (pv 2) pe_int)) (pe_op op_mul (pe_op op_mul (pv 3) (pv 3)) pe_int)) pe_int) pe_int) pe_int) pe_int (nomark _)))), ?_⟩
    exact ⟨_, rfl, _, rfl, _, _, rfl, rfl, .inr ⟨by decide, by decide⟩, _, _, rfl, rfl, _, rfl, _, _, rfl, rfl, .inr ⟨by decide, by decide⟩, _, _, rfl, rfl, _, rfl, _, rfl, _, _, rfl, rfl, .inr ⟨by omega, by omega⟩, _, _, rfl, rfl, .inr ⟨by decide, by decide⟩, _, _, rfl, rfl, _, _, rfl, rfl, .inr ⟨by decide, by decide⟩,
      _, _, rfl, rfl, (by show (0 : Int) < 2147483647; decide), _, _, rfl, rfl, (by show (0 : Int) < 4; decide), _, _, rfl, rfl, q _⟩
theorem ok_homes {f fg : Addr} {fd fdg : FuncData} (F : Fun K "_law_homes" "_law_homes" sHomes f fd) (B : Blt mg) (D__law_goes : Dn K mg "_law_goes" sGoes pGoes fg fdg) (G__law_goes : FnOk P w K mg base CX0 1 fg fdg pGoes spGoes) :
    FnOk P w K mg base CX0 2 f fd pHomes spHomes := by
  refine F.ok scHomes (fun vs H Q E h => ?_) (fun cdv A outer s H vs Q E hr h => ?_)
  · obtain ⟨r, l, hs, rs, ts, ds, ls, bs, c, rfl, _⟩ := h
    rfl
  · obtain ⟨r, l, hs, rs, ts, ds, ls, bs, c, rfl, hr', hR, fewR, nd, hl, hL, fewL, hb0, b1, b2, q⟩ := h
    refine ⟨_, (pss_cons (ps_set (i := 4) scHomes.nd rfl (Or.inr rfl) (pe_lc (N' := ["_law_one"]) (cs := [none]) rfl (pi_list (pv 1)) rfl (by decide +kernel) rfl (by decide +kernel) (sub_of (fun p hp => absurd hp (List.not_mem_nil))) rfl
        (.own .nil)
        (fun C s3 H3 fp pn => ⟨(pg_name (i := 0) (by show (["_law_one"] : List Str).Nodup; decide +kernel) rfl (.inl rfl)), pif_nil, (pe_tup (pa_cons (pe_ix (ix_tupK (K := K) rfl) (pv 0) pe_int (fun _ _ => rfl)) (pa_cons (pe_ix (ix_tupK (K := K) rfl) (pv 0) pe_int (fun _ _ => rfl)) pa_nil)))⟩)))
      (pss_cons (ps_for PassesOwn.never rfl (pi_range2 rfl B.range (pa_cons (pv 2) (pa_cons (pe_op op_add (pv 2) pe_int) pa_nil))) (pg_name (i := 5) scHomes.nd rfl (Or.inl rfl))
        (pss_one (ps_for PassesOwn.never rfl (pi_range1 rfl B.range (pa_cons (pe_callB call_len_seq (by rfl) B.len bt_len (pa_cons (pv 0) pa_nil)) pa_nil)) (pg_name (i := 6) scHomes.nd rfl (Or.inl rfl))
        (pss_cons (ps_asg (pe_ix ix_list (pv 0) (pv 6) (fun _ _ => rfl)) (pg_tup rfl (pgs_cons (pg_name (i := 7) scHomes.nd rfl (Or.inl rfl)) (pgs_cons (pg_name (i := 8) scHomes.nd rfl (Or.inl rfl)) (pgs_cons (pg_name (i := 9) scHomes.nd rfl (Or.inl rfl)) (pgs_cons (pg_name (i := 10) scHomes.nd rfl (Or.inl rfl)) pgs_nil))))))
      (pss_one (ps_for PassesOwn.never rfl (pi_range1 rfl B.range (pa_cons (pe_callB call_len_seq (by rfl) B.len bt_len (pa_cons (pv 1) pa_nil)) pa_nil)) (pg_name (i := 11) scHomes.nd rfl (Or.inl rfl))
        (pss_cons (ps_set (i := 12) scHomes.nd rfl (Or.inl rfl) (pe_and (pe_cmpR op_eq (pe_ix ix_tup (pe_ix ix_list (pv 4) (pv 11) (fun _ _ => rfl)) pe_int (fun _ _ => rfl)) (pv 7) (nomark _)) (pe_and (pe_cmpR op_le (pe_ix ix_tup (pe_ix ix_list (pv 4) (pv 11) (fun _ _ => rfl)) pe_int (fun _ _ => rfl)) (pv 5) (nomark _)) (pe_one (pe_cmpR op_gt (pv 10) pe_int (nomark _))))))
      (pss_one (ps_if (PW.pt (pw_and (pt_val (pv 12)) (pw_and (pt_cmpR op_ne (pv 7) (pe_ix ix_tup (pe_ix ix_list (pv 1) (pv 11) (fun _ _ => rfl)) pe_int (fun _ _ => rfl)) (nomark _)) (pw_and1 (pt_val (pe_call G__law_goes (hr.mono (by decide)) (by rfl) D__law_goes.at_ D__law_goes.fn.kp D__law_goes.bd .nil pass0 (pa_cons (pv 3) (pa_cons (pv 5) (pa_cons (pv 6) (pa_cons (pv 11) pa_nil)))))))))) (pss_cons (ps_asg (pe_tup (pa_cons (pv 8) (pa_cons (pe_op op_add (pv 5) (pv 9)) pa_nil))) (pg_sub (pv 4) (pv 11) set_list))
      (pss_one (ps_set (i := 10) scHomes.nd rfl (Or.inl rfl) (pe_op op_sub (pv 10) pe_int)))) pss_nil)))))))))
      (pss_one (ps_ret (pe_lc (N' := ["_law_n", "_law_spots", "_law_letters_here"]) (cs := [none, some 4, some 1]) rfl (pi_range1 rfl B.range (pa_cons (pe_callB call_len_seq (by rfl) B.len bt_len (pa_cons (pv 1) pa_nil)) pa_nil)) rfl (by decide +kernel) rfl (by decide +kernel) (sub_of (List.forall_mem_cons.mpr ⟨rfl, (List.forall_mem_cons.mpr ⟨rfl, (fun p hp => absurd hp (List.not_mem_nil))⟩)⟩)) rfl
        (.own (.cap rfl (.inl rfl) (.inl rfl) rfl (.cap rfl (.inl rfl) (.inl rfl) rfl .nil)))
        (fun C s3 H3 fp pn => ⟨(pg_name (i := 0) (by show (["_law_n", "_law_spots", "_law_letters_here"] : List Str).Nodup; decide +kernel) rfl (.inl rfl)), (pif_one (pt_cmpR op_eq (pe_ix (ix_tupK (K := K) rfl) (pe_ix (ix_listK (K := K) rfl) (pv 1) (pv 0) (fun _ _ => rfl)) pe_int (fun _ _ => rfl)) (pe_ix (ix_tupK (K := K) rfl) (pe_ix (ix_listK (K := K) rfl) (pv 2) (pv 0) (fun _ _ => rfl)) pe_int (fun _ _ => rfl)) (nomark _))), (pe_ix (ix_tupK (K := K) rfl) (pe_ix (ix_listK (K := K) rfl) (pv 1) (pv 0) (fun _ _ => rfl)) pe_int (fun _ _ => rfl))⟩)))))), ?_⟩
    have hlen := hL.len
    have tl := refs_len ts
    have rl := refs_len rs
    have rlen := hR.len
    dsimp only [tSeq, tAsg]
    refine tlc_tup (J := Itl K l) (H1 := H) (xs := refs ts) (rest := []) (fun R h => ⟨_, rfl, l, rfl, ⟨_, SqL.of hl⟩, h⟩) rfl (wk_list (SqL.of hl)) (small1000 (by omega)) (two H) (fun i v H2 R ev sm hR2 => ?_) (fun D H1 us nD hD tp sD => ?_)
    · unfold refs at ev
      rw [List.getElem?_map] at ev
      obtain ⟨rr, er, rfl⟩ := Option.map_eq_some_iff.mp ev
      obtain ⟨d, ed, dA, _, hd⟩ := hL.get er
      have e2 : two H (.ref rr) = spV hs (d.a, d.t) := two_ref hd
      rw [e2] at hR2
      exact ⟨_, rfl, rr, _, _, _, rfl, rfl, SqT.of (sm _ _ hd), rfl, _, rfl, rr, _, _, _, rfl, rfl, SqT.of (sm _ _ hd), rfl, (by show 2 ≤ sizeLine; decide), fun t nt => hR2 t _ (upd_free nt) upd_same⟩
    rw [map_two hL.tups] at tp
    have sp0 : Spots H H1 D us hs (ls.map fun d => (d.a, d.t)) ls.length := ⟨sD, hD, tp, by rw [List.length_map], fun s hs' => by
      obtain ⟨d, hd, rfl⟩ := List.mem_map.mp hs'
      exact (hL.ok d hd).1⟩
    refine gName_ap' ?_
    refine ⟨_, rfl, _, rfl, _, _, rfl, rfl, bs, bs + 16, rfl, ⟨by omega, by omega, by omega, by omega⟩, ?_⟩
    rw [show (bs + 16 - bs).toNat = 16 by omega]
    refine for_range (lo := bs) (n := 16) (fun i σ Hc => ∃ (us : List Addr) (ss : List (Nat × Int)) (v5 v6 v7 v8 v9 v10 v11 v12 : Option L2.V), σ = [some (.ref r), some (.ref l), some (.int bs), some (.int c), some (.ref D), v5, v6, v7, v8, v9, v10, v11, v12] ∧ Spots H Hc D us hs ss ls.length ∧
      ∀ pp T, (cntD pp T ss : Int) ≤ outP pp ls T + crossA pp T ds bs i) ⟨us, _, none, none, none, none, none, none, none, none, rfl, sp0, fun pp T => ?_⟩ ?_ ?_
    · rw [cntD_begin]
      show ((outP pp ls T : Nat) : Int) ≤ (outP pp ls T : Nat) + 0
      omega
    · rintro i σ Hc hi ⟨us, ss, v5, v6, v7, v8, v9, v10, v11, v12, rfl, S0, le⟩
      refine ⟨_, rfl, r, _, rfl, .inl (SqL.of (S0.sm _ _ hr')), _, rfl, (by show -(2 ^ 62) ≤ ((refs rs).length : Int); omega), (by show ((refs rs).length : Int) < 2 ^ 62; omega), ?_⟩
      refine for_range (lo := 0) (n := (((refs rs).length : Int)).toNat) (fun j σ Hc => ∃ (us : List Addr) (ss : List (Nat × Int)) (v6 v7 v8 v9 v10 v11 v12 : Option L2.V), σ = [some (.ref r), some (.ref l), some (.int bs), some (.int c), some (.ref D), some (.int (bs + (i : Int))), v6, v7, v8, v9, v10, v11, v12] ∧ Spots H Hc D us hs ss ls.length ∧
        ∀ pp T, (cntD pp T ss : Int) ≤ outP pp ls T + crossA pp T ds bs i + crossR pp T (ds.take j) (bs + (i : Int))) ⟨us, ss, v6, v7, v8, v9, v10, v11, v12, rfl, S0, fun pp T => ?_⟩ ?_ ?_
      · show (cntD pp T ss : Int) ≤ outP pp ls T + crossA pp T ds bs i + 0
        have := le pp T
        omega
      · rintro j σ Hc hj ⟨us, ss, v6, v7, v8, v9, v10, v11, v12, rfl, S1, le1⟩
        have hj' : j < rs.length := by omega
        have er : rs[j]? = some rs[j] := List.getElem?_eq_getElem hj'
        obtain ⟨d, ed, ok, hd⟩ := hR.get er
        have tkR : ∀ pp T, crossR pp T (ds.take (j + 1)) (bs + (i : Int)) = crossR pp T (ds.take j) (bs + (i : Int)) + crossN pp T d (bs + (i : Int)) := fun pp T => by
          unfold crossR
          rw [List.take_add_one, ed, List.map_append, List.sum_append]
          simp
        have m1 := ok.m
        refine ⟨_, rfl, _, rfl, r, _, _, _, rfl, rfl, SqL.of (S1.sm _ _ hr'), refs_at er, rs[j], _, rfl, SqT.of (S1.sm _ _ hd), rfl, _, _, rfl, _, _, rfl, _, _, rfl, _, _, rfl, rfl, ?_⟩
        refine ⟨_, rfl, l, _, rfl, .inl (SqL.of (S1.sm _ _ hl)), _, rfl, (by show -(2 ^ 62) ≤ ((refs ts).length : Int); omega), (by show ((refs ts).length : Int) < 2 ^ 62; omega), ?_⟩
        refine for_range (lo := 0) (n := (((refs ts).length : Int)).toNat) (fun n σ Hc => ∃ (us : List Addr) (ss : List (Nat × Int)) (rm : Int) (v11 v12 : Option L2.V), σ = [some (.ref r), some (.ref l), some (.int bs), some (.int c), some (.ref D), some (.int (bs + (i : Int))), some (.int ((0 : Int) + (j : Int))), some (.str (S (hs.getD d.a []))), some (.str (S (hs.getD d.b []))), some (.int d.t), some (.int rm), v11, v12] ∧ Spots H Hc D us hs ss ls.length ∧
          0 ≤ rm ∧ rm ≤ d.m ∧ ∀ pp T, (cntD pp T ss : Int) ≤ outP pp ls T + crossA pp T ds bs i + crossR pp T (ds.take j) (bs + (i : Int)) + (if crossP pp T d (bs + (i : Int)) = true then d.m - rm else 0)) ⟨us, ss, d.m, v11, v12, rfl, S1, by omega, Int.le_refl _, fun pp T => ?_⟩ ?_ ?_
        · have := le1 pp T
          split <;> omega
        · rintro n σ Hc hn ⟨us, ss, rm, v11, v12, rfl, S2, r0, r1, le2⟩
          have hn' : n < ls.length := by omega
          obtain ⟨u, s, eu, es, sk, hu⟩ := S2.get hn'
          have et : ts[n]? = some ts[n] := List.getElem?_eq_getElem (by omega)
          obtain ⟨d', ed', _, db', hd'⟩ := hL.get et
          have hd'' := S2.sm _ _ hd'
          refine ⟨_, rfl, _, rfl, D, _, _, _, rfl, rfl, SqL.of S2.at_, refs_at eu, u, _, _, _, rfl, rfl, SqT.of hu, rfl, _, rfl, rfl, _, rfl, ?_⟩
          by_cases h1 : s.1 = d.a
          · refine iteB (decide_eq_true (by rw [h1])) ?_
            refine ⟨_, rfl, _, rfl, D, _, _, _, rfl, rfl, SqL.of S2.at_, refs_at eu, u, _, _, _, rfl, rfl, SqT.of hu, rfl, _, rfl, _, _, rfl, rfl, _, rfl, ?_⟩
            by_cases h2 : s.2 ≤ bs + (i : Int)
            · refine iteB (decide_eq_true h2) ?_
              refine ⟨_, rfl, _, _, rfl, rfl, ?_⟩
              refine ⟨_, rfl, _, rfl, ?_⟩
              by_cases h3 : 0 < rm
              · refine iteB (decide_eq_true h3) ?_
                refine ⟨_, rfl, _, rfl, _, rfl, l, _, _, _, rfl, rfl, SqL.of (S2.sm _ _ hl), refs_at et, ts[n], _, _, _, rfl, rfl, SqT.of hd'', rfl, rfl, _, rfl, ?_⟩
                refine ite2 (fun h4 => ?_) (fun h4 => ?_)
                · refine ⟨_, rfl, _, rfl, _, rfl, _, rfl, c, bs + (i : Int), (0 : Int) + (j : Int), (0 : Int) + (n : Int), rfl, (by omega), (by omega), fun b => ⟨_, rfl, ?_⟩⟩
                  cases b with
                  | true =>
                    refine iteT ?_
                    refine ⟨_, rfl, _, rfl, _, rfl, _, _, rfl, rfl, (by show 2 ≤ sizeLine; decide), fun t nt => ⟨_, rfl, _, rfl, D, _, _, n, rfl, rfl, (upd_free nt) _ _ S2.at_, ixN_nat (by have := S2.tp.len; rw [List.length_map, S2.len] at this; rw [refs_len]; omega), ?_⟩⟩
                    refine ⟨_, rfl, _, _, rfl, rfl, ?_⟩
                    refine ⟨us.set n t, ss.set n (d.b, bs + (i : Int) + d.t), rm - 1, _, _, rfl, S2.set (s := (d.b, bs + (i : Int) + d.t)) nD nt ok.b, (by omega), (by omega), fun pp T => ?_⟩
                    have es' : ss[n]? = some (d.a, s.2) := by rw [es, ← h1]
                    have mv := move_le (pp := pp) (T := T) (d := d) (now := bs + (i : Int)) es' h2 ok.t.1
                    have l2 := le2 pp T
                    split at mv
                    · rename_i hc
                      rw [if_pos hc] at l2 ⊢
                      omega
                    · rename_i hc
                      rw [if_neg hc] at l2 ⊢
                      omega
                  | false => exact iteF ⟨us, ss, rm, _, _, rfl, S2, r0, r1, le2⟩
                · exact ⟨us, ss, rm, _, _, rfl, S2, r0, r1, le2⟩
              · exact iteN (decide_eq_false h3) ⟨us, ss, rm, _, _, rfl, S2, r0, r1, le2⟩
            · refine iteN (decide_eq_false h2) ?_
              exact ⟨_, rfl, _, rfl, iteF ⟨us, ss, rm, _, _, rfl, S2, r0, r1, le2⟩⟩
          · have n1 : decide (V.str (S (hs.getD s.1 [])) = V.str (S (hs.getD d.a []))) = false := (dec_house nd sk ok.a).trans (decide_eq_false h1)
            refine iteN n1 ?_
            exact ⟨_, rfl, _, rfl, iteF ⟨us, ss, rm, _, _, rfl, S2, r0, r1, le2⟩⟩
        · rintro σ Hc ⟨us, ss, rm, v11, v12, rfl, S2, r0, r1, le2⟩
          refine ⟨us, ss, _, _, _, _, _, v11, v12, rfl, S2, fun pp T => ?_⟩
          have h3 := le2 pp T
          rw [tkR]
          unfold crossN
          split at h3
          · rename_i hc; rw [if_pos hc]; omega
          · rename_i hc; rw [if_neg hc]; omega
      · rintro σ Hc ⟨us, ss, v6, v7, v8, v9, v10, v11, v12, rfl, S1, le1⟩
        refine ⟨us, ss, _, v6, v7, v8, v9, v10, v11, v12, rfl, S1, fun pp T => ?_⟩
        have h3 := le1 pp T
        rw [show (((refs rs).length : Int)).toNat = ds.length by omega, List.take_length] at h3
        show (cntD pp T ss : Int) ≤ outP pp ls T + (crossA pp T ds bs i + crossR pp T ds (bs + (i : Int)))
        omega
    · rintro σ Hc ⟨us, ss, v5, v6, v7, v8, v9, v10, v11, v12, rfl, S0, le⟩
      have ulen := S0.tp.len
      rw [List.length_map, S0.len] at ulen
      have item : ∀ (i : Nat) (v : L2.V), ((List.range (refs ts).length).map fun i : Nat => V.int ((0 : Int) + (i : Int)))[i]? = some v → i < ls.length ∧ v = .int ((0 : Int) + (i : Int)) := fun i v ev => by
        rw [List.getElem?_map] at ev
        obtain ⟨j, ej, rfl⟩ := Option.map_eq_some_iff.mp ev
        obtain ⟨hi, e⟩ := List.getElem?_eq_some_iff.mp ej
        rw [List.length_range] at hi
        rw [List.getElem_range] at e
        subst e
        exact ⟨by omega, rfl⟩
      dsimp only [tRet]
      refine tlc_fi (J := Itr 0 (refs ts).length) (H1 := Hc) (xs := (List.range (refs ts).length).map fun i : Nat => V.int ((0 : Int) + (i : Int))) (rest := [some (.ref D), some (.ref l)]) (fun R h => ⟨_, rfl, l, _, rfl, .inl (SqL.of (S0.sm _ _ hl)), _, rfl, (by show -(2 ^ 62) ≤ ((refs ts).length : Int); omega), (by show ((refs ts).length : Int) < 2 ^ 62; omega), h⟩) rfl (wk_range 0 _) (small1000 (by rw [List.length_map, List.length_range]; omega))
        (fun i => decide ((ss.getD i (0, 0)).1 = 0)) (fun i => .int (ss.getD i (0, 0)).2) (fun i v H2 R ev sm hR2 => ?_) (fun i v H2 R ev _ sm hR2 => ?_) (fun D2 H2 n2 hD2 s2 => ?_)
      · obtain ⟨hi, rfl⟩ := item i v ev
        obtain ⟨u, s, eu, es, sk, hu⟩ := S0.get hi
        have et : ts[i]? = some ts[i] := List.getElem?_eq_getElem (by omega)
        obtain ⟨d', ed', _, db', hd'⟩ := hL.get et
        have b0 := hb0 d' (List.mem_of_getElem? ed')
        rw [gd_of es] at hR2
        have e2 := dec_house nd sk db'
        rw [b0] at e2
        refine ⟨_, rfl, _, rfl, D, _, _, _, rfl, rfl, SqL.of (sm _ _ S0.at_), refs_at eu, u, _, _, _, rfl, rfl, SqT.of (sm _ _ hu), rfl, _, rfl, _, rfl, l, _, _, _, rfl, rfl, SqL.of (sm _ _ (S0.sm _ _ hl)), refs_at et, ts[i], _, _, _, rfl, rfl, SqT.of (sm _ _ (S0.sm _ _ hd')), rfl, rfl, _, rfl, ?_⟩
        have h5 := hR2 H2 (Same.refl _)
        rw [← e2, ← b0] at h5
        exact h5
      · obtain ⟨hi, rfl⟩ := item i v ev
        obtain ⟨u, s, eu, es, sk, hu⟩ := S0.get hi
        rw [gd_of es] at hR2
        exact ⟨_, rfl, _, rfl, D, _, _, _, rfl, rfl, SqL.of (sm _ _ S0.at_), refs_at eu, u, _, _, _, rfl, rfl, SqT.of (sm _ _ hu), rfl, hR2 H2 (Same.refl _)⟩
      · refine q D2 H2 ss ?_ (S0.sm.trans s2) (fun pp T => ?_) (by rw [S0.len]; exact fewL) ?_
        · cases e : H D2 with
          | none => rfl
          | some o => rw [S0.sm _ _ e] at n2; cases n2
        · have h1 := le pp T
          have h2 := crossA_le (pp := pp) (T := T) (b := bs) (n := 16) (ds := ds) fun d hd => by have := (hR.ok d hd).m; omega
          omega
        · rw [hD2, List.length_map, List.length_range, tl, hlen, ← S0.len, List.map_map]
          congr 2
          exact filter_range_map (fun s : Nat × Int => decide (s.1 = 0)) (fun s => V.int s.2) (0, 0) ss
theorem ok_dr2 {f : Addr} {fd : FuncData} (F : Fun K "_law_drawn" "_law_drawn" sDr2 f fd) (B : Blt mg) : FnOk P w K mg base CX0 1 f fd ["_law_houses_here", "_law_base", "_law_cell"] (spDr2 K) := by
  refine F.ok scDr2 (fun vs H Q E h => ?_) (fun cdv A outer s H vs Q E hr h => ?_)
  · obtain ⟨b, hs, bs, c, rfl, _⟩ := h
    rfl
  · obtain ⟨b, hs, bs, c, rfl, hb, nd, h1, hl, hbs, q⟩ := h
    refine ⟨_, (pss_cons (ps_set (i := 3) scDr2.nd rfl (Or.inl rfl) (pe_disp (pps_cons (pe_ix ix_list (pv 0) pe_int (fun _ _ => rfl)) pe_non pps_nil) rfl rfl (by intro z; cases z) (by decide)))
      (pss_cons (ps_for PassesOwn.never rfl (pi_range2 rfl B.range (pa_cons pe_int (pa_cons (pe_callB call_len_seq (by rfl) B.len bt_len (pa_cons (pv 0) pa_nil)) pa_nil))) (pg_name (i := 4) scDr2.nd rfl (Or.inl rfl))
        (pss_cons (ps_set (i := 5) scDr2.nd rfl (Or.inl rfl) (pe_op op_mod (pe_op op_mul (pe_op op_add (pv 2) (pe_op op_mul (pe_op op_mul pe_int (pv 4)) (pv 4))) pe_int) pe_int))
      (pss_cons (ps_dput (hu_of hr) (pv 3) (pe_ix ix_list (pv 0) (pv 4) (fun _ _ => rfl)) (pe_op op_add (pv 1) (pe_op op_mod (pe_op op_fdiv (pv 5) pe_int) pe_int)) rfl)
      (pss_one (ps_if (pt_cmpR op_eq (pe_op op_mod (pv 5) pe_int) pe_int (nomark _)) (pss_one (ps_dput (hu_of hr) (pv 3) (pe_ix ix_list (pv 0) (pv 4) (fun _ _ => rfl)) pe_non rfl)) pss_nil)))))
      (pss_one (ps_ret (pv 3))))), ?_⟩
    have tl := txs_len hs
    have at0 : atI (txs hs) 0 = some (V.str (S (hs.getD (0 : Int).toNat []))) := txs_at (k := 0) (by decide) (by omega)
    refine fun p hp => ⟨_, rfl, b, _, _, _, rfl, rfl, (upd_free hp).seq hb, at0, upd_same, [(hk hs 0, .non)], rfl, (by show 1 ≤ 15; decide), ?_⟩
    have e0 : upd (upd H p (.dK [])) p (.dK (mergeK [] [(hk hs 0, V.non)])) = upd H p (.dK [(hk hs 0, V.non)]) := by
      rw [upd_upd]
      rfl
    rw [e0]
    have s0 : Same H (upd H p (.dK [(hk hs 0, V.non)])) := upd_free hp
    refine ⟨_, rfl, b, _, rfl, .inl (s0.seq hb), 1, _, rfl, ⟨by decide, by decide, (by show -(2 ^ 62) ≤ ((txs hs).length : Int); omega), (by show ((txs hs).length : Int) < 2 ^ 62; omega)⟩, ?_⟩
    refine for_range (lo := 1) (n := (((txs hs).length : Int) - 1).toNat) (fun i σ Hc => ∃ (kvs : List (Key × L2.V)) (v4 v5 : Option L2.V), σ = [some (.ref b), some (.int bs), some (.int c), some (.ref p), v4, v5] ∧ Same H Hc ∧ Hc p = some (.dK kvs) ∧ Drawn kvs hs (i + 1) bs (bs + 20) ∧ valV kvs (hk hs 0) = some .non)
      ⟨_, none, none, rfl, s0, upd_same, Drawn.one nd (by omega), valV_pos rfl⟩ ?_ ?_
    · rintro i σ Hc hi ⟨kvs, v4, v5, rfl, sm, hpc, dr, z0⟩
      have hi' : i + 1 < hs.length := by omega
      have atk : atI (txs hs) (1 + (i : Int)) = some (V.str (S (hs.getD (i + 1) []))) := by
        have := txs_at (hs := hs) (k := 1 + (i : Int)) (by omega) (by omega)
        rw [show (1 + (i : Int)).toNat = i + 1 by omega] at this
        exact this
      have hbc : SqL K Hc b (txs hs) := sm.seq hb
      have keep : ∀ (k : List (Key × L2.V)) (v : L2.V), valV k (hk hs 0) = some .non → valV (putK k (hk hs (i + 1)) v) (hk hs 0) = some .non := fun k v z => by
        rw [valV_put, if_neg (hk_ne nd (by omega) hi' (by omega))]
        exact z
      refine ⟨_, rfl, _, rfl, _, _, rfl, rfl, .inl ⟨by decide, by decide⟩, _, rfl, _, _, rfl, rfl, .inr ⟨by omega, by omega⟩, _, _, rfl, rfl, _, _, rfl, rfl, .inr ⟨by decide, by decide⟩, _, _, rfl, rfl, (by show (0 : Int) < 2147483647; decide), ?_⟩
      generalize (c + 7919 * (1 + (i : Int)) * (1 + (i : Int))) * 48271 = n0
      have m0 : 0 ≤ n0 % 2147483647 / 4 % 21 := Int.emod_nonneg _ (by decide)
      have m1 : n0 % 2147483647 / 4 % 21 < 21 := Int.emod_lt_of_pos _ (by decide)
      have dl := dr.len
      refine ⟨_, rfl, _, rfl, _, _, rfl, rfl, ⟨by decide, by decide⟩, _, _, rfl, rfl, (by show (0 : Int) < 21; decide), _, _, rfl, rfl, _, rfl, _, rfl, _, rfl, b, _, _, _, rfl, rfl, hbc, atk, p, _, rfl, DPut.k (k := hk hs (i + 1)) hpc (small1000 (by omega)), ?_⟩
      have d1 := dr.new nd hi' (some (bs + n0 % 2147483647 / 4 % 21)) fun f e => by cases e; omega
      have sm1 := upd_other (o := .dK (putK kvs (hk hs (i + 1)) (papV (some (bs + n0 % 2147483647 / 4 % 21))))) hp sm
      have hp1 := upd_same (H := Hc) (a := p) (o := .dK (putK kvs (hk hs (i + 1)) (papV (some (bs + n0 % 2147483647 / 4 % 21)))))
      have z1 := keep kvs (papV (some (bs + n0 % 2147483647 / 4 % 21))) z0
      refine ⟨_, rfl, _, _, rfl, rfl, (by show (0 : Int) < 4; decide), rfl, _, rfl, ?_⟩
      refine ite2 (fun h => ?_) (fun h => ?_)
      · refine ⟨_, rfl, _, rfl, _, rfl, b, _, _, _, rfl, rfl, sm1.seq hb, atk, p, _, rfl, DPut.k (k := hk hs (i + 1)) hp1 (small1000 (by have := d1.len; omega)), ?_⟩
        have d2 := d1.old nd hi' none fun f e => by cases e
        exact ⟨_, _, _, rfl, upd_other hp sm1, upd_same, d2, keep _ _ z1⟩
      · exact ⟨_, _, _, rfl, sm1, hp1, d1, z1⟩
    · rintro σ Hc ⟨kvs, v4, v5, rfl, sm, hpc, dr, z0⟩
      refine ⟨_, rfl, q p Hc kvs hp sm hpc ?_ z0⟩
      rw [show (((txs hs).length : Int) - 1).toNat + 1 = hs.length by omega] at dr
      exact dr
end
end K1
set_option Elab.async false
set_option linter.all false
set_option maxRecDepth 100000
set_option maxHeartbeats 4000000
namespace K1
open PySem L2 L3 M1
noncomputable def leV (T : Int) : L2.V → Bool
  | .int z => decide (z ≤ T)
  | _ => false
theorem filt_leV (T : Int) (zs : List Int) : (zs.map V.int).filter (leV T) = (zs.filter fun z => decide (z ≤ T)).map V.int := by
  rw [List.filter_map]
  rfl
theorem Drawn.weak {kvs : List (Key × L2.V)} {hs : List (List Nat)} {m : Nat} {lo hi lo' hi' : Int} (d : Drawn kvs hs m lo hi) (h1 : lo' ≤ lo) (h2 : hi ≤ hi') : Drawn kvs hs m lo' hi' :=
  ⟨fun k hk' => let ⟨o, e, b⟩ := d.at_ k hk'; ⟨o, e, fun f ef => ⟨Int.le_trans h1 (b f ef).1, Int.le_trans (b f ef).2 h2⟩⟩, d.nd, d.vs, d.len, d.no⟩
section
variable {P : Program} {w : World} {K : PySem.W.Frag} {mg : Str → Option Value} {base : Heap}
noncomputable abbrev sLaw : Stmt := top 35
noncomputable abbrev nLaw42 : List Str := ["_law_script", "_law_houses_here", "_law_base", "_law_roads_here", "_law_letters_here", "_law_cell", "_law_homes_here", "_law_full", "_law_none", "_law_house", "_law_net", "_law_paper", "_law_last", "_law_out", "_law_carried"]
theorem scLaw : FnScope nLaw42 ["_law_script"] (defScope sLaw) := ⟨rfl, rfl, rfl, by decide +kernel, rfl, by decide +kernel, by decide +kernel⟩
theorem ok_law {C f fa fh fr fl fi fd' fp fu : Addr} {fd fda fdh fdr fdl fdi fdd fdp fdu : FuncData} (F : Fun K "law" "law" sLaw f fd) (B : Blt mg) (at_Net : mg "Net" = some (.ref C))
    (D__law_at : Dn K mg "_law_at" sAt ["_law_script", "_law_k"] fa fda) (G__law_at : FnOk P w K mg base CX0 1 fa fda ["_law_script", "_law_k"] (spAt K))
    (D__law_houses : Dn K mg "_law_houses" sHouses ["_law_cell", "_law_many"] fh fdh) (G__law_houses : FnOk P w K mg base CX0 2 fh fdh ["_law_cell", "_law_many"] spHouses)
    (D__law_roads : Dn K mg "_law_roads" sRoads ["_law_cells", "_law_houses_here", "_law_long"] fr fdr) (G__law_roads : FnOk P w K mg base CX0 1 fr fdr ["_law_cells", "_law_houses_here", "_law_long"] (spRoadsG K))
    (D__law_letters : Dn K mg "_law_letters" sLets pLets fl fdl) (G__law_letters : FnOk P w K mg base CX0 1 fl fdl pLets (spLets K))
    (Mk_Net : Mk K C fi) (D_Net_init : Inn K C "Net.__init__" sInit ["self", "houses", "roads"] fi fdi) (G_Net_init : FnOk P w K mg base CX0 5 fi fdi ["self", "houses", "roads"] (spInit K C))
    (D__law_drawn : Dn K mg "_law_drawn" sDr2 ["_law_houses_here", "_law_base", "_law_cell"] fd' fdd) (G__law_drawn : FnOk P w K mg base CX0 1 fd' fdd ["_law_houses_here", "_law_base", "_law_cell"] (spDr2 K))
    (D_paper_sum : Dn K mg "paper_sum" sPS ["net", "letters", "paper", "turn"] fp fdp) (G_paper_sum : FnOk P w K mg base CX0 3 fp fdp ["net", "letters", "paper", "turn"] (spPS C))
    (D__law_homes : Dn K mg "_law_homes" sHomes pHomes fu fdu) (G__law_homes : FnOk P w K mg base CX0 2 fu fdu pHomes spHomes) :
    FnOk P w K mg base CX0 7 f fd ["_law_script"] (spLaw K) := by
  refine F.ok scLaw (fun vs H Q E h => ?_) (fun cdv A outer s H vs Q E hr h => ?_)
  · obtain ⟨a, ns, rfl, _⟩ := h
    rfl
  · obtain ⟨a, ns, rfl, hS, hns, q⟩ := h
    refine ⟨_, (pss_cons (ps_set (i := 1) scLaw.nd rfl (Or.inl rfl) (pe_call G__law_houses (hr.mono (by decide)) (by rfl) D__law_houses.at_ D__law_houses.fn.kp D__law_houses.bd .nil pass0 (pa_cons (pe_call G__law_at (hr.mono (by decide)) (by rfl) D__law_at.at_ D__law_at.fn.kp D__law_at.bd .nil pass0 (pa_cons (pv 0) (pa_cons pe_int pa_nil))) (pa_cons (pe_op op_add pe_int (pe_op op_mod (pe_call G__law_at (hr.mono (by decide)) (by rfl) D__law_at.at_ D__law_at.fn.kp D__law_at.bd .nil pass0 (pa_cons (pv 0) (pa_cons pe_int pa_nil))) pe_int)) pa_nil))))
      (pss_cons (ps_set (i := 2) scLaw.nd rfl (Or.inl rfl) (pe_op op_mod (pe_call G__law_at (hr.mono (by decide)) (by rfl) D__law_at.at_ D__law_at.fn.kp D__law_at.bd .nil pass0 (pa_cons (pv 0) (pa_cons pe_int pa_nil))) pe_int))
      (pss_cons (ps_set (i := 3) scLaw.nd rfl (Or.inl rfl) (pe_call G__law_roads (hr.mono (by decide)) (by rfl) D__law_roads.at_ D__law_roads.fn.kp D__law_roads.bd .nil pass0 (pa_cons (pe_slice3 (pv 0) (po_some pe_int) (po_some pe_int) pe_int) (pa_cons (pv 1) (pa_cons pe_int pa_nil)))))
      (pss_cons (ps_set (i := 4) scLaw.nd rfl (Or.inl rfl) (pe_call G__law_letters (hr.mono (by decide)) (by rfl) D__law_letters.at_ D__law_letters.fn.kp D__law_letters.bd .nil pass0 (pa_cons (pe_slice3 (pv 0) (po_some pe_int) (po_some pe_int) pe_int) (pa_cons (pv 1) (pa_cons pe_int (pa_cons (pv 2) (pa_cons pe_int pa_nil)))))))
      (pss_cons (ps_set (i := 5) scLaw.nd rfl (Or.inl rfl) (pe_op op_mod (pe_call G__law_at (hr.mono (by decide)) (by rfl) D__law_at.at_ D__law_at.fn.kp D__law_at.bd .nil pass0 (pa_cons (pv 0) (pa_cons pe_int pa_nil))) (pe_op op_pow pe_int pe_int)))
      (pss_cons (ps_set (i := 6) scLaw.nd rfl (Or.inl rfl) (pe_call G__law_homes (hr.mono (by decide)) (by rfl) D__law_homes.at_ D__law_homes.fn.kp D__law_homes.bd .nil pass0 (pa_cons (pv 3) (pa_cons (pv 4) (pa_cons (pv 2) (pa_cons (pv 5) pa_nil))))))
      (pss_cons (ps_set (i := 7) scLaw.nd rfl (Or.inl rfl) (pe_disp (pps_cons (pe_ix ix_list (pv 1) pe_int (fun _ _ => rfl)) pe_non pps_nil) rfl rfl (by intro z; cases z) (by decide)))
      (pss_cons (ps_set (i := 8) scLaw.nd rfl (Or.inl rfl) (pe_disp (pps_cons (pe_ix ix_list (pv 1) pe_int (fun _ _ => rfl)) pe_non pps_nil) rfl rfl (by intro z; cases z) (by decide)))
      (pss_cons (ps_for PassesOwn.never rfl (pi_list (pe_slice sl_list (pv 1) (po_some pe_int) po_none)) (pg_name (i := 9) scLaw.nd rfl (Or.inl rfl))
        (pss_cons (ps_dput (hu_of hr) (pv 7) (pv 9) pe_int rfl)
      (pss_one (ps_dput (hu_of hr) (pv 8) (pv 9) pe_non rfl))))
      (pss_cons (ps_set (i := 10) scLaw.nd rfl (Or.inl rfl) (pe_make Mk_Net G_Net_init (hr.mono (by decide)) (by rfl) at_Net D_Net_init.bd .nil pass0 (pa_cons (pv 1) (pa_cons (pv 3) pa_nil))))
      (pss_cons (ps_for PassesOwn.never rfl (pi_list (pe_lst (pa_cons (pe_call G__law_drawn (hr.mono (by decide)) (by rfl) D__law_drawn.at_ D__law_drawn.fn.kp D__law_drawn.bd .nil pass0 (pa_cons (pv 1) (pa_cons (pv 2) (pa_cons (pv 5) pa_nil)))) (pa_cons (pv 7) (pa_cons (pv 8) (pa_cons (pe_call G__law_drawn (hr.mono (by decide)) (by rfl) D__law_drawn.at_ D__law_drawn.fn.kp D__law_drawn.bd .nil pass0 (pa_cons (pv 1) (pa_cons (pv 2) (pa_cons (pe_op op_add (pv 5) pe_int) pa_nil)))) pa_nil)))))) (pg_name (i := 11) scLaw.nd rfl (Or.inl rfl))
        (pss_one (ps_for PassesOwn.never rfl (pi_list (pe_lst (pa_cons (pe_op op_add (pv 2) (pe_op op_mod (pv 5) pe_int)) (pa_cons (pe_op op_add (pv 2) (pe_op op_mod (pe_op op_fdiv (pv 5) pe_int) pe_int)) pa_nil)))) (pg_name (i := 12) scLaw.nd rfl (Or.inr rfl))
        (pss_cons (ps_asg (pe_call G_paper_sum (hr.mono (by decide)) (by rfl) D_paper_sum.at_ D_paper_sum.fn.kp D_paper_sum.bd .nil pass0 (pa_cons (pv 10) (pa_cons (pv 4) (pa_cons (pv 11) (pa_cons (pv 12) pa_nil))))) (pg_tup rfl (pgs_cons (pg_name (i := 13) scLaw.nd rfl (Or.inl rfl)) (pgs_cons (pg_name (i := 14) scLaw.nd rfl (Or.inl rfl)) pgs_nil))))
      (pss_one (ps_if (pt_cmpR op_gt (pe_callB call_len_seq (by rfl) B.len bt_len (pa_cons (pe_lc (N' := ["_law_one", "_law_last"]) (cs := [none, some 12]) rfl (pi_list (pv 6)) rfl (by decide +kernel) rfl (by decide +kernel) (sub_of (List.forall_mem_cons.mpr ⟨rfl, (fun p hp => absurd hp (List.not_mem_nil))⟩)) rfl
        (.own (.cap rfl (.inl rfl) (.inl rfl) rfl .nil))
        (fun C s3 H3 fp pn => ⟨(pg_name (i := 0) (by show (["_law_one", "_law_last"] : List Str).Nodup; decide +kernel) rfl (.inl rfl)), (pif_one (pt_cmpR op_le (pv 0) (pv 1) (nomark _))), (pv 0)⟩)) pa_nil)) (pe_op op_add (pv 13) (pv 14)) (nomark _)) (pss_one (ps_ret pe_bl)) pss_nil))))))
      (pss_one (ps_ret pe_bl))))))))))))), ?_⟩
    have hm0 : 0 ≤ ns.getD (0 : Int).toNat 0 % 5 := Int.emod_nonneg _ (by decide)
    have hm1 : ns.getD (0 : Int).toNat 0 % 5 < 5 := Int.emod_lt_of_pos _ (by decide)
    refine ⟨_, rfl, a, ns, 0, rfl, hS, by decide, _, rfl, a, ns, 0, rfl, hS, by decide, _, _, rfl, rfl, (by show (0 : Int) < 5; decide), _, _, rfl, rfl, ns.getD (0 : Int).toNat 0, (2 + ns.getD (0 : Int).toNat 0 % 5).toNat, ?_, (by omega), fun p1 H1 np1 s1 h1 => ?_⟩
    · show [V.int _, V.int (2 + ns.getD (0 : Int).toNat 0 % 5)] = _
      rw [Int.toNat_of_nonneg (by omega)]
    have hG := houses_good (ns.getD (0 : Int).toNat 0) (2 + ns.getD (0 : Int).toNat 0 % 5).toNat (by omega)
    have hlen := houses_len (ns.getD (0 : Int).toNat 0) (2 + ns.getD (0 : Int).toNat 0 % 5).toNat (by omega)
    have h2 : 2 ≤ (housesL (ns.getD (0 : Int).toNat 0) (2 + ns.getD (0 : Int).toNat 0 % 5).toNat).length := by omega
    clear hlen
    generalize housesL (ns.getD (0 : Int).toNat 0) (2 + ns.getD (0 : Int).toNat 0 % 5).toNat = hs at h1 hG h2
    have hS1 := s1.seq hS
    have few := hG.few
    have nd := hG.nd
    -- the base
    have hb0 : 0 ≤ ns.getD (1 : Int).toNat 0 % 300 := Int.emod_nonneg _ (by decide)
    have hb2 : ns.getD (1 : Int).toNat 0 % 300 < 300 := Int.emod_lt_of_pos _ (by decide)
    refine ⟨_, rfl, a, ns, 1, rfl, hS1, by decide, _, _, rfl, rfl, (by show (0 : Int) < 300; decide), ?_⟩
    dsimp only
    generalize ns.getD (1 : Int).toNat 0 % 300 = bs at hb0 hb2 ⊢
    -- the roads
    refine ⟨_, rfl, _, rfl, _, rfl, a, _, _, rfl, rfl, (by decide), hS1, fun p2 np2 => ?_⟩
    have s2' := upd_free (o := .lst (stepV (ns.map V.int) (some 3) (some 43) 2)) np2
    have ecut : stepV (ns.map V.int) (some 3) (some 43) 2 = (stepV ns (some 3) (some 43) 2).map V.int := stepV_map _ _ _ _ _
    have lcut : (stepV ns (some 3) (some 43) 2).length ≤ 20 := stepV_two ns 3 43
    have hp2 := upd_same (H := H1) (a := p2) (o := .lst (stepV (ns.map V.int) (some 3) (some 43) 2))
    generalize upd H1 p2 (.lst (stepV (ns.map V.int) (some 3) (some 43) 2)) = H2 at s2' hp2 ⊢
    rw [ecut] at hp2
    generalize stepV ns (some 3) (some 43) 2 = ms at hp2 lcut
    refine ⟨_, rfl, p2, p1, ms, hs, 4, rfl, SqL.of hp2, SqL.of (s2' _ _ h1), few, (by omega), (by decide), (by decide), fun p3 H3 rs np3 s3' h3 ht3 => ?_⟩
    have s23 := s2'.trans s3'
    have hH3 := s23 _ _ h1
    have hS3 := s23.seq hS1
    rw [roadsVG_eq] at ht3
    have hR : RoadsAt H3 hs rs (rdsG 4 hs ms) := ⟨ht3, rdsG_ok (by decide) (by decide) hs ms⟩
    have hfr : rs.length ≤ 40 := by
      have := hR.len
      have := rdsG_len 4 hs ms
      omega
    generalize rdsG 4 hs ms = ds at ht3 hR
    clear s1 s2' s3' s23 np3 hp2 np2
    -- the letters
    refine ⟨_, rfl, _, rfl, _, rfl, a, _, _, rfl, rfl, (by decide), hS3, fun p4 np4 => ?_⟩
    have s4' := upd_free (o := .lst (stepV (ns.map V.int) (some 4) (some 43) 2)) np4
    have ecut4 : stepV (ns.map V.int) (some 4) (some 43) 2 = (stepV ns (some 4) (some 43) 2).map V.int := stepV_map _ _ _ _ _
    have lcut4 : (stepV ns (some 4) (some 43) 2).length ≤ 20 := stepV_two ns 4 43
    have hp4 := upd_same (H := H3) (a := p4) (o := .lst (stepV (ns.map V.int) (some 4) (some 43) 2))
    generalize upd H3 p4 (.lst (stepV (ns.map V.int) (some 4) (some 43) 2)) = H4 at s4' hp4 ⊢
    rw [ecut4] at hp4
    generalize stepV ns (some 4) (some 43) 2 = ms4 at hp4 lcut4
    refine ⟨_, rfl, _, rfl, p4, p1, ms4, hs, 1, bs, 9, rfl, SqL.of hp4, SqL.of (s4' _ _ hH3), h2, few, (by decide), (by omega), (by decide), (by omega), fun p5 H5 ts np5 s5' h5 hL => ?_⟩
    have s45 := s4'.trans s5'
    have hfl : (letsOf hs 1 bs 9 ms4).length ≤ 40 := by unfold letsOf; rw [List.length_map]; omega
    have hg0 : ∀ d ∈ letsOf hs 1 bs 9 ms4, d.b = 0 := fun d hd => by
      obtain ⟨c, _, rfl⟩ := List.mem_map.mp hd
      show (l4num c % ((1 : Nat) : Int)).toNat = 0
      rw [show ((1 : Nat) : Int) = 1 from rfl, Int.emod_one]
      rfl
    generalize letsOf hs 1 bs 9 ms4 = ls at hL hfl hg0
    have hH5 := s45 _ _ hH3
    have hS5 := s45.seq hS3
    have h35 := s45 _ _ h3
    have hR5 := hR.same s45
    clear s4' s5' hp4 np4 np5 s45
    -- the cell
    refine ⟨_, rfl, a, ns, 2, rfl, hS5, (by decide), _, _, rfl, rfl, ⟨by decide, by decide, by decide⟩, _, _, rfl, rfl, (by show (0 : Int) < 10 ^ (12 : Int).toNat; decide), ?_⟩
    dsimp only
    have hc0 : 0 ≤ ns.getD (2 : Int).toNat 0 % 10 ^ (12 : Int).toNat := Int.emod_nonneg _ (by decide)
    generalize ns.getD (2 : Int).toNat 0 % 10 ^ (12 : Int).toNat = c at hc0 ⊢
    -- the plan
    refine ⟨_, rfl, _, rfl, _, rfl, _, rfl, p3, p5, hs, rs, ts, ds, ls, bs, c, rfl, h35, hR5, hfr, nd, h5, hL, hfl, hg0, hb0, (by omega), fun p6 H6 ss np6 s6' hss fss h6 => ?_⟩
    have hH6 := s6' _ _ hH5
    have h36 := s6' _ _ h35
    have h56 := s6' _ _ h5
    have hR6 := hR5.same s6'
    have hL6 := hL.same s6'
    have tl := txs_len hs
    have at0 : atI (txs hs) 0 = some (V.str (S (hs.getD (0 : Int).toNat []))) := txs_at (k := 0) (by decide) (by omega)
    have e0 : ∀ (Hx : Hp) (p : Addr), upd (upd Hx p (.dK [])) p (.dK (mergeK [] [(hk hs 0, V.non)])) = upd Hx p (.dK [(hk hs 0, V.non)]) := fun Hx p => by
      rw [upd_upd]
      rfl
    -- two papers
    refine fun p7 np7 => ⟨_, rfl, p1, _, _, _, rfl, rfl, SqL.of ((upd_free np7) _ _ hH6), at0, upd_same, [(hk hs 0, .non)], rfl, (by show 1 ≤ 15; decide), ?_⟩
    rw [e0]
    have s7' := upd_free (o := .dK [(hk hs 0, V.non)]) np7
    have h7 := upd_same (H := H6) (a := p7) (o := .dK [(hk hs 0, V.non)])
    generalize upd H6 p7 (.dK [(hk hs 0, V.non)]) = H7 at s7' h7 ⊢
    refine fun p8 np8 => ⟨_, rfl, p1, _, _, _, rfl, rfl, SqL.of ((upd_free np8) _ _ (s7' _ _ hH6)), at0, upd_same, [(hk hs 0, .non)], rfl, (by show 1 ≤ 15; decide), ?_⟩
    rw [e0]
    have s8' := upd_free (o := .dK [(hk hs 0, V.non)]) np8
    have h8 := upd_same (H := H7) (a := p8) (o := .dK [(hk hs 0, V.non)])
    have h78 := s8' _ _ h7
    have n78 : p7 ≠ p8 := ne_of_none h7 np8
    have np8' : H6 p8 = none := by
      cases e : H6 p8 with
      | none => rfl
      | some o => rw [s7' _ _ e] at np8; cases np8
    generalize upd H7 p8 (.dK [(hk hs 0, V.non)]) = H8 at s8' h8 h78 ⊢
    have s68 := s7'.trans s8'
    refine ⟨_, rfl, _, rfl, p1, _, rfl, SqL.of (s68 _ _ hH6), fun p9 np9 => ⟨p9, rfl, ⟨_, SqL.of upd_same⟩, ?_⟩⟩
    have s9' := upd_free (o := .lst (cutV (txs hs) (some 1) none)) np9
    have h9 := upd_same (H := H8) (a := p9) (o := .lst (cutV (txs hs) (some 1) none))
    have h79 := s9' _ _ h78
    have h89 := s9' _ _ h8
    have n79 : p9 ≠ p7 := (ne_of_none h78 np9).symm
    have n89 : p9 ≠ p8 := (ne_of_none h8 np9).symm
    generalize upd H8 p9 (.lst (cutV (txs hs) (some 1) none)) = H9 at s9' h9 h79 h89 ⊢
    have ecv : cutV (txs hs) (some 1) none = (txs hs).drop 1 := by
      have f1 : HT.sIx (txs hs).length 0 (some 1) = min 1 (txs hs).length := HT.sIx_nat (txs hs).length 0 1
      unfold cutV
      rw [f1, HT.sIx_none, Nat.min_eq_left (by omega), List.take_of_length_le (by rw [List.length_drop]; omega)]
    rw [ecv] at h9
    have e8 : ∀ (k : List (Key × L2.V)) (m : Nat) (v : L2.V), m + 1 < hs.length → valV k (hk hs 0) = some .non → valV (putK k (hk hs (m + 1)) v) (hk hs 0) = some .non := fun k m v hm z => by
      rw [valV_put, if_neg (hk_ne nd (by omega) hm (by omega))]
      exact z
    refine for_list (K := K) (a := p9) (xs := (txs hs).drop 1) (fun i σ Hc => ∃ (kF kN : List (Key × L2.V)) (v9 : Option L2.V), σ = [some (.ref a), some (.ref p1), some (.int bs), some (.ref p3), some (.ref p5), some (.int c), some (.ref p6), some (.ref p7), some (.ref p8), v9, none, none, none, none, none] ∧ Same H6 Hc ∧
      Hc p7 = some (.dK kF) ∧ Hc p8 = some (.dK kN) ∧ Hc p9 = some (.lst ((txs hs).drop 1)) ∧ Drawn kF hs (i + 1) 0 0 ∧ Drawn kN hs (i + 1) 0 0 ∧ valV kF (hk hs 0) = some .non ∧ valV kN (hk hs 0) = some .non)
      ⟨_, _, none, rfl, s68.trans s9', h79, h89, h9, Drawn.one nd (by omega), Drawn.one nd (by omega), valV_pos rfl, valV_pos rfl⟩ ?_ ?_ ?_
    · rintro i σ Hc hi ⟨kF, kN, v9, rfl, sm, f7, f8, f9, _⟩
      exact SqL.of f9
    · rintro i v σ Hc ev ⟨kF, kN, v9, rfl, sm, f7, f8, f9, dF, dN, zF, zN⟩
      rw [List.getElem?_drop] at ev
      have hi : 1 + i < (txs hs).length := (List.getElem?_eq_some_iff.mp ev).1
      have hi' : i + 1 < hs.length := by omega
      obtain rfl : v = .str (S (hs.getD (i + 1) [])) := by
        unfold txs at ev
        rw [List.getElem?_map, List.getElem?_eq_getElem (by omega : 1 + i < hs.length)] at ev
        have : V.str (S hs[1 + i]) = v := Option.some.inj ev
        rw [← this, List.getD, List.getElem?_eq_getElem hi']
        simp only [Nat.add_comm 1 i]
        rfl
      refine ⟨_, rfl, _, rfl, p7, _, rfl, DPut.k (k := hk hs (i + 1)) f7 (small1000 (by have := dF.len; omega)), ?_⟩
      refine ⟨_, rfl, _, rfl, p8, _, rfl, DPut.k (k := hk hs (i + 1)) (show upd Hc p7 _ p8 = some (.dK kN) by rw [upd_ne n78.symm]; exact f8) (small1000 (by have := dN.len; omega)), ?_⟩
      have d1 := dF.new nd hi' (some 0) fun f e => by cases e; exact ⟨Int.le_refl _, Int.le_refl _⟩
      have d2 := dN.new nd hi' none fun f e => by cases e
      refine ⟨putK kF (hk hs (i + 1)) (.int 0), putK kN (hk hs (i + 1)) .non, _, rfl, upd_other np8' (upd_other np7 sm), ?_, upd_same, ?_, d1, d2, e8 _ _ _ hi' zF, e8 _ _ _ hi' zN⟩
      · rw [upd_ne n78, upd_same]
      · rw [upd_ne n89, upd_ne n79]
        exact f9
    · rintro σ Hc ⟨kF, kN, v9, rfl, sm, f7, f8, f9, dF, dN, zF, zN⟩
      rw [List.length_drop, show (txs hs).length - 1 + 1 = hs.length by omega] at dF dN
      -- the net
      have g1 := sm _ _ hH6
      have g3 := sm _ _ h36
      have g5 := sm _ _ h56
      have g6 := sm _ _ h6
      have gR := hR6.same sm
      have gL := hL6.same sm
      refine ⟨_, rfl, _, rfl, fun x dx nx ndx ndd => ?_⟩
      have mk : ∀ {b : Addr} {v : HO}, Hc b = some v → upd (upd Hc dx (.own x)) x (.ins C dx []) b = some v := fun {b v} e => by
        rw [upd_ne (ne_of_none e nx), upd_ne (ne_of_none e ndx)]
        exact e
      have mkS : Same Hc (upd (upd Hc dx (.own x)) x (.ins C dx [])) := fun b v e => mk e
      refine ⟨x, dx, p1, p3, hs, rs, ds, rfl, upd_same, mk g1, hG, mk g3, gR.same mkS, hfr, fun Hn a' b' sb hxn han hbn na nb => ⟨rfl, ?_⟩⟩
      have sn : Same Hc Hn := make_same nx ndx sb
      have net : NetAt C Hn x a' b' (txs hs) (refs rs) := ⟨⟨dx, hxn⟩, han, hbn⟩
      -- the papers
      refine ⟨_, rfl, _, rfl, _, rfl, p1, hs, bs, c, rfl, SqL.of (sn _ _ g1), nd, (by omega), few, hb0, fun q1 Hq kq nq sQ hq dq zq => ?_⟩
      refine ⟨_, rfl, _, rfl, _, rfl, _, rfl, _, rfl, _, _, rfl, rfl, p1, hs, bs, c + 1, rfl, SqL.of (sQ _ _ (sn _ _ g1)), nd, (by omega), few, hb0, fun q2 Hr kr nr sr hr2 dr2 zr => ?_⟩
      refine ⟨(by show 4 ≤ sizeLine; decide), fun pl npl => ⟨pl, rfl, ⟨_, SqL.of upd_same⟩, ?_⟩⟩
      have sl' := upd_free (o := .lst [V.ref q1, V.ref p7, V.ref p8, V.ref q2]) npl
      have hpl := upd_same (H := Hr) (a := pl) (o := .lst [V.ref q1, V.ref p7, V.ref p8, V.ref q2])
      generalize upd Hr pl (.lst [V.ref q1, V.ref p7, V.ref p8, V.ref q2]) = Hb at sl' hpl ⊢
      have snb := sn.trans (sQ.trans (sr.trans sl'))
      have sqb := sQ.trans (sr.trans sl')
      have pap : ∀ v ∈ [V.ref q1, V.ref p7, V.ref p8, V.ref q2], ∃ (pp : Addr) (kvs : List (Key × L2.V)), v = .ref pp ∧ Hb pp = some (.dK kvs) ∧ Drawn kvs hs hs.length 0 1000 ∧ valV kvs (hk hs 0) = some .non := fun v hv => by
        simp only [List.mem_cons, List.not_mem_nil, or_false] at hv
        rcases hv with rfl | rfl | rfl | rfl
        · exact ⟨q1, kq, rfl, (sr.trans sl') _ _ hq, dq.weak (by omega) (by omega), zq⟩
        · exact ⟨p7, kF, rfl, snb _ _ f7, dF.weak (by omega) (by omega), zF⟩
        · exact ⟨p8, kN, rfl, snb _ _ f8, dN.weak (by omega) (by omega), zN⟩
        · exact ⟨q2, kr, rfl, sl' _ _ hr2, dr2.weak (by omega) (by omega), zr⟩
      have bnet := net.same sqb
      have bR := gR.same snb
      have bL := gL.same snb
      have b5 := snb _ _ g5
      have b6 := snb _ _ g6
      refine for_list (K := K) (a := pl) (xs := [V.ref q1, V.ref p7, V.ref p8, V.ref q2]) (fun i σ Hx => ∃ v11 v12 v13 v14 : Option L2.V, σ = [some (.ref a), some (.ref p1), some (.int bs), some (.ref p3), some (.ref p5), some (.int c), some (.ref p6), some (.ref p7), some (.ref p8), v9, some (.ref x), v11, v12, v13, v14] ∧ Same Hb Hx)
        ⟨none, none, none, none, rfl, Same.refl _⟩ (fun i σ Hx _ ⟨_, _, _, _, _, h⟩ => SqL.of (h _ _ hpl)) ?_ ?_
      · rintro i v σ Hx ev ⟨v11, v12, v13, v14, rfl, sx⟩
        obtain ⟨pp, kvs, rfl, hpp, dp, zp⟩ := pap v (List.mem_of_getElem? ev)
        have z0 : ppK kvs hs 0 = none := by unfold ppK; rw [zp]
        have c1 : 0 ≤ c % 41 := Int.emod_nonneg _ (by decide)
        have c2 : c % 41 < 41 := Int.emod_lt_of_pos _ (by decide)
        have c3 : 0 ≤ c / 41 % 11 := Int.emod_nonneg _ (by decide)
        have c4 : c / 41 % 11 < 11 := Int.emod_lt_of_pos _ (by decide)
        refine ⟨_, rfl, _, rfl, _, _, rfl, rfl, (by show (0 : Int) < 41; decide), _, _, rfl, rfl, _, rfl, _, rfl, _, _, rfl, rfl, ⟨by decide, by decide⟩, _, _, rfl, rfl, (by show (0 : Int) < 11; decide), _, _, rfl, rfl, (by show 2 ≤ sizeLine; decide), fun pt npt => ⟨pt, rfl, ⟨_, SqL.of upd_same⟩, ?_⟩⟩
        have st' := upd_free (o := .lst [V.int (bs + c % 41), V.int (bs + c / 41 % 11)]) npt
        have hpt := upd_same (H := Hx) (a := pt) (o := .lst [V.int (bs + c % 41), V.int (bs + c / 41 % 11)])
        have Tb : ∀ v ∈ [V.int (bs + c % 41), V.int (bs + c / 41 % 11)], ∃ T : Int, v = .int T ∧ 0 ≤ T ∧ T ≤ 1000 := fun v hv => by
          simp only [List.mem_cons, List.not_mem_nil, or_false] at hv
          rcases hv with rfl | rfl
          · exact ⟨_, rfl, by omega, by omega⟩
          · exact ⟨_, rfl, by omega, by omega⟩
        refine for_list (K := K) (a := pt) (xs := [V.int (bs + c % 41), V.int (bs + c / 41 % 11)]) (fun i σ Hy => ∃ v12 v13 v14 : Option L2.V, σ = [some (.ref a), some (.ref p1), some (.int bs), some (.ref p3), some (.ref p5), some (.int c), some (.ref p6), some (.ref p7), some (.ref p8), v9, some (.ref x), some (.ref pp), v12, v13, v14] ∧ Same Hx Hy ∧ Hy pt = some (.lst [V.int (bs + c % 41), V.int (bs + c / 41 % 11)]))
          ⟨v12, v13, v14, rfl, st', hpt⟩ (fun i σ Hy _ ⟨_, _, _, _, _, h⟩ => SqL.of h) ?_ ?_
        · rintro j v σ Hy ev ⟨v12, v13, v14, rfl, sy, hyt⟩
          obtain ⟨T, rfl, T0, T1⟩ := Tb v (List.mem_of_getElem? ev)
          have sby := sx.trans sy
          refine ⟨_, rfl, _, rfl, _, rfl, _, rfl, x, a', b', p5, pp, hs, rs, ts, ds, ls, kvs, T, 0, rfl, bnet.same sby, bR.same sby, hfr, sby _ _ b5, bL.same sby, hfl, sby _ _ hpp, dp.pap, (fun k f hk' e => (dp.le hk' e).1), (by omega), (by omega), fun D HD nD sD hD => ?_⟩
          refine ⟨D, _, rfl, SqT.of hD, rfl, _, _, rfl, _, _, rfl, rfl, ?_⟩
          have hh := (sby.trans sD) _ _ b6
          have hl2 : (((ss.filter fun s => decide (s.1 = 0)).map (·.2)).map V.int).length ≤ 40 := by
            rw [List.length_map, List.length_map]
            exact Nat.le_trans (List.length_filter_le _ _) fss
          dsimp only [tSeq, tIfS, tTest, tOp, tCB, tCons]
          refine tlc_wk (J := Itl K p6) (H1 := HD) (xs := ((ss.filter fun s => decide (s.1 = 0)).map (·.2)).map V.int) (rest := [some (.int T)]) (fun R h => ⟨_, rfl, p6, rfl, ⟨_, SqL.of hh⟩, h⟩) rfl (wk_list (SqL.of hh)) (small1000 (by omega)) (leV T) (fun v => v) (fun i v H2 R ev sm2 hR2 => ?_) (fun i v H2 R ev _ sm2 hR2 => ⟨_, rfl, hR2 H2 (Same.refl _)⟩) (fun D2 H2 n2 hD2 s2 => ?_)
          · obtain ⟨z, _, rfl⟩ := List.mem_map.mp (List.mem_of_getElem? ev)
            exact ⟨_, rfl, _, rfl, _, _, rfl, rfl, _, rfl, hR2 H2 (Same.refl _)⟩
          refine ⟨D2, _, rfl, .inl (SqL.of hD2), _, rfl, _, rfl, _, _, rfl, rfl, _, _, rfl, rfl, _, rfl, iteN (decide_eq_false ?_) ⟨_, _, _, rfl, (sy.trans sD).trans s2, s2 _ _ (sD _ _ hyt)⟩⟩
          have h1 := homes_le (pp := ppK kvs hs) (T := T) z0 ss
          have h3 := hss (ppK kvs hs) T
          rw [List.map_id', filt_leV, List.length_map]
          omega
        · rintro σ Hy ⟨v12, v13, v14, rfl, sy, _⟩
          exact ⟨_, v12, v13, v14, rfl, sx.trans sy⟩
      · rintro σ Hx ⟨v11, v12, v13, v14, rfl, sx⟩
        exact q _
end
end K1
set_option Elab.async false
set_option linter.all false
set_option maxRecDepth 100000
set_option maxHeartbeats 4000000
namespace K1
open PySem L2 L3 M1
theorem len_1 {us : List Value} (h : us.length = 1) : ∃ a0, us = [a0] := by
  rcases us with _ | ⟨a0, _ | ⟨b, r⟩⟩
  · simp at h
  · exact ⟨a0, rfl⟩
  · simp at h
theorem len_2 {us : List Value} (h : us.length = 2) : ∃ a0 a1, us = [a0, a1] := by
  rcases us with _ | ⟨a0, _ | ⟨a1, _ | ⟨b, r⟩⟩⟩
  · simp at h
  · simp at h
  · exact ⟨a0, a1, rfl⟩
  · simp at h
theorem len_3 {us : List Value} (h : us.length = 3) : ∃ a0 a1 a2, us = [a0, a1, a2] := by
  rcases us with _ | ⟨a0, _ | ⟨a1, _ | ⟨a2, _ | ⟨b, r⟩⟩⟩⟩
  · simp at h
  · simp at h
  · simp at h
  · exact ⟨a0, a1, a2, rfl⟩
  · simp at h
theorem len_4 {us : List Value} (h : us.length = 4) : ∃ a0 a1 a2 a3, us = [a0, a1, a2, a3] := by
  rcases us with _ | ⟨a0, _ | ⟨a1, _ | ⟨a2, _ | ⟨a3, _ | ⟨b, r⟩⟩⟩⟩⟩
  · simp at h
  · simp at h
  · simp at h
  · simp at h
  · exact ⟨a0, a1, a2, a3, rfl⟩
  · simp at h
theorem len_5 {us : List Value} (h : us.length = 5) : ∃ a0 a1 a2 a3 a4, us = [a0, a1, a2, a3, a4] := by
  rcases us with _ | ⟨a0, _ | ⟨a1, _ | ⟨a2, _ | ⟨a3, _ | ⟨a4, _ | ⟨b, r⟩⟩⟩⟩⟩⟩
  · simp at h
  · simp at h
  · simp at h
  · simp at h
  · simp at h
  · exact ⟨a0, a1, a2, a3, a4, rfl⟩
  · simp at h
theorem all_mk {l : PySem.W.OpenLaw} {w : World} {K : PySem.W.Frag} {h : Heap} {mg : Str → Option Value} {fa CNet fNet_init fNet_roads fis_whole fis_whole_within fis_tuple_of fare_unlike_houses fis_name fare_houses fis_road fare_roads fis_in fletters_out fturns_carried fpaper_sum f_law_at f_law_word f_law_houses f_law_roads f_law_letters f_law_drawn f_law_goes f_law_homes flaw : Addr} (X : K.In h) (G : h.Ns mainGlobals mg) (hfa : mg "law" = some (.ref fa))
    (aCNet : PySem.W.nsIn K mainGlobals "Net" = some (some (.ref CNet)))
    (pgNet : PySem.W.plainGet K CNet Str.empty = true) (hdNet : PySem.W.hasDictIn K CNet = true) (poNet : PySem.W.plainOver K CNet = true) (saNet : PySem.W.findIn K (.ref CNet) "__setattr__" = some (some (.builtin "object.__setattr__"))) (mkNet : PySem.W.makesIn K CNet = true) (kcNet : PySem.W.keepIn K (.ref CNet) = true)
    (nNet_kept_houses : PySem.W.findIn K (.ref CNet) "kept_houses" = some none)
    (nNet_kept_roads : PySem.W.findIn K (.ref CNet) "kept_roads" = some none)
    {odNet_init anNet_init : Option Addr} {slNet_init : Array (Option Value)} {ocNet_init kVNet_init dcNet_init pmNet_init cdNet_init ctNet_init : Value}
    (aNet_init : PySem.W.findIn K (.ref CNet) "__init__" = some (some (.ref fNet_init))) (iNet_init : PySem.W.isFn K (.ref fNet_init) = true)
    (lNet_init : K.lookup fNet_init = some ⟨ocNet_init, odNet_init, .func (PySem.W.fnOf "__init__" "Net.__init__" (defArgs sInit) (defBody sInit) (defScope sInit) .none kVNet_init dcNet_init pmNet_init anNet_init cdNet_init ctNet_init), slNet_init⟩) (cNet_init : PySem.W.codeIn K cdNet_init "Net.__init__" = true) (kNet_init : PySem.W.keepIn K (.ref fNet_init) = true)
    {odNet_roads anNet_roads : Option Addr} {slNet_roads : Array (Option Value)} {ocNet_roads kVNet_roads dcNet_roads pmNet_roads cdNet_roads ctNet_roads : Value}
    (aNet_roads : PySem.W.findIn K (.ref CNet) "roads" = some (some (.ref fNet_roads))) (iNet_roads : PySem.W.isFn K (.ref fNet_roads) = true)
    (lNet_roads : K.lookup fNet_roads = some ⟨ocNet_roads, odNet_roads, .func (PySem.W.fnOf "roads" "Net.roads" (defArgs sRoadsM) (defBody sRoadsM) (defScope sRoadsM) .none kVNet_roads dcNet_roads pmNet_roads anNet_roads cdNet_roads ctNet_roads), slNet_roads⟩) (cNet_roads : PySem.W.codeIn K cdNet_roads "Net.roads" = true) (kNet_roads : PySem.W.keepIn K (.ref fNet_roads) = true)
    {odis_whole anis_whole : Option Addr} {slis_whole : Array (Option Value)} {ocis_whole kVis_whole dcis_whole pmis_whole cdis_whole ctis_whole : Value}
    (ais_whole : PySem.W.nsIn K mainGlobals "is_whole" = some (some (.ref fis_whole)))
    (lis_whole : K.lookup fis_whole = some ⟨ocis_whole, odis_whole, .func (PySem.W.fnOf "is_whole" "is_whole" (defArgs sWhole) (defBody sWhole) (defScope sWhole) .none kVis_whole dcis_whole pmis_whole anis_whole cdis_whole ctis_whole), slis_whole⟩) (cis_whole : PySem.W.codeIn K cdis_whole "is_whole" = true) (kis_whole : PySem.W.keepIn K (.ref fis_whole) = true)
    {odis_whole_within anis_whole_within : Option Addr} {slis_whole_within : Array (Option Value)} {ocis_whole_within kVis_whole_within dcis_whole_within pmis_whole_within cdis_whole_within ctis_whole_within : Value}
    (ais_whole_within : PySem.W.nsIn K mainGlobals "is_whole_within" = some (some (.ref fis_whole_within)))
    (lis_whole_within : K.lookup fis_whole_within = some ⟨ocis_whole_within, odis_whole_within, .func (PySem.W.fnOf "is_whole_within" "is_whole_within" (defArgs sWithin) (defBody sWithin) (defScope sWithin) .none kVis_whole_within dcis_whole_within pmis_whole_within anis_whole_within cdis_whole_within ctis_whole_within), slis_whole_within⟩) (cis_whole_within : PySem.W.codeIn K cdis_whole_within "is_whole_within" = true) (kis_whole_within : PySem.W.keepIn K (.ref fis_whole_within) = true)
    {odis_tuple_of anis_tuple_of : Option Addr} {slis_tuple_of : Array (Option Value)} {ocis_tuple_of kVis_tuple_of dcis_tuple_of pmis_tuple_of cdis_tuple_of ctis_tuple_of : Value}
    (ais_tuple_of : PySem.W.nsIn K mainGlobals "is_tuple_of" = some (some (.ref fis_tuple_of)))
    (lis_tuple_of : K.lookup fis_tuple_of = some ⟨ocis_tuple_of, odis_tuple_of, .func (PySem.W.fnOf "is_tuple_of" "is_tuple_of" (defArgs sTupOf) (defBody sTupOf) (defScope sTupOf) .none kVis_tuple_of dcis_tuple_of pmis_tuple_of anis_tuple_of cdis_tuple_of ctis_tuple_of), slis_tuple_of⟩) (cis_tuple_of : PySem.W.codeIn K cdis_tuple_of "is_tuple_of" = true) (kis_tuple_of : PySem.W.keepIn K (.ref fis_tuple_of) = true)
    {odare_unlike_houses anare_unlike_houses : Option Addr} {slare_unlike_houses : Array (Option Value)} {ocare_unlike_houses kVare_unlike_houses dcare_unlike_houses pmare_unlike_houses cdare_unlike_houses ctare_unlike_houses : Value}
    (aare_unlike_houses : PySem.W.nsIn K mainGlobals "are_unlike_houses" = some (some (.ref fare_unlike_houses)))
    (lare_unlike_houses : K.lookup fare_unlike_houses = some ⟨ocare_unlike_houses, odare_unlike_houses, .func (PySem.W.fnOf "are_unlike_houses" "are_unlike_houses" (defArgs sUnlike) (defBody sUnlike) (defScope sUnlike) .none kVare_unlike_houses dcare_unlike_houses pmare_unlike_houses anare_unlike_houses cdare_unlike_houses ctare_unlike_houses), slare_unlike_houses⟩) (care_unlike_houses : PySem.W.codeIn K cdare_unlike_houses "are_unlike_houses" = true) (kare_unlike_houses : PySem.W.keepIn K (.ref fare_unlike_houses) = true)
    {odis_name anis_name : Option Addr} {slis_name : Array (Option Value)} {ocis_name kVis_name dcis_name pmis_name cdis_name ctis_name : Value}
    (ais_name : PySem.W.nsIn K mainGlobals "is_name" = some (some (.ref fis_name)))
    (lis_name : K.lookup fis_name = some ⟨ocis_name, odis_name, .func (PySem.W.fnOf "is_name" "is_name" (defArgs sName) (defBody sName) (defScope sName) .none kVis_name dcis_name pmis_name anis_name cdis_name ctis_name), slis_name⟩) (cis_name : PySem.W.codeIn K cdis_name "is_name" = true) (kis_name : PySem.W.keepIn K (.ref fis_name) = true)
    {odare_houses anare_houses : Option Addr} {slare_houses : Array (Option Value)} {ocare_houses kVare_houses dcare_houses pmare_houses cdare_houses ctare_houses : Value}
    (aare_houses : PySem.W.nsIn K mainGlobals "are_houses" = some (some (.ref fare_houses)))
    (lare_houses : K.lookup fare_houses = some ⟨ocare_houses, odare_houses, .func (PySem.W.fnOf "are_houses" "are_houses" (defArgs sAreH) (defBody sAreH) (defScope sAreH) .none kVare_houses dcare_houses pmare_houses anare_houses cdare_houses ctare_houses), slare_houses⟩) (care_houses : PySem.W.codeIn K cdare_houses "are_houses" = true) (kare_houses : PySem.W.keepIn K (.ref fare_houses) = true)
    {odis_road anis_road : Option Addr} {slis_road : Array (Option Value)} {ocis_road kVis_road dcis_road pmis_road cdis_road ctis_road : Value}
    (ais_road : PySem.W.nsIn K mainGlobals "is_road" = some (some (.ref fis_road)))
    (lis_road : K.lookup fis_road = some ⟨ocis_road, odis_road, .func (PySem.W.fnOf "is_road" "is_road" (defArgs sRoad) (defBody sRoad) (defScope sRoad) .none kVis_road dcis_road pmis_road anis_road cdis_road ctis_road), slis_road⟩) (cis_road : PySem.W.codeIn K cdis_road "is_road" = true) (kis_road : PySem.W.keepIn K (.ref fis_road) = true)
    {odare_roads anare_roads : Option Addr} {slare_roads : Array (Option Value)} {ocare_roads kVare_roads dcare_roads pmare_roads cdare_roads ctare_roads : Value}
    (aare_roads : PySem.W.nsIn K mainGlobals "are_roads" = some (some (.ref fare_roads)))
    (lare_roads : K.lookup fare_roads = some ⟨ocare_roads, odare_roads, .func (PySem.W.fnOf "are_roads" "are_roads" (defArgs sAreR) (defBody sAreR) (defScope sAreR) .none kVare_roads dcare_roads pmare_roads anare_roads cdare_roads ctare_roads), slare_roads⟩) (care_roads : PySem.W.codeIn K cdare_roads "are_roads" = true) (kare_roads : PySem.W.keepIn K (.ref fare_roads) = true)
    {odis_in anis_in : Option Addr} {slis_in : Array (Option Value)} {ocis_in kVis_in dcis_in pmis_in cdis_in ctis_in : Value}
    (ais_in : PySem.W.nsIn K mainGlobals "is_in" = some (some (.ref fis_in)))
    (lis_in : K.lookup fis_in = some ⟨ocis_in, odis_in, .func (PySem.W.fnOf "is_in" "is_in" (defArgs sIsIn) (defBody sIsIn) (defScope sIsIn) .none kVis_in dcis_in pmis_in anis_in cdis_in ctis_in), slis_in⟩) (cis_in : PySem.W.codeIn K cdis_in "is_in" = true) (kis_in : PySem.W.keepIn K (.ref fis_in) = true)
    {odletters_out anletters_out : Option Addr} {slletters_out : Array (Option Value)} {ocletters_out kVletters_out dcletters_out pmletters_out cdletters_out ctletters_out : Value}
    (aletters_out : PySem.W.nsIn K mainGlobals "letters_out" = some (some (.ref fletters_out)))
    (lletters_out : K.lookup fletters_out = some ⟨ocletters_out, odletters_out, .func (PySem.W.fnOf "letters_out" "letters_out" (defArgs sLO) (defBody sLO) (defScope sLO) .none kVletters_out dcletters_out pmletters_out anletters_out cdletters_out ctletters_out), slletters_out⟩) (cletters_out : PySem.W.codeIn K cdletters_out "letters_out" = true) (kletters_out : PySem.W.keepIn K (.ref fletters_out) = true)
    {odturns_carried anturns_carried : Option Addr} {slturns_carried : Array (Option Value)} {octurns_carried kVturns_carried dcturns_carried pmturns_carried cdturns_carried ctturns_carried : Value}
    (aturns_carried : PySem.W.nsIn K mainGlobals "turns_carried" = some (some (.ref fturns_carried)))
    (lturns_carried : K.lookup fturns_carried = some ⟨octurns_carried, odturns_carried, .func (PySem.W.fnOf "turns_carried" "turns_carried" (defArgs sTC) (defBody sTC) (defScope sTC) .none kVturns_carried dcturns_carried pmturns_carried anturns_carried cdturns_carried ctturns_carried), slturns_carried⟩) (cturns_carried : PySem.W.codeIn K cdturns_carried "turns_carried" = true) (kturns_carried : PySem.W.keepIn K (.ref fturns_carried) = true)
    {odpaper_sum anpaper_sum : Option Addr} {slpaper_sum : Array (Option Value)} {ocpaper_sum kVpaper_sum dcpaper_sum pmpaper_sum cdpaper_sum ctpaper_sum : Value}
    (apaper_sum : PySem.W.nsIn K mainGlobals "paper_sum" = some (some (.ref fpaper_sum)))
    (lpaper_sum : K.lookup fpaper_sum = some ⟨ocpaper_sum, odpaper_sum, .func (PySem.W.fnOf "paper_sum" "paper_sum" (defArgs sPS) (defBody sPS) (defScope sPS) .none kVpaper_sum dcpaper_sum pmpaper_sum anpaper_sum cdpaper_sum ctpaper_sum), slpaper_sum⟩) (cpaper_sum : PySem.W.codeIn K cdpaper_sum "paper_sum" = true) (kpaper_sum : PySem.W.keepIn K (.ref fpaper_sum) = true)
    {od_law_at an_law_at : Option Addr} {sl_law_at : Array (Option Value)} {oc_law_at kV_law_at dc_law_at pm_law_at cd_law_at ct_law_at : Value}
    (a_law_at : PySem.W.nsIn K mainGlobals "_law_at" = some (some (.ref f_law_at)))
    (l_law_at : K.lookup f_law_at = some ⟨oc_law_at, od_law_at, .func (PySem.W.fnOf "_law_at" "_law_at" (defArgs sAt) (defBody sAt) (defScope sAt) .none kV_law_at dc_law_at pm_law_at an_law_at cd_law_at ct_law_at), sl_law_at⟩) (c_law_at : PySem.W.codeIn K cd_law_at "_law_at" = true) (k_law_at : PySem.W.keepIn K (.ref f_law_at) = true)
    {od_law_word an_law_word : Option Addr} {sl_law_word : Array (Option Value)} {oc_law_word kV_law_word dc_law_word pm_law_word cd_law_word ct_law_word : Value}
    (a_law_word : PySem.W.nsIn K mainGlobals "_law_word" = some (some (.ref f_law_word)))
    (l_law_word : K.lookup f_law_word = some ⟨oc_law_word, od_law_word, .func (PySem.W.fnOf "_law_word" "_law_word" (defArgs sWord) (defBody sWord) (defScope sWord) .none kV_law_word dc_law_word pm_law_word an_law_word cd_law_word ct_law_word), sl_law_word⟩) (c_law_word : PySem.W.codeIn K cd_law_word "_law_word" = true) (k_law_word : PySem.W.keepIn K (.ref f_law_word) = true)
    {od_law_houses an_law_houses : Option Addr} {sl_law_houses : Array (Option Value)} {oc_law_houses kV_law_houses dc_law_houses pm_law_houses cd_law_houses ct_law_houses : Value}
    (a_law_houses : PySem.W.nsIn K mainGlobals "_law_houses" = some (some (.ref f_law_houses)))
    (l_law_houses : K.lookup f_law_houses = some ⟨oc_law_houses, od_law_houses, .func (PySem.W.fnOf "_law_houses" "_law_houses" (defArgs sHouses) (defBody sHouses) (defScope sHouses) .none kV_law_houses dc_law_houses pm_law_houses an_law_houses cd_law_houses ct_law_houses), sl_law_houses⟩) (c_law_houses : PySem.W.codeIn K cd_law_houses "_law_houses" = true) (k_law_houses : PySem.W.keepIn K (.ref f_law_houses) = true)
    {od_law_roads an_law_roads : Option Addr} {sl_law_roads : Array (Option Value)} {oc_law_roads kV_law_roads dc_law_roads pm_law_roads cd_law_roads ct_law_roads : Value}
    (a_law_roads : PySem.W.nsIn K mainGlobals "_law_roads" = some (some (.ref f_law_roads)))
    (l_law_roads : K.lookup f_law_roads = some ⟨oc_law_roads, od_law_roads, .func (PySem.W.fnOf "_law_roads" "_law_roads" (defArgs sRoads) (defBody sRoads) (defScope sRoads) .none kV_law_roads dc_law_roads pm_law_roads an_law_roads cd_law_roads ct_law_roads), sl_law_roads⟩) (c_law_roads : PySem.W.codeIn K cd_law_roads "_law_roads" = true) (k_law_roads : PySem.W.keepIn K (.ref f_law_roads) = true)
    {od_law_letters an_law_letters : Option Addr} {sl_law_letters : Array (Option Value)} {oc_law_letters kV_law_letters dc_law_letters pm_law_letters cd_law_letters ct_law_letters : Value}
    (a_law_letters : PySem.W.nsIn K mainGlobals "_law_letters" = some (some (.ref f_law_letters)))
    (l_law_letters : K.lookup f_law_letters = some ⟨oc_law_letters, od_law_letters, .func (PySem.W.fnOf "_law_letters" "_law_letters" (defArgs sLets) (defBody sLets) (defScope sLets) .none kV_law_letters dc_law_letters pm_law_letters an_law_letters cd_law_letters ct_law_letters), sl_law_letters⟩) (c_law_letters : PySem.W.codeIn K cd_law_letters "_law_letters" = true) (k_law_letters : PySem.W.keepIn K (.ref f_law_letters) = true)
    {od_law_drawn an_law_drawn : Option Addr} {sl_law_drawn : Array (Option Value)} {oc_law_drawn kV_law_drawn dc_law_drawn pm_law_drawn cd_law_drawn ct_law_drawn : Value}
    (a_law_drawn : PySem.W.nsIn K mainGlobals "_law_drawn" = some (some (.ref f_law_drawn)))
    (l_law_drawn : K.lookup f_law_drawn = some ⟨oc_law_drawn, od_law_drawn, .func (PySem.W.fnOf "_law_drawn" "_law_drawn" (defArgs sDr2) (defBody sDr2) (defScope sDr2) .none kV_law_drawn dc_law_drawn pm_law_drawn an_law_drawn cd_law_drawn ct_law_drawn), sl_law_drawn⟩) (c_law_drawn : PySem.W.codeIn K cd_law_drawn "_law_drawn" = true) (k_law_drawn : PySem.W.keepIn K (.ref f_law_drawn) = true)
    {od_law_goes an_law_goes : Option Addr} {sl_law_goes : Array (Option Value)} {oc_law_goes kV_law_goes dc_law_goes pm_law_goes cd_law_goes ct_law_goes : Value}
    (a_law_goes : PySem.W.nsIn K mainGlobals "_law_goes" = some (some (.ref f_law_goes)))
    (l_law_goes : K.lookup f_law_goes = some ⟨oc_law_goes, od_law_goes, .func (PySem.W.fnOf "_law_goes" "_law_goes" (defArgs sGoes) (defBody sGoes) (defScope sGoes) .none kV_law_goes dc_law_goes pm_law_goes an_law_goes cd_law_goes ct_law_goes), sl_law_goes⟩) (c_law_goes : PySem.W.codeIn K cd_law_goes "_law_goes" = true) (k_law_goes : PySem.W.keepIn K (.ref f_law_goes) = true)
    {od_law_homes an_law_homes : Option Addr} {sl_law_homes : Array (Option Value)} {oc_law_homes kV_law_homes dc_law_homes pm_law_homes cd_law_homes ct_law_homes : Value}
    (a_law_homes : PySem.W.nsIn K mainGlobals "_law_homes" = some (some (.ref f_law_homes)))
    (l_law_homes : K.lookup f_law_homes = some ⟨oc_law_homes, od_law_homes, .func (PySem.W.fnOf "_law_homes" "_law_homes" (defArgs sHomes) (defBody sHomes) (defScope sHomes) .none kV_law_homes dc_law_homes pm_law_homes an_law_homes cd_law_homes ct_law_homes), sl_law_homes⟩) (c_law_homes : PySem.W.codeIn K cd_law_homes "_law_homes" = true) (k_law_homes : PySem.W.keepIn K (.ref f_law_homes) = true)
    {odlaw anlaw : Option Addr} {sllaw : Array (Option Value)} {oclaw kVlaw dclaw pmlaw cdlaw ctlaw : Value}
    (alaw : PySem.W.nsIn K mainGlobals "law" = some (some (.ref flaw)))
    (llaw : K.lookup flaw = some ⟨oclaw, odlaw, .func (PySem.W.fnOf "law" "law" (defArgs sLaw) (defBody sLaw) (defScope sLaw) .none kVlaw dclaw pmlaw anlaw cdlaw ctlaw), sllaw⟩) (claw : PySem.W.codeIn K cdlaw "law" = true) (klaw : PySem.W.keepIn K (.ref flaw) = true)
    {tMOST_HOUSES : Tok} (vMOST_HOUSES : PySem.W.nsIn K mainGlobals "MOST_HOUSES" = some (some (.int 12 tMOST_HOUSES)))
    {tMOST_ROADS : Tok} (vMOST_ROADS : PySem.W.nsIn K mainGlobals "MOST_ROADS" = some (some (.int 40 tMOST_ROADS)))
    {tMOST_SIGNS : Tok} (vMOST_SIGNS : PySem.W.nsIn K mainGlobals "MOST_SIGNS" = some (some (.int 8 tMOST_SIGNS)))
    {tMOST_TURNS : Tok} (vMOST_TURNS : PySem.W.nsIn K mainGlobals "MOST_TURNS" = some (some (.int 9 tMOST_TURNS)))
    {tMOST_ROOM : Tok} (vMOST_ROOM : PySem.W.nsIn K mainGlobals "MOST_ROOM" = some (some (.int 1000000000 tMOST_ROOM)))
    (zlen : PySem.W.nsIn K mainGlobals "len" = some none)
    (zrange : PySem.W.nsIn K mainGlobals "range" = some none)
    (zisinstance : PySem.W.nsIn K mainGlobals "isinstance" = some none)
    (zall : PySem.W.nsIn K mainGlobals "all" = some none)
    (zint : PySem.W.nsIn K mainGlobals "int" = some none)
    (zbool : PySem.W.nsIn K mainGlobals "bool" = some none)
    (zstr : PySem.W.nsIn K mainGlobals "str" = some none)
    (zlist : PySem.W.nsIn K mainGlobals "list" = some none)
    (ztuple : PySem.W.nsIn K mainGlobals "tuple" = some none)
    (zset : PySem.W.nsIn K mainGlobals "set" = some none)
    (zValueError : PySem.W.nsIn K mainGlobals "ValueError" = some none)
    (zenumerate : PySem.W.nsIn K mainGlobals "enumerate" = some none)
    (zmax : PySem.W.nsIn K mainGlobals "max" = some none)
    (zmin : PySem.W.nsIn K mainGlobals "min" = some none)
    (zsum : PySem.W.nsIn K mainGlobals "sum" = some none)
    (zany : PySem.W.nsIn K mainGlobals "any" = some none)
    (zdict : PySem.W.nsIn K mainGlobals "dict" = some none)
    (zsorted : PySem.W.nsIn K mainGlobals "sorted" = some none)
    (zzip : PySem.W.nsIn K mainGlobals "zip" = some none) :
    ∃ fd : FuncData, (∀ (s : Shared) (v : Value), BindsTo s fd ⟨[v], []⟩ [("_law_script", v)]) ∧ ∀ base : Heap, K.In base → base.Ns mainGlobals mg → FnOk l.prog w K mg base CX0 7 fa fd ["_law_script"] (spLaw K) := by
  have e := hfa.symm.trans (PySem.W.mg_of X G alaw)
  cases e
  have Cl_Net : Cls K CNet := ⟨pgNet, hdNet, poNet, saNet⟩
  have at_Net := PySem.W.mg_of X G aCNet
  have FNet_init := fun_mk (st := sInit) lNet_init cNet_init kNet_init
  have bNet_init := FNet_init.binds (ps := ["self", "houses", "roads"]) fun _ _ _ _ _ _ us hl => by (obtain ⟨_, _, _, rfl⟩ := len_3 hl); rfl
  have Mk_Net : Mk K CNet fNet_init := ⟨mkNet, aNet_init, iNet_init, kcNet⟩
  have D_Net_init : Inn K CNet "Net.__init__" sInit ["self", "houses", "roads"] fNet_init _ := ⟨FNet_init, Mk_Net, bNet_init⟩
  have FNet_roads := fun_mk (st := sRoadsM) lNet_roads cNet_roads kNet_roads
  have bNet_roads := FNet_roads.binds (ps := ["self"]) fun _ _ _ _ _ _ us hl => by (obtain ⟨_, rfl⟩ := len_1 hl); rfl
  have M_Net_roads : Mn K CNet "roads" "Net.roads" sRoadsM ["self"] fNet_roads _ := ⟨FNet_roads, ⟨aNet_roads, iNet_roads, kNet_roads⟩, bNet_roads⟩
  have Fis_whole := fun_mk (st := sWhole) lis_whole cis_whole kis_whole
  have bis_whole := Fis_whole.binds (ps := ["thing"]) fun _ _ _ _ _ _ us hl => by (obtain ⟨_, rfl⟩ := len_1 hl); rfl
  have D_is_whole : Dn K mg "is_whole" sWhole ["thing"] fis_whole _ := ⟨Fis_whole, PySem.W.mg_of X G ais_whole, bis_whole⟩
  have Fis_whole_within := fun_mk (st := sWithin) lis_whole_within cis_whole_within kis_whole_within
  have bis_whole_within := Fis_whole_within.binds (ps := ["thing", "least", "greatest"]) fun _ _ _ _ _ _ us hl => by (obtain ⟨_, _, _, rfl⟩ := len_3 hl); rfl
  have D_is_whole_within : Dn K mg "is_whole_within" sWithin ["thing", "least", "greatest"] fis_whole_within _ := ⟨Fis_whole_within, PySem.W.mg_of X G ais_whole_within, bis_whole_within⟩
  have Fis_tuple_of := fun_mk (st := sTupOf) lis_tuple_of cis_tuple_of kis_tuple_of
  have bis_tuple_of := Fis_tuple_of.binds (ps := ["thing", "length"]) fun _ _ _ _ _ _ us hl => by (obtain ⟨_, _, rfl⟩ := len_2 hl); rfl
  have D_is_tuple_of : Dn K mg "is_tuple_of" sTupOf ["thing", "length"] fis_tuple_of _ := ⟨Fis_tuple_of, PySem.W.mg_of X G ais_tuple_of, bis_tuple_of⟩
  have Fare_unlike_houses := fun_mk (st := sUnlike) lare_unlike_houses care_unlike_houses kare_unlike_houses
  have bare_unlike_houses := Fare_unlike_houses.binds (ps := ["houses", "one", "other"]) fun _ _ _ _ _ _ us hl => by (obtain ⟨_, _, _, rfl⟩ := len_3 hl); rfl
  have D_are_unlike_houses : Dn K mg "are_unlike_houses" sUnlike ["houses", "one", "other"] fare_unlike_houses _ := ⟨Fare_unlike_houses, PySem.W.mg_of X G aare_unlike_houses, bare_unlike_houses⟩
  have Fis_name := fun_mk (st := sName) lis_name cis_name kis_name
  have bis_name := Fis_name.binds (ps := ["thing"]) fun _ _ _ _ _ _ us hl => by (obtain ⟨_, rfl⟩ := len_1 hl); rfl
  have D_is_name : Dn K mg "is_name" sName ["thing"] fis_name _ := ⟨Fis_name, PySem.W.mg_of X G ais_name, bis_name⟩
  have Fare_houses := fun_mk (st := sAreH) lare_houses care_houses kare_houses
  have bare_houses := Fare_houses.binds (ps := ["things"]) fun _ _ _ _ _ _ us hl => by (obtain ⟨_, rfl⟩ := len_1 hl); rfl
  have D_are_houses : Dn K mg "are_houses" sAreH ["things"] fare_houses _ := ⟨Fare_houses, PySem.W.mg_of X G aare_houses, bare_houses⟩
  have Fis_road := fun_mk (st := sRoad) lis_road cis_road kis_road
  have bis_road := Fis_road.binds (ps := ["houses", "thing"]) fun _ _ _ _ _ _ us hl => by (obtain ⟨_, _, rfl⟩ := len_2 hl); rfl
  have D_is_road : Dn K mg "is_road" sRoad ["houses", "thing"] fis_road _ := ⟨Fis_road, PySem.W.mg_of X G ais_road, bis_road⟩
  have Fare_roads := fun_mk (st := sAreR) lare_roads care_roads kare_roads
  have bare_roads := Fare_roads.binds (ps := ["houses", "things"]) fun _ _ _ _ _ _ us hl => by (obtain ⟨_, _, rfl⟩ := len_2 hl); rfl
  have D_are_roads : Dn K mg "are_roads" sAreR ["houses", "things"] fare_roads _ := ⟨Fare_roads, PySem.W.mg_of X G aare_roads, bare_roads⟩
  have Fis_in := fun_mk (st := sIsIn) lis_in cis_in kis_in
  have bis_in := Fis_in.binds (ps := ["paper", "house", "turn"]) fun _ _ _ _ _ _ us hl => by (obtain ⟨_, _, _, rfl⟩ := len_3 hl); rfl
  have D_is_in : Dn K mg "is_in" sIsIn ["paper", "house", "turn"] fis_in _ := ⟨Fis_in, PySem.W.mg_of X G ais_in, bis_in⟩
  have Fletters_out := fun_mk (st := sLO) lletters_out cletters_out kletters_out
  have bletters_out := Fletters_out.binds (ps := ["letters", "paper", "turn"]) fun _ _ _ _ _ _ us hl => by (obtain ⟨_, _, _, rfl⟩ := len_3 hl); rfl
  have D_letters_out : Dn K mg "letters_out" sLO ["letters", "paper", "turn"] fletters_out _ := ⟨Fletters_out, PySem.W.mg_of X G aletters_out, bletters_out⟩
  have Fturns_carried := fun_mk (st := sTC) lturns_carried cturns_carried kturns_carried
  have bturns_carried := Fturns_carried.binds (ps := ["road", "paper", "turn"]) fun _ _ _ _ _ _ us hl => by (obtain ⟨_, _, _, rfl⟩ := len_3 hl); rfl
  have D_turns_carried : Dn K mg "turns_carried" sTC ["road", "paper", "turn"] fturns_carried _ := ⟨Fturns_carried, PySem.W.mg_of X G aturns_carried, bturns_carried⟩
  have Fpaper_sum := fun_mk (st := sPS) lpaper_sum cpaper_sum kpaper_sum
  have bpaper_sum := Fpaper_sum.binds (ps := ["net", "letters", "paper", "turn"]) fun _ _ _ _ _ _ us hl => by (obtain ⟨_, _, _, _, rfl⟩ := len_4 hl); rfl
  have D_paper_sum : Dn K mg "paper_sum" sPS ["net", "letters", "paper", "turn"] fpaper_sum _ := ⟨Fpaper_sum, PySem.W.mg_of X G apaper_sum, bpaper_sum⟩
  have F_law_at := fun_mk (st := sAt) l_law_at c_law_at k_law_at
  have b_law_at := F_law_at.binds (ps := ["_law_script", "_law_k"]) fun _ _ _ _ _ _ us hl => by (obtain ⟨_, _, rfl⟩ := len_2 hl); rfl
  have D__law_at : Dn K mg "_law_at" sAt ["_law_script", "_law_k"] f_law_at _ := ⟨F_law_at, PySem.W.mg_of X G a_law_at, b_law_at⟩
  have F_law_word := fun_mk (st := sWord) l_law_word c_law_word k_law_word
  have b_law_word := F_law_word.binds (ps := ["_law_cell"]) fun _ _ _ _ _ _ us hl => by (obtain ⟨_, rfl⟩ := len_1 hl); rfl
  have D__law_word : Dn K mg "_law_word" sWord ["_law_cell"] f_law_word _ := ⟨F_law_word, PySem.W.mg_of X G a_law_word, b_law_word⟩
  have F_law_houses := fun_mk (st := sHouses) l_law_houses c_law_houses k_law_houses
  have b_law_houses := F_law_houses.binds (ps := ["_law_cell", "_law_many"]) fun _ _ _ _ _ _ us hl => by (obtain ⟨_, _, rfl⟩ := len_2 hl); rfl
  have D__law_houses : Dn K mg "_law_houses" sHouses ["_law_cell", "_law_many"] f_law_houses _ := ⟨F_law_houses, PySem.W.mg_of X G a_law_houses, b_law_houses⟩
  have F_law_roads := fun_mk (st := sRoads) l_law_roads c_law_roads k_law_roads
  have b_law_roads := F_law_roads.binds (ps := ["_law_cells", "_law_houses_here", "_law_long"]) fun _ _ _ _ _ _ us hl => by (obtain ⟨_, _, _, rfl⟩ := len_3 hl); rfl
  have D__law_roads : Dn K mg "_law_roads" sRoads ["_law_cells", "_law_houses_here", "_law_long"] f_law_roads _ := ⟨F_law_roads, PySem.W.mg_of X G a_law_roads, b_law_roads⟩
  have F_law_letters := fun_mk (st := sLets) l_law_letters c_law_letters k_law_letters
  have b_law_letters := F_law_letters.binds (ps := ["_law_cells", "_law_houses_here", "_law_goals", "_law_base", "_law_span"]) fun _ _ _ _ _ _ us hl => by (obtain ⟨_, _, _, _, _, rfl⟩ := len_5 hl); rfl
  have D__law_letters : Dn K mg "_law_letters" sLets ["_law_cells", "_law_houses_here", "_law_goals", "_law_base", "_law_span"] f_law_letters _ := ⟨F_law_letters, PySem.W.mg_of X G a_law_letters, b_law_letters⟩
  have F_law_drawn := fun_mk (st := sDr2) l_law_drawn c_law_drawn k_law_drawn
  have b_law_drawn := F_law_drawn.binds (ps := ["_law_houses_here", "_law_base", "_law_cell"]) fun _ _ _ _ _ _ us hl => by (obtain ⟨_, _, _, rfl⟩ := len_3 hl); rfl
  have D__law_drawn : Dn K mg "_law_drawn" sDr2 ["_law_houses_here", "_law_base", "_law_cell"] f_law_drawn _ := ⟨F_law_drawn, PySem.W.mg_of X G a_law_drawn, b_law_drawn⟩
  have F_law_goes := fun_mk (st := sGoes) l_law_goes c_law_goes k_law_goes
  have b_law_goes := F_law_goes.binds (ps := ["_law_cell", "_law_now", "_law_number", "_law_n"]) fun _ _ _ _ _ _ us hl => by (obtain ⟨_, _, _, _, rfl⟩ := len_4 hl); rfl
  have D__law_goes : Dn K mg "_law_goes" sGoes ["_law_cell", "_law_now", "_law_number", "_law_n"] f_law_goes _ := ⟨F_law_goes, PySem.W.mg_of X G a_law_goes, b_law_goes⟩
  have F_law_homes := fun_mk (st := sHomes) l_law_homes c_law_homes k_law_homes
  have b_law_homes := F_law_homes.binds (ps := ["_law_roads_here", "_law_letters_here", "_law_base", "_law_cell"]) fun _ _ _ _ _ _ us hl => by (obtain ⟨_, _, _, _, rfl⟩ := len_4 hl); rfl
  have D__law_homes : Dn K mg "_law_homes" sHomes ["_law_roads_here", "_law_letters_here", "_law_base", "_law_cell"] f_law_homes _ := ⟨F_law_homes, PySem.W.mg_of X G a_law_homes, b_law_homes⟩
  have Flaw := fun_mk (st := sLaw) llaw claw klaw
  have blaw := Flaw.binds (ps := ["_law_script"]) fun _ _ _ _ _ _ us hl => by (obtain ⟨_, rfl⟩ := len_1 hl); rfl
  have Cn : Csts mg := ⟨⟨_, PySem.W.mg_of X G vMOST_HOUSES⟩, ⟨_, PySem.W.mg_of X G vMOST_ROADS⟩, ⟨_, PySem.W.mg_of X G vMOST_SIGNS⟩, ⟨_, PySem.W.mg_of X G vMOST_TURNS⟩, ⟨_, PySem.W.mg_of X G vMOST_ROOM⟩⟩
  have B : Blt mg := ⟨PySem.W.mg_none_of X G zlen, PySem.W.mg_none_of X G zrange, PySem.W.mg_none_of X G zisinstance, PySem.W.mg_none_of X G zall, PySem.W.mg_none_of X G zint, PySem.W.mg_none_of X G zbool, PySem.W.mg_none_of X G zstr, PySem.W.mg_none_of X G zlist, PySem.W.mg_none_of X G ztuple, PySem.W.mg_none_of X G zset, PySem.W.mg_none_of X G zValueError, PySem.W.mg_none_of X G zenumerate, PySem.W.mg_none_of X G zmax, PySem.W.mg_none_of X G zmin, PySem.W.mg_none_of X G zsum, PySem.W.mg_none_of X G zany, PySem.W.mg_none_of X G zdict, PySem.W.mg_none_of X G zsorted, PySem.W.mg_none_of X G zzip⟩
  refine ⟨PySem.W.fnOf "law" "law" (defArgs sLaw) (defBody sLaw) (defScope sLaw) .none kVlaw dclaw pmlaw anlaw cdlaw ctlaw, fun s v => .of_eq rfl, fun base _ _ => ?_⟩
  have NC : NetC K CNet := ⟨Cl_Net, nNet_kept_houses, nNet_kept_roads⟩
  have KT : Kit K := ⟨kit_ib K⟩
  have G_is_whole : FnOk l.prog w K mg base CX0 1 fis_whole _ ["thing"] spWhole := ok_whole Fis_whole B KT
  have G_is_whole_within : FnOk l.prog w K mg base CX0 2 fis_whole_within _ ["thing", "least", "greatest"] spWithin := ok_within Fis_whole_within D_is_whole G_is_whole
  have G_is_tuple_of : FnOk l.prog w K mg base CX0 1 fis_tuple_of _ ["thing", "length"] spTupOf := ok_tupOf Fis_tuple_of B
  have G_are_unlike_houses : FnOk l.prog w K mg base CX0 1 fare_unlike_houses _ ["houses", "one", "other"] (spUnlike K) := ok_unlike Fare_unlike_houses
  have G_is_name : FnOk l.prog w K mg base CX0 1 fis_name _ ["thing"] spName := ok_name Fis_name B Cn
  have G_are_houses : FnOk l.prog w K mg base CX0 2 fare_houses _ ["things"] spAreH := ok_areH Fare_houses B Cn D_is_name G_is_name
  have G_is_road : FnOk l.prog w K mg base CX0 3 fis_road _ ["houses", "thing"] (spRoad K) := ok_road Fis_road Cn D_is_tuple_of G_is_tuple_of D_are_unlike_houses G_are_unlike_houses D_is_whole_within G_is_whole_within
  have G_are_roads : FnOk l.prog w K mg base CX0 4 fare_roads _ ["houses", "things"] (spAreR K) := ok_areR Fare_roads B Cn D_is_road G_is_road
  have G_Net_init : FnOk l.prog w K mg base CX0 5 fNet_init _ ["self", "houses", "roads"] (spInit K CNet) := ok_init FNet_init B NC D_are_houses G_are_houses D_are_roads G_are_roads
  have G_Net_roads : FnOk l.prog w K mg base CX0 1 fNet_roads _ ["self"] (spRoadsM CNet) := ok_roadsM FNet_roads B NC
  have G_is_in : FnOk l.prog w K mg base CX0 1 fis_in _ ["paper", "house", "turn"] spIsIn := ok_isIn Fis_in
  have G_letters_out : FnOk l.prog w K mg base CX0 2 fletters_out _ ["letters", "paper", "turn"] spLO := ok_lo Fletters_out D_is_in G_is_in
  have G_turns_carried : FnOk l.prog w K mg base CX0 1 fturns_carried _ ["road", "paper", "turn"] spTC := ok_tc Fturns_carried B
  have G_paper_sum : FnOk l.prog w K mg base CX0 3 fpaper_sum _ ["net", "letters", "paper", "turn"] (spPS CNet) := ok_ps Fpaper_sum B Cl_Net M_Net_roads G_Net_roads D_letters_out G_letters_out D_turns_carried G_turns_carried
  have G__law_at : FnOk l.prog w K mg base CX0 1 f_law_at _ ["_law_script", "_law_k"] (spAt K) := ok_at F_law_at B.len
  have G__law_word : FnOk l.prog w K mg base CX0 1 f_law_word _ ["_law_cell"] spWord := ok_word F_law_word B.range
  have G__law_houses : FnOk l.prog w K mg base CX0 2 f_law_houses _ ["_law_cell", "_law_many"] spHouses := ok_houses F_law_houses B.len D__law_word.at_ D__law_word.fn.kp D__law_word.bd G__law_word
  have G_roads : FnOk l.prog w K mg base CX0 1 f_law_roads _ ["_law_cells", "_law_houses_here", "_law_long"] (spRoadsG K) := ok_roadsG F_law_roads B
  have G_lets : FnOk l.prog w K mg base CX0 1 f_law_letters _ pLets (spLets K) := ok_lets F_law_letters B
  have G_dr : FnOk l.prog w K mg base CX0 1 f_law_drawn _ ["_law_houses_here", "_law_base", "_law_cell"] (spDr2 K) := ok_dr2 F_law_drawn B
  have G_goes : FnOk l.prog w K mg base CX0 1 f_law_goes _ pGoes spGoes := ok_goes F_law_goes
  have G_homes : FnOk l.prog w K mg base CX0 2 f_law_homes _ pHomes spHomes := ok_homes F_law_homes B D__law_goes G_goes
  exact ok_law Flaw B at_Net D__law_at G__law_at D__law_houses G__law_houses D__law_roads G_roads D__law_letters G_lets Mk_Net D_Net_init G_Net_init D__law_drawn G_dr D_paper_sum G_paper_sum D__law_homes G_homes
theorem walk {l : PySem.W.OpenLaw} {q : Program} {loose : List Str} {XP : (Str → Option Value) → Heap → Prop} {YP : World → Heap → Prop} {d : DefRec} {K : Params → PySem.W.Frag} (hn : l.most = some 63) (hdf : d.params.defaults = [])
    (hY : ∀ (w : World) (h : Heap), YP w h → (K w.params).In h)
    (F : ∀ (w : World) (mg : Str → Option Value) (fa : Addr) (h : Heap), (K w.params).In h → h.Ns mainGlobals mg → mg d.name = some (.ref fa) →
      ∃ fd : FuncData, (∀ (s : Shared) (u : Value), BindsTo s fd ⟨[u], []⟩ [("_law_script", u)]) ∧ ∀ base : Heap, (K w.params).In base → base.Ns mainGlobals mg → FnOk l.prog w (K w.params) mg base CX0 7 fa fd ["_law_script"] (spLaw (K w.params))) :
    PySem.W.WalkO q loose XP YP l.row.toRowW d [] (fun f vs => PySem.call f vs) :=
  L2.walk_of (n := 63) (k := 7) (x := "_law_script") (CX := fun _ => CX0) (sp := fun w => spLaw (K w.params)) hn (by decide) hdf ⟨rfl, by decide, by decide⟩ hY F (fun _ _ a ns hl _ hS => ⟨a, ns, rfl, hS, hl, fun _ => rfl⟩) fun _ _ _ _ _ z => z
end K1
open PySem PySem.W PyProof.Rows
set_option maxRecDepth 100000 in
set_option maxHeartbeats 0 in
theorem PySem.Challenge.cw_postroad_k42_whole_no_plan_beats_a_paper_holds : PySem.Challenge.rw_postroad_k42_whole_no_plan_beats_a_paper.Holds := by
  w_on; o_law; k_head; (case hw => w_witness2)
  k_fill
  refine K1.walk (l := PySem.Challenge.rw_postroad_k42_whole_no_plan_beats_a_paper) rfl rfl (fun w h Y => PySem.W.kIn_of Y) ?F
  case F =>
    intro w mg fa h KX G hmg
    refine' K1.all_mk KX G hmg ?aCNet ?pgNet ?hdNet ?poNet ?saNet ?mkNet ?kcNet ?nNet_kept_houses ?nNet_kept_roads ?aNet_init ?iNet_init ?lNet_init ?cNet_init ?kNet_init ?aNet_roads ?iNet_roads ?lNet_roads ?cNet_roads ?kNet_roads ?ais_whole ?lis_whole ?cis_whole ?kis_whole ?ais_whole_within ?lis_whole_within ?cis_whole_within ?kis_whole_within ?ais_tuple_of ?lis_tuple_of ?cis_tuple_of ?kis_tuple_of ?aare_unlike_houses ?lare_unlike_houses ?care_unlike_houses ?kare_unlike_houses ?ais_name ?lis_name ?cis_name ?kis_name ?aare_houses ?lare_houses ?care_houses ?kare_houses ?ais_road ?lis_road ?cis_road ?kis_road ?aare_roads ?lare_roads ?care_roads ?kare_roads ?ais_in ?lis_in ?cis_in ?kis_in ?aletters_out ?lletters_out ?cletters_out ?kletters_out ?aturns_carried ?lturns_carried ?cturns_carried ?kturns_carried ?apaper_sum ?lpaper_sum ?cpaper_sum ?kpaper_sum ?a_law_at ?l_law_at ?c_law_at ?k_law_at ?a_law_word ?l_law_word ?c_law_word ?k_law_word ?a_law_houses ?l_law_houses ?c_law_houses ?k_law_houses ?a_law_roads ?l_law_roads ?c_law_roads ?k_law_roads ?a_law_letters ?l_law_letters ?c_law_letters ?k_law_letters ?a_law_drawn ?l_law_drawn ?c_law_drawn ?k_law_drawn ?a_law_goes ?l_law_goes ?c_law_goes ?k_law_goes ?a_law_homes ?l_law_homes ?c_law_homes ?k_law_homes ?alaw ?llaw ?claw ?klaw ?vMOST_HOUSES ?vMOST_ROADS ?vMOST_SIGNS ?vMOST_TURNS ?vMOST_ROOM ?zlen ?zrange ?zisinstance ?zall ?zint ?zbool ?zstr ?zlist ?ztuple ?zset ?zValueError ?zenumerate ?zmax ?zmin ?zsum ?zany ?zdict ?zsorted ?zzip
    (case aCNet => k_is)
    (case pgNet => k_is)
    (case hdNet => k_is)
    (case poNet => k_is)
    (case saNet => k_is)
    (case mkNet => k_is)
    (case kcNet => k_is)
    (case nNet_kept_houses => k_is)
    (case nNet_kept_roads => k_is)
    (case aNet_init => k_is)
    (case iNet_init => k_is)
    (case lNet_init => k_is)
    (case cNet_init => k_is)
    (case kNet_init => k_is)
    (case aNet_roads => k_is)
    (case iNet_roads => k_is)
    (case lNet_roads => k_is)
    (case cNet_roads => k_is)
    (case kNet_roads => k_is)
    (case ais_whole => k_is)
    (case lis_whole => k_is)
    (case cis_whole => k_is)
    (case kis_whole => k_is)
    (case ais_whole_within => k_is)
    (case lis_whole_within => k_is)
    (case cis_whole_within => k_is)
    (case kis_whole_within => k_is)
    (case ais_tuple_of => k_is)
    (case lis_tuple_of => k_is)
    (case cis_tuple_of => k_is)
    (case kis_tuple_of => k_is)
    (case aare_unlike_houses => k_is)
    (case lare_unlike_houses => k_is)
    (case care_unlike_houses => k_is)
    (case kare_unlike_houses => k_is)
    (case ais_name => k_is)
    (case lis_name => k_is)
    (case cis_name => k_is)
    (case kis_name => k_is)
    (case aare_houses => k_is)
    (case lare_houses => k_is)
    (case care_houses => k_is)
    (case kare_houses => k_is)
    (case ais_road => k_is)
    (case lis_road => k_is)
    (case cis_road => k_is)
    (case kis_road => k_is)
    (case aare_roads => k_is)
    (case lare_roads => k_is)
    (case care_roads => k_is)
    (case kare_roads => k_is)
    (case ais_in => k_is)
    (case lis_in => k_is)
    (case cis_in => k_is)
    (case kis_in => k_is)
    (case aletters_out => k_is)
    (case lletters_out => k_is)
    (case cletters_out => k_is)
    (case kletters_out => k_is)
    (case aturns_carried => k_is)
    (case lturns_carried => k_is)
    (case cturns_carried => k_is)
    (case kturns_carried => k_is)
    (case apaper_sum => k_is)
    (case lpaper_sum => k_is)
    (case cpaper_sum => k_is)
    (case kpaper_sum => k_is)
    (case a_law_at => k_is)
    (case l_law_at => k_is)
    (case c_law_at => k_is)
    (case k_law_at => k_is)
    (case a_law_word => k_is)
    (case l_law_word => k_is)
    (case c_law_word => k_is)
    (case k_law_word => k_is)
    (case a_law_houses => k_is)
    (case l_law_houses => k_is)
    (case c_law_houses => k_is)
    (case k_law_houses => k_is)
    (case a_law_roads => k_is)
    (case l_law_roads => k_is)
    (case c_law_roads => k_is)
    (case k_law_roads => k_is)
    (case a_law_letters => k_is)
    (case l_law_letters => k_is)
    (case c_law_letters => k_is)
    (case k_law_letters => k_is)
    (case a_law_drawn => k_is)
    (case l_law_drawn => k_is)
    (case c_law_drawn => k_is)
    (case k_law_drawn => k_is)
    (case a_law_goes => k_is)
    (case l_law_goes => k_is)
    (case c_law_goes => k_is)
    (case k_law_goes => k_is)
    (case a_law_homes => k_is)
    (case l_law_homes => k_is)
    (case c_law_homes => k_is)
    (case k_law_homes => k_is)
    (case alaw => k_is)
    (case llaw => k_is)
    (case claw => k_is)
    (case klaw => k_is)
    (case vMOST_HOUSES => k_is)
    (case vMOST_ROADS => k_is)
    (case vMOST_SIGNS => k_is)
    (case vMOST_TURNS => k_is)
    (case vMOST_ROOM => k_is)
    (case zlen => k_is)
    (case zrange => k_is)
    (case zisinstance => k_is)
    (case zall => k_is)
    (case zint => k_is)
    (case zbool => k_is)
    (case zstr => k_is)
    (case zlist => k_is)
    (case ztuple => k_is)
    (case zset => k_is)
    (case zValueError => k_is)
    (case zenumerate => k_is)
    (case zmax => k_is)
    (case zmin => k_is)
    (case zsum => k_is)
    (case zany => k_is)
    (case zdict => k_is)
    (case zsorted => k_is)
    (case zzip => k_is)
