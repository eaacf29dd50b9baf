import PyProof.Rows.All
import Wide.All
import OpenK.AllK
import Wide.FinOn
import Lean
import PyProof.EqAt
import PyProof.EqKinds
import PyProof.TupleCall
import PySem.Challenge.RW_postroad_k16_whole_letters_kept

set_option Elab.async false
set_option linter.all false
set_option maxRecDepth 100000
namespace L2
open PySem PySem.Spec PyProof.Rows

noncomputable abbrev Key := Sum Int Str
noncomputable def keyIs : Key → Value → Bool
  | .inl k, v => Value.isInt k v
  | .inr x, v => Value.isStrOf x v
noncomputable def keyH (w : World) : Key → Int
  | .inl k => hashInt k
  | .inr x => hashStr w x
theorem keyIs_shape : ∀ {k : Key} {v : Value}, keyIs k v = true → (∃ i t, k = Sum.inl i ∧ v = Value.int i t) ∨ (∃ x t, k = Sum.inr x ∧ v = Value.str x t)
  | .inl i, v, h => by
    obtain ⟨t, e⟩ := Value.isInt_shape (k := i) (v := v) h
    exact .inl ⟨i, t, rfl, e⟩
  | .inr x, v, h => by
    obtain ⟨t, e⟩ := Value.isStrOf_shape (x := x) (v := v) h
    exact .inr ⟨x, t, rfl, e⟩
theorem keyIs_int (i : Int) (t : Tok) : keyIs (.inl i) (.int i t) = true := by simp [keyIs, Value.isInt]
theorem keyIs_str (x : Str) (t : Tok) : keyIs (.inr x) (.str x t) = true := by simp [keyIs, Value.isStrOf]
theorem key_ll (a b : Int) : decide ((Sum.inl a : Key) = Sum.inl b) = (a == b) := by
  by_cases e : a = b
  · subst e; simp
  · have h : ¬ (Sum.inl a : Key) = Sum.inl b := fun q => e (Sum.inl.inj q)
    rw [decide_eq_false h]
    exact (beq_eq_false_iff_ne.mpr e).symm
theorem key_rr (a b : Str) : decide ((Sum.inr a : Key) = Sum.inr b) = decide (a = b) := by
  by_cases e : a = b
  · subst e; simp
  · have h : ¬ (Sum.inr a : Key) = Sum.inr b := fun q => e (Sum.inr.inj q)
    rw [decide_eq_false h, decide_eq_false e]
theorem key_lr (a : Int) (b : Str) : decide ((Sum.inl a : Key) = Sum.inr b) = false := decide_eq_false (fun q => nomatch q)
theorem key_rl (a : Str) (b : Int) : decide ((Sum.inr a : Key) = Sum.inl b) = false := decide_eq_false (fun q => nomatch q)

noncomputable def mixKind (prog : Program) (w : World) : PySem.KeyKind prog w Key where
  is := keyIs
  hash := keyH w
  inj := fun v a b ha hb => by
    rcases keyIs_shape ha with ⟨i, t, rfl, rfl⟩ | ⟨x, t, rfl, rfl⟩
    · rcases keyIs_shape hb with ⟨j, u, rfl, e⟩ | ⟨y, u, rfl, e⟩
      · injection e with e1 _; rw [e1]
      · exact nomatch e
    · rcases keyIs_shape hb with ⟨j, u, rfl, e⟩ | ⟨y, u, rfl, e⟩
      · exact nomatch e
      · injection e with e1 _; rw [e1]
  byValue := fun k v h => by
    rcases keyIs_shape h with ⟨i, t, rfl, rfl⟩ | ⟨x, t, rfl, rfl⟩ <;> rfl
  pyHash := fun hv h => by
    rcases keyIs_shape hv with ⟨i, t, rfl, rfl⟩ | ⟨x, t, rfl, rfl⟩
    · exact wpAny_pyHash_int h
    · exact wpAny_pyHash_str h
  eqBool := fun hu hv h => by
    rcases keyIs_shape hu with ⟨i, t, rfl, rfl⟩ | ⟨x, t, rfl, rfl⟩
    · rcases keyIs_shape hv with ⟨j, u, rfl, rfl⟩ | ⟨y, u, rfl, rfl⟩
      · rw [key_ll] at h; exact wpAny_eqBool_int h
      · rw [key_lr] at h; exact SeqAt.EqAt.int_str i t y u _ _ _ _ h
    · rcases keyIs_shape hv with ⟨j, u, rfl, rfl⟩ | ⟨y, u, rfl, rfl⟩
      · rw [key_rl] at h; exact SeqAt.EqAt.str_int x t j u _ _ _ _ h
      · rw [key_rr] at h; exact wpAny_eqBool_str h
  «strs» := fun k x t v h => by
    rcases keyIs_shape h with ⟨i, u, rfl, e⟩ | ⟨y, u, rfl, e⟩
    · exact nomatch e
    · injection e with e1 _
      subst e1
      cases v <;> rfl

theorem mixKind_int (prog : Program) (w : World) (i : Int) (t : Tok) : (mixKind prog w).is (.inl i) (.int i t) = true := keyIs_int i t
theorem mixKind_str (prog : Program) (w : World) (x : Str) (t : Tok) : (mixKind prog w).is (.inr x) (.str x t) = true := keyIs_str x t
end L2

namespace L2
open PySem PySem.Spec PyProof.Rows

inductive V where
  | non | bl (b : Bool) | int (i : Int) | str (x : Str) | byt (b : Array UInt8) | flt (b : UInt64) | ref (a : Addr) | ty (n : String)
  deriving DecidableEq

noncomputable def RelV : V → Value → Prop
  | .non, u => u = Value.none
  | .bl b, u => u = Value.bool b
  | .int i, u => ∃ t, u = Value.int i t
  | .str x, u => ∃ t, u = Value.str x t
  | .byt b, u => ∃ t, u = Value.bytes b t
  | .flt b, u => ∃ t, u = Value.float b t
  | .ref a, u => u = Value.ref a
  | .ty n, u => u = Value.type n

noncomputable abbrev Vals : List V → List Value → Prop := Paired RelV
theorem Vals.length {xs : List V} {us : List Value} (r : Vals xs us) : xs.length = us.length := Paired.length r
theorem Vals.get : ∀ {xs : List V} {us : List Value} {i : Nat} {x : V}, Vals xs us → xs[i]? = some x → ∃ u, us[i]? = some u ∧ RelV x u
  | _, _, _, _, .nil, e => by simp at e
  | _, _, 0, _, .cons r _, e => by simp at e; subst e; exact ⟨_, rfl, r⟩
  | _, _, i + 1, x, .cons _ t, e => by
    obtain ⟨u, h1, h2⟩ := Vals.get (i := i) (x := x) t (by simpa using e)
    exact ⟨u, by simpa using h1, h2⟩
theorem Vals.append : ∀ {xs ys : List V} {us ws : List Value}, Vals xs us → Vals ys ws → Vals (xs ++ ys) (us ++ ws)
  | _, _, _, _, .nil, s => s
  | _, _, _, _, .cons r t, s => .cons r (Vals.append t s)
theorem Vals.take : ∀ {xs : List V} {us : List Value} (n : Nat), Vals xs us → Vals (xs.take n) (us.take n)
  | _, _, 0, _ => .nil
  | _, _, _ + 1, .nil => .nil
  | _, _, n + 1, .cons r t => .cons r (Vals.take n t)
theorem Vals.drop : ∀ {xs : List V} {us : List Value} (n : Nat), Vals xs us → Vals (xs.drop n) (us.drop n)
  | _, _, 0, r => r
  | _, _, _ + 1, .nil => .nil
  | _, _, n + 1, .cons _ t => Vals.drop n t
theorem Vals.none_of : ∀ {xs : List V} {us : List Value} {i : Nat}, Vals xs us → xs[i]? = none → us[i]? = none := fun {xs us i} r e => by
  have h1 := r.length
  have h2 : xs.length ≤ i := List.getElem?_eq_none_iff.mp e
  exact List.getElem?_eq_none_iff.mpr (by omega)

noncomputable def RelO : Option V → Option Value → Prop
  | some v, some u => RelV v u
  | none, none => True
  | _, _ => False
noncomputable def KV {κ : Type} : List (κ × V) → List (κ × Value) → Prop := Paired fun (p : κ × V) (q : κ × Value) => p.1 = q.1 ∧ RelV p.2 q.2

noncomputable def kV : Key → V
  | .inl i => .int i
  | .inr x => .str x

inductive HO where
  /-- a list -/
  | lst (xs : List V)
  /-- a tuple (never changes) -/
  | tup (xs : List V)
  /-- a dict whose keys are ints and texts; one whose keys are tuples of ints and texts (the empty one is both) -/
  | dK (kvs : List (Key × V)) | dT (kvs : List (List Key × V))
  /-- a set of ints: its members, its size -/
  | set (S : Int → Bool) (n : Nat)
  /-- an instance of the class at C, its dict at dx, its attributes -/
  | ins (C dx : Addr) (fs : List (Str × V))
  /-- the dict of the instance at x -/
  | own (x : Addr)
  /-- the dict of an exception -/
  | xd (fs : List (Str × V))
  /-- a bound method, f of x -/
  | met (f x : Addr)
  /-- a range object lo, lo + 1, .. below hi -/
  | rng (lo hi : Int)
  /-- a thing that is known to the object (the script; a dict while a loop walks it): read, never written while it is so -/
  | frz (o : Obj) (u : HO)
  /-- a code object's table -/
  | tbl (ps : Array Value)
  /-- any other thing, by what is true of its one object (a def of one's own: SetO a S n := HO.ext fun h => ..) -/
  | ext (φ : Heap → Prop)

noncomputable abbrev Hp := Addr → Option HO
noncomputable def upd (H : Hp) (a : Addr) (o : HO) : Hp := fun b => if b = a then some o else H b
theorem upd_same {H : Hp} {a : Addr} {o : HO} : upd H a o a = some o := by unfold upd; rw [if_pos rfl]
theorem upd_ne {H : Hp} {a b : Addr} {o : HO} (h : b ≠ a) : upd H a o b = H b := by unfold upd; rw [if_neg h]
theorem upd_upd {H : Hp} {a : Addr} {o u : HO} : upd (upd H a o) a u = upd H a u := by
  funext b; unfold upd; split <;> rfl
theorem ne_of {H : Hp} {a b : Addr} {o u : HO} (h : H a = some o) (h' : H b = some u) (d : o ≠ u) : a ≠ b := by
  intro e; subst e; rw [h] at h'; exact d (Option.some.inj h')
theorem ne_of_none {H : Hp} {a b : Addr} {o : HO} (h : H a = some o) (h' : H b = none) : a ≠ b := by
  intro e; subst e; rw [h] at h'; cases h'

section
variable (P : Program) (w : World)
noncomputable def ObjOk (H : Hp) (h : Heap) (a : Addr) : HO → Prop
  | .lst xs => xs.length ≤ sizeLine ∧ ∃ (its : List Value) (n : Nat), Vals xs its ∧ h.get? a = some { cls := .type "list", data := .seq its.toArray n }
  | .tup xs => xs.length ≤ sizeLine ∧ ∃ its : List Value, Vals xs its ∧ IsTup h a its.toArray
  | .dK kvs => kvs.length ≤ sizeLine ∧ (a == sysModules) = false ∧ ∃ vs, KV kvs vs ∧ h.DictOf (mixKind P w) a vs
  | .dT kvs => kvs.length ≤ sizeLine ∧ (a == sysModules) = false ∧ ∃ xs : List (List Key × Addr × Value),
      Paired (fun (p : List Key × V) (q : List Key × Addr × Value) => p.1 = q.1 ∧ H q.2.1 = some (.tup (p.1.map kV)) ∧ RelV p.2 q.2.2) kvs xs ∧
      ∃ o es ep, h.get? a = some o ∧ o.ExactDict ∧ o.data = .dict es ep ∧ es.toList = xs.map (entryOfKey (tupleKind (mixKind P w))) ∧ (xs.map (·.1)).Nodup
  | .set S n => h.SetOf (intKind P w) a S n
  | .ins C dx fs => H dx = some (.own a) ∧ fs.length ≤ 1000 ∧ dx ≠ a ∧ h.get? a = some (PySem.W.instObj C dx) ∧
      ∃ mA, h.Ns1 dx mA ∧ (∀ f, RelO (fs.lookup f) (mA f)) ∧ PySem.Within mA (fs.map (·.1))
  | .own _ => ∃ o, h.get? a = some o
  | .xd fs => ∃ mA, h.Ns1 a mA ∧ ∀ f, RelO (fs.lookup f) (mA f)
  | .rng lo hi => ∃ t u v, h.get? a = some { cls := .type "range", data := .fields #[.int lo t, .int hi u, .int 1 v] }
  | .frz o u => h.get? a = some o ∧ ObjOk H h a u
  | .tbl ps => h.get? a = some { cls := .none, data := .fields ps }
  | .met f x => h.get? a = some (PySem.W.methodObj (.ref f) (.ref x))
  | .ext φ => φ h ∧ (∃ o, h.get? a = some o) ∧ ∀ h1 h2 : Heap, φ h1 → (∀ o, h1.get? a = some o → h2.get? a = some o) → φ h2
noncomputable def HOk (H : Hp) (h : Heap) : Prop := ∀ a o, H a = some o → ObjOk P w H h a o
end

section
variable {P : Program} {w : World} {H H' : Hp} {h h' : Heap} {a : Addr} {o : HO}
theorem ObjOk.lt (x : ObjOk P w H h a o) : a < h.objs.size := by
  cases o with
  | lst xs => obtain ⟨_, _, _, _, e⟩ := x; exact Heap.lt_size e
  | tup xs => obtain ⟨_, _, _, p⟩ := x; exact p.lt
  | dK kvs => obtain ⟨_, _, _, _, o, _, _, e, _⟩ := x; exact Heap.lt_size e
  | dT kvs => obtain ⟨_, _, _, _, o, _, _, e, _⟩ := x; exact Heap.lt_size e
  | set S n => obtain ⟨o, _, _, _, e, _⟩ := x; exact Heap.lt_size e
  | ins C dx fs => obtain ⟨_, _, _, e, _⟩ := x; exact Heap.lt_size e
  | own y => obtain ⟨_, e⟩ := x; exact Heap.lt_size e
  | xd fs => obtain ⟨_, ⟨_, _, _, e, _⟩, _⟩ := x; exact Heap.lt_size e
  | rng lo hi => obtain ⟨_, _, _, e⟩ := x; exact Heap.lt_size e
  | frz ob u => obtain ⟨e, _⟩ := x; exact Heap.lt_size e
  | tbl ps => exact Heap.lt_size (show h.get? a = some _ from x)
  | met f y => exact Heap.lt_size (show h.get? a = some _ from x)
  | ext φ => obtain ⟨_, ⟨_, e⟩, _⟩ := x; exact Heap.lt_size e
theorem Paired.mapP {α β : Type} {F G : α → β → Prop} : ∀ {l₁ : List α} {l₂ : List β}, Paired F l₁ l₂ → (∀ a b, F a b → G a b) → Paired G l₁ l₂
  | _, _, .nil, _ => .nil
  | _, _, .cons r t, f => .cons (f _ _ r) (Paired.mapP t f)
theorem ObjOk.stay (x : ObjOk P w H h a o) (k : ∀ b u, (b = a ∨ H b = some (.own a)) → h.get? b = some u → h'.get? b = some u)
    (ho : ∀ b, H b = some (.own a) → H' b = some (.own a)) (ht : ∀ b xs, H b = some (.tup xs) → H' b = some (.tup xs)) : ObjOk P w H' h' a o := by
  induction o with
  | lst xs => obtain ⟨z, its, n, r, e⟩ := x; exact ⟨z, its, n, r, k _ _ (.inl rfl) e⟩
  | tup xs => obtain ⟨z, its, r, ob, e, c⟩ := x; exact ⟨z, its, r, ob, k _ _ (.inl rfl) e, c⟩
  | dK kvs => obtain ⟨z, y, vs, r, ob, es, ep, e, c⟩ := x; exact ⟨z, y, vs, r, ob, es, ep, k _ _ (.inl rfl) e, c⟩
  | dT kvs =>
    obtain ⟨z, y, xs, r, ob, es, ep, e, c⟩ := x
    exact ⟨z, y, xs, Paired.mapP r fun p q z => ⟨z.1, ht _ _ z.2.1, z.2.2⟩, ob, es, ep, k _ _ (.inl rfl) e, c⟩
  | set S n => obtain ⟨ob, es, ep, t, e, c⟩ := x; exact ⟨ob, es, ep, t, k _ _ (.inl rfl) e, c⟩
  | ins C dx fs =>
    obtain ⟨d, z, ne, e, mA, ⟨od, es, ep, e2, c⟩, r⟩ := x
    exact ⟨ho _ d, z, ne, k _ _ (.inl rfl) e, mA, ⟨od, es, ep, k _ _ (.inr d) e2, c⟩, r⟩
  | own y => obtain ⟨ob, e⟩ := x; exact ⟨ob, k _ _ (.inl rfl) e⟩
  | xd fs => obtain ⟨mA, ⟨od, es, ep, e, c⟩, r⟩ := x; exact ⟨mA, ⟨od, es, ep, k _ _ (.inl rfl) e, c⟩, r⟩
  | rng lo hi => obtain ⟨t, u, v, e⟩ := x; exact ⟨t, u, v, k _ _ (.inl rfl) e⟩
  | frz ob u ih => obtain ⟨e, q⟩ := x; exact ⟨k _ _ (.inl rfl) e, ih q⟩
  | tbl ps =>
    have e : h.get? a = some { cls := .none, data := .fields ps } := x
    show h'.get? a = some { cls := .none, data := .fields ps }
    exact k a _ (.inl rfl) e
  | met f y =>
    have e : h.get? a = some (PySem.W.methodObj (.ref f) (.ref y)) := x
    show h'.get? a = some (PySem.W.methodObj (.ref f) (.ref y))
    exact k a _ (.inl rfl) e
  | ext φ => obtain ⟨p, ⟨o, e⟩, st⟩ := x; exact ⟨st _ _ p fun o q => k _ _ (.inl rfl) q, ⟨o, k _ _ (.inl rfl) e⟩, st⟩
theorem HOk.lt (x : HOk P w H h) (e : H a = some o) : a < h.objs.size := (x a o e).lt
theorem HOk.fresh (x : HOk P w H h) (e : h.objs.size ≤ a) : H a = none := by
  cases q : H a with
  | none => rfl
  | some u => exact absurd (Nat.lt_of_lt_of_le (x.lt q) e) (Nat.lt_irrefl _)
theorem HOk.kept (x : HOk P w H h) (k : ∀ b u, h.get? b = some u → h'.get? b = some u) : HOk P w H h' := fun a o e =>
  (x a o e).stay (fun b u _ q => k b u q) (fun _ q => q) fun _ _ q => q
theorem HOk.laid (x : HOk P w H h) (k : ∀ b u, h.get? b = some u → h'.get? b = some u) (hp : h.objs.size ≤ a) (new : ObjOk P w (upd H a o) h' a o) : HOk P w (upd H a o) h' := fun b u e => by
  have hn := x.fresh hp
  by_cases hb : b = a
  · subst hb; rw [upd_same] at e; cases e; exact new
  · rw [upd_ne hb] at e
    exact (x b u e).stay (fun c v _ q => k c v q) (fun c q => by rw [upd_ne (ne_of_none q hn)]; exact q) fun c xs q => by rw [upd_ne (ne_of_none q hn)]; exact q
end

noncomputable def Rd (H : Hp) (a : Addr) (u : HO) : Prop := H a = some u ∨ ∃ o, H a = some (.frz o u)
theorem Rd.ok {P : Program} {w : World} {H : Hp} {h : Heap} {a : Addr} {u : HO} (r : Rd H a u) (x : HOk P w H h) : ObjOk P w H h a u := by
  rcases r with r | ⟨o, r⟩
  · exact x a u r
  · obtain ⟨_, q⟩ := x a _ r
    exact q
noncomputable def Mut : Option HO → Prop
  | some (.lst _) => True
  | some (.dK _) => True
  | some (.dT _) => True
  | some (.set _ _) => True
  | some (.ins _ _ _) => True
  | some (.ext _) => True
  | _ => False
section
variable {P : Program} {w : World} {H : Hp} {h h' : Heap} {x e : Addr} {o' : HO}
theorem HOk.write (ok : HOk P w H h) (mu : Mut (H x)) (he : e = x ∨ H e = some (.own x)) (k : ∀ b u, b ≠ e → h.get? b = some u → h'.get? b = some u) (heo : ∃ u, h'.get? e = some u)
    (new : ObjOk P w (upd H x o') h' x o') : HOk P w (upd H x o') h' := fun b u q => by
  have nown : ∀ c y, H c = some (.own y) → c ≠ x := fun c y r z => by subst z; rw [r] at mu; exact mu
  have ntup : ∀ c xs, H c = some (.tup xs) → c ≠ x := fun c xs r z => by subst z; rw [r] at mu; exact mu
  by_cases hb : b = x
  · subst hb; rw [upd_same] at q; cases q; exact new
  · rw [upd_ne hb] at q
    by_cases hbe : b = e
    · have q' : H b = some (.own x) := by
        rcases he with z | z
        · exact absurd (hbe.trans z) hb
        · rw [hbe]; exact z
      rw [q] at q'; cases q'
      obtain ⟨v, hv⟩ := heo
      exact ⟨v, by rw [hbe]; exact hv⟩
    · refine (ok b u q).stay (fun c v hc r => k c v ?_ r) (fun c r => by rw [upd_ne (nown c b r)]; exact r) fun c xs r => by rw [upd_ne (ntup c xs r)]; exact r
      rcases hc with rfl | hc
      · exact hbe
      · rintro rfl
        rcases he with z | z
        · exact nown c b hc z
        · rw [hc] at z; cases z; exact hb rfl
end

structure Un (fs ex : List Addr) (H H' : Hp) (h h' : Heap) : Prop where
  keep : ∀ b o, h.get? b = some o → H b = none → b ∉ fs → b ∉ ex → h'.get? b = some o
  slot : ∀ b o, h.get? b = some o → H b = none → b ∈ fs → b ∉ ex → ∃ sl, h'.get? b = some { o with slots := sl }
  free : ∀ b o, h.get? b = some o → H b = none → b ∉ ex → H' b = none
  there : ∀ b o, h.get? b = some o → b ∉ ex → ∃ o', h'.get? b = some o'
  tups : ∀ b xs, H b = some (.tup xs) → H' b = some (.tup xs)
  frzs : ∀ b o u, H b = some (.frz o u) → H' b = some (.frz o u)
  tbls : ∀ b ps, H b = some (.tbl ps) → ∃ more, H' b = some (.tbl (ps ++ more))
section
variable {fs fs' ex ex' : List Addr} {H H1 H2 : Hp} {h h1 h2 h' : Heap} {a x e : Addr} {o : HO}
theorem Un.any (u : Un fs ex H H1 h h1) {b : Addr} {ob : Obj} (q : h.get? b = some ob) (n : H b = none) (hx : b ∉ ex) : ∃ sl, h1.get? b = some { ob with slots := sl } := by
  by_cases hb : b ∈ fs
  · exact u.slot b ob q n hb hx
  · exact ⟨ob.slots, u.keep b ob q n hb hx⟩
theorem Un.kept (k : ∀ b u, h.get? b = some u → h'.get? b = some u) : Un fs ex H H h h' :=
  ⟨fun b ob q _ _ _ => k b ob q, fun b ob q _ _ _ => ⟨ob.slots, k b ob q⟩, fun _ _ _ n _ => n, fun b ob q _ => ⟨ob, k b ob q⟩, fun _ _ q => q, fun _ _ _ q => q, fun _ ps q => ⟨#[], by rw [q]; simp⟩⟩
theorem Un.refl : Un fs ex H H h h := Un.kept fun _ _ q => q
theorem Un.laid (k : ∀ b u, h.get? b = some u → h'.get? b = some u) (hp : h.objs.size ≤ a) (hn : H a = none) : Un fs ex H (upd H a o) h h' where
  keep := fun b u q _ _ _ => k b u q
  slot := fun b u q _ _ _ => ⟨u.slots, k b u q⟩
  free := fun b u q n _ => by rw [upd_ne (Nat.ne_of_lt (Nat.lt_of_lt_of_le (Heap.lt_size q) hp))]; exact n
  there := fun b u q _ => ⟨u, k b u q⟩
  tups := fun b xs q => by rw [upd_ne (ne_of_none q hn)]; exact q
  frzs := fun b u xs q => by rw [upd_ne (ne_of_none q hn)]; exact q
  tbls := fun b ps q => ⟨#[], by rw [upd_ne (ne_of_none q hn), q]; simp⟩
theorem Un.write (mu : Mut (H x)) (he : e = x ∨ H e = some (.own x)) (k : ∀ b u, b ≠ e → h.get? b = some u → h'.get? b = some u) (heo : ∃ u, h'.get? e = some u) : Un fs ex H (upd H x o) h h' := by
  have hx : ∀ b, H b = none → b ≠ x := fun b n z => by subst z; rw [n] at mu; exact mu
  have hb : ∀ b, H b = none → b ≠ e := fun b n z => by
    subst z
    rcases he with r | r
    · exact hx b n r
    · rw [n] at r; cases r
  have hm : ∀ b u, H b = some u → ¬ Mut (some u) → b ≠ x := fun b u q nm z => by subst z; rw [q] at mu; exact nm mu
  refine ⟨fun b u q n _ _ => k b u (hb b n) q, fun b u q n _ _ => ⟨u.slots, k b u (hb b n) q⟩, fun b u q n _ => by rw [upd_ne (hx b n)]; exact n, fun b u q _ => ?_,
    fun b xs q => by rw [upd_ne (hm b _ q fun z => z)]; exact q, fun b u xs q => by rw [upd_ne (hm b _ q fun z => z)]; exact q, fun b ps q => ⟨#[], by rw [upd_ne (hm b _ q fun z => z), q]; simp⟩⟩
  by_cases hbe : b = e
  · subst hbe; exact heo
  · exact ⟨u, k b u hbe q⟩
end

noncomputable def trk (h : Heap) (H : Hp) : List Addr := (List.range h.objs.size).filter fun a => (H a).isSome
noncomputable def hidT (h : Heap) (H : Hp) : Heap := PySem.W.hideAll h (trk h H)
theorem hidT_size (h : Heap) (H : Hp) : (hidT h H).objs.size = h.objs.size := PySem.W.hideAll_size _ _
theorem hidT_get {h : Heap} {H : Hp} {b : Addr} {o : Obj} (e : h.get? b = some o) (n : H b = none) : (hidT h H).get? b = some o :=
  PySem.W.hideAll_get _ e fun hm => by
    have q : (H b).isSome = true := (List.mem_filter.mp hm).2
    rw [n] at q; simp at q
theorem of_hidT {h : Heap} {H : Hp} {b : Addr} {o : Obj} (e : (hidT h H).get? b = some o) : h.get? b = some o ∧ H b = none := by
  have e' : h.get? b = some o := PySem.W.of_hideAll (trk h H) e
  refine ⟨e', ?_⟩
  cases q : H b with
  | none => rfl
  | some x =>
    have hm : b ∈ trk h H := List.mem_filter.mpr ⟨List.mem_range.mpr (Heap.lt_size e'), by simp [q]⟩
    have z : (hidT h H).get? b = none := PySem.W.hideAll_none (trk h H) hm
    rw [z] at e; cases e

noncomputable def allNews (g h : Heap) (L : Addr) : List (Addr × Obj) := (List.range h.objs.size).filterMap fun a => if a = L ∨ (g.get? a).isSome = true then none else (h.get? a).map fun o => (a, o)
noncomputable def rest (g h : Heap) (L d : Addr) : List (Addr × Obj) := (allNews g h L).filter fun p => decide (p.1 ≠ d)
end L2

namespace L2
open PySem PySem.Spec PyProof.Rows

structure Mod (K : PySem.W.Frag) (mg : Str → Option Value) (base : Heap) : Prop where
  kin : K.In base
  glob : base.Ns mainGlobals mg
  blt : ∃ mb, base.Ns builtinsNs mb ∧ ∀ x : Str, x ≠ "__name__" → mb x = bootBuiltins x
  nolimit : base.NoLimit

structure Cx where
  prog : Program
  w : World
  K : PySem.W.Frag
  mg : Str → Option Value
  base : Heap
  A : Around
  N : List Str
  s₀ : Shared
  H₀ : Hp
  env : Env
  outer : List Env
  stack : List Env
  ex : List Addr
  fn : Str → Bool
  calm : Bool
  pn : List (Addr × Obj)
  xe : Value → Shared → Prop
noncomputable def frs (l : List Env) : List Addr := l.filterMap (·.frame)
noncomputable abbrev Cx.fs (X : Cx) : List Addr := frs X.outer

noncomputable def Vis (sc : Scope) (x : Str) : Prop := sc.names.lookup x = some .local ∨ sc.names.lookup x = some .cell ∨ sc.names.lookup x = some .free
noncomputable def Loc (sc : Scope) (x : Str) : Prop := sc.names.lookup x = some .local ∨ sc.names.lookup x = some .cell
noncomputable def Look (env : Env) (h : Heap) (m : Str → Option Value) (x : Str) (u : Value) : Prop :=
  (env.kindOf x = some .local ∧ m x = some u) ∨ ((env.kindOf x = some .cell ∨ env.kindOf x = some .free) ∧ ∃ c, env.cells.lookup x = some c ∧ h.IsCell c (some u))

structure Cx.Ok (X : Cx) : Prop where
  mod : Mod X.K X.mg X.base
  kind : X.env.scope.kind = .function
  glob : X.env.globals = mainGlobals
  blt : X.env.builtins = builtinsNs
  above : X.s₀.heap.objs.size ≤ X.env.locals
  inj : ∀ x y c, X.env.cells.lookup x = some c → X.env.cells.lookup y = some c → x = y
  has : ∀ x, (X.env.kindOf x = some .cell ∨ X.env.kindOf x = some .free) → ∃ c, X.env.cells.lookup x = some c
  cab : ∀ x c, X.fn x = true → X.env.cells.lookup x = some c → X.s₀.heap.objs.size ≤ c
  hd : X.calm = true → X.A.handled = none
  frames : X.A.frames = some X.stack
  stk : X.stack = X.outer ∨ (X.stack = X.env :: X.outer ∧ X.env.frame = some X.env.locals)
  exf : ∀ b ∈ X.ex, b ≠ X.env.locals ∧ ∀ x c, X.env.cells.lookup x = some c → c ≠ b
  bs : ∀ b o, X.base.get? b = some o → X.s₀.heap.get? b = some o ∧ X.H₀ b = none
  bsz : X.base.objs.size ≤ X.s₀.heap.objs.size
  noex : ∀ b o, X.base.get? b = some o → b ∉ X.ex
  exfs : ∀ b ∈ X.ex, b ∉ X.fs
  funs : X.s₀.heap.FunFrames X.base X.outer
  frf : ∀ b ∈ X.fs, X.H₀ b = none

structure Inv (X : Cx) (pins : List (Addr × Obj)) (σ : List (Option V)) (H : Hp) (s : Shared) : Prop where
  ok : X.Ok
  os : s.os = X.s₀.os
  bare : AllBare s.gens
  base : Un X.fs X.ex X.H₀ H X.s₀.heap s.heap
  loc : ∃ m, s.heap.Ns X.env.locals m ∧ ∀ (i : Nat) (x : Str) (v : V), X.N[i]? = some x → σ[i]? = some (some v) → Vis X.env.scope x → ∃ u, RelV v u ∧ Look X.env s.heap m x u
  cell : ∀ x c, X.env.cells.lookup x = some c → ∃ v, s.heap.IsCell c v
  free : H X.env.locals = none
  freeC : ∀ x c, X.env.cells.lookup x = some c → H c = none
  pin : ∀ p ∈ X.pn ++ pins, s.heap.get? p.1 = some p.2 ∧ H p.1 = none ∧ p.1 ≠ X.env.locals ∧ p.1 ∉ X.fs ∧ ∀ v, p.2.data ≠ .cell v
  hok : HOk X.prog X.w H s.heap
  len : σ.length = X.N.length

section
variable {X : Cx} {pins : List (Addr × Obj)} {σ : List (Option V)} {H H' : Hp} {s : Shared} {h' : Heap}

theorem Cx.Ok.nofr (ok : X.Ok) {b : Addr} {o : Obj} (e : X.base.get? b = some o) : b ∉ X.fs := fun hb => by
  have := (ok.funs.mem hb).1
  rw [e] at this; cases this
theorem Inv.bs (I : Inv X pins σ H s) : ∀ b o, X.base.get? b = some o → s.heap.get? b = some o ∧ H b = none := fun b o e =>
  ⟨I.base.keep b o (I.ok.bs b o e).1 (I.ok.bs b o e).2 (I.ok.nofr e) (I.ok.noex b o e), I.base.free b o (I.ok.bs b o e).1 (I.ok.bs b o e).2 (I.ok.noex b o e)⟩
theorem Inv.bk (I : Inv X pins σ H s) : ∀ b o, X.base.get? b = some o → s.heap.get? b = some o := fun b o e => (I.bs b o e).1
theorem Inv.mod (I : Inv X pins σ H s) : Mod X.K X.mg X.base := I.ok.mod
theorem Inv.kIn (I : Inv X pins σ H s) : X.K.In s.heap := I.ok.mod.kin.keeps I.bk
theorem Inv.lt (I : Inv X pins σ H s) : X.env.locals < s.heap.objs.size := let ⟨_, hn, _⟩ := I.loc; hn.lt
theorem Inv.sz (I : Inv X pins σ H s) : X.s₀.heap.objs.size ≤ s.heap.objs.size := Nat.le_trans I.ok.above (Nat.le_of_lt I.lt)
theorem Inv.nofs (I : Inv X pins σ H s) {a : Addr} (h : s.heap.objs.size ≤ a) : a ∉ X.fs := fun hb => by
  obtain ⟨_, o, ho, _⟩ := I.ok.funs.mem hb
  exact absurd (Nat.lt_of_lt_of_le (Heap.lt_size ho) (Nat.le_trans I.sz h)) (Nat.lt_irrefl _)
theorem Inv.cne (I : Inv X pins σ H s) : ∀ x c, X.env.cells.lookup x = some c → c ≠ X.env.locals := fun x c e z => by
  obtain ⟨v, o, ho, hd⟩ := I.cell x c e
  obtain ⟨m, ⟨o', es, ep, ho', hd', _⟩, _⟩ := I.loc
  rw [z, ho'] at ho; cases ho; rw [hd'] at hd; cases hd
theorem Inv.funs (I : Inv X pins σ H s) : s.heap.FunFrames X.base X.outer := by
  have all : ∀ (l : List Env), (∀ b ∈ frs l, b ∈ X.fs) → X.s₀.heap.FunFrames X.base l → s.heap.FunFrames X.base l := by
    intro l
    induction l with
    | nil => intro _ _; trivial
    | cons env r ih =>
      intro hs hl
      obtain ⟨hk, ⟨L, o, hf, hn, ho, hd⟩, hr⟩ := hl
      have hL : L ∈ X.fs := hs L (by unfold frs; rw [List.filterMap_cons, hf]; exact List.mem_cons_self)
      obtain ⟨sl, e⟩ := I.base.slot L o ho (I.ok.frf L hL) hL fun z => I.ok.exfs L z hL
      exact ⟨hk, ⟨L, _, hf, hn, e, hd⟩, ih (fun b hb => hs b (by unfold frs; rw [List.filterMap_cons, hf]; exact List.mem_cons_of_mem _ hb)) hr⟩
  exact all X.outer (fun _ hb => hb) I.ok.funs

theorem Inv.stack (I : Inv X pins σ H s) : s.heap.FunFrames X.base X.stack := by
  rcases I.ok.stk with e | ⟨e, hf⟩
  · rw [e]; exact I.funs
  · rw [e]
    obtain ⟨m, hn, _⟩ := I.loc
    refine .cons (by rw [I.ok.kind]; decide) hf hn ?_ I.funs
    exact Heap.get?_none_of_le (Nat.le_trans I.ok.bsz I.ok.above)
theorem Inv.stkSub (I : Inv X pins σ H s) : ∀ b ∈ frs X.stack, b ∈ X.env.locals :: X.fs := fun b hb => by
  rcases I.ok.stk with e | ⟨e, hf⟩
  · rw [e] at hb; exact List.mem_cons_of_mem _ hb
  · rw [e] at hb
    unfold frs at hb
    rw [List.filterMap_cons, hf] at hb
    exact hb
theorem Inv.stkFree (I : Inv X pins σ H s) : ∀ b ∈ frs X.stack, H b = none := fun b hb => by
  rcases List.mem_cons.mp (I.stkSub b hb) with e | hb
  · rw [e]; exact I.free
  · obtain ⟨_, o, ho, _⟩ := I.ok.funs.mem hb
    exact I.base.free b o ho (I.ok.frf b hb) fun z => I.ok.exfs b z hb

theorem Inv.step {g' : Array GenState} {t' : Nat} {d' : Drawn} {ch : List Addr} (I : Inv X pins σ H s)
    (hch : ∀ b ∈ ch, (b ∈ X.ex ∨ X.s₀.heap.objs.size ≤ b) ∧ b ≠ X.env.locals ∧ (∀ x c, X.env.cells.lookup x = some c → c ≠ b) ∧ ∀ p ∈ X.pn ++ pins, p.1 ≠ b)
    (keep : ∀ b o, b ≠ X.env.locals → b ∉ X.fs → b ∉ ch → s.heap.get? b = some o → H b = none → h'.get? b = some o)
    (slot : ∀ b o, b ≠ X.env.locals → b ∈ X.fs → b ∉ ch → s.heap.get? b = some o → H b = none → ∃ sl, h'.get? b = some { o with slots := sl }) (free : ∀ b o, b ∉ ch → s.heap.get? b = some o → H b = none → H' b = none)
    (there : ∀ b o, b ∉ ch → s.heap.get? b = some o → ∃ o', h'.get? b = some o')
    (tups : ∀ b xs, H b = some (.tup xs) → H' b = some (.tup xs)) (frzs : ∀ b o u, H b = some (.frz o u) → H' b = some (.frz o u)) (tbls : ∀ b ps, H b = some (.tbl ps) → ∃ more, H' b = some (.tbl (ps ++ more)))
    (ns : ∀ m, s.heap.Ns X.env.locals m → h'.Ns X.env.locals m) (hok : HOk X.prog X.w H' h') (hg : AllBare g') :
    Inv X pins σ H' { s with heap := h', gens := g', drawn := d', toks := t' } := by
  have neL : ∀ b o, X.s₀.heap.get? b = some o → b ≠ X.env.locals := fun b o e => Nat.ne_of_lt (Nat.lt_of_lt_of_le (Heap.lt_size e) I.ok.above)
  have neC : ∀ b o, X.s₀.heap.get? b = some o → b ∉ X.ex → b ∉ ch := fun b o e hx hb => by
    rcases (hch b hb).1 with z | z
    · exact hx z
    · exact absurd (Nat.lt_of_lt_of_le (Heap.lt_size e) z) (Nat.lt_irrefl _)
  have cellK : ∀ x c, X.env.cells.lookup x = some c → ∀ v, s.heap.IsCell c v → h'.IsCell c v := fun x c e v ⟨o, ho, hd⟩ => by
    have nch : c ∉ ch := fun z => (hch c z).2.2.1 x c e rfl
    by_cases hc : c ∈ X.fs
    · obtain ⟨sl, q⟩ := slot c o (I.cne x c e) hc nch ho (I.freeC x c e)
      exact ⟨_, q, hd⟩
    · exact ⟨o, keep c o (I.cne x c e) hc nch ho (I.freeC x c e), hd⟩
  refine ⟨I.ok, I.os, hg, ⟨fun b o e n hb hx => ?_, fun b o e n hb hx => ?_, fun b o e n hx => ?_, fun b o e hx => ?_, fun b xs e => tups b xs (I.base.tups b xs e), fun b o xs e => frzs b o xs (I.base.frzs b o xs e), fun b ps e => ?_⟩, ?_, fun x c e => ?_, ?_, fun x c e => ?_, fun p hp => ?_, hok, I.len⟩
  · exact keep b o (neL b o e) hb (neC b o e hx) (I.base.keep b o e n hb hx) (I.base.free b o e n hx)
  · obtain ⟨sl, e1⟩ := I.base.slot b o e n hb hx
    obtain ⟨sl', e2⟩ := slot b _ (neL b o e) hb (neC b o e hx) e1 (I.base.free b o e n hx)
    exact ⟨sl', e2⟩
  · obtain ⟨o', e1⟩ := I.base.there b o e hx
    exact free b o' (neC b o e hx) e1 (I.base.free b o e n hx)
  · obtain ⟨o', e1⟩ := I.base.there b o e hx
    exact there b o' (neC b o e hx) e1
  · obtain ⟨m1, e1⟩ := I.base.tbls b ps e
    obtain ⟨m2, e2⟩ := tbls b _ e1
    exact ⟨m1 ++ m2, by rw [e2, Array.append_assoc]⟩
  · obtain ⟨m, hn, hl⟩ := I.loc
    refine ⟨m, ns m hn, fun i x v e1 e2 e3 => ?_⟩
    obtain ⟨u, r, l⟩ := hl i x v e1 e2 e3
    refine ⟨u, r, ?_⟩
    rcases l with l | ⟨k, c, e, z⟩
    · exact .inl l
    · exact .inr ⟨k, c, e, cellK x c e _ z⟩
  · obtain ⟨v, z⟩ := I.cell x c e
    exact ⟨v, cellK x c e v z⟩
  · obtain ⟨m, ⟨o, _, _, ho, _⟩, _⟩ := I.loc
    exact free _ o (fun z => (hch _ z).2.1 rfl) ho I.free
  · obtain ⟨v, o, ho, hd⟩ := I.cell x c e
    exact free c o (fun z => (hch c z).2.2.1 x c e rfl) ho (I.freeC x c e)
  · obtain ⟨e, n, ne, nf, d⟩ := I.pin p hp
    have nch : p.1 ∉ ch := fun z => (hch p.1 z).2.2.2 p hp rfl
    exact ⟨keep p.1 p.2 ne nf nch e n, free p.1 p.2 nch e n, ne, nf, d⟩
theorem Inv.un {t' : Nat} (I : Inv X pins σ H s) (u : Un X.fs [] H H' s.heap h') (hok : HOk X.prog X.w H' h') : Inv X pins σ H' { s with heap := h', toks := t' } := by
  obtain ⟨m, ⟨o, es, ep, ho, r⟩, _⟩ := id I.loc
  obtain ⟨sl, hL⟩ := u.any ho I.free (by simp)
  exact I.step (g' := s.gens) (d' := s.drawn) (ch := []) (fun _ z => nomatch z) (fun b o _ hb _ e n => u.keep b o e n hb (by simp)) (fun b o _ hb _ e n => u.slot b o e n hb (by simp)) (fun b o _ e n => u.free b o e n (by simp)) (fun b o _ e => u.there b o e (by simp)) u.tups u.frzs u.tbls (fun m' hm => by
    obtain ⟨o', es', ep', ho', r'⟩ := hm
    rw [ho] at ho'; cases ho'
    exact ⟨_, es', ep', hL, r'⟩) hok I.bare
theorem Inv.call {g' : Array GenState} {t' : Nat} {d' : Drawn} {ch : List Addr} (I : Inv X pins σ H s) (u : Un (frs X.stack) ch H H' s.heap h') (hok : HOk X.prog X.w H' h') (hg : AllBare g')
    (hch : ∀ b ∈ ch, (b ∈ X.ex ∨ X.s₀.heap.objs.size ≤ b) ∧ b ≠ X.env.locals ∧ (∀ x c, X.env.cells.lookup x = some c → c ≠ b) ∧ ∀ p ∈ X.pn ++ pins, p.1 ≠ b) :
    Inv X pins σ H' { s with heap := h', gens := g', drawn := d', toks := t' } := by
  obtain ⟨m, ⟨o, es, ep, ho, r⟩, _⟩ := id I.loc
  obtain ⟨sl, hL⟩ := u.any ho I.free fun z => (hch _ z).2.1 rfl
  exact I.step (ch := ch) hch (fun b o hL hb hc e n => u.keep b o e n (fun z => (List.mem_cons.mp (I.stkSub b z)).elim hL hb) hc) (fun b o _ _ hc e n => u.any e n hc) (fun b o hc e n => u.free b o e n hc) (fun b o hc e => u.there b o e hc) u.tups u.frzs u.tbls (fun m' hm => by
    obtain ⟨o', es', ep', ho', r'⟩ := hm
    rw [ho] at ho'; cases ho'
    exact ⟨_, es', ep', hL, r'⟩) hok hg
theorem Inv.turned {t' : Nat} {it : Addr} (I : Inv X pins σ H s) (k : ∀ b o, b ≠ it → s.heap.get? b = some o → h'.get? b = some o) (hn : H it = none) (hL : it ≠ X.env.locals)
    (h1 : it ∈ X.ex ∨ X.s₀.heap.objs.size ≤ it) (h2 : ∀ x c, X.env.cells.lookup x = some c → c ≠ it) (h3 : ∀ p ∈ X.pn ++ pins, p.1 ≠ it) : Inv X pins σ H { s with heap := h', toks := t' } := by
  have nit : ∀ b u, H b = some u → b ≠ it := fun b u e z => by rw [z, hn] at e; cases e
  refine I.step (g' := s.gens) (d' := s.drawn) (ch := [it]) (fun b hb => ?_) (fun b o _ _ hc e _ => k b o (fun z => hc (by simp [z])) e) (fun b o _ _ hc e _ => ⟨o.slots, k b o (fun z => hc (by simp [z])) e⟩) (fun _ _ _ _ n => n)
    (fun b o hc e => ⟨o, k b o (fun z => hc (by simp [z])) e⟩) (fun _ _ e => e) (fun _ _ _ e => e) (fun b ps e => ⟨#[], by rw [e]; simp⟩) (fun m hm => ?_) (fun b u e => ?_) I.bare
  · have e : b = it := by simpa using hb
    subst e
    exact ⟨h1, hL, h2, h3⟩
  · obtain ⟨o, es, ep, ho, r⟩ := hm
    exact ⟨o, es, ep, k _ o (Ne.symm hL) ho, r⟩
  · refine (I.hok b u e).stay (fun c v hc q => k c v ?_ q) (fun _ q => q) fun _ _ q => q
    rcases hc with z | z
    · rw [z]; exact nit b u e
    · exact nit c _ z
theorem Inv.tok (I : Inv X pins σ H s) (t : Nat) : Inv X pins σ H { s with toks := t } := I.un (h' := s.heap) (t' := t) Un.refl I.hok
theorem Inv.kept {t' : Nat} (I : Inv X pins σ H s) (k : ∀ b u, s.heap.get? b = some u → h'.get? b = some u) : Inv X pins σ H { s with heap := h', toks := t' } := I.un (Un.kept k) (I.hok.kept k)
theorem Inv.laid {a : Addr} {o : HO} {t' : Nat} (I : Inv X pins σ H s) (k : ∀ b u, s.heap.get? b = some u → h'.get? b = some u) (hp : s.heap.objs.size ≤ a) (new : ObjOk X.prog X.w (upd H a o) h' a o) :
    Inv X pins σ (upd H a o) { s with heap := h', toks := t' } := I.un (Un.laid k hp (I.hok.fresh hp)) (I.hok.laid k hp new)
theorem Inv.write {x e : Addr} {o : HO} {t' : Nat} (I : Inv X pins σ H s) (mu : Mut (H x)) (he : e = x ∨ H e = some (.own x)) (k : ∀ b u, b ≠ e → s.heap.get? b = some u → h'.get? b = some u) (heo : ∃ u, h'.get? e = some u)
    (new : ObjOk X.prog X.w (upd H x o) h' x o) : Inv X pins σ (upd H x o) { s with heap := h', toks := t' } := I.un (Un.write mu he k heo) (I.hok.write mu he k heo new)
theorem Inv.pins_of {pins' : List (Addr × Obj)} (I : Inv X pins σ H s) (h : ∀ p ∈ pins', s.heap.get? p.1 = some p.2 ∧ H p.1 = none ∧ p.1 ≠ X.env.locals ∧ p.1 ∉ X.fs ∧ ∀ v, p.2.data ≠ .cell v) : Inv X pins' σ H s :=
  ⟨I.ok, I.os, I.bare, I.base, I.loc, I.cell, I.free, I.freeC, fun p hp => (List.mem_append.mp hp).elim (fun z => I.pin p (List.mem_append_left _ z)) (h p), I.hok, I.len⟩

theorem nodup_ix {N : List Str} (hN : N.Nodup) {i j : Nat} {x : Str} (a : N[i]? = some x) (b : N[j]? = some x) : i = j := by
  obtain ⟨h1, e1⟩ := List.getElem?_eq_some_iff.mp a
  obtain ⟨h2, e2⟩ := List.getElem?_eq_some_iff.mp b
  exact (List.getElem_inj hN).mp (e1.trans e2.symm)

theorem store_ok2 {M : Model} {A : Around} {E : Value → Shared → Prop} {i : Nat} {x : Str} {v : V} {u : Value} {Q : Unit → Shared → Prop} (I : Inv X pins σ H s) (hN : X.N.Nodup) (hi : X.N[i]? = some x) (hx : Loc X.env.scope x) (r : RelV v u)
    (h : ∀ s', Inv X pins (σ.set i (some v)) H s' → (∃ a, Heap.SameBut a s.heap s'.heap ∧ (a = X.env.locals ∨ X.env.cells.lookup x = some a)) → Q () s') (hf : X.fn x = true ∨ X.env.scope.names.lookup x = some .local := by first | exact .inl rfl | exact .inr rfl | assumption) : wpAny M A (storeName X.env x u) Q E s := by
  obtain ⟨m, hn, hl⟩ := id I.loc
  have hcls : (X.env.scope.kind == .class || (X.env.scope.kind == .module && X.env.locals != X.env.globals)) = false := by rw [I.ok.kind]; rfl
  have hiσ : i < σ.length := by rw [I.len]; exact (List.getElem?_eq_some_iff.mp hi).1
  have cne := I.cne
  have tracked : ∀ {a : Addr} {h' : Heap}, (∃ o, s.heap.get? a = some o ∧ H a = none) → Heap.SameBut a s.heap h' → HOk X.prog X.w H h' := fun {a h'} ha hs b ob e => by
    obtain ⟨_, _, hfree⟩ := ha
    refine (I.hok b ob e).stay (fun c w' hc q => (hs.2 c ?_).trans q) (fun _ q => q) fun _ _ q => q
    rintro rfl
    rcases hc with rfl | hc
    · rw [hfree] at e; cases e
    · rw [hfree] at hc; cases hc
  rcases hx with hk | hk
  · refine wpAny_storeName_local hk hn (fun h' hn' hs => ?_) hcls
    obtain ⟨oL, _, _, hoL, _⟩ := id hn
    refine h _ ⟨I.ok, I.os, I.bare, ⟨fun b o e n hb hx => ?_, fun b o e n hb hx => ?_, I.base.free, fun b o e hx => ?_, I.base.tups, I.base.frzs, I.base.tbls⟩, ⟨_, hn', fun j y v' e1 e2 e3 => ?_⟩, fun y c e => ?_, I.free, I.freeC, fun p hp => ?_, tracked ⟨oL, hoL, I.free⟩ hs, by simpa using I.len⟩ ⟨_, hs, .inl rfl⟩
    · exact (hs.2 b (Nat.ne_of_lt (Nat.lt_of_lt_of_le (Heap.lt_size e) I.ok.above))).trans (I.base.keep b o e n hb hx)
    · obtain ⟨sl, e1⟩ := I.base.slot b o e n hb hx
      exact ⟨sl, (hs.2 b (Nat.ne_of_lt (Nat.lt_of_lt_of_le (Heap.lt_size e) I.ok.above))).trans e1⟩
    · obtain ⟨o', e1⟩ := I.base.there b o e hx
      exact ⟨o', (hs.2 b (Nat.ne_of_lt (Nat.lt_of_lt_of_le (Heap.lt_size e) I.ok.above))).trans e1⟩
    · by_cases hj : j = i
      · subst hj
        rw [hi] at e1; cases e1
        rw [List.getElem?_set_self hiσ] at e2
        cases e2
        exact ⟨u, r, .inl ⟨hk, by simp⟩⟩
      · rw [List.getElem?_set_ne (Ne.symm hj)] at e2
        obtain ⟨u', r', q⟩ := hl j y v' e1 e2 e3
        refine ⟨u', r', ?_⟩
        rcases q with ⟨k, e⟩ | ⟨k, c, e, z⟩
        · refine .inl ⟨k, ?_⟩
          have : y ≠ x := fun e => hj (nodup_ix hN e1 (e ▸ hi))
          simp [this, e]
        · exact .inr ⟨k, c, e, z.sameBut hs (cne y c e)⟩
    · obtain ⟨w', z⟩ := I.cell y c e
      exact ⟨w', z.sameBut hs (cne y c e)⟩
    · obtain ⟨e, n, ne, nf, d⟩ := I.pin p hp
      exact ⟨(hs.2 p.1 ne).trans e, n, ne, nf, d⟩
  · have hfn : X.fn x = true := by
      rcases hf with z | z
      · exact z
      · rw [z] at hk; cases hk
    obtain ⟨c, hc⟩ := I.ok.has x (.inl hk)
    obtain ⟨w', z⟩ := I.cell x c hc
    refine wpAny_storeName_cell I.ok.kind hk hc z (fun h' hc' hs => ?_)
    obtain ⟨oc, hoc, hocd⟩ := id z
    refine h { s with heap := h' } ⟨I.ok, I.os, I.bare, ⟨fun b o e n hb hx => ?_, fun b o e n hb hx => ?_, I.base.free, fun b o e hx => ?_, I.base.tups, I.base.frzs, I.base.tbls⟩, ⟨m, hn.sameBut hs (Ne.symm (cne x c hc)), fun j y v' e1 e2 e3 => ?_⟩, fun y c' e => ?_, I.free, I.freeC, fun p hp => ?_, tracked ⟨oc, hoc, I.freeC x c hc⟩ hs, by simpa using I.len⟩ ⟨c, hs, .inr hc⟩
    · exact (hs.2 b (Nat.ne_of_lt (Nat.lt_of_lt_of_le (Heap.lt_size e) (I.ok.cab x c hfn hc)))).trans (I.base.keep b o e n hb hx)
    · obtain ⟨sl, e1⟩ := I.base.slot b o e n hb hx
      exact ⟨sl, (hs.2 b (Nat.ne_of_lt (Nat.lt_of_lt_of_le (Heap.lt_size e) (I.ok.cab x c hfn hc)))).trans e1⟩
    · obtain ⟨o', e1⟩ := I.base.there b o e hx
      exact ⟨o', (hs.2 b (Nat.ne_of_lt (Nat.lt_of_lt_of_le (Heap.lt_size e) (I.ok.cab x c hfn hc)))).trans e1⟩
    · by_cases hj : j = i
      · subst hj
        rw [hi] at e1; cases e1
        rw [List.getElem?_set_self hiσ] at e2
        cases e2
        exact ⟨u, r, .inr ⟨.inl hk, c, hc, hc'⟩⟩
      · rw [List.getElem?_set_ne (Ne.symm hj)] at e2
        obtain ⟨u', r', q⟩ := hl j y v' e1 e2 e3
        refine ⟨u', r', ?_⟩
        rcases q with q | ⟨k, c', e, z'⟩
        · exact .inl q
        · refine .inr ⟨k, c', e, z'.sameBut hs ?_⟩
          rintro rfl
          exact hj (nodup_ix hN e1 (I.ok.inj _ _ _ e hc ▸ hi))
    · by_cases hcc : c' = c
      · subst hcc; exact ⟨_, hc'⟩
      · obtain ⟨w2, z2⟩ := I.cell y c' e
        exact ⟨w2, z2.sameBut hs hcc⟩
    · obtain ⟨e, n, ne, nf, d⟩ := I.pin p hp
      refine ⟨(hs.2 p.1 ?_).trans e, n, ne, nf, d⟩
      intro q
      rw [q, hoc] at e
      have q' : oc = p.2 := Option.some.inj e
      exact d w' (by rw [← q']; exact hocd)
theorem store_ok {M : Model} {A : Around} {E : Value → Shared → Prop} {i : Nat} {x : Str} {v : V} {u : Value} {Q : Unit → Shared → Prop} (I : Inv X pins σ H s) (hN : X.N.Nodup) (hi : X.N[i]? = some x) (hx : Loc X.env.scope x) (r : RelV v u)
    (h : ∀ s', Inv X pins (σ.set i (some v)) H s' → Q () s') (hf : X.fn x = true ∨ X.env.scope.names.lookup x = some .local := by first | exact .inl rfl | exact .inr rfl | assumption) : wpAny M A (storeName X.env x u) Q E s :=
  store_ok2 I hN hi hx r (fun s' I' _ => h s' I') hf
theorem Inv.call' {s' : Shared} {ch : List Addr} (I : Inv X pins σ H s) (ho : s'.os = s.os) (u : Un (frs X.stack) ch H H' s.heap s'.heap) (hok : HOk X.prog X.w H' s'.heap) (hg : AllBare s'.gens)
    (hch : ∀ b ∈ ch, (b ∈ X.ex ∨ X.s₀.heap.objs.size ≤ b) ∧ b ≠ X.env.locals ∧ (∀ x c, X.env.cells.lookup x = some c → c ≠ b) ∧ ∀ p ∈ X.pn ++ pins, p.1 ≠ b) : Inv X pins σ H' s' := by
  obtain ⟨h', g', d', t', o'⟩ := s'
  have e : o' = s.os := ho
  subst e
  exact I.call (g' := g') (t' := t') (d' := d') u hok hg hch
end

noncomputable abbrev XK := Value → Option Addr → Hp → Prop
noncomputable abbrev St := List (Option V)
noncomputable abbrev VK := V → Hp → Prop
noncomputable abbrev TE := St → Hp → VK → Prop
noncomputable abbrev TT := St → Hp → (Bool → Hp → Prop) → Prop
noncomputable abbrev TA := St → Hp → (List V → Hp → Prop) → Prop
structure Ends where
  nx : St → Hp → Prop
  rt : VK
  bk : St → Hp → Prop := fun _ _ => False
  ct : St → Hp → Prop := fun _ _ => False
noncomputable abbrev TS := Ends → St → Hp → Prop

noncomputable def EP (X : Cx) (pins : List (Addr × Obj)) (σ : St) (Q : VK) (u : Value) (s' : Shared) : Prop := ∃ v H', Inv X pins σ H' s' ∧ RelV v u ∧ Q v H'
noncomputable def TP (X : Cx) (pins : List (Addr × Obj)) (σ : St) (Q : Bool → Hp → Prop) (b : Bool) (s' : Shared) : Prop := ∃ H', Inv X pins σ H' s' ∧ Q b H'
noncomputable def AP (X : Cx) (pins : List (Addr × Obj)) (σ : St) (Q : List V → Hp → Prop) (us : List Value) (s' : Shared) : Prop := ∃ vs H', Inv X pins σ H' s' ∧ Vals vs us ∧ Q vs H'
noncomputable def SP (X : Cx) (pins : List (Addr × Obj)) (D : Ends) (f : Flow) (s' : Shared) : Prop :=
  match f with
  | .next => ∃ σ' H', Inv X pins σ' H' s' ∧ D.nx σ' H'
  | .brk => ∃ σ' H', Inv X pins σ' H' s' ∧ D.bk σ' H'
  | .cont => ∃ σ' H', Inv X pins σ' H' s' ∧ D.ct σ' H'
  | .ret u => ∃ v σ' H', Inv X pins σ' H' s' ∧ RelV v u ∧ D.rt v H'

noncomputable def PE (X : Cx) (e : Expr) (t : TE) : Prop :=
  ∀ (pins : List (Addr × Obj)) (s : Shared) (σ : St) (H : Hp) (Q : VK), Inv X pins σ H s → t σ H Q → wpAny (model X.prog X.w) X.A (eval e X.env) (EP X pins σ Q) X.xe s
noncomputable def PT (X : Cx) (e : Expr) (t : TT) : Prop :=
  ∀ (pins : List (Addr × Obj)) (s : Shared) (σ : St) (H : Hp) (Q : Bool → Hp → Prop), Inv X pins σ H s → t σ H Q → wpAny (model X.prog X.w) X.A (isTrue e X.env (eval e X.env)) (TP X pins σ Q) X.xe s
noncomputable def PW (X : Cx) (e : Expr) (t : TT) : Prop :=
  ∀ (whole : Sem Value) (pins : List (Addr × Obj)) (s : Shared) (σ : St) (H : Hp) (Q : Bool → Hp → Prop), Inv X pins σ H s → t σ H Q → wpAny (model X.prog X.w) X.A (isTrue e X.env whole) (TP X pins σ Q) X.xe s
theorem PW.pt {X : Cx} {e : Expr} {t : TT} (h : PW X e t) : PT X e t := h _
noncomputable def PA (X : Cx) (es : List Expr) (t : TA) : Prop :=
  ∀ (pos : Pos) (pins : List (Addr × Obj)) (s : Shared) (σ : St) (H : Hp) (Q : List V → Hp → Prop), Inv X pins σ H s → t σ H Q → wpAny (model X.prog X.w) X.A (spliced (backTo pos (starEach es X.env))) (AP X pins σ Q) X.xe s
noncomputable def PS (X : Cx) (st : Stmt) (t : TS) : Prop :=
  ∀ (pins : List (Addr × Obj)) (s : Shared) (σ : St) (H : Hp) (D : Ends), Inv X pins σ H s → t D σ H → wpAny (model X.prog X.w) X.A (exec st X.env) (SP X pins D) X.xe s
noncomputable def PSs (X : Cx) (st : List Stmt) (t : TS) : Prop :=
  ∀ (pins : List (Addr × Obj)) (s : Shared) (σ : St) (H : Hp) (D : Ends), Inv X pins σ H s → t D σ H → wpAny (model X.prog X.w) X.A (execs st X.env) (SP X pins D) X.xe s
theorem thn {α : Type} {t : Sem α} {Q Q' : α → Shared → Prop} {M : Model} {A : Around} {E : Value → Shared → Prop} {s : Shared} (h : wpAny M A t Q E s) (hQ : ∀ a s, Q a s → Q' a s) : wpAny M A t Q' E s := wpAny_mono h hQ fun _ _ x => x
end L2

namespace L2
open PySem PySem.Spec PyProof.Rows
section
variable {X : Cx}

theorem bin {a b : Expr} {ta tb : TE} (ha : PE X a ta) (hb : PE X b tb) {pins : List (Addr × Obj)} {s : Shared} {σ : St} {H : Hp} {R : V → V → Hp → Prop} (I : Inv X pins σ H s) (h : ta σ H fun x H1 => tb σ H1 fun y H2 => R x y H2)
    {α : Type} {Q : α → Shared → Prop} {f : Value → Value → Sem α}
    (hf : ∀ v u s2 x y H2, Inv X pins σ H2 s2 → RelV x v → RelV y u → R x y H2 → wpAny (model X.prog X.w) X.A (f v u) Q X.xe s2) :
    wpAny (model X.prog X.w) X.A (eval a X.env) (fun v s₁ => wpAny (model X.prog X.w) X.A (eval b X.env) (fun u s₂ => wpAny (model X.prog X.w) X.A (f v u) Q X.xe s₂) X.xe s₁) X.xe s := by
  refine thn (ha pins s σ H _ I h) fun v s1 ⟨x, H1, I1, r1, q1⟩ => ?_
  refine thn (hb pins s1 σ H1 _ I1 q1) fun u s2 ⟨y, H2, I2, r2, q2⟩ => ?_
  exact hf v u s2 x y H2 I2 r1 r2 q2

noncomputable def tVar (i : Nat) : TE := fun σ H Q => ∃ v, σ[i]? = some (some v) ∧ Q v H
noncomputable def tC (v : V) : TE := fun _ H Q => Q v H
theorem pe_var {i : Nat} {x : Str} {pos : Pos} (hN : X.N[i]? = some x) (hv : Vis X.env.scope x) (hd : (x == ("__debug__" : Str)) = false := by decide) (hcd : (x == ("__classdict__" : Str)) = false := by decide) : PE X (.Name x pos) (tVar i) := by
  intro pins s σ H Q I h
  obtain ⟨v, e, h⟩ := h
  obtain ⟨m, hn, hl⟩ := I.loc
  obtain ⟨u, r, l⟩ := hl i x v hN e hv
  have fin : EP X pins σ Q u s := ⟨v, H, I, r, h⟩
  rcases l with ⟨hk, hm⟩ | ⟨hk, c, hc, hcell⟩
  · exact wpAny_Name (wpAny_loadName_local I.ok.kind hk hn hm fin) hd
  · rcases hk with hk | hk
    · exact wpAny_Name (wpAny_loadName_cell I.ok.kind hk hc hcell fin) hd
    · exact wpAny_Name (wpAny_loadName_free I.ok.kind hk hc hcell fin hcd) hd
theorem pe_int {i j pos} : PE X (.Constant (.int i) j pos) (tC (.int i)) := fun _ _ _ H _ I h => wpAny_Constant_int ⟨.int i, H, I.tok _, ⟨_, rfl⟩, h⟩
theorem pe_bl {b j pos} : PE X (.Constant (.bool b) j pos) (tC (.bl b)) := fun _ _ _ H _ I h => Constant_bool ⟨.bl b, H, I, rfl, h⟩
theorem pe_non {j pos} : PE X (.Constant .none j pos) (tC .non) := fun _ _ _ H _ I h => Constant_none ⟨.non, H, I, rfl, h⟩
theorem pe_str {x j pos} : PE X (.Constant (.str x) j pos) (tC (.str x)) := fun _ _ _ H _ I h => Calls.Constant_str ⟨.str x, H, I.tok _, ⟨_, rfl⟩, h⟩

noncomputable def Gl (X : Cx) (x : Str) : Prop := X.env.kindOf x = some .globalImplicit
theorem ld_glob {E : Value → Shared → Prop} {pins : List (Addr × Obj)} {s : Shared} {σ : St} {H : Hp} {x : Str} {u : Value} {pos : Pos} {Q : Value → Shared → Prop} (I : Inv X pins σ H s) (hg : Gl X x) (hm : X.mg x = some u) (h : Q u s)
    (hd : (x == ("__debug__" : Str)) = false := by decide) : wpAny (model X.prog X.w) X.A (eval (.Name x pos) X.env) Q E s :=
  Calls.Name_function_global I.ok.kind hg (Calls.loadGlobal_global (by rw [I.ok.glob]; exact I.mod.glob.keeps I.bk) hm h) hd
theorem ld_blt {E : Value → Shared → Prop} {pins : List (Addr × Obj)} {s : Shared} {σ : St} {H : Hp} {x : Str} {u : Value} {pos : Pos} {Q : Value → Shared → Prop} (I : Inv X pins σ H s) (hg : Gl X x) (hm : X.mg x = none) (hv : bootBuiltins x = some u) (h : Q u s)
    (hn : x ≠ "__name__" := by decide) (hd : (x == ("__debug__" : Str)) = false := by decide) : wpAny (model X.prog X.w) X.A (eval (.Name x pos) X.env) Q E s := by
  obtain ⟨mb, h1, h2⟩ := I.mod.blt
  exact Calls.Name_function_global I.ok.kind hg (Calls.loadGlobal_builtin (by rw [I.ok.glob]; exact I.mod.glob.keeps I.bk) hm (by rw [I.ok.blt]; exact h1.keeps I.bk) ((h2 x hn).trans hv) h) hd
theorem pe_glob {x : Str} {v : V} {u : Value} {pos : Pos} (hg : Gl X x) (hm : X.mg x = some u) (r : RelV v u) (hd : (x == ("__debug__" : Str)) = false := by decide) : PE X (.Name x pos) (tC v) :=
  fun _ _ _ H _ I h => ld_glob I hg hm ⟨v, H, I, r, h⟩ hd
theorem pe_bltn {x : Str} {v : V} {u : Value} {pos : Pos} (hg : Gl X x) (hm : X.mg x = none) (hv : bootBuiltins x = some u) (r : RelV v u) (hn : x ≠ "__name__" := by decide) (hd : (x == ("__debug__" : Str)) = false := by decide) : PE X (.Name x pos) (tC v) :=
  fun _ _ _ H _ I h => ld_blt I hg hm hv ⟨v, H, I, r, h⟩ hn hd

variable {a b : Expr} {ta tb : TE} {pos : Pos}
noncomputable def PC (X : Cx) (op : CmpOp) (a b : Expr) (t : TE) : Prop :=
  ∀ (pins : List (Addr × Obj)) (s : Shared) (σ : St) (H : Hp) (Q : VK), Inv X pins σ H s → t σ H Q →
    wpAny (model X.prog X.w) X.A (eval a X.env) (fun v s₁ => wpAny (model X.prog X.w) X.A (eval b X.env) (fun u s₂ => wpAny (model X.prog X.w) X.A (compareOp op v u) (EP X pins σ Q) X.xe s₂) X.xe s₁) X.xe s
theorem nobehind (b : Expr) {op : CmpOp} (h : op ≠ .In) (h2 : op ≠ .NotIn) : behindInMarks op b = false := by
  have e1 : (op == CmpOp.In) = false := by cases op <;> first | rfl | exact absurd rfl h
  have e2 : (op == CmpOp.NotIn) = false := by cases op <;> first | rfl | exact absurd rfl h2
  cases b <;> simp [behindInMarks, e1, e2]
noncomputable def tB (t : TE) : TT := fun σ H Q => t σ H fun x H1 => ∃ c, x = .bl c ∧ Q c H1
theorem pt_cmp {op : CmpOp} {t : TE} (h : PC X op a b t) (h1 : behindInMarks op b = false := by first | exact nobehind _ (by decide) (by decide) | rfl) : PT X (.Compare a [op] [b] pos) (tB t) := by
  intro pins s σ H Q I hw
  refine wpAny_isTrue_Compare1 (thn (h pins s σ H _ I hw) fun v s1 h1 => thn h1 fun u s2 h2 => thn h2 fun c s3 ⟨x, H1, I1, r1, q1⟩ => ?_) h1
  obtain ⟨d, rfl, q⟩ := q1
  cases r1
  exact wpAny_truthy_bool ⟨H1, I1, q⟩
theorem pt_val {e : Expr} {t : TE} (h : PE X e t) (he : ∀ whole, isTrue e X.env whole = (do let v ← whole; standAt e.pos; holding [v] (truthy v)) := by intro _; rfl) : PT X e (tB t) := by
  intro pins s σ H Q I hw
  refine isTrue_plain (thn (h pins s σ H _ I hw) fun v s1 ⟨x, H1, I1, r1, q1⟩ => ?_) (he _)
  obtain ⟨d, rfl, q⟩ := q1
  cases r1
  exact wpAny_truthy_bool ⟨H1, I1, q⟩

variable {tA tB' : TT} {rest : List Expr}
noncomputable def tAnd (t u : TT) : TT := fun σ H Q => t σ H fun c H1 => if c = true then u σ H1 Q else Q false H1
noncomputable def tOr (t u : TT) : TT := fun σ H Q => t σ H fun c H1 => if c = true then Q true H1 else u σ H1 Q
noncomputable def tNot (t : TT) : TT := fun σ H Q => t σ H fun c H1 => Q (!c) H1
theorem pw_and1 (ha : PT X a tA) : PW X (.BoolOp .And [a] pos) tA := by
  intro wh pins s σ H Q I h
  refine isTrue_and (thn (ha pins s σ H Q I h) fun c s1 e => ?_)
  cases c with
  | true => exact isTrue_and_nil e
  | false => exact e
theorem pw_or1 (ha : PT X a tA) : PW X (.BoolOp .Or [a] pos) tA := by
  intro wh pins s σ H Q I h
  refine isTrue_or (thn (ha pins s σ H Q I h) fun c s1 e => ?_)
  cases c with
  | false => exact isTrue_or_nil e
  | true => exact e
theorem pw_and (ha : PT X a tA) (hb : PW X (.BoolOp .And (b :: rest) pos) tB') : PW X (.BoolOp .And (a :: b :: rest) pos) (tAnd tA tB') := by
  intro wh pins s σ H Q I h
  refine isTrue_and (thn (ha pins s σ H _ I h) fun c s1 ⟨H1, I1, q1⟩ => ?_)
  cases c with
  | true => exact hb wh pins s1 σ H1 Q I1 q1
  | false => exact ⟨H1, I1, q1⟩
theorem pw_or (ha : PT X a tA) (hb : PW X (.BoolOp .Or (b :: rest) pos) tB') : PW X (.BoolOp .Or (a :: b :: rest) pos) (tOr tA tB') := by
  intro wh pins s σ H Q I h
  refine isTrue_or (thn (ha pins s σ H _ I h) fun c s1 ⟨H1, I1, q1⟩ => ?_)
  cases c with
  | true => exact ⟨H1, I1, q1⟩
  | false => exact hb wh pins s1 σ H1 Q I1 q1
theorem pt_not (ha : PT X a tA) : PT X (.UnaryOp .Not a pos) (tNot tA) := by
  intro pins s σ H Q I h
  exact isTrue_not (ha pins s σ H (fun c H1 => Q (!c) H1) I h)
noncomputable def tAndV (ta tb : TE) : TE := fun σ H Q => ta σ H fun x H1 => ∃ c, x = .bl c ∧ if c = true then tb σ H1 Q else Q (.bl false) H1
noncomputable def tNotV (ta : TE) : TE := fun σ H Q => ta σ H fun x H1 => ∃ c, x = .bl c ∧ Q (.bl (!c)) H1
theorem pe_one {op} {t : TE} (h : PE X a t) : PE X (.BoolOp op [a] pos) t := fun pins s σ H Q I hw => BoolOp_one (h pins s σ H Q I hw)
theorem pe_and (ha : PE X a ta) (hb : PE X (.BoolOp .And (b :: rest) pos) tb) : PE X (.BoolOp .And (a :: b :: rest) pos) (tAndV ta tb) := by
  intro pins s σ H Q I h
  refine BoolOp_and (thn (ha pins s σ H _ I h) fun v s1 ⟨x, H1, I1, r1, q1⟩ => ?_)
  obtain ⟨c, rfl, q1⟩ := q1
  cases r1
  refine wpAny_truthy_bool ?_
  cases c with
  | true => exact hb pins s1 σ H1 Q I1 q1
  | false => exact ⟨.bl false, H1, I1, rfl, q1⟩
theorem pe_not (ha : PE X a ta) : PE X (.UnaryOp .Not a pos) (tNotV ta) := by
  intro pins s σ H Q I h
  refine UnaryOp_ (thn (ha pins s σ H _ I h) fun v s1 ⟨x, H1, I1, r1, q1⟩ => ?_)
  obtain ⟨c, rfl, q1⟩ := q1
  cases r1
  exact not_of (wpAny_truthy_bool ⟨.bl (!c), H1, I1, rfl, q1⟩)
end
end L2

namespace L2
open PySem PySem.Spec PyProof.Rows

noncomputable def SqL (K : PySem.W.Frag) (H : Hp) (a : Addr) (xs : List V) : Prop :=
  Rd H a (.lst xs) ∨
    ∃ (o : Obj) (its : Array Value) (n : Nat), K.lookup a = some o ∧ o.cls = .type "list" ∧ o.dict = none ∧ o.data = .seq its n ∧ its.size ≤ sizeLine ∧ Vals xs its.toList
noncomputable def SqT (K : PySem.W.Frag) (H : Hp) (a : Addr) (xs : List V) : Prop :=
  Rd H a (.tup xs) ∨
    ∃ (o : Obj) (its : Array Value) (n : Nat), K.lookup a = some o ∧ o.cls = .type "tuple" ∧ o.data = .seq its n ∧ its.size ≤ sizeLine ∧ Vals xs its.toList
noncomputable def absV : Value → Option V
  | .none => some .non
  | .bool b => some (.bl b)
  | .int i _ => some (.int i)
  | .str x _ => some (.str x)
  | .bytes b _ => some (.byt b)
  | .float b _ => some (.flt b)
  | .ref a => some (.ref a)
  | .type n => some (.ty n)
  | _ => none
theorem RelV.abs {x : V} {u : Value} (r : RelV x u) : absV u = some x := by
  cases x with
  | non => cases r; rfl
  | bl _ => cases r; rfl
  | int _ => obtain ⟨t, rfl⟩ := r; rfl
  | str _ => obtain ⟨t, rfl⟩ := r; rfl
  | byt _ => obtain ⟨t, rfl⟩ := r; rfl
  | flt _ => obtain ⟨t, rfl⟩ := r; rfl
  | ref _ => cases r; rfl
  | ty _ => cases r; rfl
theorem RelV.inj {x y : V} {u : Value} (r : RelV x u) (q : RelV y u) : x = y := Option.some.inj (r.abs.symm.trans q.abs)
theorem Vals.inj : ∀ {xs ys : List V} {us : List Value}, Vals xs us → Vals ys us → xs = ys
  | _, _, _, .nil, .nil => rfl
  | _, _, _, .cons r t, .cons r' t' => by rw [r.inj r', Vals.inj t t']
section
variable {X : Cx} {pins : List (Addr × Obj)} {σ : St} {H : Hp} {s : Shared} {a : Addr} {xs ys : List V}
theorem SqL.of {K : PySem.W.Frag} (h : H a = some (.lst xs)) : SqL K H a xs := .inl (.inl h)
theorem SqT.of {K : PySem.W.Frag} (h : H a = some (.tup xs)) : SqT K H a xs := .inl (.inl h)
theorem Inv.list (I : Inv X pins σ H s) (h : SqL X.K H a xs) : ∃ its : List Value, Vals xs its ∧ PlainL s.heap a its.toArray ∧ xs.length ≤ sizeLine := by
  rcases h with h | ⟨o, its, n, hk, hc, hd, hs, hz, r⟩
  · obtain ⟨z, its, n, r, e⟩ := h.ok I.hok
    exact ⟨its, r, ⟨_, n, e, rfl, rfl, rfl⟩, z⟩
  · refine ⟨its.toList, r, ⟨o, n, I.kIn a o hk, hc, hd, by simpa using hs⟩, ?_⟩
    have e := r.length
    simp only [Array.length_toList] at e
    omega
theorem Inv.tuple (I : Inv X pins σ H s) (h : SqT X.K H a xs) : ∃ its : List Value, Vals xs its ∧ IsTup s.heap a its.toArray ∧ xs.length ≤ sizeLine := by
  rcases h with h | ⟨o, its, n, hk, hc, hs, hz, r⟩
  · obtain ⟨z, its, r, p⟩ := h.ok I.hok
    exact ⟨its, r, p, z⟩
  · refine ⟨its.toList, r, ⟨o, I.kIn a o hk, hc, n, by simpa using hs⟩, ?_⟩
    have e := r.length
    simp only [Array.length_toList] at e
    omega
theorem Inv.list_inj (I : Inv X pins σ H s) (h : SqL X.K H a xs) (h' : SqL X.K H a ys) : xs = ys := by
  obtain ⟨its, r, ⟨o, n, e, _, _, d⟩, _⟩ := I.list h
  obtain ⟨its', r', ⟨o', n', e', _, _, d'⟩, _⟩ := I.list h'
  rw [e] at e'; cases e'
  rw [d] at d'
  injection d' with d1 _
  have : its = its' := by simpa using congrArg Array.toList d1
  subst this
  exact r.inj r'
theorem Inv.tuple_inj (I : Inv X pins σ H s) (h : SqT X.K H a xs) (h' : SqT X.K H a ys) : xs = ys := by
  obtain ⟨its, r, ⟨o, e, _, n, d⟩, _⟩ := I.tuple h
  obtain ⟨its', r', ⟨o', e', _, n', d'⟩, _⟩ := I.tuple h'
  rw [e] at e'; cases e'
  rw [d] at d'
  injection d' with d1 _
  have : its = its' := by simpa using congrArg Array.toList d1
  subst this
  exact r.inj r'
end

noncomputable abbrev Cx.wish (X : Cx) (E : Value → Shared → Prop) : Cx := { X with xe := E }
noncomputable abbrev Cx.nox (X : Cx) : Cx := X.wish fun _ _ => False
theorem Cx.Ok.wish {X : Cx} (ok : X.Ok) (E : Value → Shared → Prop) : (X.wish E).Ok :=
  ⟨ok.mod, ok.kind, ok.glob, ok.blt, ok.above, ok.inj, ok.has, ok.cab, ok.hd, ok.frames, ok.stk, ok.exf, ok.bs, ok.bsz, ok.noex, ok.exfs, ok.funs, ok.frf⟩
theorem Cx.Ok.unwish {X : Cx} {E : Value → Shared → Prop} (ok : (X.wish E).Ok) : X.Ok :=
  ⟨ok.mod, ok.kind, ok.glob, ok.blt, ok.above, ok.inj, ok.has, ok.cab, ok.hd, ok.frames, ok.stk, ok.exf, ok.bs, ok.bsz, ok.noex, ok.exfs, ok.funs, ok.frf⟩
section
variable {X : Cx} {pins : List (Addr × Obj)} {σ : St} {H : Hp} {s : Shared} {E : Value → Shared → Prop}
theorem Inv.wish (I : Inv X pins σ H s) (E : Value → Shared → Prop) : Inv (X.wish E) pins σ H s := ⟨I.ok.wish E, I.os, I.bare, I.base, I.loc, I.cell, I.free, I.freeC, I.pin, I.hok, I.len⟩
theorem Inv.unwish (I : Inv (X.wish E) pins σ H s) : Inv X pins σ H s := ⟨I.ok.unwish, I.os, I.bare, I.base, I.loc, I.cell, I.free, I.freeC, I.pin, I.hok, I.len⟩
theorem SP.unwish {D : Ends} {f : Flow} {s' : Shared} (h : SP (X.wish E) pins D f s') : SP X pins D f s' := by
  cases f with
  | next => obtain ⟨σ', H', I, q⟩ := h; exact ⟨σ', H', I.unwish, q⟩
  | brk => obtain ⟨σ', H', I, q⟩ := h; exact ⟨σ', H', I.unwish, q⟩
  | cont => obtain ⟨σ', H', I, q⟩ := h; exact ⟨σ', H', I.unwish, q⟩
  | ret u => obtain ⟨v, σ', H', I, r, q⟩ := h; exact ⟨v, σ', H', I.unwish, r, q⟩
theorem PSs.nox {st : List Stmt} {t : TS} (h : PSs X.nox st t) : PSs X st t := fun pins s σ H D I hw =>
  wpAny_mono (h pins s σ H D (I.wish _) hw) (fun _ _ q => q.unwish) fun _ _ z => False.elim z
end

section
variable {X : Cx} {st : Stmt} {rest : List Stmt} {t u : TS} {e : Expr} {te : TE} {pos : Pos}
noncomputable def tNext : TS := fun D σ H => D.nx σ H
noncomputable def tSeq (t u : TS) : TS := fun D σ H => t { D with nx := u D } σ H
theorem pss_nil : PSs X [] tNext := fun _ _ σ H _ I h => wpAny_execs_nil ⟨σ, H, I, h⟩
theorem pss_cons (h1 : PS X st t) (h2 : PSs X rest u) : PSs X (st :: rest) (tSeq t u) := by
  intro pins s σ H D I h
  refine wpAny_execs_cons (thn (h1 pins s σ H { D with nx := u D } I h) fun f s1 q => ?_)
  cases f with
  | next =>
    obtain ⟨σ', H', I', q⟩ := q
    exact h2 pins s1 σ' H' D I' q
  | ret v => exact q
  | brk => exact q
  | cont => exact q
theorem pss_one (h1 : PS X st t) : PSs X [st] t := by
  intro pins s σ H D I h
  refine wpAny_execs_cons (thn (h1 pins s σ H D I h) fun f s1 q => ?_)
  cases f with
  | next => exact wpAny_execs_nil q
  | ret v => exact q
  | brk => exact q
  | cont => exact q
theorem Inv.quiet {pins : List (Addr × Obj)} {σ : St} {H : Hp} {s : Shared} (I : Inv X pins σ H s) : interactive X.env = false := by simp [interactive, I.ok.kind]
noncomputable def tDrop (te : TE) : TS := fun D σ H => te σ H fun _ H1 => D.nx σ H1
theorem ps_expr (he : PE X e te) (hs : swapsWith e none pos.line X.env = pure false := by rfl) : PS X (.Expr e pos) (tDrop te) := by
  intro pins s σ H D I h
  exact wpAny_Expr_any (thn (he pins s σ H _ I h) fun v s1 ⟨x, H1, I1, r1, q1⟩ => ⟨σ, H1, I1, q1⟩) I.quiet hs
noncomputable def tRet (te : TE) : TS := fun D σ H => te σ H D.rt
theorem ps_ret (he : PE X e te) : PS X (.Return (some e) pos) (tRet te) := by
  intro pins s σ H D I h
  exact wpAny_Return_some (thn (he pins s σ H _ I h) fun v s1 ⟨x, H1, I1, r1, q1⟩ => ⟨x, σ, H1, I1, r1, q1⟩)
noncomputable def tIfS (c : TT) (t u : TS) : TS := fun D σ H => c σ H fun b H1 => if b = true then t D σ H1 else u D σ H1
theorem ps_if {c : Expr} {a b : List Stmt} {tc : TT} (hc : PT X c tc) (ha : PSs X a t) (hb : PSs X b u) : PS X (.If c a b pos) (tIfS tc t u) := by
  intro pins s σ H D I h
  refine wpAny_If (thn (hc pins s σ H _ I h) fun d s1 ⟨H1, I1, q1⟩ => ?_)
  cases d with
  | true => exact ha pins s1 σ H1 D I1 q1
  | false => exact hb pins s1 σ H1 D I1 q1
noncomputable def tNever : TS := fun _ _ _ => False
theorem ps_never : PS X st tNever := fun _ _ _ _ _ _ h => h.elim
end

noncomputable abbrev TG := V → St → Hp → (St → Hp → Prop) → Prop
noncomputable abbrev TGs := List V → St → Hp → (St → Hp → Prop) → Prop
noncomputable def PG (X : Cx) (target : Expr) (t : TG) : Prop :=
  ∀ (pins : List (Addr × Obj)) (s : Shared) (σ : St) (H : Hp) (v : V) (u : Value) (Q : St → Hp → Prop), Inv X pins σ H s → RelV v u → t v σ H Q →
    wpAny (model X.prog X.w) X.A (assign target X.env u) (fun _ s' => ∃ σ' H', Inv X pins σ' H' s' ∧ Q σ' H') X.xe s
noncomputable def PGs (X : Cx) (ts : List Expr) (t : TGs) : Prop :=
  ∀ (pins : List (Addr × Obj)) (s : Shared) (σ : St) (H : Hp) (vs : List V) (us : List Value) (Q : St → Hp → Prop), Inv X pins σ H s → Vals vs us → t vs σ H Q →
    wpAny (model X.prog X.w) X.A (assignInOrder ((assignEach ts X.env).map (·.2)) us) (fun _ s' => ∃ σ' H', Inv X pins σ' H' s' ∧ Q σ' H') X.xe s
section
variable {X : Cx} {pos : Pos}
noncomputable def gName (i : Nat) : TG := fun v σ H Q => Q (σ.set i (some v)) H
theorem pg_name {i : Nat} {x : Str} (hN : X.N.Nodup) (hi : X.N[i]? = some x) (hx : Loc X.env.scope x) (hf : X.fn x = true ∨ X.env.scope.names.lookup x = some .local := by first | exact .inl rfl | exact .inr rfl | assumption) : PG X (.Name x pos) (gName i) := by
  intro pins s σ H v u Q I r h
  exact wpAny_assign_Name (store_ok I hN hi hx r (fun s' I' => ⟨_, H, I', h⟩) hf)
noncomputable def gNil : TGs := fun vs σ H Q => vs = [] ∧ Q σ H
noncomputable def gCons (t : TG) (u : TGs) : TGs := fun vs σ H Q => ∃ v r, vs = v :: r ∧ t v σ H fun σ' H' => u r σ' H' Q
theorem pgs_nil : PGs X [] gNil := by
  intro pins s σ H vs us Q I r h
  obtain ⟨e, h⟩ := h
  subst e
  cases r
  exact assignInOrder_nil ⟨σ, H, I, h⟩
theorem pgs_cons {e : Expr} {es : List Expr} {t : TG} {u : TGs} (h1 : PG X e t) (h2 : PGs X es u)
    (hs : (assignEach (e :: es) X.env).map (·.2) = assign e X.env :: (assignEach es X.env).map (·.2) := by rfl) : PGs X (e :: es) (gCons t u) := by
  intro pins s σ H vs us Q I r h
  obtain ⟨v, vr, e1, h⟩ := h
  subst e1
  cases r with
  | cons r rr =>
    rw [hs]
    refine assignInOrder_cons (thn (h1 pins s σ H _ _ _ I r h) fun _ s1 ⟨σ1, H1, I1, q1⟩ => ?_)
    exact h2 pins s1 σ1 H1 _ _ Q I1 rr q1
noncomputable def gTup (K : PySem.W.Frag) (n : Nat) (t : TGs) : TG := fun v σ H Q => ∃ a xs, v = .ref a ∧ SqT K H a xs ∧ xs.length = n ∧ t xs σ H Q
theorem pg_tup {es : List Expr} {k : Nat} {t : TGs} {n : Nat} (hc : X.calm = true) (h : PGs X es t)
    (hn : (assignEach es X.env).length = n := by rfl) (hst : (assignEach es X.env).findIdx? (·.1) = none := by rfl) : PG X (.Tuple es k pos) (gTup X.K n t) := by
  intro pins s σ H v u Q I r hw
  obtain ⟨a, xs, e1, hq, hl, hw⟩ := hw
  subst e1
  cases r
  obtain ⟨its, rv, ht, hz⟩ := I.tuple hq
  refine assign_Tuple_tuple (I.ok.hd hc) ht (by simp [hn, ← hl, rv.length]) hst fun h' hx => ?_
  have I1 : Inv X pins σ H { s with heap := h' } := I.kept (t' := s.toks) fun b o e => hx b o (Nat.ne_of_lt (Heap.lt_size e)) e
  exact h pins _ σ H xs _ Q I1 (by simpa using rv) hw
noncomputable def tAsg (te : TE) (g : TG) : TS := fun D σ H => te σ H fun x H1 => g x σ H1 D.nx
theorem ps_set {i : Nat} {x : Str} {e : Expr} {te : TE} {pos' : Pos} (hN : X.N.Nodup) (hi : X.N[i]? = some x) (hx : Loc X.env.scope x) (he : PE X e te) (hs : swapsWith e (some (.Name x pos')) pos.line X.env = pure false := by rfl) (hf : X.fn x = true ∨ X.env.scope.names.lookup x = some .local := by first | exact .inl rfl | exact .inr rfl | assumption) :
    PS X (.Assign [.Name x pos'] e pos) (tAsg te (gName i)) := by
  intro pins s σ H D I h
  refine wpAny_Assign_Name (thn (he pins s σ H _ I h) fun v s1 ⟨y, H1, I1, r1, q1⟩ => ?_) hs
  exact store_ok I1 hN hi hx r1 (fun s2 I2 => ⟨_, H1, I2, q1⟩) hf
end

section
variable {X : Cx} {pos : Pos}
noncomputable def tWhile (c : TT) (tb : TS) : TS := fun D σ H => ∃ W : Nat → St → Hp → Prop, (∃ m, W m σ H) ∧ ∀ m σ H, W m σ H →
  c σ H fun b H1 => if b = true then ∃ N : St → Hp → Prop, (∀ σ' H', N σ' H' → ∃ m', m' < m ∧ W m' σ' H') ∧ tb { D with nx := N, ct := N, bk := D.nx } σ H1 else D.nx σ H1
theorem ps_while {c : Expr} {body : List Stmt} {tc : TT} {tb : TS} (hp : PassesOwn (model X.prog X.w) X.A X.env X.xe) (hc : PT X c tc) (hb : PSs X body tb) : PS X (.While c body [] pos) (tWhile tc tb) := by
  intro pins s σ H D I h
  obtain ⟨W, ⟨m0, w0⟩, turn⟩ := h
  refine wpAny_While (codeAny_whileLoop (fun n s' => ∃ σ' H', Inv X pins σ' H' s' ∧ W n σ' H') ?_ m0 ⟨σ, H, I, w0⟩)
  rintro n s1 ⟨σ1, H1, I1, w1⟩
  refine wpAny_passesOwn hp (thn (hc pins s1 σ1 H1 _ I1 (turn n σ1 H1 w1)) fun b s2 ⟨H2, I2, q2⟩ => ?_)
  cases b with
  | true =>
    obtain ⟨N, hN, q2⟩ := q2
    rw [if_pos rfl]
    refine wpAny_passesOwn hp (thn (hb pins s2 σ1 H2 _ I2 q2) fun f s3 q3 => ?_)
    cases f with
    | next =>
      obtain ⟨σ3, H3, I3, n3⟩ := q3
      obtain ⟨m', hm, w3⟩ := hN σ3 H3 n3
      exact ⟨m', hm, σ3, H3, I3, w3⟩
    | cont =>
      obtain ⟨σ3, H3, I3, n3⟩ := q3
      obtain ⟨m', hm, w3⟩ := hN σ3 H3 n3
      exact ⟨m', hm, σ3, H3, I3, w3⟩
    | brk => exact q3
    | ret v => exact q3
  | false =>
    rw [if_neg Bool.false_ne_true]
    exact wpAny_execs_nil ⟨σ1, H2, I2, q2⟩
end

structure It where
  go : Nat → Hp → Prop
  yld : Nat → Hp → V → Hp → Prop
  stop : Nat → Hp → Prop
noncomputable def FpOk (X : Cx) (pins : List (Addr × Obj)) (H : Hp) (b : Addr) : Prop :=
  H b = none ∧ b ≠ X.env.locals ∧ b ∉ X.fs ∧ (b ∈ X.ex ∨ X.s₀.heap.objs.size ≤ b) ∧ (∀ x c, X.env.cells.lookup x = some c → c ≠ b) ∧ ∀ p ∈ X.pn ++ pins, p.1 ≠ b
theorem Inv.fpOk {X : Cx} {pins : List (Addr × Obj)} {σ : St} {H H' : Hp} {s : Shared} {b : Addr} (I : Inv X pins σ H s) (hb : s.heap.objs.size ≤ b) (hn : H' b = none) : FpOk X pins H' b := by
  refine ⟨hn, Nat.ne_of_gt (Nat.lt_of_lt_of_le I.lt hb), I.nofs hb, .inr (Nat.le_trans I.sz hb), fun x c e z => ?_, fun p hp z => ?_⟩
  · obtain ⟨v, q⟩ := I.cell x c e
    exact absurd (Nat.lt_of_lt_of_le q.lt (by rw [z]; exact hb)) (Nat.lt_irrefl _)
  · exact absurd (Nat.lt_of_lt_of_le (Heap.lt_size (I.pin p hp).1) (by rw [z]; exact hb)) (Nat.lt_irrefl _)
structure Turn (P : Program) (w : World) (K : PySem.W.Frag) (tg : Expr) (J : It) (fp : List Addr) (it : Addr) (tn : Nat → Heap → Prop) : Prop where
  mem : it ∈ fp
  obj : ∀ i h, tn i h → ∀ b ∈ fp, ∃ o, h.get? b = some o ∧ ∀ v, o.data ≠ .cell v
  keep : ∀ i h h', tn i h → (∀ b ∈ fp, ∀ o, h.get? b = some o → h'.get? b = some o) → tn i h'
  item : ∀ (X : Cx), X.prog = P → X.w = w → X.K = K → X.calm = true → ∀ (i : Nat) (pins : List (Addr × Obj)) (s : Shared) (σ : St) (H : Hp) (E : Value → Shared → Prop), Inv X pins σ H s → (∀ b ∈ fp, FpOk X pins H b) → tn i s.heap → J.go i H →
    wpAny (model P w) X.A (pyNext (.ref it)) (fun r s1 => ∃ u, r = some u ∧
      wpAny (model P w) X.A (letOwnedTupleGo tg (.ref it) u) (fun _ s2 => ∃ x H', Inv X pins σ H' s2 ∧ RelV x u ∧ J.yld i H x H' ∧ tn (i + 1) s2.heap ∧ ∀ b ∈ fp, H' b = none) E s1) E s
  done : ∀ (X : Cx), X.prog = P → X.w = w → X.K = K → X.calm = true → ∀ (i : Nat) (pins : List (Addr × Obj)) (s : Shared) (σ : St) (H : Hp) (E : Value → Shared → Prop), Inv X pins σ H s → (∀ b ∈ fp, FpOk X pins H b) → tn i s.heap → J.stop i H →
    wpAny (model P w) X.A (pyNext (.ref it)) (fun r s1 => r = none ∧ Inv X pins σ H s1) E s
  self : ∀ (A : Around) (i : Nat) (s : Shared) (Q : Value → Shared → Prop) (E : Value → Shared → Prop), tn i s.heap → Q (.ref it) s → wpAny (model P w) A (pyIter (.ref it)) Q E s
noncomputable abbrev TI := St → Hp → (It → Hp → Prop) → Prop
noncomputable def PIE (X : Cx) (pins : List (Addr × Obj)) (σ : St) (tg : Expr) (R : It → Hp → Prop) (itv : Value) (s2 : Shared) : Prop :=
  ∃ (it : Addr) (fp : List Addr) (tn : Nat → Heap → Prop) (J : It) (H' : Hp), itv = .ref it ∧ Inv X pins σ H' s2 ∧ Turn X.prog X.w X.K tg J fp it tn ∧ tn 0 s2.heap ∧ (∀ b ∈ fp, FpOk X pins H' b) ∧ R J H'
noncomputable def PI (X : Cx) (tg iter : Expr) (wi : TI) : Prop :=
  ∀ (pins : List (Addr × Obj)) (s : Shared) (σ : St) (H : Hp) (R : It → Hp → Prop), Inv X pins σ H s → wi σ H R →
    wpAny (model X.prog X.w) X.A (eval iter X.env) (fun v s1 => wpAny (model X.prog X.w) X.A (pyIter v) (PIE X pins σ tg R) X.xe s1) X.xe s

theorem go_of {M : Model} {A : Around} {E : Value → Shared → Prop} {s : Shared} {tg : Expr} {it : Addr} {u : Value} {o : Obj} {n : String} {vs : Array Value} {Q : Unit → Shared → Prop} (ho : s.heap.get? it = some o) (hc : o.cls = .type n) (hd : o.data = .fields vs)
    (hn : ["enumerate", "zip", "dict_itemiterator", "dict_reverseitemiterator", "odict_iterator", "itertools.zip_longest", "itertools.pairwise"].contains n = false) (hQ : Q () s) : wpAny M A (letOwnedTupleGo tg (.ref it) u) Q E s := by
  unfold letOwnedTupleGo
  cases tg <;> first
    | exact wpAny_pure hQ
    | (cases u <;> first
        | exact wpAny_pure hQ
        | (refine wpAny_bind (wpAny_load ho ?_)
           rw [hc, hd]
           show wpAny M A (if (["enumerate", "zip", "dict_itemiterator", "dict_reverseitemiterator", "odict_iterator", "itertools.zip_longest", "itertools.pairwise"].contains n && vs[0]? == some (rawInt _)) = true then _ else _) Q E s
           rw [if_neg (by intro h; rw [hn, Bool.false_and] at h; cases h)]
           exact wpAny_pure hQ))

noncomputable def Itl (K : PySem.W.Frag) (a : Addr) : It :=
  ⟨fun i H => ∃ xs x, SqL K H a xs ∧ xs[i]? = some x, fun i H x H' => H' = H ∧ ∀ xs, SqL K H a xs → xs[i]? = some x, fun i H => ∃ xs, SqL K H a xs ∧ xs.length ≤ i⟩
noncomputable def Itt (K : PySem.W.Frag) (a : Addr) : It :=
  ⟨fun i H => ∃ xs x, SqT K H a xs ∧ xs[i]? = some x, fun i H x H' => H' = H ∧ ∀ xs, SqT K H a xs → xs[i]? = some x, fun i H => ∃ xs, SqT K H a xs ∧ xs.length ≤ i⟩
noncomputable def Itr (lo : Int) (n : Nat) : It := ⟨fun i _ => i < n, fun i H x H' => H' = H ∧ x = .int (lo + i), fun i _ => n ≤ i⟩
theorem turn_list {P : Program} {w : World} {K : PySem.W.Frag} {tg : Expr} (a it : Addr) : Turn P w K tg (Itl K a) [it] it (fun i h => h.IsListIter it a i) where
  mem := by simp
  obj := fun i h st b hb => by
    have e : b = it := by simpa using hb
    subst e
    obtain ⟨o, e, c, d⟩ := st
    exact ⟨o, e, fun v z => by rw [d] at z; cases z⟩
  keep := fun i h h' st k => st.at fun o e => k it (by simp) o e
  item := by
    intro X hP hw hK hc i pins s σ H E I hf st hg
    subst hP hw hK
    obtain ⟨xs, x, hq, hx⟩ := hg
    obtain ⟨its, rv, p, hz⟩ := I.list hq
    obtain ⟨u, hu, ru⟩ := rv.get hx
    obtain ⟨f0, f1, f2, f3, f4, f5⟩ := hf it (by simp)
    refine wpAny_pyNext_list_item st p.isList (x := u) (by simpa using hu) fun h' st' sb => ?_
    have I1 : Inv X pins σ H { s with heap := h' } := I.turned (t' := s.toks) (fun b o hb e => (sb.2 b hb).trans e) f0 f1 f3 f4 f5
    obtain ⟨o, e, c, d⟩ := id st'
    exact ⟨u, rfl, go_of (s := { s with heap := h' }) e c d (by decide) ⟨x, H, I1, ru, ⟨rfl, fun ys hy => by rw [I.list_inj hy hq]; exact hx⟩, st', fun b hb => (hf b hb).1⟩⟩
  done := by
    intro X hP hw hK hc i pins s σ H E I hf st hg
    subst hP hw hK
    obtain ⟨xs, hq, hx⟩ := hg
    obtain ⟨its, rv, p, hz⟩ := I.list hq
    obtain ⟨f0, f1, f2, f3, f4, f5⟩ := hf it (by simp)
    have hl := rv.length
    exact wpAny_pyNext_list_end (I.ok.hd hc) st p.isList (by simp; omega) fun h' eb => ⟨rfl, I.turned (t' := s.toks) (fun b o hb e => eb b o hb e) f0 f1 f3 f4 f5⟩
  self := fun _ _ _ _ _ st h => wpAny_pyIter_listiter st h
theorem turn_tuple {P : Program} {w : World} {K : PySem.W.Frag} {tg : Expr} (a it : Addr) : Turn P w K tg (Itt K a) [it] it (fun i h => h.IsTupleIter it a i) where
  mem := by simp
  obj := fun i h st b hb => by
    have e : b = it := by simpa using hb
    subst e
    obtain ⟨o, e, c, d⟩ := st
    exact ⟨o, e, fun v z => by rw [d] at z; cases z⟩
  keep := fun i h h' st k => st.at fun o e => k it (by simp) o e
  item := by
    intro X hP hw hK hc i pins s σ H E I hf st hg
    subst hP hw hK
    obtain ⟨xs, x, hq, hx⟩ := hg
    obtain ⟨its, rv, p, hz⟩ := I.tuple hq
    obtain ⟨u, hu, ru⟩ := rv.get hx
    obtain ⟨f0, f1, f2, f3, f4, f5⟩ := hf it (by simp)
    refine wpAny_pyNext_tuple_item st (show s.heap.IsTuple a its.toArray from p) (x := u) (by simpa using hu) fun h' st' sb => ?_
    have I1 : Inv X pins σ H { s with heap := h' } := I.turned (t' := s.toks) (fun b o hb e => (sb.2 b hb).trans e) f0 f1 f3 f4 f5
    obtain ⟨o, e, c, d⟩ := id st'
    exact ⟨u, rfl, go_of (s := { s with heap := h' }) e c d (by decide) ⟨x, H, I1, ru, ⟨rfl, fun ys hy => by rw [I.tuple_inj hy hq]; exact hx⟩, st', fun b hb => (hf b hb).1⟩⟩
  done := by
    intro X hP hw hK hc i pins s σ H E I hf st hg
    subst hP hw hK
    obtain ⟨xs, hq, hx⟩ := hg
    obtain ⟨its, rv, p, hz⟩ := I.tuple hq
    obtain ⟨f0, f1, f2, f3, f4, f5⟩ := hf it (by simp)
    have hl := rv.length
    exact wpAny_pyNext_tuple_end (I.ok.hd hc) st (show s.heap.IsTuple a its.toArray from p) (by simp; omega) fun h' eb => ⟨rfl, I.turned (t' := s.toks) (fun b o hb e => eb b o hb e) f0 f1 f3 f4 f5⟩
  self := fun _ _ _ _ _ st h => wpAny_pyIter_tupleiter st h
theorem turn_range {P : Program} {w : World} {K : PySem.W.Frag} {tg : Expr} (it : Addr) (lo : Int) (n : Nat) : Turn P w K tg (Itr lo n) [it] it (fun i h => IsRangeIter h it (lo + (i : Nat) * 1) ((n : Int) - (i : Nat)) 1) where
  mem := by simp
  obj := fun i h st b hb => by
    have e : b = it := by simpa using hb
    subst e
    exact ⟨_, st, fun v z => by
      have z' : Data.fields _ = Data.cell v := z
      cases z'⟩
  keep := fun i h h' st k => k it (by simp) _ st
  item := by
    intro X hP hw hK hc i pins s σ H E I hf st hg
    subst hP hw hK
    obtain ⟨f0, f1, f2, f3, f4, f5⟩ := hf it (by simp)
    have W := Walks.range (prog := X.prog) (w := X.w) (I.ok.hd hc) it lo 1 n
    refine W.item i s _ _ hg st fun v h' tk hv st' kk => ?_
    obtain ⟨t, rfl⟩ := hv
    have I1 : Inv X pins σ H { s with heap := h', toks := tk } := I.turned (fun b o hb e => kk b o (by simpa using hb) e) f0 f1 f3 f4 f5
    refine ⟨_, rfl, go_of (s := { s with heap := h', toks := tk }) (n := "range_iterator") st' rfl rfl (by decide) ⟨.int (lo + i), H, I1, ⟨t, ?_⟩, ⟨rfl, rfl⟩, st', fun b hb => (hf b hb).1⟩⟩
    rw [Int.mul_one]
  done := by
    intro X hP hw hK hc i pins s σ H E I hf st hg
    subst hP hw hK
    obtain ⟨f0, f1, f2, f3, f4, f5⟩ := hf it (by simp)
    exact wpAny_pyNext_range_end (I.ok.hd hc) st (by have : n ≤ i := hg; omega) fun h' eb => ⟨rfl, I.turned (t' := s.toks) (fun b o hb e => eb b o hb e) f0 f1 f3 f4 f5⟩
  self := fun _ _ _ _ _ st h => wpAny_pyIter_rangeiter st h
end L2

namespace L2
open PySem PySem.Spec PyProof.Rows
section
variable {X : Cx} {tg : Expr}
noncomputable def iList (K : PySem.W.Frag) (tl : TE) : TI := fun σ H R => tl σ H fun x H1 => ∃ a, x = .ref a ∧ (∃ xs, SqL K H1 a xs) ∧ R (Itl K a) H1
noncomputable def iTup (K : PySem.W.Frag) (tl : TE) : TI := fun σ H R => tl σ H fun x H1 => ∃ a, x = .ref a ∧ (∃ xs, SqT K H1 a xs) ∧ R (Itt K a) H1
theorem pi_list {l : Expr} {tl : TE} (hl : PE X l tl) : PI X tg l (iList X.K tl) := by
  intro pins s σ H R I h
  refine thn (hl pins s σ H _ I h) fun v s1 ⟨x, H1, I1, r1, q1⟩ => ?_
  obtain ⟨a, e, ⟨xs, hq⟩, q⟩ := q1
  subst e
  cases r1
  obtain ⟨its, rv, p, hz⟩ := I1.list hq
  refine wpAny_pyIter_list p.isList ?_
  refine ⟨s1.heap.objs.size, [s1.heap.objs.size], _, _, H1, rfl, I1.kept (t' := s1.toks) fun b o e => Heap.get?_push_of_some _ e, turn_list a _, ⟨_, Heap.get?_push_size _ rfl, rfl, rfl⟩, fun b hb => ?_, q⟩
  have e : b = s1.heap.objs.size := by simpa using hb
  subst e
  exact I1.fpOk (Nat.le_refl _) (I1.hok.fresh (Nat.le_refl _))
theorem pi_tup {l : Expr} {tl : TE} (hl : PE X l tl) : PI X tg l (iTup X.K tl) := by
  intro pins s σ H R I h
  refine thn (hl pins s σ H _ I h) fun v s1 ⟨x, H1, I1, r1, q1⟩ => ?_
  obtain ⟨a, e, ⟨xs, hq⟩, q⟩ := q1
  subst e
  cases r1
  obtain ⟨its, rv, p, hz⟩ := I1.tuple hq
  refine wpAny_pyIter_tuple (show s1.heap.IsTuple a its.toArray from p) ?_
  refine ⟨s1.heap.objs.size, [s1.heap.objs.size], _, _, H1, rfl, I1.kept (t' := s1.toks) fun b o e => Heap.get?_push_of_some _ e, turn_tuple a _, ⟨_, Heap.get?_push_size _ rfl, rfl, rfl⟩, fun b hb => ?_, q⟩
  have e : b = s1.heap.objs.size := by simpa using hb
  subst e
  exact I1.fpOk (Nat.le_refl _) (I1.hok.fresh (Nat.le_refl _))
theorem range_it {pins : List (Addr × Obj)} {σ : St} {H : Hp} {s : Shared} {R : It → Hp → Prop} {E : Value → Shared → Prop} {lo hi : Int} {t u v : Tok} {tk : Nat} (I : Inv X pins σ H s) (h1 : -(2 ^ 62) ≤ lo) (h2 : lo < 2 ^ 62) (h3 : -(2 ^ 62) ≤ hi) (h4 : hi < 2 ^ 62)
    (q : R (Itr lo (hi - lo).toNat) H) : wpAny (model X.prog X.w) X.A (pyIter (.ref s.heap.objs.size)) (PIE X pins σ tg R) E { s with heap := s.heap.push { cls := .type "range", data := .fields #[.int lo t, .int hi u, .int 1 v] }, toks := tk } := by
  refine wpAny_pyIter_range (IsRange.new ..) (small_one h1 h2 h3 h4) ?_
  have I1 : Inv X pins σ H { s with heap := s.heap.push { cls := .type "range", data := .fields #[.int lo t, .int hi u, .int 1 v] }, toks := tk } := I.kept fun b o e => Heap.get?_push_of_some _ e
  refine ⟨(s.heap.push { cls := .type "range", data := .fields #[.int lo t, .int hi u, .int 1 v] }).objs.size, [(s.heap.push { cls := .type "range", data := .fields #[.int lo t, .int hi u, .int 1 v] }).objs.size], _, _, H, rfl,
    I1.kept (t' := tk) fun b o e => Heap.get?_push_of_some _ e, turn_range _ lo (hi - lo).toNat, ?_, fun b hb => ?_, q⟩
  · have e1 : lo + ((0 : Nat) : Int) * 1 = lo := by simp
    have e2 : (((hi - lo).toNat : Nat) : Int) - ((0 : Nat) : Int) = Builtin.Range.rangeSize lo hi 1 := by rw [rangeSize_one]; split <;> omega
    show IsRangeIter _ _ (lo + ((0 : Nat) : Int) * 1) ((((hi - lo).toNat : Nat) : Int) - ((0 : Nat) : Int)) 1
    rw [e1, e2]
    exact Heap.get?_push_size _ rfl
  · have e : b = (s.heap.push { cls := .type "range", data := .fields #[.int lo t, .int hi u, .int 1 v] }).objs.size := by simpa using hb
    subst e
    exact I1.fpOk (Nat.le_refl _) (I1.hok.fresh (Nat.le_refl _))
noncomputable def iRng1 (ta : TA) : TI := fun σ H R => ta σ H fun vs H1 => ∃ j : Int, vs = [.int j] ∧ -(2 ^ 62) ≤ j ∧ j < 2 ^ 62 ∧ R (Itr 0 j.toNat) H1
noncomputable def iRng2 (ta : TA) : TI := fun σ H R => ta σ H fun vs H1 => ∃ i j : Int, vs = [.int i, .int j] ∧ (-(2 ^ 62) ≤ i ∧ i < 2 ^ 62 ∧ -(2 ^ 62) ≤ j ∧ j < 2 ^ 62) ∧ R (Itr i (j - i).toNat) H1
theorem pi_range1 {a : Expr} {ta : TA} {p pos : Pos} (hg : Gl X "range") (hm : X.mg "range" = none) (ha : PA X [a] ta) (hs : starEach [a] X.env = [(false, eval a X.env)] := by rfl) : PI X tg (.Call (.Name "range" p) [a] [] pos) (iRng1 ta) := by
  intro pins s σ H R I h
  refine Call_ (ld_blt I hg hm boot_range (PyProof.Rows.callWith_type1 (thn (ha pos pins s σ H _ I h) fun us s1 ⟨vs, H1, I1, r1, q1⟩ => ?_) hs rfl))
  obtain ⟨j, e, q1, q2, q⟩ := q1
  subst e
  cases r1 with
  | cons r rr =>
    cases rr
    obtain ⟨t, rfl⟩ := r
    exact call_range_1 (range_it I1 (by omega) (by omega) q1 q2 (by simpa using q))
theorem pi_range2 {a b : Expr} {ta : TA} {p pos : Pos} (hg : Gl X "range") (hm : X.mg "range" = none) (ha : PA X [a, b] ta) (hs : starEach [a, b] X.env = [(false, eval a X.env), (false, eval b X.env)] := by rfl) (hs2 : starEach [b] X.env = [(false, eval b X.env)] := by rfl) :
    PI X tg (.Call (.Name "range" p) [a, b] [] pos) (iRng2 ta) := by
  intro pins s σ H R I h
  refine Call_ (ld_blt I hg hm boot_range (PyProof.Rows.callWith_type1 (thn (ha pos pins s σ H _ I h) fun us s1 ⟨vs, H1, I1, r1, q1⟩ => ?_) (by rw [hs, hs2]) (by rw [hs2]; rfl)))
  obtain ⟨i, j, e, ⟨q1, q2, q3, q4⟩, q⟩ := q1
  subst e
  cases r1 with
  | cons r rr =>
    cases rr with
    | cons r' rr =>
      cases rr
      obtain ⟨t, rfl⟩ := r
      obtain ⟨t', rfl⟩ := r'
      exact call_range_2 (range_it I1 q1 q2 q3 q4 q)

noncomputable def tFor (wi : TI) (g : TG) (tb : TS) : TS := fun D σ H => wi σ H fun J H1 => ∃ W : Nat → Nat → St → Hp → Prop, (∃ m, W 0 m σ H1) ∧ ∀ i m σ H, W i m σ H →
  (J.stop i H ∧ D.nx σ H) ∨ (J.go i H ∧ ∃ N : St → Hp → Prop, (∀ σ' H', N σ' H' → ∃ m', m' < m ∧ W (i + 1) m' σ' H') ∧ ∀ x H', J.yld i H x H' → g x σ H' fun σ2 H2 => tb { D with nx := N, ct := N, bk := D.nx } σ2 H2)
noncomputable def pinsAt (fp : List Addr) (h : Heap) : List (Addr × Obj) := fp.filterMap fun b => (h.get? b).map fun o => (b, o)
theorem mem_pinsAt {fp : List Addr} {h : Heap} {b : Addr} {o : Obj} (hb : b ∈ fp) (e : h.get? b = some o) : (b, o) ∈ pinsAt fp h := List.mem_filterMap.mpr ⟨b, hb, by rw [e]; rfl⟩
theorem of_pinsAt {fp : List Addr} {h : Heap} {p : Addr × Obj} (hp : p ∈ pinsAt fp h) : p.1 ∈ fp ∧ h.get? p.1 = some p.2 := by
  obtain ⟨b, hb, e⟩ := List.mem_filterMap.mp hp
  cases q : h.get? b with
  | none => rw [q] at e; cases e
  | some o =>
    rw [q] at e
    have e' : (b, o) = p := Option.some.inj e
    subst e'
    exact ⟨hb, q⟩
theorem Inv.pinned {pins : List (Addr × Obj)} {σ : St} {H : Hp} {s : Shared} {fp : List Addr} (I : Inv X pins σ H s) (hf : ∀ b ∈ fp, FpOk X pins H b) (ho : ∀ b ∈ fp, ∃ o, s.heap.get? b = some o ∧ ∀ v, o.data ≠ .cell v) : Inv X (pins ++ pinsAt fp s.heap) σ H s :=
  I.pins_of fun p hp => (List.mem_append.mp hp).elim (fun z => I.pin p (List.mem_append_right _ z)) fun z => by
    obtain ⟨hb, e⟩ := of_pinsAt z
    obtain ⟨f0, f1, f2, _⟩ := hf p.1 hb
    obtain ⟨o, e', d⟩ := ho p.1 hb
    rw [e] at e'; cases e'
    exact ⟨e, f0, f1, f2, d⟩
theorem Inv.unpinned {pins pl : List (Addr × Obj)} {σ : St} {H : Hp} {s : Shared} (I : Inv X (pins ++ pl) σ H s) : Inv X pins σ H s := I.pins_of fun p hp => I.pin p (List.mem_append_right _ (List.mem_append_left _ hp))
theorem ps_for {iter : Expr} {body : List Stmt} {wi : TI} {g : TG} {tb : TS} {pos : Pos} (hp : PassesOwn (model X.prog X.w) X.A X.env X.xe) (hc : X.calm = true) (hi : PI X tg iter wi) (hg : PG X tg g) (hb : PSs X body tb)
    (hs : ∀ x, foldedSetIterable iter X.env x = pure x := by intro _; rfl) : PS X (.For tg iter body [] pos) (tFor wi g tb) := by
  intro pins s σ H D I h
  refine wpAny_For (thn (hi pins s σ H _ I h) fun v s1 h1 => thn h1 fun itv s2 h2 => ?_) hs
  obtain ⟨it, fp, tn, J, H2, e, I2, T, st2, f2, W, ⟨m0, w0⟩, turn⟩ := h2
  subst e
  -- what stays true of the iterator's objects through the loop
  have stat : ∀ {H' : Hp}, (∀ b ∈ fp, H' b = none) → ∀ b ∈ fp, FpOk X pins H' b := fun hn b hb => ⟨hn b hb, (f2 b hb).2⟩
  refine codeAny_forLoop_any (fun n s' => ∃ i σ' H', Inv X pins σ' H' s' ∧ tn i s'.heap ∧ (∀ b ∈ fp, H' b = none) ∧ W i n σ' H') ?_ m0 ⟨0, σ, H2, I2, st2, fun b hb => (f2 b hb).1, w0⟩
  rintro n s3 ⟨i, σ3, H3, I3, st3, fr3, w3⟩
  rcases turn i n σ3 H3 w3 with ⟨stop, qn⟩ | ⟨go, N, hN, step⟩
  · refine wpAny_passesOwn hp (thn (T.done X rfl rfl rfl hc i pins s3 σ3 H3 X.xe I3 (stat fr3) st3 stop) fun r s4 ⟨hr, I4⟩ => ?_)
    subst hr
    exact wpAny_execs_nil ⟨σ3, H3, I4, qn⟩
  · refine wpAny_passesOwn hp (thn (T.item X rfl rfl rfl hc i pins s3 σ3 H3 X.xe I3 (stat fr3) st3 go) fun r s4 ⟨u, hr, h4⟩ => ?_)
    subst hr
    refine wpAny_passesOwn hp (thn h4 fun _ s5 ⟨x, H5, I5, r5, y5, st5, fr5⟩ => ?_)
    have I5' := I5.pinned (stat fr5) (T.obj _ _ st5)
    refine wpAny_passesOwn hp (thn (hg _ s5 σ3 H5 x u _ I5' r5 (step x H5 y5)) fun _ s6 ⟨σ6, H6, I6, q6⟩ => ?_)
    refine wpAny_passesOwn hp (thn (hb _ s6 σ6 H6 _ I6 q6) fun f s7 q7 => ?_)
    have again : ∀ {σ7 : St} {H7 : Hp}, Inv X (pins ++ pinsAt fp s5.heap) σ7 H7 s7 → N σ7 H7 → ∃ m, m < n ∧ ∃ i σ' H', Inv X pins σ' H' s7 ∧ tn i s7.heap ∧ (∀ b ∈ fp, H' b = none) ∧ W i m σ' H' := fun {σ7 H7} I7 n7 => by
      obtain ⟨m', hm, w7⟩ := hN σ7 H7 n7
      refine ⟨m', hm, i + 1, σ7, H7, I7.unpinned, T.keep _ _ _ st5 fun b hb o e => (I7.pin (b, o) (List.mem_append_right _ (List.mem_append_right _ (mem_pinsAt hb e)))).1, fun b hb => ?_, w7⟩
      obtain ⟨o, e, d⟩ := T.obj _ _ st5 b hb
      exact (I7.pin (b, o) (List.mem_append_right _ (List.mem_append_right _ (mem_pinsAt hb e)))).2.1
    cases f with
    | next => obtain ⟨σ7, H7, I7, n7⟩ := q7; exact again I7 n7
    | cont => obtain ⟨σ7, H7, I7, n7⟩ := q7; exact again I7 n7
    | brk => obtain ⟨σ7, H7, I7, q7⟩ := q7; exact ⟨σ7, H7, I7.unpinned, q7⟩
    | ret v => obtain ⟨x7, σ7, H7, I7, r7, q7⟩ := q7; exact ⟨x7, σ7, H7, I7.unpinned, r7, q7⟩
end

theorem for_list {K : PySem.W.Frag} {a : Addr} {xs : List V} {g : TG} {tb : TS} {D : Ends} {σ : St} {H : Hp} (Pv : Nat → St → Hp → Prop) (h0 : Pv 0 σ H) (hl : ∀ i σ H, i ≤ xs.length → Pv i σ H → SqL K H a xs)
    (hs : ∀ i x σ H, xs[i]? = some x → Pv i σ H → g x σ H fun σ2 H2 => tb { D with nx := Pv (i + 1), ct := Pv (i + 1), bk := D.nx } σ2 H2) (hd : ∀ σ H, Pv xs.length σ H → D.nx σ H) :
    ∃ W : Nat → Nat → St → Hp → Prop, (∃ m, W 0 m σ H) ∧ ∀ i m σ H, W i m σ H →
      ((Itl K a).stop i H ∧ D.nx σ H) ∨ ((Itl K a).go i H ∧ ∃ N : St → Hp → Prop, (∀ σ' H', N σ' H' → ∃ m', m' < m ∧ W (i + 1) m' σ' H') ∧ ∀ x H', (Itl K a).yld i H x H' → g x σ H' fun σ2 H2 => tb { D with nx := N, ct := N, bk := D.nx } σ2 H2) := by
  refine ⟨fun i m σ H => m = xs.length - i ∧ i ≤ xs.length ∧ Pv i σ H, ⟨xs.length, by simp, Nat.zero_le _, h0⟩, ?_⟩
  rintro i m σ H ⟨rfl, hi, p⟩
  have q := hl i σ H hi p
  by_cases hlt : i < xs.length
  · refine .inr ⟨⟨xs, xs[i], q, by simp [hlt]⟩, Pv (i + 1), fun σ' H' p' => ⟨xs.length - (i + 1), by omega, rfl, hlt, p'⟩, fun x H' y => ?_⟩
    obtain ⟨e, y⟩ := y
    subst e
    exact hs i x σ _ (y xs q) p
  · have e : i = xs.length := by omega
    subst e
    exact .inl ⟨⟨xs, q, Nat.le_refl _⟩, hd σ H p⟩
theorem for_tup {K : PySem.W.Frag} {a : Addr} {xs : List V} {g : TG} {tb : TS} {D : Ends} {σ : St} {H : Hp} (Pv : Nat → St → Hp → Prop) (h0 : Pv 0 σ H) (hl : ∀ i σ H, i ≤ xs.length → Pv i σ H → SqT K H a xs)
    (hs : ∀ i x σ H, xs[i]? = some x → Pv i σ H → g x σ H fun σ2 H2 => tb { D with nx := Pv (i + 1), ct := Pv (i + 1), bk := D.nx } σ2 H2) (hd : ∀ σ H, Pv xs.length σ H → D.nx σ H) :
    ∃ W : Nat → Nat → St → Hp → Prop, (∃ m, W 0 m σ H) ∧ ∀ i m σ H, W i m σ H →
      ((Itt K a).stop i H ∧ D.nx σ H) ∨ ((Itt K a).go i H ∧ ∃ N : St → Hp → Prop, (∀ σ' H', N σ' H' → ∃ m', m' < m ∧ W (i + 1) m' σ' H') ∧ ∀ x H', (Itt K a).yld i H x H' → g x σ H' fun σ2 H2 => tb { D with nx := N, ct := N, bk := D.nx } σ2 H2) := by
  refine ⟨fun i m σ H => m = xs.length - i ∧ i ≤ xs.length ∧ Pv i σ H, ⟨xs.length, by simp, Nat.zero_le _, h0⟩, ?_⟩
  rintro i m σ H ⟨rfl, hi, p⟩
  have q := hl i σ H hi p
  by_cases hlt : i < xs.length
  · refine .inr ⟨⟨xs, xs[i], q, by simp [hlt]⟩, Pv (i + 1), fun σ' H' p' => ⟨xs.length - (i + 1), by omega, rfl, hlt, p'⟩, fun x H' y => ?_⟩
    obtain ⟨e, y⟩ := y
    subst e
    exact hs i x σ _ (y xs q) p
  · have e : i = xs.length := by omega
    subst e
    exact .inl ⟨⟨xs, q, Nat.le_refl _⟩, hd σ H p⟩
theorem for_range {lo : Int} {n : Nat} {g : TG} {tb : TS} {D : Ends} {σ : St} {H : Hp} (Pv : Nat → St → Hp → Prop) (h0 : Pv 0 σ H)
    (hs : ∀ i σ H, i < n → Pv i σ H → g (.int (lo + i)) σ H fun σ2 H2 => tb { D with nx := Pv (i + 1), ct := Pv (i + 1), bk := D.nx } σ2 H2) (hd : ∀ σ H, Pv n σ H → D.nx σ H) :
    ∃ W : Nat → Nat → St → Hp → Prop, (∃ m, W 0 m σ H) ∧ ∀ i m σ H, W i m σ H →
      ((Itr lo n).stop i H ∧ D.nx σ H) ∨ ((Itr lo n).go i H ∧ ∃ N : St → Hp → Prop, (∀ σ' H', N σ' H' → ∃ m', m' < m ∧ W (i + 1) m' σ' H') ∧ ∀ x H', (Itr lo n).yld i H x H' → g x σ H' fun σ2 H2 => tb { D with nx := N, ct := N, bk := D.nx } σ2 H2) := by
  refine ⟨fun i m σ H => m = n - i ∧ i ≤ n ∧ Pv i σ H, ⟨n, by simp, Nat.zero_le _, h0⟩, ?_⟩
  rintro i m σ H ⟨rfl, hi, p⟩
  by_cases hlt : i < n
  · refine .inr ⟨hlt, Pv (i + 1), fun σ' H' p' => ⟨n - (i + 1), by omega, rfl, hlt, p'⟩, fun x H' y => ?_⟩
    obtain ⟨e, y⟩ := y
    subst e y
    exact hs i σ _ hlt p
  · have e : i = n := by omega
    subst e
    exact .inl ⟨Nat.le_refl _, hd σ H p⟩
end L2

namespace L2
open PySem PySem.Spec PyProof.Rows

noncomputable abbrev R2 := V → V → Hp → VK → Prop
noncomputable def OpR (X : Cx) (f : Value → Value → Sem Value) (r : R2) : Prop :=
  ∀ (pins : List (Addr × Obj)) (s : Shared) (σ : St) (H : Hp) (x y : V) (v u : Value) (Q : VK), Inv X pins σ H s → RelV x v → RelV y u → r x y H Q →
    wpAny (model X.prog X.w) X.A (f v u) (EP X pins σ Q) X.xe s
noncomputable def UnR (X : Cx) (f : Value → Sem Value) (r : V → Hp → VK → Prop) : Prop :=
  ∀ (pins : List (Addr × Obj)) (s : Shared) (σ : St) (H : Hp) (x : V) (v : Value) (Q : VK), Inv X pins σ H s → RelV x v → r x H Q →
    wpAny (model X.prog X.w) X.A (f v) (EP X pins σ Q) X.xe s
noncomputable def CallR (X : Cx) (f : Value) (r : List V → Hp → VK → Prop) : Prop :=
  ∀ (pins : List (Addr × Obj)) (s : Shared) (σ : St) (H : Hp) (xs : List V) (us : List Value) (Q : VK), Inv X pins σ H s → Vals xs us → r xs H Q →
    wpAny (model X.prog X.w) X.A (call f us) (EP X pins σ Q) X.xe s
noncomputable def TruR (X : Cx) (r : V → Hp → (Bool → Hp → Prop) → Prop) : Prop :=
  ∀ (pins : List (Addr × Obj)) (s : Shared) (σ : St) (H : Hp) (x : V) (v : Value) (Q : Bool → Hp → Prop), Inv X pins σ H s → RelV x v → r x H Q →
    wpAny (model X.prog X.w) X.A (truthy v) (TP X pins σ Q) X.xe s

noncomputable def tOp (r : R2) (ta tb : TE) : TE := fun σ H Q => ta σ H fun x H1 => tb σ H1 fun y H2 => r x y H2 Q
noncomputable def tUn (r : V → Hp → VK → Prop) (ta : TE) : TE := fun σ H Q => ta σ H fun x H1 => r x H1 Q
noncomputable def rI (C : Int → Int → Prop) (g : Int → Int → V) : R2 := fun x y H Q => ∃ i j, x = .int i ∧ y = .int j ∧ C i j ∧ Q (g i j) H
noncomputable def rI0 (g : Int → Int → V) : R2 := fun x y H Q => ∃ i j, x = .int i ∧ y = .int j ∧ Q (g i j) H
noncomputable def rU (g : Int → V) : V → Hp → VK → Prop := fun x H Q => ∃ i, x = .int i ∧ Q (g i) H

section
variable {X : Cx} {a b c : Expr} {ta tb tc : TE} {pos : Pos}

theorem binT (ha : PE X a ta) (hb : PE X b tb) {pins : List (Addr × Obj)} {s : Shared} {σ : St} {H : Hp} {R : V → V → Hp → Prop} (I : Inv X pins σ H s)
    (h : ta σ H fun x H1 => tb σ H1 fun y H2 => R x y H2) {Q : Value → Shared → Prop} {f : Value → Value → Sem Value}
    (hf : ∀ v u s2 x y H2, Inv X pins σ H2 s2 → RelV x v → RelV y u → R x y H2 → wpAny (model X.prog X.w) X.A (f v u) Q X.xe s2) :
    wpAny (model X.prog X.w) X.A (eval a X.env) (fun v s₁ => wpAny (model X.prog X.w) X.A (eval b X.env) (fun u s₂ => wpAny (model X.prog X.w) X.A (f v u) Q X.xe s₂) X.xe s₁) X.xe s := by
  refine thn (ha pins s σ H _ I h) fun v s1 ⟨x, H1, I1, r1, q1⟩ => ?_
  refine thn (hb pins s1 σ H1 _ I1 q1) fun u s2 ⟨y, H2, I2, r2, q2⟩ => ?_
  exact hf v u s2 x y H2 I2 r1 r2 q2

theorem pe_op {op : Operator} {r : R2} (ho : OpR X (binaryOp op) r) (ha : PE X a ta) (hb : PE X b tb) : PE X (.BinOp a op b pos) (tOp r ta tb) := by
  intro pins s σ H Q I h
  exact wpAny_BinOp (binT ha hb I h fun v u s2 x y H2 I2 rx ry q => ho pins s2 σ H2 x y v u Q I2 rx ry q)
theorem pe_un {op : UnaryOp} {r : V → Hp → VK → Prop} (ho : UnR X (unaryOp op) r) (ha : PE X a ta) : PE X (.UnaryOp op a pos) (tUn r ta) := by
  intro pins s σ H Q I h
  exact UnaryOp_ (thn (ha pins s σ H _ I h) fun v s1 ⟨x, H1, I1, r1, q1⟩ => ho pins s1 σ H1 x v Q I1 r1 q1)
theorem opI {f : Value → Value → Sem Value} {C : Int → Int → Prop} {g : Int → Int → Int}
    (rule : ∀ (i j : Int) (t u : Tok) (s : Shared) (Q : Value → Shared → Prop) (E : Value → Shared → Prop), C i j → Q (.int (g i j) s.toks) { s with toks := s.toks + 1 } → wpAny (model X.prog X.w) X.A (f (.int i t) (.int j u)) Q E s) :
    OpR X f (rI C fun i j => .int (g i j)) := by
  intro pins s σ H x y v u Q I rx ry h
  obtain ⟨i, j, rfl, rfl, hc, q⟩ := h
  obtain ⟨t, rfl⟩ := rx
  obtain ⟨t', rfl⟩ := ry
  exact rule i j t t' s _ _ hc ⟨.int (g i j), H, I.tok _, ⟨_, rfl⟩, q⟩
theorem opI0 {f : Value → Value → Sem Value} {g : Int → Int → Int}
    (rule : ∀ (i j : Int) (t u : Tok) (s : Shared) (Q : Value → Shared → Prop) (E : Value → Shared → Prop), Q (.int (g i j) s.toks) { s with toks := s.toks + 1 } → wpAny (model X.prog X.w) X.A (f (.int i t) (.int j u)) Q E s) :
    OpR X f (rI0 fun i j => .int (g i j)) := by
  intro pins s σ H x y v u Q I rx ry h
  obtain ⟨i, j, rfl, rfl, q⟩ := h
  obtain ⟨t, rfl⟩ := rx
  obtain ⟨t', rfl⟩ := ry
  exact rule i j t t' s _ _ ⟨.int (g i j), H, I.tok _, ⟨_, rfl⟩, q⟩
theorem opB0 {f : Value → Value → Sem Value} {g : Int → Int → Bool}
    (rule : ∀ (i j : Int) (t u : Tok) (s : Shared) (Q : Value → Shared → Prop) (E : Value → Shared → Prop), Q (.bool (g i j)) s → wpAny (model X.prog X.w) X.A (f (.int i t) (.int j u)) Q E s) :
    OpR X f (rI0 fun i j => .bl (g i j)) := by
  intro pins s σ H x y v u Q I rx ry h
  obtain ⟨i, j, rfl, rfl, q⟩ := h
  obtain ⟨t, rfl⟩ := rx
  obtain ⟨t', rfl⟩ := ry
  exact rule i j t t' s _ _ ⟨.bl (g i j), H, I, rfl, q⟩

noncomputable def CDiv (i j : Int) : Prop := 0 < j ∧ j < 1073741824
noncomputable def CPow (i j : Int) : Prop := 0 ≤ j ∧ j ≤ 1000000 ∧ i.natAbs < 2 ^ 64
noncomputable def CMul (i j : Int) : Prop := (-(2 ^ 64) < i ∧ i < 2 ^ 64) ∨ (-(2 ^ 64) < j ∧ j < 2 ^ 64)
theorem CMul.ok {i j : Int} (h : CMul i j) : IntMulOk i j := by
  rcases h with ⟨h1, h2⟩ | ⟨h1, h2⟩
  · exact .of_left (intBits_le_64 h1 h2)
  · exact .of_right (intBits_le_64 h1 h2)
theorem op_add : OpR X (binaryOp .Add) (rI0 fun i j => .int (i + j)) := opI0 fun _ _ _ _ _ _ _ q => add_int q
theorem op_sub : OpR X (binaryOp .Sub) (rI0 fun i j => .int (i - j)) := opI0 fun _ _ _ _ _ _ _ q => sub_int q
theorem op_mul : OpR X (binaryOp .Mult) (rI CMul fun i j => .int (i * j)) := opI fun _ _ _ _ _ _ _ hc q => mul_int q hc.ok
theorem op_fdiv : OpR X (binaryOp .FloorDiv) (rI CDiv fun i j => .int (i / j)) := opI fun i j _ _ _ _ _ hc q => by
  have h1 : (0 : Int) < j := hc.1
  have h2 : j < 1073741824 := hc.2
  exact floordiv_int (by omega) (by rw [Int.fdiv_eq_ediv_of_nonneg i (by omega)]; exact q) (.inl (PyProof.noPylong_small (by omega)))
theorem op_mod : OpR X (binaryOp .Mod) (rI (fun _ j => 0 < j) fun i j => .int (i % j)) := opI fun i j _ _ _ _ _ hc q => by
  have h1 : (0 : Int) < j := hc
  exact mod_int' (by omega) (by rw [Int.fmod_eq_emod_of_nonneg i (by omega)]; exact q)
theorem op_pow : OpR X (binaryOp .Pow) (rI CPow fun i j => .int (i ^ j.toNat)) := opI fun _ _ _ _ _ _ _ hc q => pow_int_small hc.1 hc.2.1 hc.2.2 q
theorem unI {f : Value → Sem Value} {g : Int → Int}
    (rule : ∀ (i : Int) (t : Tok) (s : Shared) (Q : Value → Shared → Prop) (E : Value → Shared → Prop), Q (.int (g i) s.toks) { s with toks := s.toks + 1 } → wpAny (model X.prog X.w) X.A (f (.int i t)) Q E s) :
    UnR X f (rU fun i => .int (g i)) := by
  intro pins s σ H x v Q I rx h
  obtain ⟨i, rfl, q⟩ := h
  obtain ⟨t, rfl⟩ := rx
  exact rule i t s _ _ ⟨.int (g i), H, I.tok _, ⟨_, rfl⟩, q⟩
theorem un_neg : UnR X (unaryOp .USub) (rU fun i => .int (-i)) := unI fun _ _ _ _ _ q => neg_int q
end

noncomputable def scal : V → V → Bool
  | .non, .non => true | .non, .int _ => true | .int _, .non => true | .non, .bl _ => true | .bl _, .non => true | .non, .str _ => true | .str _, .non => true
  | .int _, .int _ => true | .bl _, .bl _ => true | .str _, .str _ => true | .byt _, .byt _ => true
  | .int _, .str _ => true | .str _, .int _ => true | .bl _, .str _ => true | .str _, .bl _ => true
  | _, _ => false
noncomputable def rEq : R2 := fun x y H Q => scal x y = true ∧ Q (.bl (decide (x = y))) H
noncomputable def rNe : R2 := fun x y H Q => scal x y = true ∧ Q (.bl (!decide (x = y))) H

theorem dec_int {i j : Int} : decide (V.int i = V.int j) = (i == j) := by
  rw [Bool.eq_iff_iff]
  simp
theorem dec_bl {i j : Bool} : decide (V.bl i = V.bl j) = (i == j) := by
  rw [Bool.eq_iff_iff]
  simp
theorem dec_str {i j : Str} : decide (V.str i = V.str j) = (i == j) := by
  rw [Bool.eq_iff_iff]
  simp
theorem dec_byt {i j : Array UInt8} : decide (V.byt i = V.byt j) = (i.toList == j.toList) := by
  rw [Bool.eq_iff_iff]
  cases i
  cases j
  simp

section
variable {X : Cx} {a b c : Expr} {ta tb tc : TE} {pos : Pos}
theorem fin_bl {pins : List (Addr × Obj)} {σ : St} {H : Hp} {s : Shared} {Q : VK} {k k' : Bool} (I : Inv X pins σ H s) (q : Q (.bl k) H) (e : k = k') : EP X pins σ Q (.bool k') s := by
  subst e
  exact ⟨.bl k, H, I, rfl, q⟩
theorem op_eq : OpR X (compareOp .Eq) rEq := by
  intro pins s σ H x y v u Q I rx ry h
  obtain ⟨hs, q⟩ := h
  cases x with
  | non =>
    cases rx
    cases y with
    | non => cases ry; exact PySem.EqNone.eq_none_none (fin_bl I q (by simp))
    | bl j => cases ry; exact PySem.EqNone.eq_none_bool (fin_bl I q (by simp))
    | int j => obtain ⟨t', rfl⟩ := ry; exact PySem.EqNone.eq_none_int (fin_bl I q (by simp))
    | str j => obtain ⟨t', rfl⟩ := ry; exact PySem.EqNone.eq_none_str (fin_bl I q (by simp))
    | _ => exact absurd (show false = true from hs) Bool.false_ne_true
  | bl i =>
    cases rx
    cases y with
    | non => cases ry; exact PySem.EqNone.eq_bool_none (fin_bl I q (by simp))
    | bl j => cases ry; exact eq_bool (fin_bl I q dec_bl)
    | str j => obtain ⟨t', rfl⟩ := ry; exact PySem.EqMixed.eq_bool_str (fin_bl I q (by simp))
    | _ => exact absurd (show false = true from hs) Bool.false_ne_true
  | int i =>
    obtain ⟨t, rfl⟩ := rx
    cases y with
    | non => cases ry; exact PySem.EqNone.eq_int_none (fin_bl I q (by simp))
    | int j => obtain ⟨t', rfl⟩ := ry; exact eq_int (fin_bl I q dec_int)
    | str j => obtain ⟨t', rfl⟩ := ry; exact PySem.EqMixed.eq_int_str (fin_bl I q (by simp))
    | _ => exact absurd (show false = true from hs) Bool.false_ne_true
  | str i =>
    obtain ⟨t, rfl⟩ := rx
    cases y with
    | non => cases ry; exact PySem.EqNone.eq_str_none (fin_bl I q (by simp))
    | bl j => cases ry; exact PySem.EqMixed.eq_str_bool (fin_bl I q (by simp))
    | int j => obtain ⟨t', rfl⟩ := ry; exact PySem.EqMixed.eq_str_int (fin_bl I q (by simp))
    | str j => obtain ⟨t', rfl⟩ := ry; exact eq_str (fin_bl I q dec_str)
    | _ => exact absurd (show false = true from hs) Bool.false_ne_true
  | byt i =>
    obtain ⟨t, rfl⟩ := rx
    cases y with
    | byt j => obtain ⟨t', rfl⟩ := ry; exact PySem.W.eq_bytes (fin_bl I q dec_byt)
    | _ => exact absurd (show false = true from hs) Bool.false_ne_true
  | _ => cases y <;> exact absurd (show false = true from hs) Bool.false_ne_true
theorem op_ne : OpR X (compareOp .NotEq) rNe := by
  intro pins s σ H x y v u Q I rx ry h
  obtain ⟨hs, q⟩ := h
  cases x with
  | non =>
    cases rx
    cases y with
    | non => cases ry; exact PySem.EqNone.ne_none_none (fin_bl I q (by simp))
    | bl j => cases ry; exact PySem.EqNone.ne_none_bool (fin_bl I q (by simp))
    | int j => obtain ⟨t', rfl⟩ := ry; exact PySem.EqNone.ne_none_int (fin_bl I q (by simp))
    | str j => obtain ⟨t', rfl⟩ := ry; exact PySem.EqNone.ne_none_str (fin_bl I q (by simp))
    | _ => exact absurd (show false = true from hs) Bool.false_ne_true
  | bl i =>
    cases rx
    cases y with
    | non => cases ry; exact PySem.EqNone.ne_bool_none (fin_bl I q (by simp))
    | bl j => cases ry; exact ne_bool (fin_bl I q (congrArg not dec_bl))
    | str j => obtain ⟨t', rfl⟩ := ry; exact PySem.EqMixed.ne_bool_str (fin_bl I q (by simp))
    | _ => exact absurd (show false = true from hs) Bool.false_ne_true
  | int i =>
    obtain ⟨t, rfl⟩ := rx
    cases y with
    | non => cases ry; exact PySem.EqNone.ne_int_none (fin_bl I q (by simp))
    | int j => obtain ⟨t', rfl⟩ := ry; exact ne_int (fin_bl I q (congrArg not dec_int))
    | str j => obtain ⟨t', rfl⟩ := ry; exact PySem.EqMixed.ne_int_str (fin_bl I q (by simp))
    | _ => exact absurd (show false = true from hs) Bool.false_ne_true
  | str i =>
    obtain ⟨t, rfl⟩ := rx
    cases y with
    | non => cases ry; exact PySem.EqNone.ne_str_none (fin_bl I q (by simp))
    | bl j => cases ry; exact PySem.EqMixed.ne_str_bool (fin_bl I q (by simp))
    | int j => obtain ⟨t', rfl⟩ := ry; exact PySem.EqMixed.ne_str_int (fin_bl I q (by simp))
    | str j => obtain ⟨t', rfl⟩ := ry; exact ne_str (fin_bl I q (congrArg not dec_str))
    | _ => exact absurd (show false = true from hs) Bool.false_ne_true
  | byt i =>
    obtain ⟨t, rfl⟩ := rx
    cases y with
    | byt j => obtain ⟨t', rfl⟩ := ry; exact PySem.W.ne_bytes (fin_bl I q (congrArg not dec_byt))
    | _ => exact absurd (show false = true from hs) Bool.false_ne_true
  | _ => cases y <;> exact absurd (show false = true from hs) Bool.false_ne_true

theorem op_lt : OpR X (compareOp .Lt) (rI0 fun i j => .bl (decide (i < j))) := opB0 fun _ _ _ _ _ _ _ q => lt_int q
theorem op_le : OpR X (compareOp .LtE) (rI0 fun i j => .bl (decide (i ≤ j))) := opB0 fun _ _ _ _ _ _ _ q => le_int q
theorem op_gt : OpR X (compareOp .Gt) (rI0 fun i j => .bl (decide (j < i))) := opB0 fun _ _ _ _ _ _ _ q => gt_int q
theorem op_ge : OpR X (compareOp .GtE) (rI0 fun i j => .bl (decide (j ≤ i))) := opB0 fun _ _ _ _ _ _ _ q => ge_int q
theorem op_isN : OpR X (compareOp .Is) (fun x y H Q => y = .non ∧ Q (.bl (decide (x = .non))) H) := by
  intro pins s σ H x y v u Q I rx ry h
  obtain ⟨rfl, q⟩ := h
  cases ry
  refine is_none_gen (fin_bl I q ?_)
  cases x <;> first
    | (cases rx; rfl)
    | (obtain ⟨t, rfl⟩ := rx; rfl)
theorem op_notN : OpR X (compareOp .IsNot) (fun x y H Q => y = .non ∧ Q (.bl (!decide (x = .non))) H) := by
  intro pins s σ H x y v u Q I rx ry h
  obtain ⟨rfl, q⟩ := h
  cases ry
  refine isnot_none_gen (fin_bl I q ?_)
  cases x <;> first
    | (cases rx; rfl)
    | (obtain ⟨t, rfl⟩ := rx; rfl)

theorem nomark (b : Expr) {op : CmpOp} (h : op ≠ .In := by decide) (h2 : op ≠ .NotIn := by decide) : behindInMarks op b = false := by
  have e1 : (op == CmpOp.In) = false := by cases op <;> first | rfl | exact absurd rfl h
  have e2 : (op == CmpOp.NotIn) = false := by cases op <;> first | rfl | exact absurd rfl h2
  cases b <;> simp [behindInMarks, e1, e2]
theorem pe_cmpR {op : CmpOp} {r : R2} (ho : OpR X (compareOp op) r) (ha : PE X a ta) (hb : PE X b tb) (hm : behindInMarks op b = false) : PE X (.Compare a [op] [b] pos) (tOp r ta tb) := by
  intro pins s σ H Q I h
  exact wpAny_Compare1 (binT ha hb I h fun v u s2 x y H2 I2 rx ry q => ho pins s2 σ H2 x y v u Q I2 rx ry q) hm
noncomputable def tTest (t : TE) : TT := fun σ H Q => t σ H fun x H' => ∃ k, x = .bl k ∧ Q k H'
theorem pt_cmpR {op : CmpOp} {r : R2} (ho : OpR X (compareOp op) r) (ha : PE X a ta) (hb : PE X b tb) (hm : behindInMarks op b = false) : PT X (.Compare a [op] [b] pos) (tTest (tOp r ta tb)) := by
  intro pins s σ H Q I h
  refine wpAny_isTrue_Compare1 (thn (ha pins s σ H _ I h) fun v s1 ⟨x, H1, I1, r1, q1⟩ => thn (hb pins s1 σ H1 _ I1 q1) fun u s2 ⟨y, H2, I2, r2, q2⟩ =>
    thn (ho pins s2 σ H2 x y v u _ I2 r1 r2 q2) fun c s3 ⟨z, H3, I3, r3, k, e, q3⟩ => ?_) hm
  subst e
  cases r3
  exact wpAny_truthy_bool ⟨H3, I3, q3⟩
noncomputable def tChain (r r' : R2) (ta tb tc : TE) : TE := fun σ H Q => ta σ H fun x H1 => tb σ H1 fun y H2 => r x y H2 fun z H3 => ∃ k, z = .bl k ∧
  (if k = true then tc σ H3 fun w' H4 => r' y w' H4 Q else Q (.bl false) H3)
theorem pe_chain {op op' : CmpOp} {r r' : R2} (ho : OpR X (compareOp op) r) (ho' : OpR X (compareOp op') r') (ha : PE X a ta) (hb : PE X b tb) (hc : PE X c tc)
    (hm : lastMarks [op, op'] [b, c] = false := by with_unfolding_all rfl) : PE X (.Compare a [op, op'] [b, c] pos) (tChain r r' ta tb tc) := by
  intro pins s σ H Q I h
  refine Compare_chain (thn (ha pins s σ H _ I h) fun v s1 ⟨x, H1, I1, r1, q1⟩ => chain_link (thn (hb pins s1 σ H1 _ I1 q1) fun u s2 ⟨y, H2, I2, r2, q2⟩ =>
    thn (ho pins s2 σ H2 x y v u _ I2 r1 r2 q2) fun d s3 ⟨z, H3, I3, r3, k, e, q3⟩ => ?_)) hm
  subst e
  cases r3
  refine wpAny_truthy_bool ?_
  cases k with
  | false => exact ite_ff ⟨.bl false, H3, I3, rfl, q3⟩
  | true => exact ite_tt (chain_last (thn (hc pins s3 σ H3 _ I3 q3) fun w' s4 ⟨z', H4, I4, r4, q4⟩ => ho' pins s4 σ H4 y z' u w' Q I4 r2 r4 q4))
theorem pt_chain {op op' : CmpOp} {r r' : R2} (ho : OpR X (compareOp op) r) (ho' : OpR X (compareOp op') r') (ha : PE X a ta) (hb : PE X b tb) (hc : PE X c tc)
    (hm : lastMarks [op, op'] [b, c] = false := by with_unfolding_all rfl) : PT X (.Compare a [op, op'] [b, c] pos) (tTest (tChain r r' ta tb tc)) := by
  intro pins s σ H Q I h
  refine isTrue_chain (thn (ha pins s σ H _ I h) fun v s1 ⟨x, H1, I1, r1, q1⟩ => test_link (thn (hb pins s1 σ H1 _ I1 q1) fun u s2 ⟨y, H2, I2, r2, q2⟩ =>
    thn (ho pins s2 σ H2 x y v u _ I2 r1 r2 q2) fun d s3 ⟨z, H3, I3, r3, k, e, q3⟩ => ?_)) hm
  subst e
  cases r3
  refine wpAny_truthy_bool ?_
  cases k with
  | false =>
    obtain ⟨k', e', q'⟩ := q3
    cases e'
    exact ite_ff ⟨H3, I3, q'⟩
  | true =>
    refine ite_tt (test_last (thn (hc pins s3 σ H3 _ I3 q3) fun w' s4 ⟨z', H4, I4, r4, q4⟩ => thn (ho' pins s4 σ H4 y z' u w' _ I4 r2 r4 q4) fun d' s5 ⟨z2, H5, I5, r5, k2, e2, q5⟩ => ?_))
    subst e2
    cases r5
    exact wpAny_truthy_bool ⟨H5, I5, q5⟩

noncomputable def TruV (K : PySem.W.Frag) (x : V) (H : Hp) (k : Bool) : Prop :=
  match x with
  | .non => k = false
  | .bl b => k = b
  | .int i => k = (i != 0)
  | .str y => y.length ≤ sizeLine ∧ k = ((y.length : Int) != 0)
  | .byt y => y.size ≤ sizeLine ∧ k = ((y.size : Int) != 0)
  | .ref p => (∃ xs, SqL K H p xs ∧ k = !xs.isEmpty) ∨ (∃ xs, SqT K H p xs ∧ k = !xs.isEmpty) ∨ ∃ kvs, H p = some (.dK kvs) ∧ k = !kvs.isEmpty
  | _ => False
theorem isEmpty_kv {κ : Type} {kvs : List (κ × V)} {vs : List (κ × Value)} (r : KV kvs vs) : (!vs.isEmpty) = !kvs.isEmpty := by
  cases r <;> rfl
theorem isEmpty_of {xs : List V} {its : List Value} (r : Vals xs its) : (!its.toArray.isEmpty) = !xs.isEmpty := by
  cases r <;> simp
theorem line63 : (sizeLine : Nat) < 2 ^ 63 := by rw [sizeLine_eq]; decide
theorem tru_ok : TruR X (fun x H Q => ∃ k, TruV X.K x H k ∧ Q k H) := by
  intro pins s σ H x v Q I rx h
  obtain ⟨k, e, q⟩ := h
  have hl := line63
  have hs : sizeLine = 16777216 := sizeLine_eq
  cases x with
  | non =>
    cases rx
    have e' : k = false := e
    subst e'
    exact truthy_none ⟨H, I, q⟩
  | bl b =>
    cases rx
    have e' : k = b := e
    subst e'
    exact wpAny_truthy_bool ⟨H, I, q⟩
  | int i =>
    obtain ⟨t, rfl⟩ := rx
    have e' : k = (i != 0) := e
    subst e'
    exact PySem.P.truthy_int ⟨H, I, q⟩
  | str y =>
    obtain ⟨t, rfl⟩ := rx
    obtain ⟨hy, e'⟩ : y.length ≤ sizeLine ∧ k = ((y.length : Int) != 0) := e
    subst e'
    exact PySem.P.truthy_str (by omega) ⟨H, I.tok _, q⟩
  | byt y =>
    obtain ⟨t, rfl⟩ := rx
    obtain ⟨hy, e'⟩ : y.size ≤ sizeLine ∧ k = ((y.size : Int) != 0) := e
    subst e'
    exact PySem.W.truthy_bytes (by omega) ⟨H, I.tok _, q⟩
  | ref p =>
    cases rx
    have e' : (∃ xs, SqL X.K H p xs ∧ k = !xs.isEmpty) ∨ (∃ xs, SqT X.K H p xs ∧ k = !xs.isEmpty) ∨ ∃ kvs, H p = some (.dK kvs) ∧ k = !kvs.isEmpty := e
    rcases e' with ⟨xs, hx, e'⟩ | ⟨xs, hx, e'⟩ | ⟨kvs, hx, e'⟩
    · subst e'
      obtain ⟨its, r, pl, hz⟩ := I.list hx
      have hlen := r.length
      exact wpAny_truthy_list pl.isList (by simp only [List.size_toArray]; omega) ⟨H, I.tok _, by rw [isEmpty_of r]; exact q⟩
    · subst e'
      obtain ⟨its, r, pl, hz⟩ := I.tuple hx
      have hlen := r.length
      exact truthy_tuple pl (by simp only [List.size_toArray]; omega) ⟨H, I.tok _, by rw [isEmpty_of r]; exact q⟩
    · subst e'
      obtain ⟨hz, hS, vs, r, m⟩ : kvs.length ≤ sizeLine ∧ (p == sysModules) = false ∧ ∃ vs, KV kvs vs ∧ s.heap.DictOf (mixKind X.prog X.w) p vs := I.hok p _ hx
      have hlen : kvs.length = vs.length := Paired.length r
      exact wpAny_truthy_dict hS m (by omega) ⟨H, I.tok _, by rw [isEmpty_kv r]; exact q⟩
  | _ => exact (show False from e).elim
theorem pt_truth (ha : PE X a ta) (he : ∀ whole, isTrue a X.env whole = (do let v ← whole; standAt a.pos; holding [v] (truthy v))) :
    PT X a (fun σ H Q => ta σ H fun x H' => ∃ k, TruV X.K x H' k ∧ Q k H') := by
  intro pins s σ H Q I h
  exact isTrue_plain (thn (ha pins s σ H _ I h) fun v s1 ⟨x, H1, I1, r1, q1⟩ => tru_ok pins s1 σ H1 x v Q I1 r1 q1) (he _)

theorem op_add_str : OpR X (binaryOp .Add) (fun x y H Q => ∃ i j, x = .str i ∧ y = .str j ∧ i.length + j.length ≤ sizeLine ∧ Q (.str (i ++ j)) H) := by
  intro pins s σ H x y v u Q I rx ry h
  obtain ⟨i, j, rfl, rfl, hz, q⟩ := h
  obtain ⟨t, rfl⟩ := rx
  obtain ⟨t', rfl⟩ := ry
  exact add_str (fun t' tk => ⟨.str (i ++ j), H, I.tok _, ⟨_, rfl⟩, q⟩) hz
theorem vals1 {x : V} {us : List Value} (r : Vals [x] us) : ∃ u, us = [u] ∧ RelV x u := by
  cases r with
  | cons r1 r2 => cases r2; exact ⟨_, rfl, r1⟩
theorem vals2 {x y : V} {us : List Value} (r : Vals [x, y] us) : ∃ u w', us = [u, w'] ∧ RelV x u ∧ RelV y w' := by
  cases r with
  | cons r1 r2 =>
    cases r2 with
    | cons r3 r4 => cases r4; exact ⟨_, _, rfl, r1, r3⟩
theorem call_int1 : CallR X (.type "int") (fun xs H Q => (∃ i, xs = [.int i] ∧ Q (.int i) H) ∨ ∃ k, xs = [.bl k] ∧ Q (.int (if k then 1 else 0)) H) := by
  intro pins s σ H xs us Q I r h
  rcases h with ⟨i, rfl, q⟩ | ⟨k, rfl, q⟩
  · obtain ⟨u, rfl, t, rfl⟩ := vals1 r
    exact call_int_int ⟨.int i, H, I, ⟨_, rfl⟩, q⟩
  · obtain ⟨u, rfl, r1⟩ := vals1 r
    cases r1
    exact call_int_bool ⟨.int (if k then 1 else 0), H, I.tok _, ⟨_, rfl⟩, q⟩
end
end L2

namespace L2
open PySem PySem.Spec PyProof.Rows

structure ObjM (h : Heap) (x dx C : Addr) (mA : Str → Option Value) : Prop where
  obj : h.get? x = some (PySem.W.instObj C dx)
  ns : h.Ns1 dx mA
  ne : dx ≠ x

theorem lookIn_ns {h : Heap} {dx : Addr} {mA : Str → Option Value} (n : h.Ns1 dx mA) : ∃ od, h.get? dx = some od ∧ ∀ name, PySem.W.lookIn name od = some (mA name) := by
  obtain ⟨o, es, ep, ho, hd, hk, _, hm⟩ := n
  refine ⟨o, ho, fun name => ?_⟩
  have e := hm name
  unfold nsFind findBy at e
  rw [← Array.find?_toList] at e
  unfold PySem.W.lookIn
  rw [hd]
  dsimp only
  split
  · rename_i y q
    rw [q] at e
    exact congrArg some e
  · rename_i q
    rw [q] at e
    have a : es.toList.any (·.refKey) = false := by
      rw [List.any_eq_false]
      intro y hy
      obtain ⟨z, t, hkey⟩ := hk y (Array.mem_toList_iff.mp hy)
      simp [DictEntry.refKey, hkey]
    have a' : ¬ es.toList.any (·.refKey) = true := by rw [a]; exact Bool.false_ne_true
    rw [if_neg a']
    exact congrArg some e

theorem ObjM.look {h : Heap} {x dx C : Addr} {mA : Str → Option Value} (I : ObjM h x dx C mA) : ∃ od, PySem.W.InstAt h x (PySem.W.instObj C dx) C (some od) ∧ ∀ name, PySem.W.lookIn name od = some (mA name) :=
  let ⟨od, ho, hl⟩ := lookIn_ns I.ns
  ⟨od, ⟨I.obj, rfl, rfl, ho⟩, hl⟩

section
variable {prog : Program} {w : World} {A : Around} {E : Value → Shared → Prop} {s : Shared} {K : PySem.W.Frag} {x dx C f : Addr} {mA : Str → Option Value} {name : Str} {v : Value}

theorem get_map {expr : Bool} {Q : Value → Shared → Prop} (X : K.In s.heap) (I : ObjM s.heap x dx C mA) (hg : PySem.W.plainGet K C name = true) (hh : PySem.W.hasDictIn K C = true)
    (ha : PySem.W.findIn K (.ref C) name = some none) (hv : mA name = some v) (hv' : PySem.W.handedIn v = true) (h : Q v { s with toks := s.toks + 1 }) :
    wpAny (model prog w) A (getAttr (.ref x) name expr) Q E s := by
  obtain ⟨od, J, hl⟩ := I.look
  exact PySem.W.get_value X J (PySem.W.plainGet_of hg).1 (PySem.W.findObj_own hh ha rfl (by rw [hl, hv])) hv' h

theorem get_meth {pl : Sem Bool} {Q : Value × List Value → Shared → Prop} (X : K.In s.heap) (I : ObjM s.heap x dx C mA) (hg : PySem.W.plainGet K C name = true)
    (hf : PySem.W.findIn K (.ref C) name = some (some (.ref f))) (ht : PySem.W.isFn K (.ref f) = true) (hv : mA name = none) (h : Q (.ref f, [.ref x]) s) :
    wpAny (model prog w) A (getMethod (.ref x) name pl) Q E s := by
  obtain ⟨od, J, hl⟩ := I.look
  exact PySem.W.method_fn X J (PySem.W.plainGet_of hg).1 (PySem.W.plainGet_of hg).2 hf (beq_iff_eq.mp ht) (by show (PySem.W.lookIn name od).map (·.isSome) = some false; rw [hl, hv]; rfl) h

theorem set_map {ns : List Str} {Q : Unit → Shared → Prop} (X : K.In s.heap) (I : ObjM s.heap x dx C mA)
    (hs : PySem.W.findIn K (.ref C) "__setattr__" = some (some (.builtin "object.__setattr__"))) (hp : PySem.W.plainOver K C = true) (ht : PySem.W.takerIn K C name = some none) (hh : PySem.W.hasDictIn K C = true)
    (hw : PySem.Within mA ns) (hsz : ns.length ≤ sizeLine)
    (h : ∀ h', ObjM h' x dx C (fun y => if y = name then some v else mA y) → Heap.SameBut dx s.heap h' → Q () { s with heap := h', toks := s.toks + 2 }) :
    wpAny (model prog w) A (setAttr (.ref x) name v) Q E s := by
  obtain ⟨od, J, hl⟩ := I.look
  refine PySem.W.set_plain X J hs (PySem.W.osa_open (s := { s with toks := s.toks + 1 }) (r := none) X J hp ht fun b => ?_)
  obtain ⟨cd, hc, hd'⟩ := PySem.W.any_some hh
  have hx : s.heap.get? x = some ⟨.ref C, some dx, .plain, #[]⟩ := I.obj
  refine wpAny_bind (wpAny_pure (wpAny_bind (wpAny_bind (wpAny_loadPart hx (wpAny_bind (PySem.W.Looks.here (s := { s with toks := s.toks + 1 }) (PySem.W.looks_clsIn X hc) ?_))))))
  rw [hd']
  refine wpAny_pure (a := some dx) (wpAny_bind (wpAny_pure (wpAny_bind ?_)))
  refine wpAny_nsSet1 (s := { s with toks := s.toks + 1 }) I.ns fun h' hn2 hs2 => ?_
  obtain ⟨oD, esD, epD, hoD, hdD, hcD⟩ := hn2.count (PySem.Within.cons name v hw)
  refine wpAny_bind (wpAny_lookBehind hoD (by rw [hdD]; exact pastItsLine_dict (Nat.le_trans hcD (by rw [List.length_cons]; omega))) ?_)
  exact wpAny_pure (h _ ⟨(hs2.2 _ (Ne.symm I.ne)).trans I.obj, hn2, I.ne⟩ hs2)

theorem make_map {R : Result → Shared → Prop} {vs : List Value} {kw : List (Str × Value)} (X : K.In s.heap) (hm : PySem.W.makesIn K C = true)
    (hi : PySem.W.findIn K (.ref C) "__init__" = some (some (.ref f))) (hf : PySem.W.typeIn K (.ref f) = some (.type "function"))
    (h : codeAny (model prog w) (A.under (.builtin "type.__call__" ⟨.ref C :: vs, kw⟩)) (.call (.ref f) ⟨.ref (s.heap.objs.size + 1) :: vs, kw⟩) (PySem.W.InitBack (s.heap.objs.size + 1) R)
      { s with heap := (s.heap.push PySem.W.emptyDict).push (PySem.W.instObj C s.heap.objs.size) }) :
    codeAny (model prog w) A (.call (.ref C) ⟨vs, kw⟩) R s := by
  obtain ⟨hh, g, d, t, os⟩ := s
  exact PySem.W.make_core (PySem.W.makes_of X hm) (PySem.W.looks_findIn X hi) (fun self => PySem.W.bind_fn X self hf) (.inl rfl) h
theorem make_map0 {R : Result → Shared → Prop} (X : K.In s.heap) (hm : PySem.W.makesIn K C = true)
    (hi : PySem.W.findIn K (.ref C) "__init__" = some (some (.builtin "object.__init__")))
    (hb : ∀ self, PySem.W.Looks (model prog w) s.heap (bindSpecial (.builtin "object.__init__") self) (.builtin "object.__init__", [self]))
    (h : codeAny (model prog w) (A.under (.builtin "type.__call__" ⟨[.ref C], []⟩)) (.call (.builtin "object.__init__") ⟨[.ref (s.heap.objs.size + 1)], []⟩) (PySem.W.InitBack (s.heap.objs.size + 1) R)
      { s with heap := (s.heap.push PySem.W.emptyDict).push (PySem.W.instObj C s.heap.objs.size) }) :
    codeAny (model prog w) A (.call (.ref C) ⟨[], []⟩) R s := by
  obtain ⟨hh, g, d, t, os⟩ := s
  exact PySem.W.make_core (PySem.W.makes_of X hm) (PySem.W.looks_findIn X hi) hb (.inr ⟨rfl, rfl⟩) h
end

noncomputable def putF (f : Str) (v : V) : List (Str × V) → List (Str × V)
  | [] => [(f, v)]
  | (g, x) :: r => if g = f then (g, v) :: r else (g, x) :: putF f v r
theorem lookup_putF (f g : Str) (v : V) : ∀ fs : List (Str × V), (putF f v fs).lookup g = if g = f then some v else fs.lookup g
  | [] => by
    show List.lookup g [(f, v)] = _
    by_cases h : g = f
    · have hb : (g == f) = true := beq_iff_eq.mpr h
      simp only [List.lookup, hb, if_pos h]
    · have hb : (g == f) = false := beq_eq_false_iff_ne.mpr h
      simp only [List.lookup, hb, if_neg h]
  | (k, x) :: r => by
    have ih := lookup_putF f g v r
    rw [show putF f v ((k, x) :: r) = (if k = f then (k, v) :: r else (k, x) :: putF f v r) from rfl]
    by_cases hk : k = f
    · rw [if_pos hk]
      by_cases h : g = k
      · have hb : (g == k) = true := beq_iff_eq.mpr h
        simp only [List.lookup, hb, if_pos (h.trans hk)]
      · have hb : (g == k) = false := beq_eq_false_iff_ne.mpr h
        simp only [List.lookup, hb, if_neg (fun e : g = f => h (e.trans hk.symm))]
    · rw [if_neg hk]
      by_cases h : g = k
      · have hb : (g == k) = true := beq_iff_eq.mpr h
        simp only [List.lookup, hb, if_neg (fun e : g = f => hk (h.symm.trans e))]
      · have hb : (g == k) = false := beq_eq_false_iff_ne.mpr h
        simp only [List.lookup, hb]
        exact ih
theorem keys_putF (f : Str) (v : V) : ∀ fs : List (Str × V), f ∈ (putF f v fs).map (·.1) ∧ ∀ g, g ∈ fs.map (·.1) → g ∈ (putF f v fs).map (·.1)
  | [] => ⟨by simp [putF], fun g h => by simp at h⟩
  | (k, x) :: r => by
    obtain ⟨i1, i2⟩ := keys_putF f v r
    rw [show putF f v ((k, x) :: r) = (if k = f then (k, v) :: r else (k, x) :: putF f v r) from rfl]
    by_cases hk : k = f
    · rw [if_pos hk]
      subst hk
      exact ⟨by simp, fun g h => by simpa using h⟩
    · rw [if_neg hk]
      refine ⟨?_, fun g h => ?_⟩
      · rw [List.map_cons]
        exact List.mem_cons_of_mem _ i1
      · rw [List.map_cons] at h ⊢
        rcases List.mem_cons.mp h with e | e
        · exact List.mem_cons.mpr (.inl e)
        · exact List.mem_cons_of_mem _ (i2 g e)
theorem length_putF (f : Str) (v : V) : ∀ fs : List (Str × V), (putF f v fs).length ≤ fs.length + 1
  | [] => by simp [putF]
  | (k, x) :: r => by
    have ih := length_putF f v r
    rw [show putF f v ((k, x) :: r) = (if k = f then (k, v) :: r else (k, x) :: putF f v r) from rfl]
    by_cases hk : k = f
    · rw [if_pos hk, List.length_cons, List.length_cons]; omega
    · rw [if_neg hk, List.length_cons, List.length_cons]; omega

theorem RelO.some_of {v : V} {o : Option Value} (r : RelO (some v) o) : ∃ u, o = some u ∧ RelV v u := by
  cases o with
  | none => exact (show False from r).elim
  | some u => exact ⟨u, rfl, r⟩
theorem RelO.none_of {o : Option Value} (r : RelO none o) : o = none := by
  cases o with
  | none => rfl
  | some u => exact (show False from r).elim
theorem handed_of {v : V} {u : Value} (r : RelV v u) : PySem.W.handedIn u = true := by
  cases v with
  | non => cases (show u = Value.none from r); rfl
  | bl b => cases (show u = Value.bool b from r); rfl
  | int i => obtain ⟨t, e⟩ := (show ∃ t, u = Value.int i t from r); cases e; rfl
  | str x => obtain ⟨t, e⟩ := (show ∃ t, u = Value.str x t from r); cases e; rfl
  | byt b => obtain ⟨t, e⟩ := (show ∃ t, u = Value.bytes b t from r); cases e; rfl
  | flt b => obtain ⟨t, e⟩ := (show ∃ t, u = Value.float b t from r); cases e; rfl
  | ref a => cases (show u = Value.ref a from r); rfl
  | ty n => cases (show u = Value.type n from r); rfl

section
variable {P : Program} {w : World} {H H' : Hp} {h h' : Heap} {a C dx : Addr} {fs fs' : List (Str × V)}
theorem ins_get (hok : HOk P w H h) (e : H a = some (.ins C dx fs)) : ∃ mA, ObjM h a dx C mA ∧ (∀ f, RelO (fs.lookup f) (mA f)) ∧ PySem.Within mA (fs.map (·.1)) ∧ fs.length ≤ 1000 ∧ H dx = some (.own a) := by
  obtain ⟨d, z, ne, ob, mA, n, r, q⟩ := (show ObjOk P w H h a (.ins C dx fs) from hok a _ e)
  exact ⟨mA, ⟨ob, n, ne⟩, r, q, z, d⟩
end

structure Cls (K : PySem.W.Frag) (C : Addr) : Prop where
  pg : PySem.W.plainGet K C Str.empty = true
  hd : PySem.W.hasDictIn K C = true
  po : PySem.W.plainOver K C = true
  sa : PySem.W.findIn K (.ref C) "__setattr__" = some (some (.builtin "object.__setattr__"))
theorem Cls.get {K : PySem.W.Frag} {C : Addr} (c : Cls K C) (f : Str) : PySem.W.plainGet K C f = true := c.pg
noncomputable def NoAttr (K : PySem.W.Frag) (C : Addr) (f : Str) : Prop := PySem.W.findIn K (.ref C) f = some none
theorem NoAttr.taker {K : PySem.W.Frag} {C : Addr} {f : Str} (n : NoAttr K C f) : PySem.W.takerIn K C f = some none := by
  unfold PySem.W.takerIn
  rw [show PySem.W.findIn K (.ref C) f = some none from n]
  rfl
structure Meth (K : PySem.W.Frag) (C : Addr) (m : Str) (f : Addr) : Prop where
  at_ : PySem.W.findIn K (.ref C) m = some (some (.ref f))
  fn : PySem.W.isFn K (.ref f) = true
  kp : PySem.W.keepIn K (.ref f) = true

section
variable {X : Cx} {pins : List (Addr × Obj)} {σ : St} {H : Hp} {s : Shared} {a C dx : Addr} {fs : List (Str × V)} {f : Str} {v : V} {A : Around} {E : Value → Shared → Prop}

theorem getattr_ok {b : Bool} {Q : Value → Shared → Prop} (I : Inv X pins σ H s) (e : H a = some (.ins C dx fs)) (c : Cls X.K C) (n : NoAttr X.K C f) (l : fs.lookup f = some v)
    (h : ∀ u s', Inv X pins σ H s' → RelV v u → Q u s') : wpAny (model X.prog X.w) A (getAttr (.ref a) f b) Q E s := by
  obtain ⟨mA, O, r, _, _, _⟩ := ins_get I.hok e
  obtain ⟨u, hu, ru⟩ := RelO.some_of (v := v) (o := mA f) (by rw [← l]; exact r f)
  exact get_map I.kIn O (c.get f) c.hd n hu (handed_of ru) (h u _ (I.tok _) ru)

theorem getmeth_ok {m : Str} {g : Addr} {pl : Sem Bool} {Q : Value × List Value → Shared → Prop} (I : Inv X pins σ H s) (e : H a = some (.ins C dx fs)) (c : Cls X.K C) (k : Meth X.K C m g) (l : fs.lookup m = none)
    (h : Q (.ref g, [.ref a]) s) : wpAny (model X.prog X.w) A (getMethod (.ref a) m pl) Q E s := by
  obtain ⟨mA, O, r, _, _, _⟩ := ins_get I.hok e
  have hn : mA m = none := RelO.none_of (by rw [← l]; exact r m)
  exact get_meth I.kIn O (c.get m) k.at_ k.fn hn h

theorem setattr_ok {y : V} {u : Value} {Q : Unit → Shared → Prop} (I : Inv X pins σ H s) (e : H a = some (.ins C dx fs)) (c : Cls X.K C) (n : NoAttr X.K C f) (hl : fs.length < 1000) (ry : RelV y u)
    (h : ∀ s', Inv X pins σ (upd H a (.ins C dx (putF f y fs))) s' → Q () s') : wpAny (model X.prog X.w) A (setAttr (.ref a) f u) Q E s := by
  obtain ⟨mA, O, r, wi, _, ho⟩ := ins_get I.hok e
  have hz : (fs.map (·.1)).length ≤ sizeLine := by rw [List.length_map, sizeLine_eq]; omega
  refine set_map I.kIn O c.sa c.po n.taker c.hd wi hz fun h' O' sb => h _ ?_
  have hd : ∃ o, h'.get? dx = some o := let ⟨o, _, _, e', _⟩ := O'.ns; ⟨o, e'⟩
  refine I.write (x := a) (e := dx) (by rw [e]; exact True.intro) (.inr ho) (fun b q hb z => (sb.2 b hb).trans z) hd ?_
  refine ⟨by rw [upd_ne O.ne]; exact ho, ?_, O.ne, O'.obj, _, O'.ns, fun g => ?_, fun g hg => ?_⟩
  · have := length_putF f y fs; omega
  · show RelO ((putF f y fs).lookup g) (if g = f then some u else mA g)
    rw [lookup_putF]
    by_cases q : g = f
    · rw [if_pos q, if_pos q]; exact ry
    · rw [if_neg q, if_neg q]; exact r g
  · by_cases q : g = f
    · rw [q]; exact (keys_putF f y fs).1
    · refine (keys_putF f y fs).2 g (wi g fun z => hg ?_)
      show (if g = f then some u else mA g) = none
      rw [if_neg q]; exact z

theorem Inv.made (I : Inv X pins σ H s) : Inv X pins σ (upd (upd H s.heap.objs.size (.own (s.heap.objs.size + 1))) (s.heap.objs.size + 1) (.ins C s.heap.objs.size []))
    { s with heap := (s.heap.push PySem.W.emptyDict).push (PySem.W.instObj C s.heap.objs.size) } := by
  have e1 : (s.heap.push PySem.W.emptyDict).get? s.heap.objs.size = some PySem.W.emptyDict := Heap.get?_push_size s.heap rfl
  have e2 : ((s.heap.push PySem.W.emptyDict).push (PySem.W.instObj C s.heap.objs.size)).get? (s.heap.objs.size + 1) = some (PySem.W.instObj C s.heap.objs.size) := by
    have := Heap.get?_push_size (s.heap.push PySem.W.emptyDict) (o := PySem.W.instObj C s.heap.objs.size) rfl
    rwa [Heap.size_push] at this
  have e3 : (s.heap.push PySem.W.emptyDict).Ns s.heap.objs.size (fun _ => none) := ⟨PySem.W.emptyDict, #[], _, e1, rfl, (fun e he => absurd he (by simp)), fun _ => rfl⟩
  have I1 := I.laid (a := s.heap.objs.size) (o := .own (s.heap.objs.size + 1)) (h' := s.heap.push PySem.W.emptyDict) (t' := s.toks) (fun b u q => Heap.get?_push_of_some _ q) (Nat.le_refl _) ⟨_, e1⟩
  refine I1.laid (a := s.heap.objs.size + 1) (o := .ins C s.heap.objs.size []) (t' := s.toks) (fun b u q => Heap.get?_push_of_some _ q) (Nat.le_of_eq (Heap.size_push _ _)) ?_
  have ne : s.heap.objs.size ≠ s.heap.objs.size + 1 := Nat.ne_of_lt (Nat.lt_succ_self _)
  refine ⟨by rw [upd_ne ne, upd_same], Nat.zero_le _, ne, e2, fun _ => none, (Heap.Ns1.of_empty e3).at fun o q => Heap.get?_push_of_some _ q, fun _ => True.intro, fun y hy => absurd rfl hy⟩

theorem attr_of {prog : Program} {w : World} {env : Env} {e : Expr} {f : Str} {pos : Pos} {s : Shared} {Q : Value → Shared → Prop} (hb : attributeBase e f env (eval e env) = eval e env)
    (h : wpAny (model prog w) A (eval e env) (fun o s₁ => wpAny (model prog w) A (getAttr o f true) Q E s₁) E s) : wpAny (model prog w) A (eval (.Attribute e f pos) env) Q E s :=
  Attribute_any_ h (by rw [arm_eval_Attribute, hb])
end

noncomputable def tFld (K : PySem.W.Frag) (ta : TE) (f : Str) : TE := fun σ H Q => ta σ H fun x H1 => ∃ a C dx fs v, x = .ref a ∧ H1 a = some (.ins C dx fs) ∧ Cls K C ∧ NoAttr K C f ∧ fs.lookup f = some v ∧ Q v H1
noncomputable def sFld (K : PySem.W.Frag) (ta tv : TE) (f : Str) : TS := fun D σ H => tv σ H fun y H1 => ta σ H1 fun x H2 => ∃ a C dx fs, x = .ref a ∧ H2 a = some (.ins C dx fs) ∧ Cls K C ∧ NoAttr K C f ∧ fs.length < 1000 ∧
  D.nx σ (upd H2 a (.ins C dx (putF f y fs)))
section
variable {X : Cx} {o e value : Expr} {f : Str} {pos pos' tpos : Pos} {ta tv : TE}
theorem pe_fld (he : PE X e ta) (hb : attributeBase e f X.env (eval e X.env) = eval e X.env) : PE X (.Attribute e f pos) (tFld X.K ta f) := by
  intro pins s σ H Q I h
  refine attr_of hb (thn (he pins s σ H _ I h) fun u s1 ⟨x, H1, I1, rx, a, C, dx, fs, v, ex, ea, c, n, l, q⟩ => ?_)
  subst ex
  obtain rfl : u = Value.ref a := rx
  exact getattr_ok I1 ea c n l fun u' s2 I2 ru => ⟨v, H1, I2, ru, q⟩
theorem ps_fld (ha : PE X o ta) (hv : PE X value tv) (hs : swapsWith value (some (.Attribute o f pos')) pos.line X.env = pure false) : PS X (.Assign [.Attribute o f pos'] value pos) (sFld X.K ta tv f) := by
  intro pins s σ H D I h
  refine plainObj_wpAny_Assign_Attribute (thn (hv pins s σ H _ I h) fun u s1 ⟨y, H1, I1, ry, q⟩ => thn (ha pins s1 σ H1 _ I1 q) fun ov s2 ⟨x, H2, I2, rx, a, C, dx, fs, ex, ea, c, n, l, q2⟩ => ?_) hs
  subst ex
  obtain rfl : ov = Value.ref a := rx
  exact setattr_ok I2 ea c n l ry fun s3 I3 => ⟨σ, _, I3, q2⟩
theorem methcall_of {pl : Sem Bool} {m : Str} {apos : Pos} {args : List Expr} {pins : List (Addr × Obj)} {s : Shared} {σ : St} {H : Hp} {Q : Value → Shared → Prop} {te : TE} (he : PE X e te) (I : Inv X pins σ H s)
    (h : te σ H fun x H1 => ∃ a C dx fs g, x = .ref a ∧ H1 a = some (.ins C dx fs) ∧ Cls X.K C ∧ Meth X.K C m g ∧ fs.lookup m = none ∧
      ∀ s1, Inv X pins σ H1 s1 → wpAny (model X.prog X.w) X.A (callWith pos (.ref g) [.ref a] (backTo pos (starEach args X.env)) (backToKw pos (keywordEach [] X.env))) Q X.xe s1)
    (ht : eval (.Call (.Attribute e m apos) args [] pos) X.env = (do
      let ov ← eval e X.env
      standAt apos.atName
      let (f, first) ← holding [ov] (getMethod ov m pl)
      callWith pos f first (backTo pos (starEach args X.env)) (backToKw pos (keywordEach [] X.env)))) :
    wpAny (model X.prog X.w) X.A (eval (.Call (.Attribute e m apos) args [] pos) X.env) Q X.xe s := by
  refine PySem.W.methodCall_KW (pl := pl) (thn (he pins s σ H _ I h) fun u s1 ⟨x, H1, I1, rx, a, C, dx, fs, g, ex, ea, c, k, l, q⟩ => ?_) ht
  subst ex
  obtain rfl : u = Value.ref a := rx
  exact getmeth_ok I1 ea c k l (q s1 I1)
end

section
variable {X : Cx} {pins : List (Addr × Obj)} {σ : St} {H : Hp} {s : Shared} {A : Around} {E : Value → Shared → Prop} {Q : Value → Shared → Prop} {c : Value} {b : Bool}
inductive TyOf (K : PySem.W.Frag) (H : Hp) : V → Value → Prop where
  | non : TyOf K H .non (.type "NoneType")
  | bl (x : Bool) : TyOf K H (.bl x) (.type "bool")
  | int (i : Int) : TyOf K H (.int i) (.type "int")
  | str (x : Str) : TyOf K H (.str x) (.type "str")
  | flt (x : UInt64) : TyOf K H (.flt x) (.type "float")
  | lst {a : Addr} {xs : List V} (e : H a = some (.lst xs)) : TyOf K H (.ref a) (.type "list")
  | frz {a : Addr} {o : Obj} {xs : List V} (e : H a = some (.frz o (.lst xs))) : TyOf K H (.ref a) (.type "list")
  | tup {a : Addr} {xs : List V} (e : H a = some (.tup xs)) : TyOf K H (.ref a) (.type "tuple")
  | dK {a : Addr} {kvs : List (Key × V)} (e : H a = some (.dK kvs)) : TyOf K H (.ref a) (.type "dict")
  | dT {a : Addr} {kvs : List (List Key × V)} (e : H a = some (.dT kvs)) : TyOf K H (.ref a) (.type "dict")
  | ins {a C dx : Addr} {fs : List (Str × V)} (e : H a = some (.ins C dx fs)) (cl : Cls K C) (ha : PySem.W.findIn K (.ref C) "__class__" = some (some (.builtin "object.__class__")))
      (hn : PySem.W.specialIn K (.builtin "object.__class__") "__get__" = some (some (.builtin "getset_descriptor.__get__"))) (htk : PySem.W.takesIn K (.builtin "object.__class__") = some true)
      (hm : PySem.W.mroIn K C (.type "object") = some true) : TyOf K H (.ref a) (.ref C)
theorem isinst_ok {x : V} {u t : Value} (I : Inv X pins σ H s) (rx : RelV x u) (ty : TyOf X.K H x t) (e : PySem.W.kitOne X.K t c = some b) (h : ∀ tk, Q (.bool b) { s with toks := tk }) :
    wpAny (model X.prog X.w) A (call (.builtin "isinstance") [u, c]) Q E s := by
  cases ty with
  | non => cases (show u = Value.none from rx); exact PySem.W.kia_one PySem.W.kitx_none I.kIn True.intro e (fun z => nomatch z) h
  | bl y => cases (show u = Value.bool y from rx); exact PySem.W.kia_one PySem.W.kitx_bool I.kIn True.intro e (fun z => nomatch z) h
  | int i => obtain ⟨t, q⟩ := (show ∃ t, u = Value.int i t from rx); cases q; exact PySem.W.kia_one PySem.W.kitx_int I.kIn True.intro e (fun z => nomatch z) h
  | str y => obtain ⟨t, q⟩ := (show ∃ t, u = Value.str y t from rx); cases q; exact PySem.W.kia_one PySem.W.kitx_str I.kIn True.intro e (fun z => nomatch z) h
  | flt y => obtain ⟨t, q⟩ := (show ∃ t, u = Value.float y t from rx); cases q; exact PySem.W.kia_one PySem.W.kitx_float I.kIn True.intro e (fun z => nomatch z) h
  | @lst a xs ea =>
    cases (show u = Value.ref a from rx)
    obtain ⟨_, _, n, _, h1⟩ := (show ObjOk X.prog X.w H s.heap a (.lst xs) from I.hok a _ ea)
    exact PySem.W.kia_one PySem.W.kitx_list I.kIn ⟨_, h1, rfl⟩ e (fun z => nomatch z) h
  | @frz a ob xs ea =>
    cases (show u = Value.ref a from rx)
    obtain ⟨_, _, _, n, _, h1⟩ := (show ObjOk X.prog X.w H s.heap a (.frz ob (.lst xs)) from I.hok a _ ea)
    exact PySem.W.kia_one PySem.W.kitx_list I.kIn ⟨_, h1, rfl⟩ e (fun z => nomatch z) h
  | @tup a xs ea =>
    cases (show u = Value.ref a from rx)
    obtain ⟨_, _, _, p⟩ := (show ObjOk X.prog X.w H s.heap a (.tup xs) from I.hok a _ ea)
    obtain ⟨o, h1, h2, _⟩ := p
    exact PySem.W.kia_one PySem.W.kitx_tuple I.kIn ⟨o, h1, h2⟩ e (fun z => nomatch z) h
  | @dK a kvs ea =>
    cases (show u = Value.ref a from rx)
    obtain ⟨_, _, vs, _, p⟩ := (show ObjOk X.prog X.w H s.heap a (.dK kvs) from I.hok a _ ea)
    obtain ⟨o, es, ep, h1, h2, _⟩ := p
    exact PySem.W.kia_one PySem.W.kitx_dict I.kIn ⟨o, h1, h2.1⟩ e (fun z => nomatch z) h
  | @dT a kvs ea =>
    cases (show u = Value.ref a from rx)
    obtain ⟨_, _, xs, _, o, es, ep, h1, h2, _⟩ := (show ObjOk X.prog X.w H s.heap a (.dT kvs) from I.hok a _ ea)
    exact PySem.W.kia_one PySem.W.kitx_dict I.kIn ⟨o, h1, h2.1⟩ e (fun z => nomatch z) h
  | @ins a C dx fs ea cl ha hn htk hm =>
    cases (show u = Value.ref a from rx)
    obtain ⟨mA, O, _⟩ := ins_get I.hok ea
    obtain ⟨od, J, _⟩ := O.look
    exact PySem.W.kia_one (PySem.W.kitx_own (cl.get _) cl.hd ha hn htk hm) I.kIn J e (fun z => nomatch z) h
end
end L2

namespace L2
open PySem PySem.Spec PyProof.Rows

structure Room (k : Nat) (A : Around) : Prop where
  hd : A.handled = none
  dp : A.depth + 3 * k + 5 < recursionLimit
  un : A.units + 16 * k + 200 < cLine
theorem Room.mono {j k : Nat} {A : Around} (r : Room k A) (h : j ≤ k) : Room j A := ⟨r.hd, by have := r.dp; omega, by have := r.un; omega⟩
theorem Room.deeper {k : Nat} {A : Around} (r : Room (k + 1) A) (env : Env) : Room k (A.deeper env) :=
  ⟨r.hd, by have := r.dp; show A.depth + 1 + 3 * k + 5 < _; omega, by have := r.un; show A.units + 3 + 16 * k + 200 < _; omega⟩
theorem make_depth {A : Around} {C : Addr} {us : List Value} {kw : List (Str × Value)} : (A.under (.builtin "type.__call__" ⟨.ref C :: us, kw⟩)).depth = A.depth + 1 := by
  first | rfl | simp [Around.under, Code.weight, Code.isCreation, Code.isGuard, Code.isCaller, Code.frames, Code.isFrame, guardIds]
theorem make_units {A : Around} {C : Addr} {us : List Value} {kw : List (Str × Value)} : (A.under (.builtin "type.__call__" ⟨.ref C :: us, kw⟩)).units = A.units + 1 := by
  first | rfl | simp [Around.under, Code.cUnits, Code.frames, Code.isFrame]
theorem Room.make {k : Nat} {A : Around} (r : Room (k + 1) A) (C : Addr) (us : List Value) (kw : List (Str × Value)) : Room k (A.under (.builtin "type.__call__" ⟨.ref C :: us, kw⟩)) :=
  ⟨r.hd, by have := r.dp; rw [make_depth]; omega, by have := r.un; rw [make_units]; omega⟩
theorem Room.depth {k : Nat} {A : Around} (r : Room k A) : A.depth < recursionLimit := by have := r.dp; omega
theorem Room.units {k : Nat} {A : Around} (r : Room k A) : A.units + 64 < cLine := by have := r.un; omega
noncomputable def tNil : TA := fun _ H Q => Q [] H
noncomputable def tCons (ta : TE) (tr : TA) : TA := fun σ H Q => ta σ H fun x H1 => tr σ H1 fun xs H2 => Q (x :: xs) H2
section
variable {X : Cx} {e : Expr} {es : List Expr} {te : TE} {t : TA} {pos : Pos}
theorem pa_nil : PA X [] tNil := fun _ _ _ _ H Q I h => Calls.spliced_nil ⟨[], H, I, .nil, h⟩
theorem pa_cons (ha : PE X e te) (hr : PA X es t) (hs : starEach (e :: es) X.env = (false, eval e X.env) :: starEach es X.env := by rfl) : PA X (e :: es) (tCons te t) := by
  intro pos pins s σ H Q I h
  rw [hs]
  show wpAny _ _ (spliced ((false, eval e X.env) :: backTo pos (starEach es X.env))) _ _ s
  refine Calls.spliced_cons (thn (ha pins s σ H _ I h) fun u s1 ⟨x, H1, I1, r1, q1⟩ => ?_)
  exact thn (hr pos pins s1 σ H1 _ I1 q1) fun us s2 ⟨xs, H2, I2, r2, q2⟩ => ⟨x :: xs, H2, I2, .cons r1 r2, q2⟩

noncomputable def tTup (t : TA) : TE := fun σ H Q => t σ H fun xs H1 => xs.length ≤ sizeLine ∧ ∀ p, H1 p = none → Q (.ref p) (upd H1 p (.tup xs))
noncomputable def tLst (t : TA) : TE := fun σ H Q => t σ H fun xs H1 => xs.length ≤ sizeLine ∧ ∀ p, H1 p = none → Q (.ref p) (upd H1 p (.lst xs))
theorem pe_tup {x1} (h : PA X es t) : PE X (.Tuple es x1 pos) (tTup t) := by
  intro pins s σ H Q I hq
  refine wpAny_Tuple_spliced (thn (h pos pins s σ H _ I hq) fun us s1 ⟨xs, H1, I1, r, z, q⟩ => ⟨by rw [← r.length]; exact z, ?_⟩)
  have hf : H1 s1.heap.objs.size = none := I1.hok.fresh (Nat.le_refl _)
  refine ⟨.ref s1.heap.objs.size, upd H1 s1.heap.objs.size (.tup xs), I1.laid (t' := s1.toks) (fun b u e => Heap.get?_push_of_some _ e) (Nat.le_refl _) ?_, rfl, q _ hf⟩
  exact ⟨z, us, r, ⟨_, Heap.get?_push_size _ rfl, rfl, _, rfl⟩⟩
theorem pe_lst (h : PA X es t) : PE X (.List es pos) (tLst t) := by
  intro pins s σ H Q I hq
  refine wpAny_List_spliced (thn (h pos pins s σ H _ I hq) fun us s1 ⟨xs, H1, I1, r, z, q⟩ => ⟨by rw [← r.length]; exact z, ?_⟩)
  have hf : H1 s1.heap.objs.size = none := I1.hok.fresh (Nat.le_refl _)
  refine ⟨.ref s1.heap.objs.size, upd H1 s1.heap.objs.size (.lst xs), I1.laid (t' := s1.toks) (fun b u e => Heap.get?_push_of_some _ e) (Nat.le_refl _) ?_, rfl, q _ hf⟩
  exact ⟨z, us, 0, r, Heap.get?_push_size _ rfl⟩
end

noncomputable abbrev Sp := List V → Hp → VK → XK → Prop
noncomputable abbrev CXT := List Env → Hp → Shared → XK → Value → Shared → Prop

structure Env0 (P : Program) (w : World) (K : PySem.W.Frag) (mg : Str → Option Value) (base : Heap) (A : Around) (outer : List Env) (s : Shared) (H : Hp) : Prop where
  frames : A.frames = some outer
  mod : Mod K mg base
  bs : ∀ b o, base.get? b = some o → s.heap.get? b = some o ∧ H b = none
  bsz : base.objs.size ≤ s.heap.objs.size
  funs : s.heap.FunFrames base outer
  frf : ∀ b ∈ frs outer, H b = none
  hok : HOk P w H s.heap
  bare : AllBare s.gens
noncomputable def CE (outer : List Env) (P : Program) (w : World) (H : Hp) (s : Shared) (Q : VK) (u : Value) (s' : Shared) : Prop :=
  ∃ v H', s'.os = s.os ∧ AllBare s'.gens ∧ Un (frs outer) [] H H' s.heap s'.heap ∧ HOk P w H' s'.heap ∧ RelV v u ∧ Q v H'
noncomputable def CR (CX : CXT) (outer : List Env) (P : Program) (w : World) (H : Hp) (s : Shared) (Q : VK) (E : XK) (r : Result) (s' : Shared) : Prop :=
  match r with
  | .ok (.ret u) => CE outer P w H s Q u s'
  | .ok _ => False
  | .error e => CX outer H s E e s'
structure FnOk (P : Program) (w : World) (K : PySem.W.Frag) (mg : Str → Option Value) (base : Heap) (CX : CXT) (k : Nat) (f : Addr) (fd : FuncData) (ps : List Str) (sp : Sp) : Prop where
  len : ∀ vs H Q E, sp vs H Q E → vs.length = ps.length
  run : ∀ (A : Around) (outer : List Env) (s : Shared) (H : Hp) (args : Args) (us : List Value) (vs : List V) (Q : VK) (E : XK), Room k A → Env0 P w K mg base A outer s H → BindsTo s fd args (ps.zip us) → Vals vs us → sp vs H Q E →
    codeAny (model P w) A (.call (.ref f) args) (CR CX outer P w H s Q E) s
theorem Env0.make {P : Program} {w : World} {K : PySem.W.Frag} {mg : Str → Option Value} {base : Heap} {A : Around} {outer : List Env} {s : Shared} {H : Hp} (e : Env0 P w K mg base A outer s H) (C : Addr) (us : List Value) (kw : List (Str × Value)) :
    Env0 P w K mg base (A.under (.builtin "type.__call__" ⟨.ref C :: us, kw⟩)) outer s H := ⟨by first | exact e.frames | (simpa [Around.under, Code.envs, Code.isFrame, pushEnvs] using e.frames), e.mod, e.bs, e.bsz, e.funs, e.frf, e.hok, e.bare⟩
section
variable {X : Cx} {pins : List (Addr × Obj)} {σ : St} {H : Hp} {s s' : Shared}
theorem Inv.env0 (I : Inv X pins σ H s) : Env0 X.prog X.w X.K X.mg X.base X.A X.stack s H :=
  ⟨I.ok.frames, I.ok.mod, I.bs, Nat.le_trans I.ok.bsz I.sz, I.stack, I.stkFree, I.hok, I.bare⟩
theorem Inv.after {Q : VK} {u : Value} (I : Inv X pins σ H s) (h : CE X.stack X.prog X.w H s Q u s') : EP X pins σ Q u s' := by
  obtain ⟨v, H', os, bare, un, hok, r, q⟩ := h
  obtain ⟨hh, g, d, t, os'⟩ := s'
  obtain rfl : os' = s.os := os
  exact ⟨v, H', I.call (h' := hh) (g' := g) (d' := d) (t' := t) (ch := []) un hok bare (fun b z => absurd z (by simp)), r, q⟩
end

noncomputable def tCall (sp : Sp) (dvs : List V) (E : XK) (t : TA) : TE := fun σ H Q => t σ H fun vs H1 => sp (vs ++ dvs) H1 Q E
noncomputable def tMeth (C : Addr) (m : Str) (sp : Sp) (dvs : List V) (E : XK) (ta : TE) (t : TA) : TE := fun σ H Q => ta σ H fun x H1 => ∃ a dx fs, x = .ref a ∧ H1 a = some (.ins C dx fs) ∧ fs.lookup m = none ∧
  t σ H1 fun vs H2 => sp (x :: (vs ++ dvs)) H2 Q E
noncomputable def tMake (C : Addr) (sp : Sp) (dvs : List V) (E : XK) (t : TA) : TE := fun σ H Q => t σ H fun vs H1 => ∀ x dx, H1 x = none → H1 dx = none → dx ≠ x →
  sp (.ref x :: (vs ++ dvs)) (upd (upd H1 dx (.own x)) x (.ins C dx [])) (fun v H2 => v = .non ∧ Q (.ref x) H2) E

noncomputable def Binds (K : PySem.W.Frag) (fd : FuncData) (ps : List Str) (ds : List Value) : Prop :=
  ∀ (s : Shared) (us : List Value), K.In s.heap → (us ++ ds).length = ps.length → BindsTo s fd ⟨us, []⟩ (ps.zip (us ++ ds))
theorem Binds.all {K : PySem.W.Frag} {fd : FuncData} {ps : List Str} (h : ∀ us : List Value, us.length = ps.length → bindArgs fd ⟨us, []⟩ = pure (ps.zip us)) : Binds K fd ps [] := fun s us _ hl => by
  rw [List.append_nil] at hl ⊢
  exact .of_eq (h us hl)

noncomputable def Passes (CX : CXT) (X : Cx) (E : XK) : Prop := ∀ (pins : List (Addr × Obj)) (σ : St) (H : Hp) (s : Shared) (e : Value) (s' : Shared), Inv X pins σ H s → CX X.stack H s E e s' → X.xe e s'

section
variable {X : Cx} {CX : CXT} {k : Nat} {f C : Addr} {fd : FuncData} {ps : List Str} {sp : Sp} {dvs : List V} {ds : List Value} {E : XK} {x m : Str} {p pos apos : Pos} {e o : Expr} {es : List Expr} {ta : TE} {t : TA}

theorem run_fn {pins : List (Addr × Obj)} {σ : St} {H : Hp} {s : Shared} {Q : VK} {us : List Value} {vs : List V} (F : FnOk X.prog X.w X.K X.mg X.base CX k f fd ps sp) (hr : Room k X.A) (hb : Binds X.K fd ps ds) (hd : Vals dvs ds) (hx : Passes CX X E)
    (I : Inv X pins σ H s) (r : Vals vs us) (h : sp (vs ++ dvs) H Q E) : wpAny (model X.prog X.w) X.A (call (.ref f) us) (EP X pins σ Q) X.xe s := by
  have r2 : Vals (vs ++ dvs) (us ++ ds) := r.append hd
  have hl : (us ++ ds).length = ps.length := by rw [← r2.length]; exact F.len _ _ _ _ h
  refine wpAny_call (codeAny_mono (F.run X.A X.stack s H ⟨us, []⟩ (us ++ ds) (vs ++ dvs) Q E hr I.env0 (hb s us I.kIn hl) r2 h) fun r s' hq => ?_)
  cases r with
  | error e => exact hx pins σ H s e s' I hq
  | ok fl =>
    cases fl with
    | ret u => exact I.after hq
    | next => exact False.elim hq
    | brk => exact False.elim hq
    | cont => exact False.elim hq

theorem pe_call (F : FnOk X.prog X.w X.K X.mg X.base CX k f fd ps sp) (hr : Room k X.A) (hg : Gl X x) (hm : X.mg x = some (.ref f)) (hk : PySem.W.keepIn X.K (.ref f) = true) (hb : Binds X.K fd ps ds) (hd : Vals dvs ds) (hx : Passes CX X E)
    (ha : PA X (e :: es) t) (hdb : (x == ("__debug__" : Str)) = false := by decide) (he : starEach (e :: es) X.env = (false, eval e X.env) :: starEach es X.env := by rfl) (hpl : (backTo pos (starEach es X.env)).any (·.1) = false := by rfl) :
    PE X (.Call (.Name x p) (e :: es) [] pos) (tCall sp dvs E t) := by
  intro pins s σ H Q I h
  refine wpAny_Call_Name_kw (ld_glob I hg hm ?_ hdb)
  refine PySem.W.callWith_K (h₀ := X.base) I.ok.mod.kin hk (thn (ha pos pins s σ H _ I h) fun us s1 ⟨vs, H1, I1, r, q⟩ => ⟨I1.kIn, ?_⟩) he hpl
  exact run_fn F hr hb hd hx I1 r q
theorem pe_meth {pl : Sem Bool} (he : PE X o ta) (c : Cls X.K C) (hm : Meth X.K C m f) (F : FnOk X.prog X.w X.K X.mg X.base CX k f fd ps sp) (hr : Room k X.A) (hb : Binds X.K fd ps ds) (hd : Vals dvs ds) (hx : Passes CX X E) (ha : PA X (e :: es) t)
    (hst : starEach (e :: es) X.env = (false, eval e X.env) :: starEach es X.env := by rfl) (hpl : (backTo pos (starEach es X.env)).any (·.1) = false := by rfl)
    (ht : eval (.Call (.Attribute o m apos) (e :: es) [] pos) X.env = (do
      let ov ← eval o X.env
      standAt apos.atName
      let (f, first) ← holding [ov] (getMethod ov m pl)
      callWith pos f first (backTo pos (starEach (e :: es) X.env)) (backToKw pos (keywordEach [] X.env))) := by rfl) :
    PE X (.Call (.Attribute o m apos) (e :: es) [] pos) (tMeth C m sp dvs E ta t) := by
  intro pins s σ H Q I h
  refine PySem.W.methodCall_KW (pl := pl) (thn (he pins s σ H _ I h) fun u s1 ⟨x, H1, I1, rx, a, dx, fs, ex, ea, l, q⟩ => ?_) ht
  subst ex
  obtain rfl : u = Value.ref a := rx
  refine getmeth_ok I1 ea c hm l ?_
  refine PySem.W.callWith_K (first := [.ref a]) (h₀ := X.base) I.ok.mod.kin hm.kp (thn (ha pos pins s1 σ H1 _ I1 q) fun us s2 ⟨vs, H2, I2, r, q2⟩ => ⟨I2.kIn, ?_⟩) hst hpl
  exact run_fn (us := .ref a :: us) (vs := .ref a :: vs) F hr hb hd hx I2 (.cons rfl r) q2
theorem pe_meth0 {pl : Sem Bool} (he : PE X o ta) (c : Cls X.K C) (hm : Meth X.K C m f) (F : FnOk X.prog X.w X.K X.mg X.base CX k f fd ps sp) (hr : Room k X.A) (hb : Binds X.K fd ps ds) (hd : Vals dvs ds) (hx : Passes CX X E)
    (ht : eval (.Call (.Attribute o m apos) [] [] pos) X.env = (do
      let ov ← eval o X.env
      standAt apos.atName
      let (f, first) ← holding [ov] (getMethod ov m pl)
      callWith pos f first (backTo pos (starEach [] X.env)) (backToKw pos (keywordEach [] X.env))) := by rfl) :
    PE X (.Call (.Attribute o m apos) [] [] pos) (tMeth C m sp dvs E ta tNil) := by
  intro pins s σ H Q I h
  refine PySem.W.methodCall_KW (pl := pl) (thn (he pins s σ H _ I h) fun u s1 ⟨x, H1, I1, rx, a, dx, fs, ex, ea, l, q⟩ => ?_) ht
  subst ex
  obtain rfl : u = Value.ref a := rx
  refine getmeth_ok I1 ea c hm l ?_
  exact PySem.W.callWith_K0 (first := [.ref a]) I1.kIn hm.kp (run_fn (us := [.ref a]) (vs := [.ref a]) F hr hb hd hx I1 (.cons rfl .nil) q)

structure Mk (K : PySem.W.Frag) (C f : Addr) : Prop where
  makes : PySem.W.makesIn K C = true
  init : PySem.W.findIn K (.ref C) "__init__" = some (some (.ref f))
  fn : PySem.W.isFn K (.ref f) = true
  kp : PySem.W.keepIn K (.ref C) = true

theorem run_make {pins : List (Addr × Obj)} {σ : St} {H : Hp} {s : Shared} {Q : VK} {us : List Value} {vs : List V} (M : Mk X.K C f) (F : FnOk X.prog X.w X.K X.mg X.base CX k f fd ps sp) (hr : Room (k + 1) X.A) (hb : Binds X.K fd ps ds) (hd : Vals dvs ds)
    (hx : Passes CX X E) (I : Inv X pins σ H s) (r : Vals vs us)
    (h : ∀ x dx, H x = none → H dx = none → dx ≠ x → sp (.ref x :: (vs ++ dvs)) (upd (upd H dx (.own x)) x (.ins C dx [])) (fun v H2 => v = .non ∧ Q (.ref x) H2) E) :
    wpAny (model X.prog X.w) X.A (call (.ref C) us) (EP X pins σ Q) X.xe s := by
  have hq := h (s.heap.objs.size + 1) s.heap.objs.size (I.hok.fresh (Nat.le_succ _)) (I.hok.fresh (Nat.le_refl _)) (Nat.ne_of_lt (Nat.lt_succ_self _))
  have I2 := Inv.made (C := C) I
  have r2 : Vals (V.ref (s.heap.objs.size + 1) :: (vs ++ dvs)) (Value.ref (s.heap.objs.size + 1) :: (us ++ ds)) := .cons rfl (r.append hd)
  have hl : (Value.ref (s.heap.objs.size + 1) :: us ++ ds).length = ps.length := by
    have e := r2.length
    rw [F.len _ _ _ _ hq] at e
    exact e.symm
  refine wpAny_call (make_map (f := f) I.kIn M.makes M.init (beq_iff_eq.mp M.fn) (codeAny_mono (F.run _ X.stack _ _ ⟨Value.ref (s.heap.objs.size + 1) :: us, []⟩ (Value.ref (s.heap.objs.size + 1) :: (us ++ ds)) _ _ E (hr.make C us [])
    (I2.env0.make C us []) (hb _ (Value.ref (s.heap.objs.size + 1) :: us) I2.kIn hl) r2 hq) fun r s' hq' => ?_))
  cases r with
  | error e => exact hx pins σ _ _ e s' I2 hq'
  | ok fl =>
    cases fl with
    | ret u =>
      obtain ⟨v, H', I3, rv, ev, q3⟩ := I2.after hq'
      subst ev
      exact ⟨rv, ⟨V.ref (s.heap.objs.size + 1), H', I3, rfl, q3⟩⟩
    | next => exact False.elim hq'
    | brk => exact False.elim hq'
    | cont => exact False.elim hq'
theorem pe_make (M : Mk X.K C f) (F : FnOk X.prog X.w X.K X.mg X.base CX k f fd ps sp) (hr : Room (k + 1) X.A) (hg : Gl X x) (hm : X.mg x = some (.ref C)) (hb : Binds X.K fd ps ds) (hd : Vals dvs ds) (hx : Passes CX X E)
    (ha : PA X (e :: es) t) (hdb : (x == ("__debug__" : Str)) = false := by decide) (he : starEach (e :: es) X.env = (false, eval e X.env) :: starEach es X.env := by rfl) (hpl : (backTo pos (starEach es X.env)).any (·.1) = false := by rfl) :
    PE X (.Call (.Name x p) (e :: es) [] pos) (tMake C sp dvs E t) := by
  intro pins s σ H Q I h
  refine wpAny_Call_Name_kw (ld_glob I hg hm ?_ hdb)
  refine PySem.W.callWith_K (h₀ := X.base) I.ok.mod.kin M.kp (thn (ha pos pins s σ H _ I h) fun us s1 ⟨vs, H1, I1, r, q⟩ => ⟨I1.kIn, ?_⟩) he hpl
  exact run_make M F hr hb hd hx I1 r q
end

section
variable {X : Cx} {CX : CXT} {k : Nat} {f C : Addr} {fd : FuncData} {ps ks : List Str} {sp : Sp} {E : XK} {x m : Str} {p pos apos kpos : Pos} {e o : Expr} {es : List Expr} {kws : List Keyword} {te ta : TE} {t tk : TA} {nm : Option Str}
variable {g : List Value → List Value → List Value} {gV : List V → List V → List V}
end

structure FnScope (N P : List Str) (sc : Scope) : Prop where
  kind : sc.kind = .function
  co : sc.isCoroutine = false
  gen : sc.isGenerator = false
  nd : N.Nodup
  pre : N.take P.length = P
  par : ∀ x ∈ P, sc.names.lookup x = some .local ∨ sc.names.lookup x = some .cell
  nofree : ∀ y ∈ sc.names, y.2 ≠ .free

theorem bindL_out {kindOf : Str → Option NameKind} {x : Str} : ∀ {binds : List (Str × Value)} {m : Str → Option Value}, (∀ v, (x, v) ∉ binds) → bindL kindOf binds m x = m x
  | [], _, _ => rfl
  | (n, v) :: r, m, h => by
    unfold bindL
    rw [bindL_out fun w hw => h w (List.mem_cons_of_mem _ hw)]
    split
    · have : x ≠ n := by rintro rfl; exact h v List.mem_cons_self
      simp [this]
    · rfl
theorem bindC_out {kindOf : Str → Option NameKind} {x : Str} : ∀ {binds : List (Str × Value)} {m : Str → Option Value}, (∀ v, (x, v) ∉ binds) → bindC kindOf binds m x = m x
  | [], _, _ => rfl
  | (n, v) :: r, m, h => by
    unfold bindC
    rw [bindC_out fun w hw => h w (List.mem_cons_of_mem _ hw)]
    split
    · rfl
    · have : x ≠ n := by rintro rfl; exact h v List.mem_cons_self
      simp [this]
theorem bindL_get {kindOf : Str → Option NameKind} {x : Str} {v : Value} : ∀ {P : List Str} {vs : List Value} {i : Nat} {m : Str → Option Value}, P.Nodup → P[i]? = some x → vs[i]? = some v → kindOf x = some .local →
    bindL kindOf (P.zip vs) m x = some v
  | [], _, _, _, _, h, _, _ => by simp at h
  | _ :: _, [], _, _, _, _, h, _ => by simp at h
  | p :: P, w :: vs, 0, m, nd, h1, h2, hk => by
    simp at h1 h2; subst h1; subst h2
    show bindL kindOf ((p, w) :: P.zip vs) m p = _
    unfold bindL
    rw [bindL_out fun v hv => (List.nodup_cons.mp nd).1 (List.of_mem_zip hv).1, if_pos hk]
    simp
  | p :: P, w :: vs, i + 1, m, nd, h1, h2, hk => by
    show bindL kindOf ((p, w) :: P.zip vs) m x = _
    unfold bindL
    exact bindL_get (i := i) (List.nodup_cons.mp nd).2 (by simpa using h1) (by simpa using h2) hk
theorem bindC_get {kindOf : Str → Option NameKind} {x : Str} {v : Value} : ∀ {P : List Str} {vs : List Value} {i : Nat} {m : Str → Option Value}, P.Nodup → P[i]? = some x → vs[i]? = some v → kindOf x ≠ some .local →
    bindC kindOf (P.zip vs) m x = some v
  | [], _, _, _, _, h, _, _ => by simp at h
  | _ :: _, [], _, _, _, _, h, _ => by simp at h
  | p :: P, w :: vs, 0, m, nd, h1, h2, hk => by
    simp at h1 h2; subst h1; subst h2
    show bindC kindOf ((p, w) :: P.zip vs) m p = _
    unfold bindC
    rw [bindC_out fun v hv => (List.nodup_cons.mp nd).1 (List.of_mem_zip hv).1, if_neg hk]
    simp
  | p :: P, w :: vs, i + 1, m, nd, h1, h2, hk => by
    show bindC kindOf ((p, w) :: P.zip vs) m x = _
    unfold bindC
    exact bindC_get (i := i) (List.nodup_cons.mp nd).2 (by simpa using h1) (by simpa using h2) hk

noncomputable def start (N : List Str) (vs : List V) : St := vs.map some ++ List.replicate (N.length - vs.length) none

noncomputable def cxOf (CX : CXT) (P : Program) (w : World) (K : PySem.W.Frag) (mg : Str → Option Value) (base : Heap) (N : List Str) (qual : Str) (scope : Scope) (f : Addr) (cd : Value) (A : Around) (outer : List Env) (s : Shared) (H : Hp) (E : XK) : Cx where
  prog := P
  w := w
  K := K
  mg := mg
  base := base
  A := A.deeper (envOfC qual scope s.heap.objs.size f cd)
  N := N
  s₀ := s
  H₀ := H
  env := envOfC qual scope s.heap.objs.size f cd
  outer := outer
  stack := envOfC qual scope s.heap.objs.size f cd :: outer
  ex := []
  calm := true
  fn := fun _ => true
  pn := []
  xe := fun e s' => wpAny (model P w) (A.deeper (envOfC qual scope s.heap.objs.size f cd)) (leaving (envOfC qual scope s.heap.objs.size f cd) e) (fun _ s'' => CX outer H s E e s'') (fun e' s'' => CX outer H s E e' s'') s'

theorem cell_has {sc : Scope} {n : Nat} {x : Str} (h : sc.names.lookup x = some .cell) : ∃ c, (cellsFrom n sc.names []).lookup x = some c := by
  have q := PySem.W.cellsFrom_some sc.names n [] (.inl h)
  exact Option.isSome_iff_exists.mp q

theorem inv_start {CX : CXT} {P : Program} {w : World} {K : PySem.W.Frag} {mg : Str → Option Value} {base : Heap} {N ps : List Str} {qual : Str} {scope : Scope} {f : Addr} {cd : Value} {A : Around} {outer : List Env} {s s1 : Shared} {H : Hp} {E : XK} {us : List Value} {vs : List V}
    (S : FnScope N ps scope) (hd : A.handled = none) (e0 : Env0 P w K mg base A outer s H) (hl : vs.length = ps.length) (r : Vals vs us)
    (x : InCallC s s.heap.objs.size (bindL (envOfC qual scope s.heap.objs.size f cd).kindOf (ps.zip us) fun _ => none) (cellsFrom (s.heap.objs.size + 1) scope.names []) (bindC (envOfC qual scope s.heap.objs.size f cd).kindOf (ps.zip us) fun _ => none) s1) :
    Inv (cxOf CX P w K mg base N qual scope f cd A outer s H E) [] (start N vs) H s1 := by
  have hpl : ps.length ≤ N.length := by have := congrArg List.length S.pre; rw [List.length_take] at this; omega
  obtain ⟨h1, tk, rfl, hk⟩ := x.done
  have noA : ∀ b : Addr, b ∉ (cxOf CX P w K mg base N qual scope f cd A outer s H E).ex := fun b z => absurd (show b ∈ ([] : List Addr) from z) (by simp)
  refine ⟨⟨e0.mod, S.kind, rfl, rfl, Nat.le_refl _, fun y z c h1 h2 => ?_, fun y hy => ?_, fun y c _ h => ?_, fun _ => hd, Around.frames_deeper e0.frames, .inr ⟨rfl, rfl⟩, fun b z => absurd z (noA b), e0.bs, e0.bsz, fun b _ _ => noA b, fun b z => absurd z (noA b), e0.funs, e0.frf⟩,
    rfl, e0.bare, Un.kept hk, ⟨_, x.toInCall.ns, fun i y v h1 h2 h3 => ?_⟩, fun y c h => ⟨_, x.cell y c h⟩, e0.hok.fresh (Nat.le_refl _), fun y c h => ?_, fun p hp => absurd (show p ∈ ([] : List (Addr × Obj)) from hp) (by simp), e0.hok.kept hk, ?_⟩
  · exact name_of_addr x.apart (PySem.mem_of_lookup h1) (PySem.mem_of_lookup h2)
  · have hy : scope.names.lookup y = some .cell ∨ scope.names.lookup y = some .free := hy
    rcases hy with hy | hy
    · exact cell_has hy
    · exact absurd rfl (S.nofree _ (PySem.mem_of_lookup hy))
  · exact Nat.le_of_lt (x.above y c (PySem.mem_of_lookup h))
  · have hi : i < vs.length := by
      unfold start at h2
      by_cases hi : i < vs.length
      · exact hi
      · rw [List.getElem?_append_right (by simpa using hi)] at h2
        rw [List.getElem?_replicate] at h2
        split at h2 <;> cases h2
    have ha : vs[i]? = some v := by
      unfold start at h2
      rw [List.getElem?_append_left (by simpa using hi), List.getElem?_map] at h2
      cases e : vs[i]? with
      | none => rw [e] at h2; cases h2
      | some a => rw [e] at h2; cases h2; rfl
    obtain ⟨u, hu, rv⟩ := r.get ha
    have hp : ps[i]? = some y := by
      rw [← S.pre, List.getElem?_take_of_lt (by omega)]; exact h1
    have ndP : ps.Nodup := by rw [← S.pre]; exact S.nd.sublist (List.take_sublist _ _)
    refine ⟨u, rv, ?_⟩
    rcases S.par y (List.mem_of_getElem? hp) with k | k
    · exact .inl ⟨k, bindL_get ndP hp hu k⟩
    · obtain ⟨c, e⟩ := cell_has (n := s.heap.objs.size + 1) k
      refine .inr ⟨.inl k, c, e, ?_⟩
      have q := x.cell y c e
      rw [bindC_get ndP hp hu (by show scope.names.lookup y ≠ _; rw [k]; decide)] at q
      exact q
  · exact e0.hok.fresh (Nat.le_of_lt (x.above y c (PySem.mem_of_lookup h)))
  · unfold start
    show _ = N.length
    rw [List.length_append, List.length_map, List.length_replicate]
    omega

theorem fn_of {CX : CXT} {P : Program} {w : World} {K : PySem.W.Frag} {mg : Str → Option Value} {base : Heap} {k : Nat} {f : Addr} {name qual : Str} {params : Arguments} {body : List Stmt} {scope : Scope} {dV kV doc pm cdv ct oc : Value} {an od : Option Addr}
    {osl : Array (Option Value)} {N ps : List Str} {sp : Sp} (lk : K.lookup f = some ⟨oc, od, .func (PySem.W.fnOf name qual params body scope dV kV doc pm an cdv ct), osl⟩) (hcd : PySem.W.codeIn K cdv qual = true) (S : FnScope N ps scope)
    (len : ∀ vs H Q E, sp vs H Q E → vs.length = ps.length)
    (hbody : ∀ (A : Around) (outer : List Env) (s : Shared) (H : Hp) (vs : List V) (Q : VK) (E : XK), Room k (A.deeper (envOfC qual scope s.heap.objs.size f cdv)) → sp vs H Q E →
      ∃ t, PSs (cxOf CX P w K mg base N qual scope f cdv A outer s H E) body t ∧ t { nx := fun _ H' => Q .non H', rt := Q } (start N vs) H) :
    FnOk P w K mg base CX (k + 1) f (PySem.W.fnOf name qual params body scope dV kV doc pm an cdv ct) ps sp := by
  refine ⟨len, fun A outer s H args us vs Q E hr e0 hb r hsp => ?_⟩
  have hl := len _ _ _ _ hsp
  have KX : K.In s.heap := e0.mod.kin.keeps fun b o e => (e0.bs b o e).1
  have lim : s.heap.NoLimit := e0.mod.nolimit.keeps fun b o e => (e0.bs b o e).1
  have hkind : ∀ y ∈ ps.zip us, scope.names.lookup y.1 = some .local ∨ (scope.names.lookup y.1 = some .cell ∧ ((cellsFrom (s.heap.objs.size + 1) scope.names []).lookup y.1).isSome = true) := fun ⟨n, v⟩ hy => by
    rcases S.par n (List.of_mem_zip hy).1 with q | q
    · exact .inl q
    · exact .inr ⟨q, PySem.W.cellsFrom_some _ _ _ (.inl q)⟩
  refine codeAny_call_function hr.depth (KX _ _ lk) rfl S.co S.gen rfl (PySem.W.codeRec_of KX hcd) (hb _ _ _ _ ?_)
  refine wpAny_newFunctionEnv_cells S.kind hkind fun env he s1 x => ?_
  subst he
  refine ⟨lim.keeps x.toInCall.keep, codeAny_func ?_⟩
  obtain ⟨t, ht, hq⟩ := hbody A outer s H vs Q E (hr.deeper _) hsp
  have I : Inv (cxOf CX P w K mg base N qual scope f cdv A outer s H E) [] (start N vs) H s1 := inv_start S hr.hd e0 hl r x
  refine wpAny_mono (ht [] s1 (start N vs) H _ I hq) (fun fl s' hs => ?_) fun e s' hs => hs
  have fin : ∀ {σ' : St} {H' : Hp} {v : V} {u : Value}, Inv (cxOf CX P w K mg base N qual scope f cdv A outer s H E) [] σ' H' s' → RelV v u → Q v H' → CE outer P w H s Q u s' :=
    fun {σ' H' v u} J rv q => ⟨v, H', J.os, J.bare, J.base, J.hok, rv, q⟩
  cases fl with
  | ret u =>
    obtain ⟨v, σ', H', J, rv, q⟩ := hs
    exact fin J rv q
  | next =>
    obtain ⟨σ', H', J, q⟩ := hs
    exact fin (v := V.non) (u := Value.none) J rfl q
  | brk =>
    obtain ⟨_, _, _, q⟩ := hs
    exact False.elim q
  | cont =>
    obtain ⟨_, _, _, q⟩ := hs
    exact False.elim q
end L2

namespace L2
open PySem PySem.Spec PyProof.Rows
section
variable {X : Cx} {x : Str} {p pos : Pos} {e : Expr} {es : List Expr} {t : TA} {id T : String} {r : List V → Hp → VK → Prop}

noncomputable def tCB (r : List V → Hp → VK → Prop) (t : TA) : TE := fun σ H Q => t σ H fun vs H1 => r vs H1 Q
theorem pe_callB (hc : CallR X (.builtin id) r) (hg : Gl X x) (hm : X.mg x = none) (hv : bootBuiltins x = some (.builtin id)) (ha : PA X (e :: es) t) (hn : x ≠ "__name__" := by decide) (hdb : (x == ("__debug__" : Str)) = false := by decide)
    (he : starEach (e :: es) X.env = (false, eval e X.env) :: starEach es X.env := by rfl) (hpl : (backTo pos (starEach es X.env)).any (·.1) = false := by rfl) : PE X (.Call (.Name x p) (e :: es) [] pos) (tCB r t) := by
  intro pins s σ H Q I h
  refine wpAny_Call_Name_kw (ld_blt I hg hm hv ?_ hn hdb)
  exact PyProof.Rows.callWith_builtin1 (thn (ha pos pins s σ H _ I h) fun us s1 ⟨vs, H1, I1, r1, q1⟩ => hc pins s1 σ H1 vs us Q I1 r1 q1) he hpl
theorem pe_callTy (hc : CallR X (.type T) r) (hg : Gl X x) (hm : X.mg x = none) (hv : bootBuiltins x = some (.type T)) (ha : PA X (e :: es) t) (hn : x ≠ "__name__" := by decide) (hdb : (x == ("__debug__" : Str)) = false := by decide)
    (he : starEach (e :: es) X.env = (false, eval e X.env) :: starEach es X.env := by rfl) (hpl : (backTo pos (starEach es X.env)).any (·.1) = false := by rfl) : PE X (.Call (.Name x p) (e :: es) [] pos) (tCB r t) := by
  intro pins s σ H Q I h
  refine wpAny_Call_Name_kw (ld_blt I hg hm hv ?_ hn hdb)
  exact PyProof.Rows.callWith_type1 (thn (ha pos pins s σ H _ I h) fun us s1 ⟨vs, H1, I1, r1, q1⟩ => hc pins s1 σ H1 vs us Q I1 r1 q1) he hpl
end
end L2

namespace HT
open PySem PyProof.Rows

noncomputable def lexLt : List Int → List Int → Bool
  | [], [] => false
  | [], _ :: _ => true
  | _ :: _, [] => false
  | x :: xs, y :: ys => if x = y then lexLt xs ys else decide (x < y)
section
open PySem.SeqAt
open PySem.AutoSeq1 (wpAny_loadPart')
open PySem.MeetsSeq PySem.MeetsSeq2 PySem.MeetsSeq3

end

section
variable {prog : Program} {w : World} {A : Around} {E : Value → Shared → Prop} {s : Shared}

noncomputable def sIx (n d : Nat) : Option Int → Nat
  | none => d
  | some v => if v < 0 then (v + (n : Int)).toNat else min v.toNat n
theorem sIx_le (n d : Nat) (hd : d ≤ n) (o : Option Int) : sIx n d o ≤ n := by
  cases o with
  | none => exact hd
  | some v =>
    show (if v < 0 then (v + (n : Int)).toNat else min v.toNat n) ≤ n
    by_cases hv : v < 0
    · rw [if_pos hv]; omega
    · rw [if_neg hv]; exact Nat.min_le_right _ _
theorem clip_eq (v : Int) (n d : Nat) : (if v < 0 then max (v + (n : Int)) 0 else min v (n : Int)) = ((sIx n d (some v) : Nat) : Int) := by
  show (if v < 0 then max (v + (n : Int)) 0 else min v (n : Int)) = (((if v < 0 then (v + (n : Int)).toNat else min v.toNat n) : Nat) : Int)
  by_cases hv : v < 0
  · simp only [if_pos hv]; omega
  · simp only [if_neg hv]; omega
theorem adjust_gen (lo hi : Option Int) (n : Nat) : Builtin.Slice.sliceAdjust lo hi 1 (n : Int) = (((sIx n 0 lo : Nat) : Int), ((sIx n n hi : Nat) : Int)) := by
  have h1 : ¬ ((1 : Int) < 0) := by omega
  unfold Builtin.Slice.sliceAdjust
  simp only [h1, if_false]
  refine Prod.ext ?_ ?_
  · cases lo with
    | none => rfl
    | some v => exact clip_eq v n 0
  · cases hi with
    | none => rfl
    | some v => exact clip_eq v n n
theorem places_gen (i j : Nat) : Builtin.Slice.slicePlaces (i : Int) (j : Int) 1 = j - i := by
  unfold Builtin.Slice.slicePlaces
  have h1 : (1 : Int) > 0 := by omega
  simp only [h1, if_true, Int.ediv_one]
  split <;> omega
theorem slicePart_ {v : Value} {o : Option Int} {Q : Option Int → Shared → Prop} (p : IsPart v o) (h : Q o s) : wpAny (model prog w) A (Builtin.Slice.slicePartIndex v) Q E s := by
  cases p with
  | none => exact slicePart_none h
  | int i t => exact slicePart_int h
theorem sliceApplied_gen {sl : Addr} {vl vu : Value} {lo hi : Option Int} {n : Nat} {Q : Int × Int × Nat → Shared → Prop} (hs : s.heap.IsSliceOf sl vl vu .none) (pl : IsPart vl lo) (pu : IsPart vu hi)
    (h : Q (((sIx n 0 lo : Nat) : Int), 1, sIx n n hi - sIx n 0 lo) s) : wpAny (model prog w) A (Builtin.Slice.sliceApplied (.ref sl) (pure (n : Int))) Q E s := by
  obtain ⟨os, hos, hcs, hds⟩ := id hs
  unfold Builtin.Slice.sliceApplied Builtin.Slice.sliceFields
  refine wpAny_bind (wpAny_bind (wpAny_field hos hds (x := vl) rfl (wpAny_bind (wpAny_field hos hds (x := vu) rfl (wpAny_bind (wpAny_field hos hds (x := .none) rfl (wpAny_pure ?_)))))))
  refine wpAny_bind (slicePart_none ?_)
  show wpAny _ _ (if ((1 : Int) == 0) = true then _ else _) _ _ s
  rw [if_neg (by decide)]
  refine wpAny_bind (slicePart_ pl (wpAny_bind (slicePart_ pu (wpAny_bind (wpAny_pure ?_)))))
  show wpAny _ _ (match Builtin.Slice.sliceAdjust lo hi 1 (n : Int) with | (lo, hi) => pure (lo, (1 : Int), Builtin.Slice.slicePlaces lo hi 1)) _ _ s
  rw [adjust_gen lo hi n]
  show wpAny _ _ (pure (((sIx n 0 lo : Nat) : Int), (1 : Int), Builtin.Slice.slicePlaces ((sIx n 0 lo : Nat) : Int) ((sIx n n hi : Nat) : Int) 1)) _ _ s
  rw [places_gen]
  exact wpAny_pure h
theorem pick_gen (xs : Array Value) (i k : Nat) : ((List.range k).filterMap fun (m : Nat) => xs[((i : Int) + (m : Int) * 1).toNat]?).toArray = ((xs.toList.drop i).take k).toArray := by
  have e : (fun (m : Nat) => xs[((i : Int) + (m : Int) * 1).toNat]?) = fun m => xs[i + m]? := by
    funext m
    have : ((i : Int) + (m : Int) * 1).toNat = i + m := by omega
    rw [this]
  rw [e]
  have := pick_run xs i k
  rw [List.filterMap_map] at this
  have e2 : ((fun x => xs[x]?) ∘ fun x => i + x) = fun m => xs[i + m]? := rfl
  rw [e2] at this
  rw [this]

theorem getItem_tuple_cut {t sl : Addr} {items : Array Value} {vl vu : Value} {lo hi : Option Int} {Q : Value → Shared → Prop} (ht : IsTup s.heap t items) (hs : s.heap.IsSliceOf sl vl vu .none) (pl : IsPart vl lo) (pu : IsPart vu hi)
    (hw : ¬ (sIx items.size 0 lo = 0 ∧ sIx items.size items.size hi = items.size))
    (h : Q (.ref s.heap.objs.size) { s with heap := s.heap.push { cls := .type "tuple", data := .seq ((items.toList.drop (sIx items.size 0 lo)).take (sIx items.size items.size hi - sIx items.size 0 lo)).toArray } })
    (hsz : items.size ≤ sizeLine) : wpAny (model prog w) A (getItem (.ref t) (.ref sl)) Q E s := by
  have htake : sizeOk (.seq ((items.toList.drop (sIx items.size 0 lo)).take (sIx items.size items.size hi - sIx items.size 0 lo)).toArray) := by
    show ((items.toList.drop (sIx items.size 0 lo)).take (sIx items.size items.size hi - sIx items.size 0 lo)).toArray.size ≤ sizeLine
    rw [List.size_toArray, List.length_take, List.length_drop, Array.length_toList]
    omega
  have hj : sIx items.size items.size hi ≤ items.size := sIx_le _ _ (Nat.le_refl _) hi
  obtain ⟨os, hos, hcs, hds⟩ := id hs
  have hTs : s.TypeIs (.ref sl) "slice" := ⟨os, hos, hcs⟩
  unfold getItem
  try with_reducible refine wpAny_holding ?_
  first | refine wpAny_bind (wpAny_pure ?_) | skip
  refine wpAny_bind (wpAny_sequenceKey ht.typeIs (by decide) ?_)
  refine wpAny_bind (wpAny_callSpecial?_slot (name := Str.ofString "__getitem__") ht.typeIs PyProof.Rows.slot_tuple_getitem
    (wpAny_call_entry PyProof.Rows.slot_tuple_getitem ht.typeIs entry_tuple_getitem ?_ (args_tuple_getitem _ _)))
  show wpAny _ _ (Builtin.Tuple.tupleItemsOf (.ref t) >>= _) _ _ s
  refine wpAny_bind (tupleItemsOf_ ht ?_)
  refine wpAny_bind (wpAny_typeOf hTs ?_)
  rw [if_pos (by decide)]
  refine wpAny_bind (sliceApplied_gen hs pl pu ?_)
  have hno : ¬ ((((sIx items.size 0 lo : Nat) : Int) == 0 && (1 : Int) == 1 && (sIx items.size items.size hi - sIx items.size 0 lo) == items.size) = true) := by
    intro q
    rw [Bool.and_eq_true, Bool.and_eq_true] at q
    have q1 : ((sIx items.size 0 lo : Nat) : Int) = 0 := eq_of_beq q.1.1
    have q2 : sIx items.size items.size hi - sIx items.size 0 lo = items.size := eq_of_beq q.2
    exact hw ⟨by omega, by omega⟩
  show wpAny _ _ (if (((sIx items.size 0 lo : Nat) : Int) == 0 && (1 : Int) == 1 && (sIx items.size items.size hi - sIx items.size 0 lo) == items.size) = true then _ else _) _ _ s
  rw [if_neg hno, pick_gen]
  first
    | exact wpAny_bind (m := Builtin.Tuple.tupleExact _) (wpAny_newObj_type (wpAny_pure ⟨_, rfl, wpAny_pure h⟩) htake)
    | exact wpAny_bind (m := Builtin.Tuple.tupleExact _) (wpAny_newObj_type (wpAny_bind (wpAny_pure (wpAny_pure ⟨_, rfl, wpAny_pure h⟩))) htake)
    | exact wpAny_bind (wpAny_bind (m := Builtin.Tuple.tupleExact _) (wpAny_newObj_type (wpAny_pure (wpAny_pure ⟨_, rfl, wpAny_pure h⟩)) htake))
    | exact wpAny_bind (wpAny_bind (m := Builtin.Tuple.tupleExact _) (wpAny_newObj_type (wpAny_pure ⟨_, rfl, wpAny_pure h⟩) htake))
end
end HT

namespace L2
open PySem PySem.Spec PyProof.Rows

noncomputable abbrev TO := St → Hp → (Option Int → Hp → Prop) → Prop
noncomputable def PO (X : Cx) (e : Option Expr) (t : TO) : Prop :=
  ∀ (pins : List (Addr × Obj)) (s : Shared) (σ : St) (H : Hp) (Q : Option Int → Hp → Prop), Inv X pins σ H s → t σ H Q →
    wpAny (model X.prog X.w) X.A (evalPart e X.env) (fun u s' => ∃ o H', Inv X pins σ H' s' ∧ IsPart u o ∧ Q o H') X.xe s
noncomputable def tNoPart : TO := fun _ H Q => Q none H
noncomputable def tPart (t : TE) : TO := fun σ H Q => t σ H fun x H1 => ∃ i, x = .int i ∧ Q (some i) H1

section
variable {X : Cx} {e : Expr} {te : TE} {lo hi : Option Expr} {tl th : TO} {pos p2 : Pos}

theorem po_none : PO X none tNoPart := by
  intro pins s σ H Q I h
  rw [evalPart_none]
  exact wpAny_pure ⟨none, H, I, .none, h⟩
theorem po_some (h : PE X e te) : PO X (some e) (tPart te) := by
  intro pins s σ H Q I hw
  rw [evalPart_some]
  refine thn (h pins s σ H _ I hw) fun u s1 ⟨x, H1, I1, r1, q1⟩ => ?_
  obtain ⟨i, rfl, q⟩ := q1
  obtain ⟨t, rfl⟩ := r1
  exact ⟨some i, H1, I1, .int i t, q⟩

noncomputable def SlR (X : Cx) (r : V → Option Int → Option Int → Hp → VK → Prop) : Prop :=
  ∀ (pins : List (Addr × Obj)) (s : Shared) (σ : St) (H : Hp) (x : V) (v vl vu : Value) (lo hi : Option Int) (sl : Addr) (Q : VK), Inv X pins σ H s → RelV x v → s.heap.IsSliceOf sl vl vu .none → IsPart vl lo → IsPart vu hi → r x lo hi H Q →
    ∃ T id, typeLookup (.type T) "__getitem__" = pure (some (.builtin id)) ∧ s.TypeIs v T ∧ wpAny (model X.prog X.w) X.A (getItem v (.ref sl)) (EP X pins σ Q) X.xe s
noncomputable def tSl (r : V → Option Int → Option Int → Hp → VK → Prop) (te : TE) (tl th : TO) : TE := fun σ H Q => te σ H fun x H1 => tl σ H1 fun l H2 => th σ H2 fun u H3 => r x l u H3 Q
theorem pe_slice {r : V → Option Int → Option Int → Hp → VK → Prop} (hr : SlR X r) (he : PE X e te) (hl : PO X lo tl) (hu : PO X hi th) : PE X (.Subscript e (.Slice lo hi none p2) pos) (tSl r te tl th) := by
  intro pins s σ H Q I h
  refine Subscript_ (thn (he pins s σ H _ I h) fun v s1 ⟨x, H1, I1, r1, q1⟩ => ?_)
  refine wpAny_Slice (thn (hl pins s1 σ H1 _ I1 q1) fun vl s2 ⟨l, H2, I2, pl, q2⟩ => thn (hu pins s2 σ H2 _ I2 q2) fun vu s3 ⟨u, H3, I3, pu, q3⟩ => ?_)
  rw [evalPart_none]
  refine wpAny_pure ?_
  have I4 : Inv X pins σ H3 { s3 with heap := s3.heap.push { cls := .type "slice", data := .fields #[vl, vu, .none] } } := I3.kept (t' := s3.toks) fun b ob q => Heap.get?_push_of_some _ q
  obtain ⟨T, id, hT, ht, hg⟩ := hr pins { s3 with heap := s3.heap.push { cls := .type "slice", data := .fields #[vl, vu, .none] } } σ H3 x v vl vu l u s3.heap.objs.size Q I4 r1 (Heap.IsSliceOf.new ..) pl pu q3
  show wpAny (model X.prog X.w) X.A (subscriptTail e (.Slice lo hi none p2) v (.ref s3.heap.objs.size)) (EP X pins σ Q) X.xe { s3 with heap := s3.heap.push { cls := .type "slice", data := .fields #[vl, vu, .none] } }
  exact tail_any (ops := [.ref s3.heap.objs.size, v]) ht hT hg (by with_unfolding_all rfl)

noncomputable def cutV (xs : List V) (lo hi : Option Int) : List V := (xs.drop (HT.sIx xs.length 0 lo)).take (HT.sIx xs.length xs.length hi - HT.sIx xs.length 0 lo)
theorem cutV_length (xs : List V) (lo hi : Option Int) : (cutV xs lo hi).length ≤ xs.length := by
  unfold cutV
  rw [List.length_take, List.length_drop]
  omega
noncomputable def rSlT (K : PySem.W.Frag) : V → Option Int → Option Int → Hp → VK → Prop := fun x lo hi H Q => ∃ a xs, x = .ref a ∧ SqT K H a xs ∧
  ¬ (HT.sIx xs.length 0 lo = 0 ∧ HT.sIx xs.length xs.length hi = xs.length) ∧ ∀ p, H p = none → Q (.ref p) (upd H p (.tup (cutV xs lo hi)))
theorem sl_tup : SlR X (rSlT X.K) := by
  intro pins s σ H x v vl vu lo hi sl Q I rx hs pl pu h
  obtain ⟨a, xs, rfl, hx, hw, q⟩ := h
  cases rx
  obtain ⟨its, r, ht, hz⟩ := I.tuple hx
  have hlen : its.toArray.size = xs.length := by rw [List.size_toArray]; exact r.length.symm
  refine ⟨"tuple", _, PyProof.Rows.slot_tuple_getitem.lookup, ht.typeIs, ?_⟩
  refine HT.getItem_tuple_cut ht hs pl pu (by rw [hlen]; exact hw) ?_ (by rw [hlen]; exact hz)
  rw [hlen]
  refine ⟨.ref s.heap.objs.size, _, I.laid (t' := s.toks) (o := .tup (cutV xs lo hi)) (fun b ob q => Heap.get?_push_of_some _ q) (Nat.le_refl _) ?_, rfl, q _ (I.hok.fresh (Nat.le_refl _))⟩
  exact ⟨Nat.le_trans (cutV_length xs lo hi) hz, _, (r.drop (HT.sIx xs.length 0 lo)).take (HT.sIx xs.length xs.length hi - HT.sIx xs.length 0 lo), IsTup.new _ _⟩

end
end L2

namespace L2
open PySem PySem.Spec PyProof.Rows

noncomputable def ixN (n : Nat) (i : Int) : Option Nat := if 0 ≤ i then (if i < n then some i.toNat else none) else if -(n : Int) ≤ i then some (i + n).toNat else none
noncomputable def atI {α : Type} (xs : List α) (i : Int) : Option α := (ixN xs.length i).bind fun j => xs[j]?
theorem ixN_seq {n : Nat} {i : Int} {j : Nat} (h : ixN n i = some j) : seqIndex? i n = some j ∧ j < n ∧ -(n : Int) ≤ i ∧ i < n := by
  unfold ixN at h
  by_cases h0 : 0 ≤ i
  · rw [if_pos h0] at h
    by_cases h1 : i < n
    · rw [if_pos h1] at h
      have e : i.toNat = j := Option.some.inj h
      exact ⟨by rw [seqIndex_of h0 h1, e], by omega, by omega, h1⟩
    · rw [if_neg h1] at h; cases h
  · rw [if_neg h0] at h
    by_cases h1 : -(n : Int) ≤ i
    · rw [if_pos h1] at h
      have e : (i + n).toNat = j := Option.some.inj h
      exact ⟨by rw [seqIndex_neg (by omega) h1, e], by omega, h1, by omega⟩
    · rw [if_neg h1] at h; cases h
theorem atI_get {α : Type} {xs : List α} {i : Int} {v : α} (h : atI xs i = some v) : ∃ j, seqIndex? i xs.length = some j ∧ xs[j]? = some v ∧ j < xs.length ∧ -(xs.length : Int) ≤ i ∧ i < xs.length := by
  unfold atI at h
  cases e : ixN xs.length i with
  | none => rw [e] at h; cases h
  | some j =>
    rw [e] at h
    obtain ⟨h1, h2, h3, h4⟩ := ixN_seq e
    exact ⟨j, h1, h, h2, h3, h4⟩
theorem atI_nat {α : Type} {xs : List α} {j : Nat} {v : α} (h : xs[j]? = some v) : atI xs (j : Int) = some v := by
  have hj : j < xs.length := (List.getElem?_eq_some_iff.mp h).1
  have e : ixN xs.length (j : Int) = some j := by
    unfold ixN
    rw [if_pos (by omega), if_pos (by omega)]; simp
  unfold atI; rw [e]; exact h
noncomputable def PlainIx (b : Expr) : Prop := ∀ o i, subscripted b false o i = operate [o, i] (getItem o i)
noncomputable def IxR (X : Cx) (r : R2) : Prop :=
  ∀ (value slice : Expr) (pins : List (Addr × Obj)) (s : Shared) (σ : St) (H : Hp) (x y : V) (v u : Value) (Q : VK), Inv X pins σ H s → RelV x v → RelV y u → r x y H Q →
    subscripted slice false v u = operate [v, u] (getItem v u) → wpAny (model X.prog X.w) X.A (subscriptTail value slice v u) (EP X pins σ Q) X.xe s
noncomputable def MtR (X : Cx) (id : String) (r : V → List V → Hp → VK → Prop) : Prop :=
  ∀ (pins : List (Addr × Obj)) (s : Shared) (σ : St) (H : Hp) (x : V) (xs : List V) (v : Value) (us : List Value) (Q : VK), Inv X pins σ H s → RelV x v → Vals xs us → r x xs H Q →
    wpAny (model X.prog X.w) X.A (call (.builtin id) (v :: us)) (EP X pins σ Q) X.xe s
section
variable {X : Cx} {a b : Expr} {ta tb : TE} {pos : Pos}
theorem pe_ix {r : R2} (hr : IxR X r) (ha : PE X a ta) (hb : PE X b tb) (hs : PlainIx b) : PE X (.Subscript a b pos) (tOp r ta tb) := by
  intro pins s σ H Q I h
  exact Subscript_ (binT ha hb I h fun v u s2 x y H2 I2 rx ry q => hr a b pins s2 σ H2 x y v u Q I2 rx ry q (hs _ _))

noncomputable def rIxL (K : PySem.W.Frag) : R2 := fun x y H Q => ∃ p xs i v, x = .ref p ∧ y = .int i ∧ SqL K H p xs ∧ atI xs i = some v ∧ Q v H
noncomputable def rIxT (K : PySem.W.Frag) : R2 := fun x y H Q => ∃ p xs i v, x = .ref p ∧ y = .int i ∧ SqT K H p xs ∧ atI xs i = some v ∧ Q v H
noncomputable def rIxS : R2 := fun x y H Q => ∃ z i c, x = .str z ∧ y = .int i ∧ z.length ≤ sizeLine ∧ atI z.cps.toList i = some c ∧ Q (.str ⟨#[c]⟩) H
theorem ix_list : IxR X (rIxL X.K) := by
  intro value slice pins s σ H x y v u Q I rx ry h hs
  obtain ⟨p, xs, i, z, rfl, rfl, hq, he, q⟩ := h
  cases rx
  obtain ⟨t, rfl⟩ := ry
  obtain ⟨its, r, pl, hz⟩ := I.list hq
  obtain ⟨j, h1, h2, h3, h4, h5⟩ := atI_get he
  obtain ⟨w, ew, rw'⟩ := r.get h2
  have hl := r.length
  have hn := line63
  have fin : EP X pins σ Q w s := ⟨z, H, I, rw', q⟩
  by_cases h0 : 0 ≤ i
  · have hj : i.toNat = j := by
      rw [seqIndex_of h0 h5] at h1
      exact Option.some.inj h1
    exact item_listR pl.isList h0 (by omega) (by rw [hj]; simpa using ew) fin hs
  · have hj : (i + (its.toArray.size : Int)).toNat = j := by
      rw [seqIndex_neg (by omega) h4] at h1
      rw [List.size_toArray, ← hl]
      exact Option.some.inj h1
    exact subscriptTail_builtinR (x := w) pl.isList.typeIs slot_list_getitem.lookup
      (wpAny_getItem_list_neg (Q := fun r s' => r = w ∧ EP X pins σ Q r s') pl.isList (by omega) (by rw [List.size_toArray] <;> omega) (by omega) (by rw [hj]; simpa using ew) ⟨rfl, fin⟩) hs
theorem ix_tup : IxR X (rIxT X.K) := by
  intro value slice pins s σ H x y v u Q I rx ry h hs
  obtain ⟨p, xs, i, z, rfl, rfl, hq, he, q⟩ := h
  cases rx
  obtain ⟨t, rfl⟩ := ry
  obtain ⟨its, r, pl, hz⟩ := I.tuple hq
  obtain ⟨j, h1, h2, h3, h4, h5⟩ := atI_get he
  obtain ⟨w, ew, rw'⟩ := r.get h2
  have hl := r.length
  have hn := line63
  have fin : EP X pins σ Q w s := ⟨z, H, I, rw', q⟩
  exact subscriptTail_builtinR (x := w) pl.typeIs slot_tuple_getitem.lookup
    (getItem_tuple (j := j) (Q := fun r s' => r = w ∧ EP X pins σ Q r s') pl (by omega) (by omega) (by rw [List.size_toArray, ← hl]; exact h1) (by simpa using ew) ⟨rfl, fin⟩) hs
theorem ix_str : IxR X rIxS := by
  intro value slice pins s σ H x y v u Q I rx ry h hs
  obtain ⟨z, i, c, rfl, rfl, hz, he, q⟩ := h
  obtain ⟨t, rfl⟩ := rx
  obtain ⟨t', rfl⟩ := ry
  obtain ⟨j, h1, h2, h3, h4, h5⟩ := atI_get he
  have hl : z.cps.toList.length = z.length := by simp [Str.length]
  rw [hl] at h1 h4 h5
  have hn := line63
  exact tail_any (typeIs_str s z t) slot_str_getitem.lookup (getItem_str (c := c) (by
    have e1 : decide (i < -(2 ^ 63 : Int)) = false := decide_eq_false (by omega)
    have e2 : decide (i ≥ 2 ^ 63) = false := decide_eq_false (by omega)
    rw [e1, e2, Bool.or_false]) (by rw [h1]; simpa using h2) ⟨.str ⟨#[c]⟩, H, I.tok _, ⟨_, rfl⟩, q⟩) hs
theorem slice_bounds (lo hi : Option Int) (n : Nat) : (sliceBounds lo hi none n).1 = ((HT.sIx n 0 lo : Nat) : Int) ∧ (sliceBounds lo hi none n).2.1 = ((HT.sIx n n hi : Nat) : Int) ∧ (sliceBounds lo hi none n).2.2 = 1 := by
  refine ⟨?_, ?_, rfl⟩
  · cases lo with
    | none => simp [sliceBounds, HT.sIx]
    | some i =>
      simp only [sliceBounds, HT.sIx, Option.getD_none, show (1 : Int) > 0 by decide, if_true]
      by_cases h : i < 0
      · simp only [h, if_true] <;> omega
      · simp only [h, if_false] <;> omega
  · cases hi with
    | none => simp [sliceBounds, HT.sIx]
    | some i =>
      simp only [sliceBounds, HT.sIx, Option.getD_none, show (1 : Int) > 0 by decide, if_true]
      by_cases h : i < 0
      · simp only [h, if_true] <;> omega
      · simp only [h, if_false] <;> omega
theorem slicePick_cut (its : List Value) (lo hi : Option Int) : slicePick its.toArray lo hi none = ((its.drop (HT.sIx its.length 0 lo)).take (HT.sIx its.length its.length hi - HT.sIx its.length 0 lo)).toArray := by
  obtain ⟨h1, h2, h3⟩ := slice_bounds lo hi its.toArray.size
  unfold slicePick
  rw [h1, h2, h3]
  simp only [sliceRange_one, pick_run, List.size_toArray] <;> rfl
noncomputable def rSlL (K : PySem.W.Frag) : V → Option Int → Option Int → Hp → VK → Prop := fun x lo hi H Q => ∃ a xs, x = .ref a ∧ SqL K H a xs ∧ ∀ p, H p = none → Q (.ref p) (upd H p (.lst (cutV xs lo hi)))
theorem sl_list : SlR X (rSlL X.K) := by
  intro pins s σ H x v vl vu lo hi sl Q I rx hs pl pu h
  obtain ⟨a, xs, rfl, hx, q⟩ := h
  cases rx
  obtain ⟨its, r, ht, hz⟩ := I.list hx
  have hlen := r.length
  refine ⟨"list", _, slot_list_getitem.lookup, ht.isList.typeIs, ?_⟩
  refine wpAny_getItem_list_slice ht.isList hs pl pu .none (by simp) ?_ (by rw [List.size_toArray] <;> omega)
  rw [slicePick_cut, ← hlen]
  refine ⟨.ref s.heap.objs.size, _, I.laid (t' := s.toks) (o := .lst (cutV xs lo hi)) (fun b ob q => Heap.get?_push_of_some _ q) (Nat.le_refl _) ?_, rfl, q _ (I.hok.fresh (Nat.le_refl _))⟩
  exact ⟨Nat.le_trans (cutV_length xs lo hi) hz, _, 0, (r.drop (HT.sIx xs.length 0 lo)).take (HT.sIx xs.length xs.length hi - HT.sIx xs.length 0 lo), Heap.get?_push_size _ rfl⟩

noncomputable def flatV : V → Bool
  | .non => true
  | .bl _ => true
  | .int _ => true
  | .str _ => true
  | _ => false
noncomputable def eqV : V → V → Bool
  | .non, .non => true
  | .bl a, .bl b => a == b
  | .bl a, .int b => (if a then 1 else 0) == b
  | .int a, .bl b => a == (if b then 1 else 0)
  | .int a, .int b => a == b
  | .str a, .str b => a == b
  | _, _ => false
theorem eqAt_V {A : Around} {s : Shared} {y x : V} {u v : Value} (ry : RelV y u) (rx : RelV x v) (fy : flatV y = true) (fx : flatV x = true) : SeqAt.EqAt A s u v (eqV y x) := by
  cases y with
  | non =>
    cases ry
    cases x with
    | non => cases rx; exact SeqAt.EqAt.same _
    | bl b => cases rx; exact SeqAt.EqAt.none_bool b
    | int b => obtain ⟨t, rfl⟩ := rx; exact SeqAt.EqAt.none_int b t
    | str b => obtain ⟨t, rfl⟩ := rx; exact SeqAt.EqAt.none_str b t
    | _ => exact absurd (show false = true from fx) Bool.false_ne_true
  | bl a =>
    cases ry
    cases x with
    | non => cases rx; exact SeqAt.EqAt.bool_none a
    | bl b => cases rx; exact SeqAt.EqAt.bool_bool a b
    | int b => obtain ⟨t, rfl⟩ := rx; exact SeqAt.EqAt.bool_int a b t
    | str b => obtain ⟨t, rfl⟩ := rx; exact SeqAt.EqAt.bool_str a b t
    | _ => exact absurd (show false = true from fx) Bool.false_ne_true
  | int a =>
    obtain ⟨t', rfl⟩ := ry
    cases x with
    | non => cases rx; exact SeqAt.EqAt.int_none a t'
    | bl b => cases rx; exact SeqAt.EqAt.int_bool a t' b
    | int b => obtain ⟨t, rfl⟩ := rx; exact SeqAt.EqAt.int_int a t' b t
    | str b => obtain ⟨t, rfl⟩ := rx; exact SeqAt.EqAt.int_str a t' b t
    | _ => exact absurd (show false = true from fx) Bool.false_ne_true
  | str a =>
    obtain ⟨t', rfl⟩ := ry
    cases x with
    | non => cases rx; exact SeqAt.EqAt.str_none a t'
    | bl b => cases rx; exact SeqAt.EqAt.str_bool a t' b
    | int b => obtain ⟨t, rfl⟩ := rx; exact SeqAt.EqAt.str_int a t' b t
    | str b => obtain ⟨t, rfl⟩ := rx; exact SeqAt.EqAt.str_str a t' b t
    | _ => exact absurd (show false = true from fx) Bool.false_ne_true
  | _ => exact absurd (show false = true from fy) Bool.false_ne_true
noncomputable def eqU (x : V) (u : Value) : Bool := match u with
  | .none => eqV .non x
  | .bool b => eqV (.bl b) x
  | .int i _ => eqV (.int i) x
  | .str z _ => eqV (.str z) x
  | _ => false
theorem eqU_of {x y : V} {u : Value} (r : RelV y u) (f : flatV y = true) : eqU x u = eqV y x := by
  cases y with
  | non => cases r; rfl
  | bl b => cases r; rfl
  | int i => obtain ⟨t, rfl⟩ := r; rfl
  | str z => obtain ⟨t, rfl⟩ := r; rfl
  | _ => exact absurd (show false = true from f) Bool.false_ne_true
theorem any_eqU {x : V} : ∀ {xs : List V} {us : List Value}, Vals xs us → xs.all flatV = true → us.any (eqU x) = xs.any fun y => eqV y x
  | _, _, .nil, _ => rfl
  | y :: xs, u :: us, .cons r t, f => by
    rw [List.all_cons, Bool.and_eq_true] at f
    rw [List.any_cons, List.any_cons, eqU_of r f.1, any_eqU t f.2]
theorem mem_eqAt {A : Around} {s : Shared} {x : V} {v : Value} (rx : RelV x v) (fx : flatV x = true) : ∀ {xs : List V} {us : List Value}, Vals xs us → xs.all flatV = true → ∀ u ∈ us, SeqAt.EqAt A s u v (eqU x u)
  | _, _, .nil, _ => fun u hu => by cases hu
  | y :: xs, u :: us, .cons r t, f => fun u' hu => by
    rw [List.all_cons, Bool.and_eq_true] at f
    rcases List.mem_cons.mp hu with rfl | hu
    · rw [eqU_of r f.1]; exact eqAt_V r rx f.1 fx
    · exact mem_eqAt rx fx t f.2 u' hu
noncomputable def inV (x : V) (xs : List V) : Bool := xs.any fun y => eqV y x
noncomputable def rIn (K : PySem.W.Frag) (neg : Bool) : R2 := fun x y H Q => ∃ p xs, y = .ref p ∧ (SqL K H p xs ∨ SqT K H p xs) ∧ flatV x = true ∧ xs.all flatV = true ∧ Q (.bl (if neg then !inV x xs else inV x xs)) H
theorem op_in_seq : OpR X (compareOp .In) (rIn X.K false) := by
  intro pins s σ H x y v u Q I rx ry h
  obtain ⟨p, xs, rfl, hq, fx, fs, q⟩ := h
  cases ry
  rcases hq with hq | hq
  · obtain ⟨its, r, pl, hz⟩ := I.list hq
    refine SeqAt.in_listAt (eqU x) pl.isList (fun w hw => mem_eqAt rx fx r fs w (by simpa using hw)) ⟨.bl _, H, I, rfl, ?_⟩
    rw [show its.toArray.any (eqU x) = its.any (eqU x) by simp, any_eqU r fs]
    exact q
  · obtain ⟨its, r, pl, hz⟩ := I.tuple hq
    refine SeqAt.in_tupleAt (eqU x) pl (fun w hw => mem_eqAt rx fx r fs w (by simpa using hw)) ⟨.bl _, H, I, rfl, ?_⟩
    rw [show its.toArray.any (eqU x) = its.any (eqU x) by simp, any_eqU r fs]
    exact q
theorem call_len_seq : CallR X (.builtin "len") (fun xs H Q => ∃ p ys, xs = [.ref p] ∧ (SqL X.K H p ys ∨ SqT X.K H p ys) ∧ Q (.int ys.length) H) := by
  intro pins s σ H xs us Q I r h
  obtain ⟨p, ys, rfl, hq, q⟩ := h
  obtain ⟨u, rfl, rx⟩ := vals1 r
  cases rx
  have hn := line63
  rcases hq with hq | hq
  · obtain ⟨its, r', pl, hz⟩ := I.list hq
    have hlen := r'.length
    exact Calls.call_len_list pl.isList (by simp only [List.size_toArray] <;> omega) ⟨.int ys.length, H, I.tok _, ⟨s.toks + 1, by rw [List.size_toArray, hlen]⟩, q⟩
  · obtain ⟨its, r', pl, hz⟩ := I.tuple hq
    have hlen := r'.length
    exact len_tuple pl (by simp only [List.size_toArray] <;> omega) ⟨.int ys.length, H, I.tok _, ⟨s.toks + 1, by rw [List.size_toArray, hlen]⟩, q⟩
theorem call_len_str : CallR X (.builtin "len") (fun xs H Q => ∃ z, xs = [.str z] ∧ z.length ≤ sizeLine ∧ Q (.int z.length) H) := by
  intro pins s σ H xs us Q I r h
  obtain ⟨z, rfl, hz, q⟩ := h
  obtain ⟨u, rfl, t, rfl⟩ := vals1 r
  have hn := line63
  exact len_str (by omega) ⟨.int z.length, H, I.tok _, ⟨_, rfl⟩, q⟩
theorem call_list_of : CallR X (.type "list") (fun xs H Q => ∃ p ys, xs = [.ref p] ∧ (SqL X.K H p ys ∨ SqT X.K H p ys) ∧ ∀ l, H l = none → Q (.ref l) (upd H l (.lst ys))) := by
  intro pins s σ H xs us Q I r h
  obtain ⟨p, ys, rfl, hq, q⟩ := h
  obtain ⟨u, rfl, rx⟩ := vals1 r
  cases rx
  have fin : ∀ (its : List Value), Vals ys its → ys.length ≤ sizeLine → ∀ (h' : Heap) (c' : Nat), (∀ b o', s.heap.get? b = some o' → h'.get? b = some o') →
      h'.get? s.heap.objs.size = some { cls := .type "list", dict := none, data := .seq its.toArray c', slots := #[] } → EP X pins σ Q (.ref s.heap.objs.size) { s with heap := h' } := fun its r' hz h' c' kp e =>
    ⟨.ref s.heap.objs.size, _, I.laid (t' := s.toks) kp (Nat.le_refl _) (show ObjOk X.prog X.w _ h' _ (.lst ys) from ⟨hz, its, c', r', e⟩), rfl, q _ (I.hok.fresh (Nat.le_refl _))⟩
  rcases hq with hq | hq
  · obtain ⟨its, r', pl, hz⟩ := I.list hq
    have hlen := r'.length
    obtain ⟨o, ho, hc, n, hd⟩ := pl.isList
    exact call_list_seq p (.inl rfl) ho hc hd (fun h' c' kp e => fin its r' hz h' c' kp e) (by simp only [List.size_toArray] <;> omega)
  · obtain ⟨its, r', pl, hz⟩ := I.tuple hq
    have hlen := r'.length
    obtain ⟨o, ho, hc, n, hd⟩ := pl
    exact call_list_seq p (.inr rfl) ho hc hd (fun h' c' kp e => fin its r' hz h' c' kp e) (by simp only [List.size_toArray] <;> omega)
theorem call_tuple_of : CallR X (.type "tuple") (fun xs H Q => ∃ p ys, xs = [.ref p] ∧ ((SqL X.K H p ys ∧ ∀ l, H l = none → Q (.ref l) (upd H l (.tup ys))) ∨ (SqT X.K H p ys ∧ Q (.ref p) H))) := by
  intro pins s σ H xs us Q I r h
  obtain ⟨p, ys, rfl, h⟩ := h
  obtain ⟨u, rfl, rx⟩ := vals1 r
  cases rx
  rcases h with ⟨hq, q⟩ | ⟨hq, q⟩
  · obtain ⟨its, r', pl, hz⟩ := I.list hq
    have hlen := r'.length
    refine call_tuple_list pl.isList (fun h' kp => ?_) (by simp only [List.size_toArray] <;> omega)
    have I1 : Inv X pins σ H { s with heap := h' } := I.kept (t' := s.toks) kp
    have I2 : Inv X pins σ (upd H h'.objs.size (.tup ys)) { s with heap := h'.push { cls := .type "tuple", data := .seq its.toArray } } :=
      I1.laid (t' := s.toks) (fun b o e => Heap.get?_push_of_some _ e) (Nat.le_refl _) (show ObjOk X.prog X.w _ _ _ (.tup ys) from ⟨hz, its, r', IsTup.new _ _⟩)
    exact ⟨.ref h'.objs.size, _, I2, rfl, q _ (I1.hok.fresh (Nat.le_refl _))⟩
  · obtain ⟨its, r', pl, hz⟩ := I.tuple hq
    exact call_tuple_same pl ⟨.ref p, H, I, rfl, q⟩

noncomputable def tyV (K : PySem.W.Frag) (T : String) (x : V) (H : Hp) : Prop := match x with
  | .str _ => T = "str"
  | .int _ => T = "int"
  | .ref p => (T = "list" ∧ ∃ xs, SqL K H p xs) ∨ (T = "tuple" ∧ ∃ o, K.lookup p = some o ∧ o.cls = .type "tuple" ∧ o.dict = none) ∨
      (T = "dict" ∧ ((∃ kvs, H p = some (.dK kvs)) ∨ ∃ kvs, H p = some (.dT kvs))) ∨ (T = "set" ∧ ∃ S n, H p = some (.set S n))
  | _ => False
theorem tyV_is {pins : List (Addr × Obj)} {σ : St} {H : Hp} {s : Shared} {T : String} {x : V} {v : Value} (I : Inv X pins σ H s) (r : RelV x v) (ty : tyV X.K T x H) :
    s.TypeIs v T ∧ ∀ a, v = .ref a → ∃ ob, s.heap.get? a = some ob ∧ ob.dict = none := by
  cases x with
  | str z =>
    obtain ⟨t, rfl⟩ := r
    cases (show T = "str" from ty)
    exact ⟨typeIs_str s z t, fun _ e => nomatch e⟩
  | int i =>
    obtain ⟨t, rfl⟩ := r
    cases (show T = "int" from ty)
    exact ⟨typeIs_int s i t, fun _ e => nomatch e⟩
  | ref p =>
    cases r
    rcases ty with ⟨rfl, xs, hq⟩ | ⟨rfl, o, hk, hc, hd⟩ | ⟨rfl, hk⟩ | ⟨rfl, S, n, hk⟩
    · obtain ⟨its, _, pl, _⟩ := I.list hq
      refine ⟨pl.isList.typeIs, fun a e => ?_⟩
      cases e
      obtain ⟨o, n, e, c, hd, _⟩ := pl
      exact ⟨o, e, hd⟩
    · refine ⟨⟨o, I.kIn p o hk, hc⟩, fun a e => ?_⟩
      cases e
      exact ⟨o, I.kIn _ o hk, hd⟩
    · have z : ∃ o, s.heap.get? p = some o ∧ o.ExactDict := by
        rcases hk with ⟨kvs, hk⟩ | ⟨kvs, hk⟩
        · obtain ⟨_, _, _, _, o, _, _, e, ex, _⟩ := I.hok p _ hk
          exact ⟨o, e, ex⟩
        · obtain ⟨_, _, _, _, o, _, _, e, ex, _⟩ := I.hok p _ hk
          exact ⟨o, e, ex⟩
      obtain ⟨o, e, ex⟩ := z
      refine ⟨⟨o, e, ex.1⟩, fun a e2 => ?_⟩
      cases e2
      exact ⟨o, e, ex.2.1⟩
    · obtain ⟨o, _, _, _, e, ex, _⟩ := I.hok p _ hk
      refine ⟨⟨o, e, ex.1⟩, fun a e2 => ?_⟩
      cases e2
      exact ⟨o, e, ex.2.1⟩
  | _ => exact False.elim ty
noncomputable def tBM (K : PySem.W.Frag) (T : String) (r : V → List V → Hp → VK → Prop) (to : TE) (t : TA) : TE := fun σ H Q => to σ H fun x H1 => tyV K T x H1 ∧ t σ H1 fun xs H2 => r x xs H2 Q
variable {o e : Expr} {es : List Expr} {to : TE} {t : TA} {name : Str} {apos cpos : Pos} {T id : String} {r : V → List V → Hp → VK → Prop}
theorem pe_bm (pa : PlainAttrs T) (slot : Slot T name id) (hty : typeOf (.builtin id) = pure (.type "method_descriptor")) (hm : MtR X id r) (ho : PE X o to) (ha : PA X (e :: es) t)
    (hbase : attributeBase o name X.env (eval o X.env) = eval o X.env := by rfl)
    (hfew : ((backTo cpos (starEach (e :: es) X.env)).all (fun x => !x.1) && (backToKw cpos (keywordEach [] X.env)).all (fun x => x.1.isSome)
      && decide ((e :: es).length + ([] : List Keyword).length + (if ([] : List Keyword).isEmpty then 0 else 1) < 30)) = true := by rfl)
    (hline : (apos.endLine == cpos.line) = true := by rfl) (hs : starEach (e :: es) X.env = (false, eval e X.env) :: starEach es X.env := by rfl) (hplain : (backTo cpos (starEach es X.env)).any (·.1) = false := by rfl) :
    PE X (.Call (.Attribute o name apos) (e :: es) [] cpos) (tBM X.K T r to t) := by
  intro pins s σ H Q I h
  refine wpAny_Call_method_late hbase hfew hline rfl (thn (ho pins s σ H _ I h) fun v s1 ⟨x, H1, I1, r1, ty, q1⟩ => ?_)
  obtain ⟨h1, h2⟩ := tyV_is I1 r1 ty
  refine ⟨T, id, pa, slot, hty, h1, h2, ?_⟩
  have hA := ha cpos pins s1 σ H1 _ I1 q1
  rw [hs] at hA ⊢
  refine Calls.callWith_builtin (by show (false || (backTo cpos (starEach es X.env)).any (·.1)) = false; rw [hplain] <;> rfl) (Calls.evalArgs_plain ?_)
  exact thn hA fun us s2 ⟨vs, H2, I2, r2, q2⟩ => hm pins s2 σ H2 x vs v us Q I2 r1 r2 q2
/- xs.append(e), list.index on a module's tuple .. are MtR facts of 06m -/
end
end L2

namespace L2
open PySem PySem.Spec PyProof.Rows

noncomputable def MtM (X : Cx) (id : String) (r : V → List V → Hp → VK → Prop) : Prop :=
  ∀ (pins : List (Addr × Obj)) (s : Shared) (σ : St) (H : Hp) (x : V) (xs : List V) (v : Value) (us : List Value) (Q : VK), Inv X pins σ H s → RelV x v → Vals xs us → r x xs H Q →
    wpAny (model X.prog X.w) X.A (call (.builtin id) (v :: us)) (EP X pins σ Q) X.xe s

theorem Vals.one : ∀ {x : V} {us : List Value}, Vals [x] us → ∃ u, us = [u] ∧ RelV x u
  | _, _, .cons r .nil => ⟨_, rfl, r⟩
section
variable {X : Cx} {pins : List (Addr × Obj)} {σ : St} {H : Hp} {s : Shared} {l b : Addr} {xs ys zs : List V}

theorem Inv.lset {its its' : List Value} {n : Nat} {f : Array Value → Array Value} {t' : Nat} (I : Inv X pins σ H s) (hH : H l = some (.lst xs))
    (e : s.heap.get? l = some { cls := .type "list", data := .seq its.toArray n }) (hf : f its.toArray = its'.toArray) (hv : Vals ys its') (hz : ys.length ≤ sizeLine) :
    Inv X pins σ (upd H l (.lst ys)) { s with heap := s.heap.update l (Obj.mapSeq f), toks := t' } := by
  have q := PySem.IsL.update e f
  rw [hf] at q
  refine I.write (x := l) (e := l) (by rw [hH]; exact trivial) (.inl rfl) (fun b' u hb hu => (Heap.get?_update_other s.heap (Obj.mapSeq f) (Ne.symm hb)).trans hu) ⟨_, q⟩ ?_
  exact ⟨hz, its', _, hv, q⟩
theorem Inv.lnew {its : List Value} {t' : Nat} (I : Inv X pins σ H s) (hv : Vals ys its) (hz : ys.length ≤ sizeLine) :
    Inv X pins σ (upd H s.heap.objs.size (.lst ys)) { s with heap := s.heap.push { cls := .type "list", data := .seq its.toArray }, toks := t' } :=
  I.laid (fun _ _ q => Heap.get?_push_of_some _ q) (Nat.le_refl _) ⟨hz, its, 0, hv, Heap.get?_push_size _ rfl⟩
theorem Inv.fresh (I : Inv X pins σ H s) : H s.heap.objs.size = none := I.hok.fresh (Nat.le_refl _)
theorem Inv.lstM (I : Inv X pins σ H s) (hH : H l = some (.lst xs)) : xs.length ≤ sizeLine ∧ ∃ (its : List Value) (n : Nat), Vals xs its ∧ xs.length = its.length ∧ s.heap.get? l = some { cls := .type "list", data := .seq its.toArray n } := by
  obtain ⟨z, its, n, r, e⟩ := I.hok l _ hH
  exact ⟨z, its, n, r, r.length, e⟩

end

section
variable {X : Cx}

noncomputable def rAppend : V → List V → Hp → VK → Prop := fun x vs H Q => ∃ l xs y, x = .ref l ∧ vs = [y] ∧ H l = some (.lst xs) ∧ xs.length < sizeLine ∧ Q .non (upd H l (.lst (xs ++ [y])))
theorem mt_append : MtM X "list.append" rAppend := by
  intro pins s σ H x vs v us Q I rx rv h
  obtain ⟨l, xs, y, rfl, rfl, hH, hz, q⟩ := h
  cases rx
  obtain ⟨u, rfl, ru⟩ := rv.one
  obtain ⟨z, its, n, r, hl, e⟩ := I.lstM hH
  refine call_meets F.slot_list_append ⟨_, e, rfl⟩ F.entry_list_append (F.args_list_append_2 _ _) (PySem.list_append l its.toArray n u (by rw [List.size_toArray]; omega)) ⟨e, ?_⟩
  refine ⟨.non, _, I.lset (its' := its ++ [u]) hH e (by simp) (r.append (.cons ru .nil)) ?_, rfl, q⟩
  rw [List.length_append, List.length_singleton]
  omega

end

section
variable {prog : Program} {w : World} {A : Around} {E : Value → Shared → Prop} {s : Shared}
end

section
variable {X : Cx}
end
end L2

namespace Att
open PySem PySem.W PySem.Calls PyProof.Rows

theorem ints_of_wellAll {P : Params} {h : Heap} : ∀ (ns : List Int) (vs : List Value), WellAll P h vs (ns.map WData.int) → IntsAre vs ns := by
  intro ns
  induction ns with
  | nil =>
    intro vs w
    rw [List.map_nil] at w
    cases w
    exact .nil
  | cons n ns ih =>
    intro vs w
    rw [List.map_cons] at w
    cases w with
    | cons a b =>
      cases a
      exact .cons _ _ (ih _ b)

theorem script_of {l : OpenLaw} {n : Nat} (hn : l.most = some n) {P : Params} {h : Heap} {args : List WData} {vals : List Value}
    (hpre : l.row.toRowW.claim.pre args = true) (hwl : WellAll P h vals args) :
    ∃ a vs ns, vals = [Value.ref a] ∧ args = [WData.list (ns.map WData.int)] ∧ h.get? a = some { cls := .type "list", data := .seq vs.toArray } ∧ IntsAre vs ns ∧ ns.length ≤ n := by
  have hsh : WShape.hasAll [] args [.list .int] = true := (pre_splitW hpre).1
  have hc : l.pre.holds [] { args := args } = true := (pre_splitW hpre).2
  obtain ⟨d, r, rfl, h1, h2⟩ := hasAllW_cons hsh
  obtain rfl := hasAllW_nil h2
  obtain ⟨xs, rfl, h3⟩ := hasW_list h1
  obtain ⟨ns, rfl⟩ := items_int h3
  have hlen : ns.length ≤ n := by
    unfold OpenLaw.pre at hc
    have h4 : (WTm.not (.lt (.lit (.int (n : Int))) (.len (.arg 0)))).holds [] { args := [.list (ns.map .int)] } = true := by
      have h4 := (holds_andW hc).1
      rw [hn] at h4
      exact h4
    have h5 := condW_of h4 (w_not (w_lt w_lit (w_len_list (w_arg rfl))))
    rw [List.length_map] at h5
    refine Nat.le_of_not_lt fun q => ?_
    have q' : (n : Int) < ((ns.length : Nat) : Int) := by omega
    first
      | (rw [decide_eq_true q'] at h5; exact absurd h5 (by decide))
      | (simp at h5; omega)
  cases hwl with
  | cons w1 w2 =>
    cases w2
    cases w1 with
    | list ho hall => exact ⟨_, _, ns, rfl, rfl, ho, ints_of_wellAll ns _ hall, hlen⟩

theorem post_true (l : OpenLaw) (args : List WData) : l.row.toRowW.claim.post args (.bool true) args = true :=
  postW_of (r := l.row.toRowW) (X := (true == true))
    (show WShape.has [] (.bool true) .bool = true by first | rfl | decide | simp [WShape.has, WShape.arms, WShape.armsAll])
    (show (WTm.eq .res (.lit (.bool true))).value [] { args := args, res := some (.bool true), after := args } = some (.bool (true == true)) from w_eq_bool (w_res rfl) w_lit) rfl

theorem attach_call {l : OpenLaw} {n : Nat} {q : Program} {loose : List Str} {XP : (Str → Option Value) → Heap → Prop} {YP : World → Heap → Prop} {d : DefRec}
    (hn : l.most = some n) (hdf : d.params.defaults = [])
    (call : ∀ (w : World) (s₀ s₁ : Shared) (mg mb : Str → Option Value) (fa : Addr) (o : Obj) (pm cd doc : Value) (a : Addr) (vs : List Value) (ns : List Int),
      Ground q loose [] XP w s₀ mg mb s₁.heap → YP w s₁.heap →
      s₁.heap.get? fa = some o → o.data = .func (docDef d.name d.params d.body d.scope pm cd doc) → s₁.heap.CodeRec cd d.name → mg d.name = some (.ref fa) →
      s₁.heap.get? a = some { cls := .type "list", data := .seq vs.toArray } → IntsAre vs ns → ns.length ≤ n → s₁.gens = #[] →
      codeAny (model l.prog w) callerA (.call (.ref fa) ⟨[.ref a], []⟩) (fun r s' => r = .ok (.ret (.bool true)) ∧ OldK s₁.heap s'.heap ∧ s'.os = s₁.os ∧ AllBare s'.gens) s₁) :
    WalkO q loose XP YP l.row.toRowW d [] (fun f vs => PySem.call f vs) := by
  intro w s₀ s₁ mg mb G Y fa o pm cd doc dV kV ho hd hcd hD hmg hg args vals as hpre hlay hrd hwl hlo
  obtain rfl : dV = .none := Dflts.none hD hdf
  obtain rfl : kV = .none := Dflts.noKw hD
  obtain ⟨a, vs, ns, rfl, rfl, hobj, hints, hlen⟩ := script_of hn hpre hwl
  refine enter_call (codeAny_mono (call w s₀ s₁ mg mb fa o pm cd doc a vs ns G Y ho (fd_plain hd) hcd hmg hobj hints hlen hg) fun r s' hq => ?_)
  obtain ⟨rfl, h2, h3, h4⟩ := hq
  exact ⟨.inl ⟨.bool true, .bool true, [], rfl, fun _ => rfl, .bool true, post_true l _, fun _ => ⟨List.Pairwise.nil, fun _ hm => (nomatch hm)⟩⟩, h2, h3, h4⟩

section
variable {prog : Program} {w : World} {A : Around} {E : Value → Shared → Prop} {s : Shared} {K : Frag}

end
end Att

namespace L2
open PySem PySem.Spec PyProof.Rows

theorem vals_ints : ∀ {vs : List Value} {ns : List Int}, IntsAre vs ns → Vals (ns.map V.int) vs
  | _, _, .nil => .nil
  | _, _, .cons n t h => .cons ⟨t, rfl⟩ (vals_ints h)

noncomputable def Only (H : Hp) : Prop := ∀ b, H b = none ∨ ∃ o xs, H b = some (.frz o (.lst xs))

theorem law_call {P : Program} {w : World} {K : PySem.W.Frag} {mg mb : Str → Option Value} {CX : CXT} {k : Nat} {fa a : Addr} {fd : FuncData} {x : Str} {sp : Sp} {s₁ : Shared} {vs : List Value} {ns : List Int}
    (KX : K.In s₁.heap) (hns : s₁.heap.Ns mainGlobals mg) (hb : s₁.heap.Ns builtinsNs mb) (hbb : ∀ x : Str, x ≠ "__name__" → mb x = bootBuiltins x) (hlim : s₁.heap.NoLimit) (hg : s₁.gens = #[])
    (ha : s₁.heap.get? a = some { cls := .type "list", data := .seq vs.toArray }) (hi : IntsAre vs ns) (hl : ns.length ≤ sizeLine) (hr : Room k callerA)
    (F : ∀ base : Heap, K.In base → base.Ns mainGlobals mg → FnOk P w K mg base CX k fa fd [x] sp) (hbind : ∀ (s : Shared) (u : Value), BindsTo s fd ⟨[u], []⟩ [(x, u)])
    (hsp : ∀ H : Hp, Only H → SqL K H a (ns.map V.int) → sp [.ref a] H (fun v _ => v = .bl true) fun _ _ _ => False)
    (hCX : ∀ H e s', CX [] H s₁ (fun _ _ _ => False) e s' → False) :
    codeAny (model P w) callerA (.call (.ref fa) ⟨[.ref a], []⟩) (fun r s' => r = .ok (.ret (.bool true)) ∧ OldK s₁.heap s'.heap ∧ s'.os = s₁.os ∧ AllBare s'.gens) s₁ := by
  have rv := vals_ints hi
  have lenV := hi.length
  -- from an abstract heap in which nothing but the script may be tracked
  have core : ∀ H : Hp, Only H → SqL K H a (ns.map V.int) → HOk P w H s₁.heap → (∀ b, H b ≠ none → b = a) → (H a ≠ none → K.lookup a = none) →
      codeAny (model P w) callerA (.call (.ref fa) ⟨[.ref a], []⟩) (fun r s' => r = .ok (.ret (.bool true)) ∧ OldK s₁.heap s'.heap ∧ s'.os = s₁.os ∧ AllBare s'.gens) s₁ := by
    intro H hO hS hok hA hK
    have base_of : ∀ {b : Addr} {o : Obj}, s₁.heap.get? b = some o → H b = none → (hidT s₁.heap H).get? b = some o := fun e n => hidT_get e n
    have noA : ∀ {b : Addr} {o : Obj} {es : Array DictEntry} {ep : Nat}, s₁.heap.get? b = some o → o.data = .dict es ep → H b = none := fun {b o es ep} e d => by
      cases q : H b with
      | none => rfl
      | some u =>
        have e' : b = a := hA b (by rw [q]; simp)
        subst e'
        rw [ha] at e; cases e
        have d' : Data.seq vs.toArray _ = Data.dict es ep := d
        cases d'
    have nsK : ∀ {b : Addr} {m : Str → Option Value}, s₁.heap.Ns b m → (hidT s₁.heap H).Ns b m := fun {b m} ⟨o, es, ep, e, d, r⟩ => ⟨o, es, ep, base_of e (noA e d), d, r⟩
    have hKb : K.In (hidT s₁.heap H) := fun b o e => base_of (KX b o e) (by
      cases q : H b with
      | none => rfl
      | some u =>
        have e' : b = a := hA b (by rw [q]; simp)
        subst e'
        rw [hK (by rw [q]; simp)] at e; cases e)
    have hM : Mod K mg (hidT s₁.heap H) := ⟨hKb, nsK hns, ⟨mb, nsK hb, hbb⟩, let ⟨mc, h1, h2⟩ := hlim; ⟨mc, nsK h1, h2⟩⟩
    have e0 : Env0 P w K mg (hidT s₁.heap H) callerA [] s₁ H := ⟨rfl, hM, fun b o e => of_hidT e, Nat.le_of_eq (hidT_size _ _), trivial, fun b hb => absurd (show b ∈ ([] : List Addr) from hb) (by simp), hok, .of_eq hg⟩
    refine codeAny_mono ((F _ hKb (nsK hns)).run callerA [] s₁ H ⟨[.ref a], []⟩ [.ref a] [.ref a] _ _ hr e0 (hbind s₁ (.ref a)) (.cons rfl .nil) (hsp H hO hS)) fun r s' h => ?_
    cases r with
    | error e => exact (hCX H e s' h).elim
    | ok fl =>
      cases fl with
      | next => exact False.elim h
      | brk => exact False.elim h
      | cont => exact False.elim h
      | ret u =>
        obtain ⟨v, H', os, bare, un, hok', r', q⟩ := h
        have q' : v = .bl true := q
        subst q'
        obtain rfl : u = Value.bool true := r'
        refine ⟨rfl, OldK.of_keep fun b o e => ?_, os, bare⟩
        cases q : H b with
        | none => exact un.keep b o e q (by intro z; exact absurd (show b ∈ ([] : List Addr) from z) (by simp)) (by simp)
        | some u =>
          rcases hO b with z | ⟨ob, xs, z⟩
          · rw [q] at z; cases z
          · have z2 := un.frzs b ob _ z
            obtain ⟨e1, _⟩ := hok b _ z
            obtain ⟨e2, _⟩ := hok' b _ z2
            rw [e] at e1; cases e1
            exact e2
  cases hk : K.lookup a with
  | some o =>
    -- the script is one of the module's own objects
    have e := KX a o hk
    rw [ha] at e
    cases e
    refine core (fun _ => none) (fun _ => .inl rfl) (.inr ⟨_, vs.toArray, _, hk, rfl, rfl, rfl, by rw [List.size_toArray, lenV]; exact hl, by simpa using rv⟩) (fun b u z => by have z' : (none : Option HO) = some u := z; cases z') (fun b z => absurd rfl z) fun z => absurd rfl z
  | none =>
    refine core (fun b => if b = a then some (.frz { cls := .type "list", data := .seq vs.toArray } (.lst (ns.map V.int))) else none) (fun b => ?_) (.inl (.inr ⟨{ cls := .type "list", data := .seq vs.toArray }, if_pos rfl⟩)) (fun b u z => ?_) (fun b z => ?_) fun _ => hk
    · by_cases hb : b = a
      · exact .inr ⟨_, _, if_pos hb⟩
      · exact .inl (if_neg hb)
    · by_cases hb : b = a
      · have z' := (if_pos hb).symm.trans z
        cases z'
        subst hb
        exact ⟨ha, by rw [List.length_map]; exact hl, vs, _, rv, ha⟩
      · have z' := (if_neg hb).symm.trans z
        cases z'
    · by_cases hb : b = a
      · exact hb
      · exact absurd (if_neg hb) z
end L2

namespace L2
open PySem PySem.Spec PyProof.Rows

noncomputable abbrev KOf {K : PySem.W.Frag} {h : Heap} (_ : K.In h) : PySem.W.Frag := K

theorem walk_of {l : PySem.W.OpenLaw} {n k : Nat} {q : Program} {loose : List Str} {XP : (Str → Option Value) → Heap → Prop} {YP : World → Heap → Prop} {d : DefRec} {K : Params → PySem.W.Frag} {CX : World → CXT} {sp : World → Sp} {x : Str}
    (hn : l.most = some n) (hn2 : n ≤ sizeLine) (hdf : d.params.defaults = []) (hr : Room k callerA)
    (hY : ∀ (w : World) (h : Heap), YP w h → (K w.params).In h)
    (F : ∀ (w : World) (mg : Str → Option Value) (fa : Addr) (h : Heap), (K w.params).In h → h.Ns mainGlobals mg → mg d.name = some (.ref fa) →
      ∃ fd : FuncData, (∀ (s : Shared) (u : Value), BindsTo s fd ⟨[u], []⟩ [(x, u)]) ∧
        ∀ base : Heap, (K w.params).In base → base.Ns mainGlobals mg → FnOk l.prog w (K w.params) mg base (CX w) k fa fd [x] (sp w))
    (hsp : ∀ (w : World) (H : Hp) (a : Addr) (ns : List Int), ns.length ≤ n → Only H → SqL (K w.params) H a (ns.map V.int) → sp w [.ref a] H (fun v _ => v = .bl true) fun _ _ _ => False)
    (hCX : ∀ (w : World) (H : Hp) (s : Shared) (e : Value) (s' : Shared), CX w [] H s (fun _ _ _ => False) e s' → False) :
    PySem.W.WalkO q loose XP YP l.row.toRowW d [] (fun f vs => PySem.call f vs) := by
  refine Att.attach_call hn hdf fun w s₀ s₁ mg mb fa o pm cd doc a vs ns G Y ho hd hcd hmg hobj hints hlen hg => ?_
  have KX := hY w _ Y
  obtain ⟨fd, hb, hF⟩ := F w mg fa _ KX G.T.g hmg
  exact law_call KX G.T.g G.T.b G.T.builtins G.T.nolimit hg hobj hints (Nat.le_trans hlen hn2) hr hF hb (fun H hO hS => hsp w H a ns hlen hO hS) fun H e s' => hCX w H s₁ e s'
end L2

/- THE LAST THEOREM (shape; LID, My.* are yours):
   My.Adr: a structure of the addresses that your layer names (classes, functions); My.Txt K t: a structure (Prop) of the equations over K;
   My.txt_mk : {K} {implicit addresses ..} (e1 : nsIn K mainGlobals "law" = some (some (.ref f))) (e2 : K.lookup f = some ⟨oc, od, .func (fnOf "law" "law" params body scope dV kV doc pm an cdv ct), sl⟩) (e3 : codeIn K cdv "law" = true) .. : ∃ t, My.Txt K t

set_option maxRecDepth 100000 in
set_option maxHeartbeats 0 in
theorem PySem.Challenge.cw_LID_holds : PySem.Challenge.rw_LID.Holds := by
  w_on; o_law; k_head; (case hw => w_witness2)
  k_fill
  refine L2.walk_of (l := PySem.Challenge.rw_LID) (n := 63) (k := 40) (x := "script") (CX := fun w => ..) (sp := fun _ => My.sp_law) rfl (by decide) rfl ⟨rfl, by decide, by decide⟩ (fun w h Y => PySem.W.kIn_of Y) ?F ?S ?C
  case F =>
    intro w mg fa h KX G hmg
    have T : ∃ t, My.Txt (L2.KOf KX) t := by
      dsimp only [L2.KOf]                          -- K must stand as «<heap const> w.params» for k_is
      refine' My.txt_mk ?e1 ?e2 ?e3 ..
      (case e1 => PySem.W.k_is)                    -- in the order: a name -> its address -> its object -> its parts
      (case e2 => PySem.W.k_is)
      ..
    obtain ⟨t, T⟩ := T
    have e0 := hmg.symm.trans (PySem.W.mg_of KX G T.law)
    cases e0                                       -- fa is the law's own address
    exact ⟨_, fun s u => .of_eq rfl, fun base kb nb => My.law_fn T kb nb⟩     -- if «.of_eq rfl» comes too early: refine' ⟨_, ?b, fun base kb nb => My.law_fn T kb nb⟩; exact fun s u => .of_eq rfl
  case S => exact fun w H a ns hl hO hS => ..
  case C => exact ..
(the tactic k_is has no namespace: write k_is) -/

namespace L2
open PySem PySem.Spec PyProof.Rows

noncomputable def inClass (s : Stmt) (j : Nat) : Stmt := match s with
  | .ClassDef _ _ _ body _ _ _ _ _ _ _ => body.getD j (.Pass ⟨0, 0, 0, 0⟩)
  | _ => .Pass ⟨0, 0, 0, 0⟩
noncomputable def defArgs (s : Stmt) : Arguments := match s with
  | .FunctionDef _ a _ _ _ _ _ _ _ _ => a
  | _ => { posonlyargs := [], args := [], vararg := none, kwonlyargs := [], kw_defaults := [], kwarg := none, defaults := [] }
noncomputable def defBody (s : Stmt) : List Stmt := match s with
  | .FunctionDef _ _ b _ _ _ _ _ _ _ => b
  | _ => []
noncomputable def defScope (s : Stmt) : Scope := match s with
  | .FunctionDef _ _ _ _ _ _ sc _ _ _ => sc
  | _ => { kind := .function, names := [], isGenerator := false, isCoroutine := false }

noncomputable abbrev CX0 : CXT := fun _ _ _ _ _ _ => False
noncomputable abbrev E0 : XK := fun _ _ _ => False
theorem pass0 {X : Cx} : Passes CX0 X E0 := fun _ _ _ _ _ _ _ h => h.elim

structure Fun (K : PySem.W.Frag) (x qual : Str) (st : Stmt) (f : Addr) (fd : FuncData) : Prop where
  ex : ∃ (oc : Value) (od : Option Addr) (kV doc pm : Value) (an : Option Addr) (cdv ct : Value) (osl : Array (Option Value)),
    fd = PySem.W.fnOf x qual (defArgs st) (defBody st) (defScope st) .none kV doc pm an cdv ct ∧ K.lookup f = some ⟨oc, od, .func fd, osl⟩ ∧ PySem.W.codeIn K cdv qual = true
  kp : PySem.W.keepIn K (.ref f) = true
section
variable {P : Program} {w : World} {K : PySem.W.Frag} {mg : Str → Option Value} {base : Heap}
theorem Fun.ok {x qual : Str} {st : Stmt} {f : Addr} {fd : FuncData} {N ps : List Str} {k : Nat} {sp : Sp} (F : Fun K x qual st f fd) (S : FnScope N ps (defScope st)) (len : ∀ vs H Q E, sp vs H Q E → vs.length = ps.length)
    (hbody : ∀ (cdv : Value) (A : Around) (outer : List Env) (s : Shared) (H : Hp) (vs : List V) (Q : VK) (E : XK), Room k (A.deeper (envOfC qual (defScope st) s.heap.objs.size f cdv)) → sp vs H Q E →
      ∃ t, PSs (cxOf CX0 P w K mg base N qual (defScope st) f cdv A outer s H E).nox (defBody st) t ∧ t { nx := fun _ H' => Q .non H', rt := Q } (start N vs) H) : FnOk P w K mg base CX0 (k + 1) f fd ps sp := by
  obtain ⟨oc, od, kV, doc, pm, an, cdv, ct, osl, rfl, lk, hcd⟩ := F.ex
  refine fn_of lk hcd S len fun A outer s H vs Q E hr hsp => ?_
  obtain ⟨t, h, q⟩ := hbody cdv A outer s H vs Q E hr hsp
  exact ⟨t, h.nox, q⟩
theorem Fun.binds {x qual : Str} {st : Stmt} {f : Addr} {fd : FuncData} {ps : List Str} (F : Fun K x qual st f fd)
    (h : ∀ (kV doc pm : Value) (an : Option Addr) (cdv ct : Value) (us : List Value), us.length = ps.length → bindArgs (PySem.W.fnOf x qual (defArgs st) (defBody st) (defScope st) .none kV doc pm an cdv ct) ⟨us, []⟩ = pure (ps.zip us)) : Binds K fd ps [] := by
  obtain ⟨oc, od, kV, doc, pm, an, cdv, ct, osl, rfl, lk, hcd⟩ := F.ex
  exact .all (h kV doc pm an cdv ct)
theorem fun_mk {x qual : Str} {st : Stmt} {f : Addr} {oc : Value} {od an : Option Addr} {osl : Array (Option Value)} {kV doc pm cdv ct : Value} (l : K.lookup f = some ⟨oc, od, .func (PySem.W.fnOf x qual (defArgs st) (defBody st) (defScope st) .none kV doc pm an cdv ct), osl⟩)
    (c : PySem.W.codeIn K cdv qual = true) (k : PySem.W.keepIn K (.ref f) = true) : Fun K x qual st f (PySem.W.fnOf x qual (defArgs st) (defBody st) (defScope st) .none kV doc pm an cdv ct) := ⟨⟨oc, od, kV, doc, pm, an, cdv, ct, osl, rfl, l, c⟩, k⟩
end
theorem hu_of {A : Around} {k : Nat} (hr : Room k A) : A.units + 1 < cLine := Nat.lt_of_le_of_lt (Nat.add_le_add_left (by decide : 1 ≤ 64) _) hr.units
theorem small1000 {n : Nat} (h : n ≤ 1000) : n < sizeLine := Nat.lt_of_le_of_lt h (by decide)

section
variable {X : Cx}
theorem pv (i : Nat) {x : Str} {pos : Pos} (hN : X.N[i]? = some x := by rfl) (hv : Vis X.env.scope x := by first | exact Or.inl rfl | exact Or.inr (Or.inl rfl) | exact Or.inr (Or.inr rfl)) (hd : (x == ("__debug__" : Str)) = false := by decide)
    (hcd : (x == ("__classdict__" : Str)) = false := by decide) : PE X (.Name x pos) (tVar i) := pe_var hN hv hd hcd
end

theorem iteF {A B : Prop} (h : B) : if false = true then A else B := by
  rw [if_neg Bool.false_ne_true]
  exact h
theorem iteT {A B : Prop} (h : A) : if true = true then A else B := by
  rw [if_pos rfl]
  exact h
theorem ite2 {c A B : Prop} [Decidable c] (h1 : c → A) (h2 : ¬ c → B) : if c then A else B := by
  by_cases h : c
  · rw [if_pos h]
    exact h1 h
  · rw [if_neg h]
    exact h2 h
theorem iteNS {c A B : Prop} [Decidable c] (hc : c) (h : B) : if (!decide c) = true then A else B := by
  rw [decide_eq_true hc]
  exact iteF h

noncomputable def Same (H H' : Hp) : Prop := ∀ b o, H b = some o → H' b = some o
theorem Same.refl (H : Hp) : Same H H := fun _ _ h => h
theorem Same.trans {H H1 H2 : Hp} (a : Same H H1) (b : Same H1 H2) : Same H H2 := fun c o h => b c o (a c o h)
theorem Same.free {H H' : Hp} (e : Same H H') {l : Addr} (h : H' l = Option.none) : H l = Option.none := by
  cases q : H l with
  | none => rfl
  | some o =>
    rw [e l o q] at h
    cases h
theorem Same.seq {K : PySem.W.Frag} {H H' : Hp} {a : Addr} {xs : List V} (e : Same H H') (h : SqL K H a xs) : SqL K H' a xs := by
  rcases h with (h | ⟨o, h⟩) | h
  · exact .inl (.inl (e _ _ h))
  · exact .inl (.inr ⟨o, e _ _ h⟩)
  · exact .inr h

end L2
set_option Elab.async false
set_option linter.all false
set_option maxRecDepth 100000
set_option maxHeartbeats 4000000
namespace L3
open PySem PySem.Spec PyProof.Rows L2
noncomputable abbrev St := L2.St
noncomputable abbrev V := L2.V

noncomputable abbrev NoX : Value → Shared → Prop := fun _ _ => False
theorem noX_any {α : Type} {M : Model} {A : Around} {t : Sem α} {Q : α → Shared → Prop} {E : Value → Shared → Prop} {s : Shared} (h : wpAny M A t Q NoX s) : wpAny M A t Q E s :=
  wpAny_mono h (fun _ _ q => q) fun _ _ z => False.elim z

theorem comp_turns {prog : Program} {w : World} {A : Around} {R : Result → Shared → Prop} {s : Shared} {elt tg iter : Expr} {ifs : List Expr} {scope : Scope} {pos : Pos} {it acc : Value} {env : Env} (I : Nat → Shared → Prop)
    (turn : ∀ n s, I n s → wpAny (model prog w) A (pyNext it) (fun r s1 => match r with
      | none => R (.ok .next) s1
      | some v => wpAny (model prog w) A (letOwnedTupleGo tg it v) (fun _ s2 => wpAny (model prog w) A (assign tg env v) (fun _ s3 =>
          wpAny (model prog w) A (forIn ifs true fun c r => if r = true then do let ok ← isTrue c env (eval c env); pure (ForInStep.yield ok) else pure (ForInStep.yield r)) (fun ok s4 =>
            if ok = true then wpAny (model prog w) A (eval elt env) (fun x s5 => wpAny (model prog w) A (call (.builtin "list.append") [acc, x]) (fun _ s6 => ∃ m, m < n ∧ I m s6) NoX s5) NoX s4
            else ∃ m, m < n ∧ I m s4) NoX s3) NoX s2) NoX s1) NoX s)
    (n : Nat) (h : I n s) : codeAny (model prog w) A (.compLoop (.ListComp elt [⟨tg, iter, ifs, 0⟩] scope pos) 0 it acc env) R s := by
  refine codeAny_loop rfl I (fun n s hI => ?_) n h
  show wpAny _ A ((compTurn (.ListComp elt [⟨tg, iter, ifs, 0⟩] scope pos) 0 it acc env).onRaise (fun x => do noteFrame x env; theTreesLotGoes x)) _ _ s
  refine wpAny_noted (noX_any ?_)
  rw [compTurn_list]
  refine wpAny_bind (wpAny_standAt (wpAny_bind (wpAny_mono (turn n s hI) (fun r s1 h1 => ?_) fun _ _ z => z)))
  cases r with
  | none => exact wpAny_pure h1
  | some v =>
    refine wpAny_bind (wpAny_mono h1 (fun _ s2 h2 => wpAny_bind (wpAny_mono h2 (fun _ s3 h3 => wpAny_bind (wpAny_mono h3 (fun ok s4 h4 => ?_) fun _ _ z => z)) fun _ _ z => z)) fun _ _ z => z)
    cases ok with
    | false => exact wpAny_pure ⟨rfl, h4⟩
    | true => exact wpAny_bind (wpAny_bind (wpAny_mono h4 (fun x s5 h5 => wpAny_bind (wpAny_mono h5 (fun _ s6 h6 => wpAny_pure (wpAny_pure ⟨rfl, h6⟩)) fun _ _ z => z)) fun _ _ z => z))

noncomputable def caps (cs : List (Option Nat)) (σ : St) : St := cs.map fun o => o.bind fun j => (σ[j]?).bind id
noncomputable def cxComp (X : Cx) (N' : List Str) (scope : Scope) (cl : List (Str × Addr)) (C : Addr) (s3 : Shared) (H3 : Hp) (fp : List Addr) (pn : List (Addr × Obj)) : Cx :=
  { X with N := N', s₀ := s3, H₀ := H3, env := compEnvC scope cl C X.env, outer := X.stack, stack := X.stack, ex := fp, fn := fun _ => false, pn := pn, xe := fun _ _ => False }
noncomputable def CellK (k : Option NameKind) : Prop := k = some .cell ∨ k = some .free
inductive Caps (X : Cx) (scope : Scope) (cl : List (Str × Addr)) : List Str → List (Option Nat) → Prop
  | nil : Caps X scope cl [] []
  | own {x N cs} : Caps X scope cl N cs → Caps X scope cl (x :: N) (none :: cs)
  | cap {x j N cs} (h1 : X.N[j]? = some x) (h2 : CellK (X.env.kindOf x)) (h3 : CellK ((relabel scope X.env).names.lookup x)) (h4 : cl.lookup x = X.env.cells.lookup x) :
      Caps X scope cl N cs → Caps X scope cl (x :: N) (some j :: cs)
theorem Caps.len {X : Cx} {scope : Scope} {cl : List (Str × Addr)} {N cs} (h : Caps X scope cl N cs) : cs.length = N.length := by
  induction h with
  | nil => rfl
  | own _ ih => simp [ih]
  | cap _ _ _ _ _ ih => simp [ih]
theorem Caps.get {X : Cx} {scope : Scope} {cl : List (Str × Addr)} {N cs} (h : Caps X scope cl N cs) {σ : St} : ∀ {i : Nat} {x : Str} {v : V}, N[i]? = some x → (caps cs σ)[i]? = some (some v) →
    ∃ j : Nat, X.N[j]? = some x ∧ σ[j]? = some (some v) ∧ CellK (X.env.kindOf x) ∧ CellK ((relabel scope X.env).names.lookup x) ∧ cl.lookup x = X.env.cells.lookup x := by
  induction h with
  | nil => intro i x v h1 h2; simp at h1
  | own _ ih =>
    intro i x v h1 h2
    cases i with
    | zero => simp [caps] at h2
    | succ i => exact ih (i := i) (by simpa using h1) (by simpa [caps] using h2)
  | @cap y j N cs a1 a2 a3 a4 _ ih =>
    intro i x v h1 h2
    cases i with
    | zero =>
      simp at h1
      subst h1
      refine ⟨j, a1, ?_, a2, a3, a4⟩
      simp [caps] at h2
      cases q : σ[j]? with
      | none => rw [q] at h2; simp at h2
      | some o =>
        rw [q] at h2
        simp at h2
        rw [h2]
    | succ i => exact ih (i := i) (by simpa using h1) (by simpa [caps] using h2)
noncomputable def clOk (cl : List (Str × Addr)) (names : List (Str × NameKind)) : Bool := names.all fun y => (y.2 != .cell && y.2 != .free) || (cl.lookup y.1).isSome
theorem clOk_has {cl : List (Str × Addr)} {names : List (Str × NameKind)} (h : clOk cl names = true) {x : Str} (k : CellK (names.lookup x)) : ∃ c, cl.lookup x = some c := by
  have key : ∀ q : NameKind, names.lookup x = some q → (q = .cell ∨ q = .free) → ∃ c, cl.lookup x = some c := fun q e hq => by
    have m := List.all_eq_true.mp h (x, q) (PySem.mem_of_lookup e)
    rcases hq with rfl | rfl
    · exact Option.isSome_iff_exists.mp (by simpa using m)
    · exact Option.isSome_iff_exists.mp (by simpa using m)
  rcases k with k | k
  · exact key _ k (.inl rfl)
  · exact key _ k (.inr rfl)

noncomputable def PIfs (X : Cx) (ifs : List Expr) (t : TT) : Prop :=
  ∀ (pins : List (Addr × Obj)) (s : Shared) (σ : St) (H : Hp) (Q : Bool → Hp → Prop), Inv X pins σ H s → t σ H Q →
    wpAny (model X.prog X.w) X.A (forIn ifs true fun c r => if r = true then do let ok ← isTrue c X.env (eval c X.env); pure (ForInStep.yield ok) else pure (ForInStep.yield r)) (TP X pins σ Q) X.xe s
noncomputable def tAll : TT := fun _ H Q => Q true H
theorem pif_nil {X : Cx} : PIfs X [] tAll := fun _ _ _ H _ I h => wpAny_tests_nil ⟨H, I, h⟩
theorem pif_one {X : Cx} {c : Expr} {t : TT} (h : PT X c t) : PIfs X [c] t := fun pins s σ H Q I q => wpAny_tests_one (h pins s σ H Q I q)

noncomputable def tLC (wi : TI) (cs : List (Option Nat)) (g : TG) (tt : TT) (te : TE) : TE := fun σ H Q => wi σ H fun J H1 => ∀ D, H1 D = none →
  ∃ W : Nat → Nat → List V → St → Hp → Prop, (∃ m, W 0 m [] (caps cs σ) (upd H1 D (.lst []))) ∧ ∀ i m ys σ' H', W i m ys σ' H' → H' D = some (.lst ys) ∧ ys.length < sizeLine ∧
    ((J.stop i H' ∧ Q (.ref D) H') ∨ (J.go i H' ∧ ∀ x H2, J.yld i H' x H2 → g x σ' H2 fun σ3 H3 => tt σ3 H3 fun b H4 =>
      if b = true then te σ3 H4 fun y H5 => H5 D = some (.lst ys) ∧ ∃ m', m' < m ∧ W (i + 1) m' (ys ++ [y]) σ3 (upd H5 D (.lst (ys ++ [y])))
      else ∃ m', m' < m ∧ W (i + 1) m' ys σ3 H4))

section
variable {X : Cx} {elt tg iter : Expr} {ifs : List Expr} {scope : Scope} {pos : Pos} {N' : List Str} {cs : List (Option Nat)} {cl : List (Str × Addr)} {wi : TI} {g : TG} {tt : TT} {te : TE}

theorem lc_any {use : Option (Value → Sem Unit)} {QQ : Value → Shared → Prop} {pins : List (Addr × Obj)} {s : Shared} {σ : St} {H : Hp} {Q : VK} {fpos : Pos} (hc : X.calm = true) (hi : PI X tg iter wi) (hclos : closureFor scope X.env = pure cl) (hcell : ∀ y ∈ scope.names, y.2 ≠ .cell) (hkind : scope.kind = .function)
    (hnames : ∀ y ∈ scope.names, y.2 = .local → scope.names.lookup y.1 = some .local) (hsub : ∀ x c, cl.lookup x = some c → X.env.cells.lookup x = some c)
    (hok : clOk cl (relabel scope X.env).names = true) (hcaps : Caps X scope cl N' cs)
    (hb : ∀ (C : Addr) (s3 : Shared) (H3 : Hp) (fp : List Addr) (pn : List (Addr × Obj)), PG (cxComp X N' scope cl C s3 H3 fp pn) tg g ∧ PIfs (cxComp X N' scope cl C s3 H3 fp pn) ifs tt ∧ PE (cxComp X N' scope cl C s3 H3 fp pn) elt te)
    (hs : ∀ x, foldedSetIterable iter X.env x = pure x := by intro _; rfl) (I : Inv X pins σ H s) (h : tLC wi cs g tt te σ H Q)
    (post : ∀ (D C : Addr) (s4 : Shared) (H' : Hp) (m : Str → Option Value), Inv X pins σ H' s4 → s4.heap.Ns C m → FpOk X pins H' C → Q (.ref D) H' → compPost (model X.prog X.w) X.A X.xe use QQ (.ref D) C (.ok .next) s4) :
    wpAny (model X.prog X.w) X.A (comprehension (.ListComp elt [⟨tg, iter, ifs, 0⟩] scope pos) scope X.env fpos (newList []) false (eval iter X.env) use) QQ X.xe s := by
  refine wpAny_comprehension_free (use := use) rfl hs hclos hkind hnames (thn (hi pins s σ H _ I h) fun v s1 h1 => thn h1 fun itv s2 h2 => ?_)
  obtain ⟨it, fp, tn, J, H2, rfl, I2, T, st2, f2, q2⟩ := h2
  refine wpAny_newObj_type (wpAny_newFunctionEnv hcell (by intro y hy; simp at hy) (fun h1 hns1 hsb1 => ?_) hkind)
  dsimp only at hns1 hsb1 ⊢
  have I3 : Inv X pins σ (upd H2 s2.heap.objs.size (.lst [])) { s2 with heap := s2.heap.push { cls := .type "list", data := .seq ([] : List Value).toArray }, toks := s2.toks } := I2.lnew (its := []) (ys := []) .nil (Nat.zero_le _)
  have hDf : H2 s2.heap.objs.size = none := I2.fresh
  obtain ⟨W, ⟨m0, w0⟩, turn⟩ := q2 _ hDf
  generalize hH3 : s2.heap.push { cls := .type "list", dict := none, data := .seq ([] : List Value).toArray } = h3 at hns1 hsb1 I3 ⊢
  have hsz3 : h3.objs.size = s2.heap.objs.size + 1 := by rw [← hH3, Heap.size_push]
  generalize hD : s2.heap.objs.size = D at *
  have kept : ∀ b o, h3.get? b = some o → h1.get? b = some o := fun b o e => hsb1.extBut b o (Nat.ne_of_lt (Heap.lt_size e)) (Heap.get?_push_of_some _ e)
  have old : ∀ b o, s2.heap.get? b = some o → h3.get? b = some o := fun b o e => by rw [← hH3]; exact Heap.get?_push_of_some _ e
  have fpo : ∀ b ∈ fp, b < D := fun b hb' => by
    obtain ⟨o, e, _⟩ := T.obj 0 _ st2 b hb'
    rw [← hD]
    exact Heap.lt_size e
  have fpfs : ∀ b ∈ fp, b ∉ frs X.stack := fun b hb' z => by
    obtain ⟨_, f1, f3, _⟩ := f2 b hb'
    rcases List.mem_cons.mp (I2.stkSub b z) with e | e
    · exact f1 e
    · exact f3 e
  -- the block's context
  generalize hX : cxComp X N' scope cl h3.objs.size { s2 with heap := h3, toks := s2.toks } (upd H2 D (.lst [])) fp (X.pn ++ pins) = X'
  obtain ⟨hg, hif, he⟩ := hb h3.objs.size { s2 with heap := h3, toks := s2.toks } (upd H2 D (.lst [])) fp (X.pn ++ pins)
  rw [hX] at hg hif he
  have eP : X'.prog = X.prog := by rw [← hX]; rfl
  have eW : X'.w = X.w := by rw [← hX]; rfl
  have eK : X'.K = X.K := by rw [← hX]; rfl
  have eC : X'.calm = X.calm := by rw [← hX]; rfl
  have I4 : Inv X' [] (caps cs σ) (upd H2 D (.lst [])) { s2 with heap := h1, toks := s2.toks + 0 } := by
    rw [← hX]
    refine ⟨⟨I3.ok.mod, hkind, I3.ok.glob, I3.ok.blt, Nat.le_refl _, fun x y c e1 e2 => I3.ok.inj x y c (hsub _ _ e1) (hsub _ _ e2), fun x hx => clOk_has hok hx, fun x c z _ => absurd (show false = true from z) Bool.false_ne_true, I3.ok.hd, I3.ok.frames, .inl rfl,
      fun b hb' => ⟨fun e => ?_, fun x c e => (f2 b hb').2.2.2.2.1 x c (hsub _ _ e)⟩, I3.bs, Nat.le_trans I3.ok.bsz I3.sz, fun b o e hb' => ?_, fpfs, I3.stack, I3.stkFree⟩, rfl, I3.bare, Un.kept kept, ⟨_, hns1, fun i x v e1 e2 e3 => ?_⟩, fun x c e => ?_, I3.hok.fresh (Nat.le_refl _), fun x c e => I3.freeC x c (hsub _ _ e),
      fun p hp => ?_, I3.hok.kept kept, ?_⟩
    · have l := fpo b hb'
      rw [show b = h3.objs.size from e, hsz3] at l
      exact Nat.lt_irrefl _ (Nat.lt_of_succ_lt l)
    · have l := fpo b hb'
      rcases (f2 b hb').2.2.2.1 with z | z
      · exact I2.ok.noex b o e z
      · exact absurd (Nat.lt_of_lt_of_le (Heap.lt_size (I2.ok.bs b o e).1) z) (Nat.lt_irrefl _)
    · obtain ⟨j, a1, a2, a3, a4, a5⟩ := hcaps.get e1 e2
      obtain ⟨m, hn, hl⟩ := I3.loc
      obtain ⟨u, ru, l⟩ := hl j x v a1 a2 (by rcases a3 with z | z; exact .inr (.inl z); exact .inr (.inr z))
      refine ⟨u, ru, .inr ⟨a4, ?_⟩⟩
      rcases l with ⟨k, _⟩ | ⟨k, c, e, z⟩
      · rcases a3 with q | q <;> (rw [k] at q; cases q)
      · obtain ⟨o, ho, hd⟩ := z
        exact ⟨c, a5.trans e, o, kept c o ho, hd⟩
    · obtain ⟨v, o, ho, hd⟩ := I3.cell x c (hsub _ _ e)
      exact ⟨v, o, kept c o ho, hd⟩
    · have hp' : p ∈ X.pn ++ pins := by simpa [cxComp] using hp
      obtain ⟨e, n, ne, nf, d⟩ := I3.pin p hp'
      refine ⟨kept _ _ e, n, Nat.ne_of_lt (Heap.lt_size e), fun z => ?_, d⟩
      rcases List.mem_cons.mp (I3.stkSub p.1 z) with q | q
      · exact ne q
      · exact nf q
    · show (caps cs σ).length = N'.length
      rw [caps, List.length_map]
      exact hcaps.len
  have tn1 : tn 0 h1 := T.keep 0 _ _ st2 fun b hb' o e => kept b o (old b o e)
  have stat : ∀ {H' : Hp}, (∀ b ∈ fp, H' b = none) → ∀ b ∈ fp, FpOk X' [] H' b := fun {H'} hn b hb' => by
    rw [← hX]
    refine ⟨hn b hb', fun e => ?_, fpfs b hb', .inl hb', fun x c e => (f2 b hb').2.2.2.2.1 x c (hsub _ _ e), fun p hp => (f2 b hb').2.2.2.2.2 p (by simpa [cxComp] using hp)⟩
    have l := fpo b hb'
    rw [show b = h3.objs.size from e, hsz3] at l
    exact Nat.lt_irrefl _ (Nat.lt_of_succ_lt l)
  have fr0 : ∀ b ∈ fp, (upd H2 D (.lst [])) b = none := fun b hb' => by
    rw [upd_ne (Nat.ne_of_lt (fpo b hb'))]
    exact (f2 b hb').1
  have xA : X'.A = X.A := by rw [← hX]; rfl
  have xE : X'.env = compEnvC scope cl h3.objs.size X.env := by rw [← hX]; rfl
  have xX : X'.xe = NoX := by rw [← hX]; rfl
  have loop : codeAny (model X.prog X.w) X.A (.compLoop (.ListComp elt [⟨tg, iter, ifs, 0⟩] scope pos) 0 (.ref it) (.ref D) (compEnvC scope cl h3.objs.size X.env))
      (compPost (model X.prog X.w) X.A X.xe use QQ (.ref D) h3.objs.size) { s2 with heap := h1, toks := s2.toks + 0 } := by
    refine comp_turns (fun n s' => ∃ i ys σ' H', Inv X' [] σ' H' s' ∧ tn i s'.heap ∧ (∀ b ∈ fp, H' b = none) ∧ W i n ys σ' H') ?_ m0 ⟨0, [], _, _, I4, tn1, fr0, w0⟩
    rintro n s' ⟨i, ys, σ', H', I', st', fr', w'⟩
    obtain ⟨hHD, hyl, hor⟩ := turn i n ys σ' H' w'
    rcases hor with ⟨stop, q⟩ | ⟨go, step⟩
    · have hd := T.done X' eP eW eK (eC.trans hc) i [] s' σ' H' NoX I' (stat fr') st' stop
      rw [xA] at hd
      refine thn hd fun r s4 hr => ?_
      obtain ⟨rfl, I5⟩ := hr
      obtain ⟨m, hn, _⟩ := id I5.loc
      have eL : X'.env.locals = h3.objs.size := by rw [xE]; rfl
      have hfree : H' h3.objs.size = none := by rw [← eL]; exact I5.free
      have bu := I5.base
      rw [← hX] at bu
      have hos : s4.os = s2.os := by
        have z := I5.os
        rw [← hX] at z
        exact z
      have hk5 := I5.hok
      rw [eP, eW] at hk5
      have Iout : Inv X pins σ H' s4 := I3.call' (s' := s4) (ch := fp) hos ⟨bu.keep, bu.slot, bu.free, bu.there, bu.tups, bu.frzs, bu.tbls⟩ hk5 I5.bare fun b hb' => by
        obtain ⟨_, g1, _, g3, g4, g5⟩ := f2 b hb'
        exact ⟨g3, g1, g4, g5⟩
      exact post D h3.objs.size s4 H' m Iout (by rw [eL] at hn; exact hn) (I3.fpOk (Nat.le_refl _) hfree) q
    · have hit := T.item X' eP eW eK (eC.trans hc) i [] s' σ' H' NoX I' (stat fr') st' go
      rw [xA] at hit
      refine thn hit fun r s4 hr => ?_
      obtain ⟨u, rfl, h4⟩ := hr
      refine thn h4 fun _ s5 h5 => ?_
      obtain ⟨x, H5, I5, r5, y5, st5, fr5⟩ := h5
      have I5' := I5.pinned (stat fr5) (T.obj _ _ st5)
      have ha := hg _ s5 σ' H5 x u _ I5' r5 (step x H5 y5)
      rw [xA, xE, xX, eP, eW] at ha
      refine thn ha fun _ s6 h6 => ?_
      obtain ⟨σ6, H6, I6, q6⟩ := h6
      have ht := hif _ s6 σ6 H6 _ I6 q6
      rw [xA, xE, xX, eP, eW] at ht
      refine thn ht fun ok s7 h7 => ?_
      obtain ⟨H7, I7, q7⟩ := h7
      have back : ∀ {σ8 : St} {H8 : Hp} {s8 : Shared} {ys' : List V} {m' : Nat}, Inv X' ([] ++ pinsAt fp s5.heap) σ8 H8 s8 → m' < n → W (i + 1) m' ys' σ8 H8 →
          ∃ m, m < n ∧ ∃ i ys σ' H', Inv X' [] σ' H' s8 ∧ tn i s8.heap ∧ (∀ b ∈ fp, H' b = none) ∧ W i m ys σ' H' := fun {σ8 H8 s8 ys' m'} I8 hm w8 => by
        refine ⟨m', hm, i + 1, ys', σ8, H8, I8.unpinned, T.keep _ _ _ st5 fun b hb' o e => (I8.pin (b, o) (List.mem_append_right _ (List.mem_append_right _ (mem_pinsAt hb' e)))).1, fun b hb' => ?_, w8⟩
        obtain ⟨o, e, d⟩ := T.obj _ _ st5 b hb'
        exact (I8.pin (b, o) (List.mem_append_right _ (List.mem_append_right _ (mem_pinsAt hb' e)))).2.1
      cases ok with
      | false =>
        rw [if_neg Bool.false_ne_true] at q7 ⊢
        obtain ⟨m', hm, w7⟩ := q7
        exact back I7 hm w7
      | true =>
        rw [if_pos rfl] at q7 ⊢
        have hel := he _ s7 σ6 H7 _ I7 q7
        rw [xA, xE, xX, eP, eW] at hel
        refine thn hel fun yv s8 h8 => ?_
        obtain ⟨y, H8, I8, r8, hD8, m', hm, w8⟩ := h8
        have hap := mt_append (X := X') _ s8 σ6 H8 (.ref D) [y] (.ref D) [yv] (fun _ H9 => H9 = upd H8 D (.lst (ys ++ [y]))) I8 rfl (.cons r8 .nil) ⟨D, ys, y, rfl, rfl, hD8, hyl, rfl⟩
        rw [xA, xX, eP, eW] at hap
        refine thn hap fun _ s9 h9 => ?_
        obtain ⟨_, H9, I9, _, rfl⟩ := h9
        exact back I9 hm w8
  exact codeAny_compStart_list loop (T.self _ 0 _ _ _ tn1 loop)
theorem pe_lc (hc : X.calm = true) (hi : PI X tg iter wi) (hclos : closureFor scope X.env = pure cl) (hcell : ∀ y ∈ scope.names, y.2 ≠ .cell) (hkind : scope.kind = .function)
    (hnames : ∀ y ∈ scope.names, y.2 = .local → scope.names.lookup y.1 = some .local) (hsub : ∀ x c, cl.lookup x = some c → X.env.cells.lookup x = some c)
    (hok : clOk cl (relabel scope X.env).names = true) (hcaps : Caps X scope cl N' cs)
    (hb : ∀ (C : Addr) (s3 : Shared) (H3 : Hp) (fp : List Addr) (pn : List (Addr × Obj)), PG (cxComp X N' scope cl C s3 H3 fp pn) tg g ∧ PIfs (cxComp X N' scope cl C s3 H3 fp pn) ifs tt ∧ PE (cxComp X N' scope cl C s3 H3 fp pn) elt te)
    (hs : ∀ x, foldedSetIterable iter X.env x = pure x := by intro _; rfl) : PE X (.ListComp elt [⟨tg, iter, ifs, 0⟩] scope pos) (tLC wi cs g tt te) := by
  intro pins s σ H Q I h
  rw [eval_ListComp]
  refine lc_any hc hi hclos hcell hkind hnames hsub hok hcaps hb hs I h fun D C s4 H' m I4 hn fC q => ⟨m, hn, fun h' hsb => ⟨.ref D, H', ?_, rfl, q⟩⟩
  obtain ⟨f0, f1, f2, f3, f4, f5⟩ := fC
  exact I4.turned (t' := s4.toks) (fun b o hb e => (hsb.2 b hb).trans e) f0 f1 f3 f4 f5
theorem ps_setLC {i : Nat} {y : Str} {py spos : Pos} (hN : X.N.Nodup) (hiy : X.N[i]? = some y) (hly : X.env.scope.names.lookup y = some .local) (hsw : swapsWith (.ListComp elt [⟨tg, iter, ifs, 0⟩] scope pos) (some (.Name y py)) spos.line X.env = pure true)
    (hc : X.calm = true) (hi : PI X tg iter wi) (hclos : closureFor scope X.env = pure cl) (hcell : ∀ y ∈ scope.names, y.2 ≠ .cell) (hkind : scope.kind = .function)
    (hnames : ∀ y ∈ scope.names, y.2 = .local → scope.names.lookup y.1 = some .local) (hsub : ∀ x c, cl.lookup x = some c → X.env.cells.lookup x = some c)
    (hok : clOk cl (relabel scope X.env).names = true) (hcaps : Caps X scope cl N' cs)
    (hb : ∀ (C : Addr) (s3 : Shared) (H3 : Hp) (fp : List Addr) (pn : List (Addr × Obj)), PG (cxComp X N' scope cl C s3 H3 fp pn) tg g ∧ PIfs (cxComp X N' scope cl C s3 H3 fp pn) ifs tt ∧ PE (cxComp X N' scope cl C s3 H3 fp pn) elt te)
    (hs : ∀ x, foldedSetIterable iter X.env x = pure x := by intro _; rfl) : PS X (.Assign [.Name y py] (.ListComp elt [⟨tg, iter, ifs, 0⟩] scope pos) spos) (tAsg (tLC wi cs g tt te) (gName i)) := by
  intro pins s σ H D0 I h
  rw [exec_Assign_Name_used _ _ _ _ hsw]
  refine wpAny_bind (wpAny_standAt (wpAny_bind ?_))
  show wpAny _ X.A (do let _ ← comprehension (.ListComp elt [⟨tg, iter, ifs, 0⟩] scope pos) scope X.env _ (newList []) false (eval iter X.env) (some (assign (.Name y py) X.env))) _ _ s
  refine wpAny_bind (wpAny_mono (lc_any (use := some (assign (.Name y py) X.env)) (QQ := fun _ s' => SP X pins D0 .next s') hc hi hclos hcell hkind hnames hsub hok hcaps hb hs I h ?_) (fun _ s' hq => wpAny_pure (wpAny_pure hq)) fun _ _ e => e)
  intro D C s4 H' m I4 hn fC q
  obtain ⟨f0, f1, f2, f3, f4, f5⟩ := fC
  refine wpAny_assign_Name (store_ok2 I4 hN hiy (.inl hly) (v := .ref D) rfl (fun s6 I6 ⟨a, sb, ha⟩ => ?_) (.inr hly))
  have hCa : C ≠ a := by
    rcases ha with rfl | ha
    · exact f1
    · exact fun e => f4 _ _ ha e.symm
  refine ⟨m, hn.sameBut sb hCa, fun h' hsb => ⟨_, H', ?_, q⟩⟩
  exact I6.turned (t' := s6.toks) (fun b o hb e => (hsb.2 b hb).trans e) f0 f1 f3 f4 f5
end

noncomputable def Wk (J : It) (H1 : Hp) (xs : List V) : Prop := ∀ H', Same H1 H' → J.stop xs.length H' ∧ (∀ i, i < xs.length → J.go i H') ∧ ∀ i x H2, i < xs.length → J.yld i H' x H2 → H2 = H' ∧ xs[i]? = some x
theorem wk_list {K : PySem.W.Frag} {a : Addr} {xs : List V} {H1 : Hp} (h : SqL K H1 a xs) : Wk (Itl K a) H1 xs := fun H' sm =>
  ⟨⟨xs, sm.seq h, Nat.le_refl _⟩, fun i hi => ⟨xs, xs[i], sm.seq h, by simp [hi]⟩, fun i x H2 _ y => ⟨y.1, y.2 xs (sm.seq h)⟩⟩
theorem wk_range {H1 : Hp} (lo : Int) (n : Nat) : Wk (Itr lo n) H1 ((List.range n).map fun i : Nat => V.int (lo + i)) := fun H' _ =>
  ⟨by show n ≤ _; simp, fun i hi => (by simpa using hi : i < n), fun i x H2 hi y => by
    obtain ⟨e1, e2⟩ := y
    have hi' : i < n := by simpa using hi
    refine ⟨e1, ?_⟩
    rw [e2]
    simp [hi']⟩
theorem for_wk {J : It} {xs : List V} {g : TG} {tb : TS} {D : Ends} {σ : St} {H : Hp} (Pv : Nat → St → Hp → Prop) (wk : Wk J H xs) (h0 : Pv 0 σ H) (hm : ∀ i σ' H', Pv i σ' H' → Same H H')
    (hs : ∀ i x σ' H', xs[i]? = some x → Pv i σ' H' → g x σ' H' fun σ2 H2 => tb { D with nx := Pv (i + 1), ct := Pv (i + 1), bk := D.nx } σ2 H2) (hd : ∀ σ' H', Pv xs.length σ' H' → D.nx σ' H') :
    ∃ W : Nat → Nat → St → Hp → Prop, (∃ m, W 0 m σ H) ∧ ∀ i m σ H, W i m σ H →
      (J.stop i H ∧ D.nx σ H) ∨ (J.go i H ∧ ∃ N : St → Hp → Prop, (∀ σ' H', N σ' H' → ∃ m', m' < m ∧ W (i + 1) m' σ' H') ∧ ∀ x H', J.yld i H x H' → g x σ H' fun σ2 H2 => tb { D with nx := N, ct := N, bk := D.nx } σ2 H2) := by
  refine ⟨fun i m σ' H' => m = xs.length - i ∧ i ≤ xs.length ∧ Pv i σ' H', ⟨xs.length, by simp, Nat.zero_le _, h0⟩, ?_⟩
  rintro i m σ' H' ⟨rfl, hi, p⟩
  obtain ⟨w1, w2, w3⟩ := wk H' (hm i σ' H' p)
  by_cases hlt : i < xs.length
  · refine .inr ⟨w2 i hlt, Pv (i + 1), fun σ2 H2 p' => ⟨xs.length - (i + 1), by omega, rfl, hlt, p'⟩, fun x H2 y => ?_⟩
    obtain ⟨rfl, ex⟩ := w3 i x H2 hlt y
    exact hs i x σ' _ ex p
  · have e : i = xs.length := by omega
    subst e
    exact .inl ⟨w1, hd σ' H' p⟩
theorem lc_wk {J : It} {xs : List V} {cs : List (Option Nat)} {σ rest : St} {tt : TT} {te : TE} {Q : VK} {H1 : Hp} (hcs : caps cs σ = none :: rest) (wk : Wk J H1 xs) (hl : xs.length < sizeLine) (p : V → Bool) (f : V → V)
    (test : ∀ (i : Nat) (x : V) (H2 : Hp) (R : Bool → Hp → Prop), xs[i]? = some x → Same H1 H2 → (∀ H5, Same H2 H5 → R (p x) H5) → tt (some x :: rest) H2 R)
    (elt : ∀ (i : Nat) (x : V) (H2 : Hp) (R : VK), xs[i]? = some x → p x = true → Same H1 H2 → (∀ H5, Same H2 H5 → R (f x) H5) → te (some x :: rest) H2 R)
    (fin : ∀ (D : Addr) (H' : Hp), H1 D = none → H' D = some (.lst ((xs.filter p).map f)) → Same H1 H' → Q (.ref D) H') :
    ∀ D, H1 D = none → ∃ W : Nat → Nat → List V → St → Hp → Prop, (∃ m, W 0 m [] (caps cs σ) (upd H1 D (.lst []))) ∧ ∀ i m ys σ' H', W i m ys σ' H' → H' D = some (.lst ys) ∧ ys.length < sizeLine ∧
      ((J.stop i H' ∧ Q (.ref D) H') ∨ (J.go i H' ∧ ∀ x H2, J.yld i H' x H2 → gName 0 x σ' H2 fun σ3 H3 => tt σ3 H3 fun b H4 =>
        if b = true then te σ3 H4 fun y H5 => H5 D = some (.lst ys) ∧ ∃ m', m' < m ∧ W (i + 1) m' (ys ++ [y]) σ3 (upd H5 D (.lst (ys ++ [y])))
        else ∃ m', m' < m ∧ W (i + 1) m' ys σ3 H4)) := by
  intro D hD
  refine ⟨fun i m ys σ' H' => m = xs.length - i ∧ i ≤ xs.length ∧ ys = ((xs.take i).filter p).map f ∧ (∃ o, σ' = o :: rest) ∧ Same H1 H' ∧ H' D = some (.lst ys), ⟨xs.length, by simp, Nat.zero_le _, by simp, ⟨none, hcs⟩, fun b o e => ?_, upd_same⟩, ?_⟩
  · rw [upd_ne (ne_of_none e hD)]
    exact e
  · rintro i m ys σ' H' ⟨rfl, hi, rfl, ⟨o, rfl⟩, sm, hHD⟩
    obtain ⟨w1, w2, w3⟩ := wk H' sm
    refine ⟨hHD, Nat.lt_of_le_of_lt ?_ hl, ?_⟩
    · rw [List.length_map]
      refine Nat.le_trans (List.length_filter_le _ _) ?_
      rw [List.length_take]
      exact Nat.min_le_right _ _
    by_cases hlt : i < xs.length
    · refine .inr ⟨w2 i hlt, fun x H2 y => ?_⟩
      obtain ⟨rfl, ex⟩ := w3 i x H2 hlt y
      show tt (some x :: rest) H2 _
      refine test i x H2 _ ex sm fun H4 s4 => ?_
      have tk : xs.take (i + 1) = xs.take i ++ [x] := by rw [List.take_add_one, ex]; rfl
      cases hp : p x with
      | true =>
        refine iteT ?_
        refine elt i x H4 _ ex hp (sm.trans s4) fun H5 s5 => ⟨s5 _ _ (s4 _ _ hHD), xs.length - (i + 1), by omega, rfl, hlt, ?_, ⟨_, rfl⟩, fun b ob e => ?_, upd_same⟩
        · rw [tk, List.filter_append, List.map_append]
          simp [hp]
        · rw [upd_ne (ne_of_none e hD)]
          exact s5 _ _ (s4 _ _ (sm _ _ e))
      | false =>
        refine iteF ⟨xs.length - (i + 1), by omega, rfl, hlt, ?_, ⟨_, rfl⟩, sm.trans s4, s4 _ _ hHD⟩
        rw [tk, List.filter_append, List.map_append]
        simp [hp]
    · have e : i = xs.length := by omega
      subst e
      exact .inl ⟨w1, fin D H' hD (by rw [hHD, List.take_length]) sm⟩
theorem lc_map {J : It} {xs : List V} {cs : List (Option Nat)} {σ rest : St} {te : TE} {Q : VK} {H1 : Hp} (hcs : caps cs σ = none :: rest) (wk : Wk J H1 xs) (hl : xs.length < sizeLine) (f : V → V)
    (elt : ∀ (i : Nat) (x : V) (H2 : Hp) (R : VK), xs[i]? = some x → Same H1 H2 → (∀ H5, Same H2 H5 → R (f x) H5) → te (some x :: rest) H2 R)
    (fin : ∀ (D : Addr) (H' : Hp), H1 D = none → H' D = some (.lst (xs.map f)) → Same H1 H' → Q (.ref D) H') :
    ∀ D, H1 D = none → ∃ W : Nat → Nat → List V → St → Hp → Prop, (∃ m, W 0 m [] (caps cs σ) (upd H1 D (.lst []))) ∧ ∀ i m ys σ' H', W i m ys σ' H' → H' D = some (.lst ys) ∧ ys.length < sizeLine ∧
      ((J.stop i H' ∧ Q (.ref D) H') ∨ (J.go i H' ∧ ∀ x H2, J.yld i H' x H2 → gName 0 x σ' H2 fun σ3 H3 => tAll σ3 H3 fun b H4 =>
        if b = true then te σ3 H4 fun y H5 => H5 D = some (.lst ys) ∧ ∃ m', m' < m ∧ W (i + 1) m' (ys ++ [y]) σ3 (upd H5 D (.lst (ys ++ [y])))
        else ∃ m', m' < m ∧ W (i + 1) m' ys σ3 H4)) :=
  lc_wk hcs wk hl (fun _ => true) f (fun i x H2 R _ _ h => h H2 (Same.refl _)) (fun i x H2 R ex _ sm h => elt i x H2 R ex sm h) fun D H' h1 h2 h3 => fin D H' h1 (by rw [h2, List.filter_eq_self.mpr fun _ _ => rfl]) h3
end L3
set_option Elab.async false
set_option linter.all false
set_option maxRecDepth 100000
set_option maxHeartbeats 4000000
namespace L3
open PySem PySem.Spec PyProof.Rows L2

noncomputable def signs (x : Str) : List V := x.cps.toList.map fun c => V.str ⟨#[c]⟩
noncomputable def Its (x : Str) : It := ⟨fun i _ => i < x.cps.size, fun i H v H' => H' = H ∧ ∃ c, x.cps[i]? = some c ∧ v = .str ⟨#[c]⟩, fun i _ => i = x.cps.size⟩
theorem wk_str {H1 : Hp} (x : Str) : Wk (Its x) H1 (signs x) := fun H' _ => by
  have hl : (signs x).length = x.cps.size := by simp [signs]
  refine ⟨hl, fun i hi => by rw [hl] at hi; exact hi, fun i v H2 hi y => ?_⟩
  obtain ⟨e1, c, e2, e3⟩ := y
  refine ⟨e1, ?_⟩
  subst e3
  have e4 : x.cps.toList[i]? = some c := by simpa using e2
  simp [signs, e4]
theorem turn_str {P : Program} {w : World} {K : PySem.W.Frag} {tg : Expr} (it : Addr) (x : Str) (t : Tok) {ty : String} (hty : ty = "str_ascii_iterator" ∨ ty = "str_iterator") : Turn P w K tg (Its x) [it] it (fun i h => h.IsStrIter it ty x t i) where
  mem := by simp
  obj := fun i h st b hb => by
    have e : b = it := by simpa using hb
    subst e
    obtain ⟨o, e, c, d⟩ := st
    exact ⟨o, e, fun v z => by rw [d] at z; cases z⟩
  keep := fun i h h' st k => by
    obtain ⟨o, e, r⟩ := st
    exact ⟨o, k it (by simp) o e, r⟩
  item := by
    intro X hP hw hK hc i pins s σ H E I hf st hg
    subst hP hw hK
    obtain ⟨f0, f1, f2, f3, f4, f5⟩ := hf it (by simp)
    have hi : i < x.cps.size := hg
    have ec : x.cps[i]? = some x.cps[i] := by simp [hi]
    rcases hty with rfl | rfl
    · refine wpAny_pyNext_ascii_item st ec fun h' st' sb => ?_
      have I1 : Inv X pins σ H { s with heap := h', toks := s.toks + 1 } := I.turned (fun b o hb e => (sb.2 b hb).trans e) f0 f1 f3 f4 f5
      obtain ⟨o, e, c, d⟩ := id st'
      exact ⟨_, rfl, go_of (s := { s with heap := h', toks := s.toks + 1 }) e c d (by decide) ⟨.str ⟨#[x.cps[i]]⟩, H, I1, ⟨_, rfl⟩, ⟨rfl, _, ec, rfl⟩, st', fun b hb => (hf b hb).1⟩⟩
    · refine wpAny_pyNext_wide_item st ec fun h' st' sb => ?_
      have I1 : Inv X pins σ H { s with heap := h', toks := s.toks + 1 } := I.turned (fun b o hb e => (sb.2 b hb).trans e) f0 f1 f3 f4 f5
      obtain ⟨o, e, c, d⟩ := id st'
      exact ⟨_, rfl, go_of (s := { s with heap := h', toks := s.toks + 1 }) e c d (by decide) ⟨.str ⟨#[x.cps[i]]⟩, H, I1, ⟨_, rfl⟩, ⟨rfl, _, ec, rfl⟩, st', fun b hb => (hf b hb).1⟩⟩
  done := by
    intro X hP hw hK hc i pins s σ H E I hf st hg
    subst hP hw hK
    obtain ⟨f0, f1, f2, f3, f4, f5⟩ := hf it (by simp)
    have ec : x.cps[i]? = none := by
      have e : i = x.cps.size := hg
      simp [e]
    rcases hty with rfl | rfl
    · exact wpAny_pyNext_ascii_end (I.ok.hd hc) st ec fun h' eb => ⟨rfl, I.turned (t' := s.toks) (fun b o hb e => eb b o hb e) f0 f1 f3 f4 f5⟩
    · exact wpAny_pyNext_wide_end (I.ok.hd hc) st ec fun h' eb => ⟨rfl, I.turned (t' := s.toks) (fun b o hb e => eb b o hb e) f0 f1 f3 f4 f5⟩
  self := fun _ _ _ _ _ st h => by
    rcases hty with rfl | rfl
    · exact wpAny_pyIter_striter_ascii st h
    · exact wpAny_pyIter_striter_wide st h
section
variable {X : Cx} {tg : Expr}
noncomputable def iStr (tl : TE) : TI := fun σ H R => tl σ H fun x H1 => ∃ z, x = .str z ∧ R (Its z) H1
theorem pi_str {l : Expr} {tl : TE} (hl : PE X l tl) : PI X tg l (iStr tl) := by
  intro pins s σ H R I h
  refine thn (hl pins s σ H _ I h) fun v s1 ⟨x, H1, I1, r1, q1⟩ => ?_
  obtain ⟨z, e, q⟩ := q1
  subst e
  obtain ⟨t, rfl⟩ := r1
  have fin : ∀ (ty : String) (_ : ty = "str_ascii_iterator" ∨ ty = "str_iterator"), PIE X pins σ tg R (.ref s1.heap.objs.size) { s1 with heap := s1.heap.push { cls := .type ty, data := .fields #[.str z t, .int 0 0] } } := fun ty hty => by
    refine ⟨s1.heap.objs.size, [s1.heap.objs.size], _, _, H1, rfl, I1.kept (t' := s1.toks) fun b o e => Heap.get?_push_of_some _ e, turn_str _ z t hty, ⟨_, Heap.get?_push_size _ rfl, rfl, rfl⟩, fun b hb => ?_, q⟩
    have e : b = s1.heap.objs.size := by simpa using hb
    subst e
    exact I1.fpOk (Nat.le_refl _) (I1.hok.fresh (Nat.le_refl _))
  cases ha : z.cps.all (· < 128) with
  | true => exact wpAny_pyIter_ascii ha (fin _ (.inl rfl))
  | false => exact wpAny_pyIter_wide ha (fin _ (.inr rfl))
end

section
variable {X : Cx} {e : Expr} {te : TE} {lo hi : Option Expr} {tl th : TO} {pos p2 : Pos}
theorem op_le_str : OpR X (compareOp .LtE) (fun x y H Q => ∃ i j, x = .str i ∧ y = .str j ∧ Q (.bl (!decide (j.cps.toList < i.cps.toList))) H) := by
  intro pins s σ H x y v u Q I rx ry h
  obtain ⟨i, j, rfl, rfl, q⟩ := h
  obtain ⟨t, rfl⟩ := rx
  obtain ⟨t', rfl⟩ := ry
  exact PySem.P.le_str (fin_bl I q rfl)
theorem le_one (c a : Nat) : (!decide ((⟨#[c]⟩ : Str).cps.toList < (⟨#[a]⟩ : Str).cps.toList)) = decide (a ≤ c) := by
  have h : ((⟨#[c]⟩ : Str).cps.toList < (⟨#[a]⟩ : Str).cps.toList) ↔ c < a := by
    show ([c] : List Nat) < [a] ↔ c < a
    simp [List.cons_lt_cons_iff]
  by_cases q : c < a
  · rw [decide_eq_true (h.mpr q), decide_eq_false (by omega)]
    rfl
  · rw [decide_eq_false fun z => q (h.mp z), decide_eq_true (by omega)]
    rfl

theorem call_all (hc : X.calm = true) : CallR X (.builtin "all") (fun xs H Q => ∃ (p : Addr) (bs : List Bool), xs = [.ref p] ∧ SqL X.K H p (bs.map V.bl) ∧ Q (.bl (bs.all id)) H) := by
  intro pins s σ H xs us Q I r h
  obtain ⟨p, bs, rfl, hq, q⟩ := h
  obtain ⟨u, rfl, ru⟩ := vals1 r
  cases ru
  obtain ⟨its, rv, pl, hz⟩ := I.list hq
  have hlen : bs.length = its.length := by have := rv.length; rwa [List.length_map] at this
  obtain ⟨o, n, eo, _⟩ := id pl
  have hne : p ≠ s.heap.objs.size := Nat.ne_of_lt (Heap.lt_size eo)
  have hh : X.A.in1.handled = none := I.ok.hd hc
  refine call_all_walk (wpAny_pyIter_list pl.isList ?_)
  refine ⟨s.heap.objs.size, [s.heap.objs.size, p], [s.heap.objs.size], its.toArray.size, _, _, fun i => bs.getD i false, rfl, Walks.list hh _ p hne its.toArray, ⟨⟨_, Heap.get?_push_size _ rfl, rfl, rfl⟩, pl.isList.push _⟩, ?_, fun h' tk k => ?_⟩
  · intro i v s' Q' E' hP hQ
    have hP' : its[i]? = some v := by simpa using hP
    have hi : i < its.length := (List.getElem?_eq_some_iff.mp hP').1
    have hb : (bs.map V.bl)[i]? = some (V.bl (bs.getD i false)) := by
      rw [List.getElem?_map, List.getElem?_eq_getElem (by omega : i < bs.length)]
      simp [List.getD, hlen ▸ hi]
    obtain ⟨u', e', r'⟩ := rv.get hb
    rw [hP'] at e'
    cases e'
    cases r'
    exact wpAny_truthy_bool hQ
  · have e : (List.range its.toArray.size).all (fun i => bs.getD i false) = bs.all id := by
      rw [List.size_toArray, ← hlen, Bool.eq_iff_iff]
      simp only [List.all_eq_true, List.mem_range]
      constructor
      · intro a b hb
        obtain ⟨i, hi, rfl⟩ := List.mem_iff_getElem.mp hb
        have := a i hi
        simpa [List.getD, hi] using this
      · intro a i hi
        have := a bs[i] (List.getElem_mem hi)
        simpa [List.getD, hi] using this
    rw [e]
    exact ⟨.bl (bs.all id), H, I.kept fun b ob z => k b ob (by simpa using Nat.ne_of_lt (Heap.lt_size z)) (Heap.get?_push_of_some _ z), rfl, q⟩

theorem call_isi : CallR X (.builtin "isinstance") (fun xs H Q => ∃ x c cv t b, xs = [x, c] ∧ (c = .ty cv ∧ TyOf X.K H x t ∧ PySem.W.kitOne X.K t (.type cv) = some b) ∧ Q (.bl b) H) := by
  intro pins s σ H xs us Q I r h
  obtain ⟨x, c, cv, t, b, rfl, ⟨rfl, ty, e⟩, q⟩ := h
  obtain ⟨u, w', rfl, ru, rw'⟩ := vals2 r
  cases rw'
  exact isinst_ok I ru ty e fun tk => ⟨.bl b, H, I.tok tk, rfl, q⟩
end

mutual
inductive Dt (K : PySem.W.Frag) (H : Hp) : V → PyData → Prop
  | non : Dt K H .non .none
  | bl (b : Bool) : Dt K H (.bl b) (.bool b)
  | int (i : Int) : Dt K H (.int i) (.int i)
  | str (x : Str) : Dt K H (.str x) (.str x)
  | lst {a : Addr} {xs : List V} {ds : List PyData} : SqL K H a xs → Dts K H xs ds → Dt K H (.ref a) (.list ds)
  | tup {a : Addr} {xs : List V} {ds : List PyData} : SqT K H a xs → Dts K H xs ds → Dt K H (.ref a) (.tuple ds)
inductive Dts (K : PySem.W.Frag) (H : Hp) : List V → List PyData → Prop
  | nil : Dts K H [] []
  | cons {v : V} {d : PyData} {vs : List V} {ds : List PyData} : Dt K H v d → Dts K H vs ds → Dts K H (v :: vs) (d :: ds)
end
section
variable {X : Cx} {pins : List (Addr × Obj)} {σ : St} {H : Hp} {s : Shared}
mutual
theorem dt_reads (I : Inv X pins σ H s) : ∀ {v : V} {d : PyData} {u : Value}, Dt X.K H v d → RelV v u → ∃ as, Reads s.heap u d as
  | _, _, _, .non, r => by cases r; exact ⟨_, .none⟩
  | _, _, _, .bl b, r => by cases r; exact ⟨_, .bool b⟩
  | _, _, _, .int i, r => by obtain ⟨t, rfl⟩ := r; exact ⟨_, .int i t⟩
  | _, _, _, .str x, r => by obtain ⟨t, rfl⟩ := r; exact ⟨_, .str x t⟩
  | _, _, _, .lst h ds, r => by
    cases r
    obtain ⟨its, rv, ⟨o, n, e, c, _, d⟩, _⟩ := I.list h
    obtain ⟨as, q⟩ := dts_reads I ds rv
    exact ⟨_, .list e c d (by simpa using q)⟩
  | _, _, _, .tup h ds, r => by
    cases r
    obtain ⟨its, rv, ⟨o, e, c, n, d⟩, _⟩ := I.tuple h
    obtain ⟨as, q⟩ := dts_reads I ds rv
    exact ⟨_, .tuple e c d (by simpa using q)⟩
theorem dts_reads (I : Inv X pins σ H s) : ∀ {vs : List V} {ds : List PyData} {us : List Value}, Dts X.K H vs ds → Vals vs us → ∃ as, ReadsAll s.heap us ds as
  | _, _, _, .nil, .nil => ⟨_, .nil⟩
  | _, _, _, .cons a b, .cons r t => by
    obtain ⟨as, q⟩ := dt_reads I a r
    obtain ⟨bs, q'⟩ := dts_reads I b t
    exact ⟨_, .cons q q'⟩
end
end
section
variable {X : Cx}
noncomputable def rEqD (K : PySem.W.Frag) (neg : Bool) : R2 := fun x y H Q => ∃ d e, Dt K H x d ∧ Dt K H y e ∧ SeqAt.shaped d = true ∧ SeqAt.shaped e = true ∧ Q (.bl (if neg then !PyData.eqv d e else PyData.eqv d e)) H
theorem op_eqD (hu : X.A.units + 64 < cLine) : OpR X (compareOp .Eq) (rEqD X.K false) := by
  intro pins s σ H x y v u Q I rx ry h
  obtain ⟨d, e, hd, he, sd, se, q⟩ := h
  obtain ⟨as, ra⟩ := dt_reads I hd rx
  obtain ⟨bs, rb⟩ := dt_reads I he ry
  exact eq_dataH ra rb sd se hu ⟨.bl _, H, I, rfl, q⟩
theorem op_neD (hu : X.A.units + 64 < cLine) : OpR X (compareOp .NotEq) (rEqD X.K true) := by
  intro pins s σ H x y v u Q I rx ry h
  obtain ⟨d, e, hd, he, sd, se, q⟩ := h
  obtain ⟨as, ra⟩ := dt_reads I hd rx
  obtain ⟨bs, rb⟩ := dt_reads I he ry
  exact ne_dataH ra rb sd se hu ⟨.bl _, H, I, rfl, q⟩
end
mutual
theorem eqv_self : ∀ d : PyData, d.canLay0 = true → PyData.eqv d d = true
  | .none, _ => rfl
  | .bool b, _ => by simp [PyData.eqv]
  | .int i, _ => by simp [PyData.eqv]
  | .str x, _ => by simp [PyData.eqv]
  | .list xs, h => by simp only [PyData.eqv]; exact eqvAll_self xs h
  | .tuple xs, h => by simp only [PyData.eqv]; exact eqvAll_self xs h
  | .dict _, h => by cases h
theorem eqvAll_self : ∀ ds : List PyData, PyData.canLayAll0 ds = true → PyData.eqvAll ds ds = true
  | [], _ => rfl
  | d :: r, h => by
    simp only [PyData.canLayAll0, Bool.and_eq_true] at h
    simp only [PyData.eqvAll, eqv_self d h.1, eqvAll_self r h.2, Bool.and_self]
end
end L3
set_option Elab.async false
set_option linter.all false
set_option maxRecDepth 100000
set_option maxHeartbeats 4000000
namespace L3
open PySem PySem.Spec PyProof.Rows L2

noncomputable def metS (val : Nat → Str) : Nat → Str → Bool
  | 0 => fun _ => false
  | i + 1 => fun k => metS val i k || decide (k = val i)
noncomputable def cntS (val : Nat → Str) : Nat → Nat
  | 0 => 0
  | i + 1 => if metS val i (val i) then cntS val i else cntS val i + 1
theorem cntS_le (val : Nat → Str) : ∀ i, cntS val i ≤ i
  | 0 => Nat.le_refl _
  | i + 1 => by
    have := cntS_le val i
    unfold cntS
    split <;> omega
theorem metS_iff (val : Nat → Str) (k : Str) : ∀ i, metS val i k = true ↔ ∃ j, j < i ∧ val j = k
  | 0 => by simp [metS]
  | i + 1 => by
    simp only [metS, Bool.or_eq_true, metS_iff val k i, decide_eq_true_eq]
    constructor
    · rintro (⟨j, hj, e⟩ | e)
      · exact ⟨j, by omega, e⟩
      · exact ⟨i, by omega, e.symm⟩
    · rintro ⟨j, hj, e⟩
      by_cases h : j = i
      · subst h
        exact .inr e.symm
      · exact .inl ⟨j, by omega, e⟩
theorem cntS_all (val : Nat → Str) : ∀ n, (∀ i j, i < j → j < n → val i ≠ val j) → cntS val n = n
  | 0, _ => rfl
  | n + 1, h => by
    have ih := cntS_all val n fun i j a b => h i j a (by omega)
    have hm : ¬ metS val n (val n) = true := fun z => by
      obtain ⟨j, hj, e⟩ := (metS_iff val (val n) n).mp z
      exact h j n hj (by omega) e
    unfold cntS
    rw [if_neg hm, ih]
theorem isS (x : Str) (t : Tok) : Value.isStrOf x (.str x t) = true := by simp [Value.isStrOf]
theorem set_turns {prog : Program} {w : World} {A : Around} {R : Result → Shared → Prop} {I : Addr} {fp wr : List Addr} {n : Nat} {Pv : Nat → Value → Prop} {St' : Nat → Heap → Prop} (W : Walks prog w A.in1 I fp wr n Pv St') (S : Addr) (hSf : S ∉ fp)
    (val : Nat → Str) (hval : ∀ i v, Pv i v → ∃ t, v = .str (val i) t) (hb : n + 1 < scanBound) : ∀ (k i : Nat) (s : Shared), n - i = k → i ≤ n → St' i s.heap → s.heap.SetOf (strKind prog w) S (metS val i) (cntS val i) →
      (∀ h' tk, (∀ b o, b ≠ S → b ∉ wr → s.heap.get? b = some o → h'.get? b = some o) → h'.SetOf (strKind prog w) S (metS val n) (cntS val n) → R (.ok (.ret .none)) { s with heap := h', toks := tk }) →
      codeAny (model prog w) A (.builtin "set.update.loop" ⟨[.ref S, .ref I], []⟩) R s := by
  have hSw : S ∉ wr := fun z => hSf (W.sub _ z)
  have stays : ∀ {h h' : Heap} {S' : Str → Bool} {m : Nat}, (∀ o, h.get? S = some o → h'.get? S = some o) → h.SetOf (strKind prog w) S S' m → h'.SetOf (strKind prog w) S S' m := fun kk ⟨o, es, ep, t, ho, r⟩ => ⟨o, es, ep, t, kk o ho, r⟩
  intro k
  induction k with
  | zero =>
    intro i s hk hi st hS hR
    obtain rfl : i = n := by omega
    refine codeAny_builtin PyProof.Rows.F.entry_set_update_loop ?_
    rw [Around.under_plainId PyProof.Rows.F.plain_set_update_loop _]
    show wpAny _ A.in1 (pyNext (.ref I) >>= _) _ _ s
    refine wpAny_bind (W.done s _ _ st fun h' tk kk => ?_)
    show wpAny _ A.in1 (ret Value.none) _ _ _
    exact wpAny_pure (hR h' tk (fun b o _ hb e => kk b o hb e) (stays (fun o e => kk S o hSw e) hS))
  | succ k ih =>
    intro i s hk hi st hS hR
    have hlt : i < n := by omega
    refine codeAny_builtin PyProof.Rows.F.entry_set_update_loop ?_
    rw [Around.under_plainId PyProof.Rows.F.plain_set_update_loop _]
    show wpAny _ A.in1 (pyNext (.ref I) >>= _) _ _ s
    refine wpAny_bind (W.item i s _ _ hlt st fun v h1 tk hP st1 kk => ?_)
    obtain ⟨t, rfl⟩ := hval i v hP
    have hS1 := stays (fun o e => kk S o hSw e) hS
    show wpAny _ A.in1 (holding [Value.str (val i) t] (setAdd S (.str (val i) t)) >>= _) _ _ _
    refine wpAny_bind (wpAny_holding ?_)
    unfold setAdd
    refine wpAny_holding (wpAny_bind ((strKind prog w).pyHash (k := val i) (isS (val i) t) ?_))
    have hroom : cntS val i + 1 < scanBound := by have := cntS_le val i; omega
    refine wpAny_setAddHashed_of (knd := strKind prog w) (isS (val i) t) rfl hS1 hroom fun h2 sb hS2 => ?_
    refine wpAny_pure ⟨plainId_quiet PyProof.Rows.F.plain_set_update_loop _, ih (i + 1) _ (by omega) hlt (W.frame _ _ _ st1 fun b hb' o e => (sb.2 b fun z => hSf (z ▸ hb')).trans e) hS2 fun h3 tk3 kk3 hS3 => ?_⟩
    exact hR h3 tk3 (fun b o hb1 hb2 e => kk3 b o hb1 hb2 ((sb.2 b hb1).trans (kk b o hb2 e))) hS3

set_option maxHeartbeats 8000000 in
theorem set_of_texts {prog : Program} {w : World} {A : Around} {E : Value → Shared → Prop} {s : Shared} {l : Addr} {items : Array Value} {val : Nat → Str} {Q : Value → Shared → Prop} (hh : A.handled = none) (hl : s.heap.IsList l items)
    (hval : ∀ (i : Nat) (v : Value), items[i]? = some v → ∃ t, v = .str (val i) t) (hb : items.size + 1 < scanBound)
    (h : ∀ (h' : Heap) (tk : Nat), h'.SetOf (strKind prog w) s.heap.objs.size (metS val items.size) (cntS val items.size) → (∀ b o, s.heap.get? b = some o → h'.get? b = some o) → Q (.ref s.heap.objs.size) { s with heap := h', toks := tk }) :
    wpAny (model prog w) A (call (.type "set") [.ref l]) Q E s := by
  obtain ⟨c, tl, hmro⟩ := F.called_set.mro
  have m1 := F.called_set.made
  have m2 := F.called_set.sub
  have m3 := F.called_set.notType
  have m4 := F.called_set.canCreate
  have m5 := F.typeCall_set_1 (.ref l)
  refine wpAny_call (codeAny_of_tree ?_)
  show wpAny _ _ (callAny (.type "set") _) _ _ _
  refine wpAny_pure ⟨Code.quiet_builtin _ (by decide +kernel), codeAny_builtin F.entry_type_call ?_⟩
  rw [Around.under_plain (weight_type_call_type "set" [.ref l] []) rfl]
  repeat (any_goals (first | assumption | wp_step))
  generalize hS0 : s.heap.objs.size = S at *
  refine codeAny_mono (code_set_new_1 (.ref l) (E := E) (Q₁ := fun ob s1 => ∃ led : Bool, ob = .ref S ∧ s1 = { s with heap := s.heap.push { cls := .type "set", dict := none, data := .set #[] 0 (.fresh 0 0 led) } }) fun led => ⟨led, by rw [hS0], rfl⟩) fun r s1 hr => ?_
  cases r with
  | error e => exact hr
  | ok fl =>
    cases fl with
    | ret ob =>
      obtain ⟨led, rfl, rfl⟩ := hr
      have hget : (s.heap.push { cls := .type "set", dict := none, data := .set #[] 0 (.fresh 0 0 led) }).get? S = some { cls := .type "set", dict := none, data := .set #[] 0 (.fresh 0 0 led) } := by
        rw [← hS0]
        exact Heap.get?_push_size _ rfl
      have hT : Shared.TypeIs { s with heap := s.heap.push { cls := .type "set", dict := none, data := .set #[] 0 (.fresh 0 0 led) } } (.ref S) "set" := ⟨_, hget, rfl⟩
      have n1 := F.called_set.init.lookup
      have n2 := F.called_set.init.bind (.ref S)
      repeat (any_goals (first | assumption | wp_step))
      refine codeAny_mono (codeAny_call_builtin (R := wants (fun r s2 => r = .none ∧ ∃ h' tk, s2 = { s with heap := h', toks := tk } ∧ h'.SetOf (strKind prog w) S (metS val items.size) (cntS val items.size) ∧ (∀ b o, s.heap.get? b = some o → h'.get? b = some o)) E)
        F.called_set.init.plain F.entry_set_init (check_set_init_1 hT ?_)) fun r2 s2 hr2 => ?_
      · obtain ⟨⟨oc, od, odt, osl⟩, hol, hcl, nl, hdl⟩ := id hl
        simp only at hcl hdl
        subst hcl hdl
        have hol' := Heap.get?_push_of_some (h := s.heap) { cls := .type "set", dict := none, data := .set #[] 0 (.fresh 0 0 led) } hol
        have p1 := F.sub_list_set
        have p2 := F.sub_list_frozenset
        have p3 : (Value.type "list" == Value.type "dict") = false := by decide
        have hl1 := hl.push (o := { cls := .type "set", dict := none, data := .set #[] 0 (.fresh 0 0 led) })
        unfold Builtin.«set.__init__» noKeywords Builtin.Frozenset.updateFrom
        generalize hPI : pyIter = PI
        wp_walk
        subst hPI
        refine wpAny_pyIter_list hl1 (wpAny_bind (wpAny_runValue ?_))
        have hlS : l < S := by rw [← hS0]; exact Heap.lt_size hol
        have hsz : (s.heap.push { cls := .type "set", dict := none, data := .set #[] 0 (.fresh 0 0 led) }).objs.size = S + 1 := by rw [Heap.size_push, hS0]
        refine set_turns (Walks.list (A := A.in1.in1.in1) (by simp [hh]) _ l (by rw [hsz]; exact Nat.ne_of_lt (Nat.lt_succ_of_lt hlS)) items) S ?_ val hval hb (items.size - 0) 0 _ (by omega) (Nat.zero_le _) ⟨⟨_, Heap.get?_push_size _ rfl, rfl, rfl⟩, hl1.push _⟩ ?_ ?_
        · rw [hsz]
          simp only [List.mem_cons, List.not_mem_nil, or_false, not_or]
          exact ⟨Nat.ne_of_lt (Nat.lt_succ_self _), Nat.ne_of_gt hlS⟩
        · have hg2 := Heap.get?_push_of_some (h := s.heap.push { cls := .type "set", dict := none, data := .set #[] 0 (.fresh 0 0 led) }) { cls := .type "list_iterator", data := .fields #[.ref l, .int 0 0] } hget
          exact (PyProof.Rows.setObjOf_fresh (knd := strKind prog w) led).setOf hg2 (by unfold scanBound; omega)
        · intro h' tk kk hS'
          show wpAny _ _ _ _ _ _
          refine wpAny_pure ?_
          show wpAny _ _ (ret Value.none) _ _ _
          refine wpAny_pure ⟨rfl, h', tk, rfl, hS', fun b o e => ?_⟩
          have hbl : b < S := by rw [← hS0]; exact Heap.lt_size e
          exact kk b o (Nat.ne_of_lt hbl) (fun z => Nat.ne_of_lt (Nat.lt_succ_of_lt hbl) (by rw [hsz] at z; simpa using z)) (Heap.get?_push_of_some _ (Heap.get?_push_of_some _ e))
      · cases r2 with
        | error e => exact hr2
        | ok fl2 =>
          cases fl2 with
          | ret r =>
            obtain ⟨rfl, h', tk, rfl, hS', kk⟩ := hr2
            repeat (any_goals (first | assumption | wp_step))
            exact h _ _ hS' kk
          | _ => exact hr2.elim
    | _ => exact hr.elim

noncomputable def setO (P : Program) (w : World) (a : Addr) (n : Nat) : HO := .ext fun h => ∃ S, h.SetOf (strKind P w) a S n
section
variable {X : Cx}
theorem call_set (hc : X.calm = true) : CallR X (.type "set") (fun xs H Q => ∃ (p : Addr) (ys : List Str), xs = [.ref p] ∧ SqL X.K H p (ys.map V.str) ∧ ys.length < 1000 ∧ ∀ q, H q = none → Q (.ref q) (upd H q (setO X.prog X.w q (cntS (fun i => ys.getD i Str.empty) ys.length)))) := by
  intro pins s σ H xs us Q I r h
  obtain ⟨p, ys, rfl, hq, hl, q⟩ := h
  obtain ⟨u, rfl, ru⟩ := vals1 r
  cases ru
  obtain ⟨its, rv, pl, hz⟩ := I.list hq
  have hlen : ys.length = its.length := by have := rv.length; rwa [List.length_map] at this
  have hsz : its.toArray.size = ys.length := by
    rw [hlen]
    rfl
  refine set_of_texts (val := fun i => ys.getD i Str.empty) (I.ok.hd hc) pl.isList (fun i v e => ?_) (by rw [hsz]; unfold scanBound; omega) fun h' tk hS kk => ?_
  · have e' : its[i]? = some v := by simpa using e
    have hi : i < ys.length := by rw [hlen]; exact (List.getElem?_eq_some_iff.mp e').1
    have hb : (ys.map V.str)[i]? = some (V.str (ys.getD i Str.empty)) := by
      rw [List.getElem?_map, List.getElem?_eq_getElem hi]
      simp [List.getD, hi]
    obtain ⟨u', e2, r'⟩ := rv.get hb
    rw [e'] at e2
    cases e2
    exact r'
  · rw [hsz] at hS
    refine ⟨.ref s.heap.objs.size, _, I.laid kk (Nat.le_refl _) ?_, rfl, q _ (I.hok.fresh (Nat.le_refl _))⟩
    obtain ⟨o, es, ep, t, ho, r'⟩ := id hS
    exact ⟨⟨_, hS⟩, ⟨o, ho⟩, fun h1 h2 ⟨S', o', es', ep', t', ho', r2⟩ kk' => ⟨S', o', es', ep', t', kk' _ ho', r2⟩⟩
theorem call_len_setO : CallR X (.builtin "len") (fun xs H Q => ∃ q n, xs = [.ref q] ∧ H q = some (setO X.prog X.w q n) ∧ Q (.int n) H) := by
  intro pins s σ H xs us Q I r h
  obtain ⟨a, n, rfl, hq, q⟩ := h
  obtain ⟨u, rfl, ru⟩ := vals1 r
  cases ru
  obtain ⟨⟨S, o, es, ep, t, ho, hex, hd, _, _, hb, hf, hn⟩, _, _⟩ := (show ObjOk X.prog X.w H s.heap a (setO X.prog X.w a n) from I.hok a _ hq)
  subst hn
  have hfit : (es.size : Int) < 2 ^ 63 := by unfold scanBound at hb; omega
  exact call_len_set ho hex hd hf hfit ⟨.int es.size, H, I.tok _, ⟨_, rfl⟩, q⟩
end
end L3
set_option Elab.async false
set_option linter.all false
set_option maxRecDepth 100000
set_option maxHeartbeats 4000000
namespace L3
open PySem PySem.Spec PyProof.Rows L2

section
variable {P : Program} {w : World} {fr : List Env} {H H' : Hp} {s s' : Shared} {ea : Addr} {cls a0 : Value} {B : Heap}
end

section
variable {P : Program} {w : World} {K : PySem.W.Frag} {mg : Str → Option Value} {base : Heap} {N : List Str} {qual : Str} {scope : Scope} {f : Addr} {cdv : Value} {A : Around} {outer : List Env} {s : Shared} {H : Hp} {E : XK}
end
end L3
set_option Elab.async false
set_option linter.all false
set_option maxRecDepth 100000
set_option maxHeartbeats 4000000
namespace L3
open PySem PySem.Spec PyProof.Rows L2

section
variable {X : Cx} {e o : Expr} {es : List Expr} {pos apos p : Pos} {k : Nat} {f C : Addr} {fd : FuncData} {ps : List Str} {sp : Sp} {ta : TE} {t : TA} {m x : Str}
end

section
variable {X : Cx} {pins : List (Addr × Obj)} {σ : St} {H : Hp} {s : Shared}
end

section
variable {X : Cx}
end
end L3
set_option Elab.async false
set_option linter.all false
set_option maxRecDepth 100000
set_option maxHeartbeats 4000000
namespace L3
open PySem PySem.Spec PyProof.Rows L2

theorem bt_enumerate : bootBuiltins "enumerate" = some (.type "enumerate") := by decide +kernel
noncomputable def Ite (K : PySem.W.Frag) (a : Addr) : It :=
  ⟨fun i H => ∃ xs x, SqL K H a xs ∧ xs[i]? = some x, fun i H v H' => ∃ p x, H p = none ∧ v = .ref p ∧ (∀ xs, SqL K H a xs → xs[i]? = some x) ∧ H' = upd H p (.tup [.int i, x]), fun i H => ∃ xs, SqL K H a xs ∧ xs.length ≤ i⟩
theorem turn_enum {P : Program} {w : World} {K : PySem.W.Frag} {elts : List Expr} {k : Nat} {pos : Pos} (a e it : Addr) (hei : e ≠ it) :
    Turn P w K (.Tuple elts k pos) (Ite K a) [e, it] e (fun i h => (∃ old, IsEnum h e it ((i : Nat) : Int) old) ∧ h.IsListIter it a i) where
  mem := by simp
  obj := fun i h st b hb => by
    obtain ⟨⟨old, he⟩, o, ho, c, d⟩ := st
    rcases List.mem_cons.mp hb with rfl | hb
    · exact ⟨_, he, fun v z => by
        have z' : Data.fields _ = Data.cell v := z
        cases z'⟩
    · have q : b = it := by simpa using hb
      subst q
      exact ⟨o, ho, fun v z => by rw [d] at z; cases z⟩
  keep := fun i h h' st kk => by
    obtain ⟨⟨old, he⟩, hit⟩ := st
    exact ⟨⟨old, kk e (by simp) _ he⟩, hit.at fun o q => kk it (by simp) o q⟩
  item := by
    intro X hP hw hK hc i pins s σ H E I hf st hg
    subst hP hw hK
    obtain ⟨⟨old, he⟩, hit⟩ := st
    obtain ⟨xs, x, hq, hx⟩ := hg
    obtain ⟨its, rv, p, hz⟩ := I.list hq
    obtain ⟨u, hu, ru⟩ := rv.get hx
    obtain ⟨e0, e1, e2, e3, e4, e5⟩ := hf e (by simp)
    obtain ⟨f0, f1, f2, f3, f4, f5⟩ := hf it (by simp)
    refine wpAny_pyNext_enum_item he hit p.isList (x := u) (by simpa using hu) hei fun h1 ho hit1 hT hsz hk => ⟨_, rfl, ?_⟩
    refine wpAny_letOwnedTupleGo_enum ho fun h2 he2 hs2 => ?_
    have hs2 : Heap.SameBut e h1 h2 := hs2
    have hn : H s.heap.objs.size = none := I.fresh
    have old2 : ∀ b o, b ∉ [e, it] → s.heap.get? b = some o → h2.get? b = some o := fun b o hb q => by
      have hbe : b ≠ e := fun z => hb (by simp [z])
      have hbi : b ≠ it := fun z => hb (by simp [z])
      exact (hs2.2 b hbe).trans (hk b o hbe hbi q)
    have helt : e < s.heap.objs.size := Heap.lt_size he
    have hT2 : h2.get? s.heap.objs.size = some { cls := .type "tuple", data := .seq #[.int i s.toks, u] } := (hs2.2 _ (Nat.ne_of_gt helt)).trans hT
    have nch : ∀ b q, H b = some q → b ∉ [e, it] := fun b q hb z => by
      rcases List.mem_cons.mp z with rfl | z
      · rw [e0] at hb; cases hb
      · have z' : b = it := by simpa using z
        subst z'
        rw [f0] at hb; cases hb
    refine ⟨.ref s.heap.objs.size, upd H s.heap.objs.size (.tup [.int i, x]), ?_, rfl, ⟨s.heap.objs.size, x, hn, rfl, fun ys hy => by rw [I.list_inj hy hq]; exact hx, rfl⟩, ⟨⟨u, ?_⟩, hit1.at fun o q => (hs2.2 it hei.symm).trans q⟩, fun b hb => ?_⟩
    · show Inv X pins σ (upd H s.heap.objs.size (.tup [.int i, x])) { s with heap := h2, gens := s.gens, drawn := s.drawn, toks := s.toks + 1 }
      refine I.step (g' := s.gens) (d' := s.drawn) (t' := s.toks + 1) (h' := h2) (ch := [e, it]) (fun b hb => ?_) (fun b o _ _ hc q _ => old2 b o hc q) (fun b o _ _ hc q _ => ⟨o.slots, old2 b o hc q⟩) (fun b o hc q n => ?_)
        (fun b o hc q => ⟨o, old2 b o hc q⟩) (fun b ys q => ?_) (fun b o v q => ?_) (fun b ps q => ⟨#[], ?_⟩) (fun m hm => ?_) (fun b v q => ?_) I.bare
      · rcases List.mem_cons.mp hb with rfl | hb
        · exact ⟨e3, e1, e4, e5⟩
        · have z' : b = it := by simpa using hb
          subst z'
          exact ⟨f3, f1, f4, f5⟩
      · rw [upd_ne (Nat.ne_of_lt (Heap.lt_size q))]
        exact n
      · rw [upd_ne (ne_of_none q hn)]
        exact q
      · rw [upd_ne (ne_of_none q hn)]
        exact q
      · rw [upd_ne (ne_of_none q hn), q]
        simp
      · obtain ⟨o, es, ep, ho', r⟩ := hm
        refine ⟨o, es, ep, old2 _ o (fun z => ?_) ho', r⟩
        rcases List.mem_cons.mp z with z | z
        · exact e1 z.symm
        · exact f1 (by simpa using z : X.env.locals = it).symm
      · by_cases hb : b = s.heap.objs.size
        · subst hb
          rw [upd_same] at q
          cases q
          exact ⟨(by show 2 ≤ sizeLine; decide), [.int i s.toks, u], .cons ⟨_, rfl⟩ (.cons ru .nil), _, hT2, rfl, _, rfl⟩
        · rw [upd_ne hb] at q
          refine (I.hok b v q).stay (fun c y hc z => old2 c y ?_ z) (fun c z => by rw [upd_ne (ne_of_none z hn)]; exact z) fun c ys z => by rw [upd_ne (ne_of_none z hn)]; exact z
          rcases hc with rfl | hc
          · exact nch _ _ q
          · exact nch _ _ hc
    · have : (((i + 1 : Nat) : Nat) : Int) = (i : Int) + 1 := by omega
      rw [this]
      exact he2
    · rcases List.mem_cons.mp hb with rfl | hb
      · rw [upd_ne (Nat.ne_of_lt helt)]
        exact e0
      · have z' : b = it := by simpa using hb
        subst z'
        obtain ⟨_, z, _⟩ := hit
        rw [upd_ne (Nat.ne_of_lt (Heap.lt_size z))]
        exact f0
  done := by
    intro X hP hw hK hc i pins s σ H E I hf st hg
    subst hP hw hK
    obtain ⟨⟨old, he⟩, hit⟩ := st
    obtain ⟨xs, hq, hx⟩ := hg
    obtain ⟨its, rv, p, hz⟩ := I.list hq
    obtain ⟨f0, f1, f2, f3, f4, f5⟩ := hf it (by simp)
    have hl := rv.length
    exact wpAny_pyNext_enum_end (I.ok.hd hc) he hit p.isList (by simp; omega) fun h' eb => ⟨rfl, I.turned (t' := s.toks) (fun b o hb e => eb b o hb e) f0 f1 f3 f4 f5⟩
  self := fun _ _ _ _ _ st h => by
    obtain ⟨⟨old, he⟩, _⟩ := st
    exact wpAny_pyIter_enum he h

section
variable {X : Cx} {elts : List Expr} {k : Nat} {tpos : Pos}
noncomputable def iEnum (K : PySem.W.Frag) (ta : TA) : TI := fun σ H R => ta σ H fun vs H1 => ∃ a, vs = [.ref a] ∧ (∃ xs, SqL K H1 a xs) ∧ R (Ite K a) H1
theorem pi_enum {l : Expr} {ta : TA} {p pos : Pos} (hg : Gl X "enumerate") (hm : X.mg "enumerate" = none) (ha : PA X [l] ta) (hs : starEach [l] X.env = [(false, eval l X.env)] := by rfl) : PI X (.Tuple elts k tpos) (.Call (.Name "enumerate" p) [l] [] pos) (iEnum X.K ta) := by
  intro pins s σ H R I h
  refine Call_ (ld_blt I hg hm bt_enumerate (PyProof.Rows.callWith_type1 (thn (ha pos pins s σ H _ I h) fun us s1 ⟨vs, H1, I1, r1, q1⟩ => ?_) hs rfl))
  obtain ⟨a, e, ⟨xs, hq⟩, q⟩ := q1
  subst e
  cases r1 with
  | cons r rr =>
    cases rr
    cases r
    obtain ⟨its, rv, p, hz⟩ := I1.list hq
    refine call_enumerate_list p.isList fun h' he hit hsz kk => ?_
    refine wpAny_pyIter_enum he ?_
    have ne : s1.heap.objs.size + 1 ≠ s1.heap.objs.size := Nat.succ_ne_self _
    refine ⟨s1.heap.objs.size + 1, [s1.heap.objs.size + 1, s1.heap.objs.size], _, _, H1, rfl, I1.kept (t' := s1.toks) fun b o e => kk b o e, turn_enum a _ _ ne, ⟨⟨_, he⟩, hit⟩, fun b hb => ?_, q⟩
    rcases List.mem_cons.mp hb with rfl | hb
    · exact I1.fpOk (Nat.le_succ _) (I1.hok.fresh (Nat.le_succ _))
    · have z : b = s1.heap.objs.size := by simpa using hb
      subst z
      exact I1.fpOk (Nat.le_refl _) (I1.hok.fresh (Nat.le_refl _))
end
section
variable {X : Cx} {K : PySem.W.Frag} (hK : X.K = K)
include hK
theorem ix_listK : IxR X (rIxL K) := by subst hK; exact ix_list
theorem ix_tupK : IxR X (rIxT K) := by subst hK; exact ix_tup
end
end L3
set_option Elab.async false
set_option linter.all false
set_option maxRecDepth 100000
namespace L2
open PySem PySem.Spec PyProof.Rows

section
variable {κ : Type} [DecidableEq κ]
noncomputable def valV (kvs : List (κ × V)) (k : κ) : Option V := (kvs.find? fun kv => decide (kv.1 = k)).map (·.2)
noncomputable def putK (kvs : List (κ × V)) (k : κ) (v : V) : List (κ × V) :=
  if (kvs.any fun kv => decide (kv.1 = k)) = true then kvs.map (fun kv => if kv.1 = k then (kv.1, v) else kv) else kvs ++ [(k, v)]
theorem valV_nil {k : κ} : valV ([] : List (κ × V)) k = none := rfl
theorem valV_pos {p : κ × V} {r : List (κ × V)} {k : κ} (e : p.1 = k) : valV (p :: r) k = some p.2 := by simp [valV, List.find?_cons, e]
theorem valV_neg {p : κ × V} {r : List (κ × V)} {k : κ} (e : ¬ p.1 = k) : valV (p :: r) k = valV r k := by simp [valV, List.find?_cons, e]
theorem valV_any (k : κ) : ∀ kvs : List (κ × V), (kvs.any fun kv => decide (kv.1 = k)) = (valV kvs k).isSome
  | [] => rfl
  | p :: r => by
    rw [List.any_cons]
    by_cases e : p.1 = k
    · simp only [valV_pos e, decide_eq_true e, Bool.true_or, Option.isSome_some]
    · rw [valV_neg e, decide_eq_false e, Bool.false_or]; exact valV_any k r
theorem valV_map (k j : κ) (y : V) : ∀ kvs : List (κ × V), valV (kvs.map fun kv => if kv.1 = k then (kv.1, y) else kv) j = (valV kvs j).map fun x => if j = k then y else x
  | [] => rfl
  | p :: r => by
    have ih := valV_map k j y r
    rw [List.map_cons]
    by_cases h : p.1 = k
    · rw [if_pos h]
      by_cases e : p.1 = j
      · rw [valV_pos (p := (p.1, y)) e, valV_pos e, Option.map_some, if_pos (e.symm.trans h)]
      · rw [valV_neg (p := (p.1, y)) e, valV_neg e, ih]
    · rw [if_neg h]
      by_cases e : p.1 = j
      · rw [valV_pos (p := p) e, valV_pos e, Option.map_some, if_neg (fun z => h (e.trans z))]
      · rw [valV_neg (p := p) e, valV_neg e, ih]
theorem valV_snoc (k j : κ) (y : V) : ∀ kvs : List (κ × V), valV kvs k = none → valV (kvs ++ [(k, y)]) j = if j = k then some y else valV kvs j
  | [], _ => by
    by_cases e : k = j
    · rw [if_pos e.symm]; exact valV_pos (p := (k, y)) e
    · rw [if_neg (fun z => e z.symm)]; exact valV_neg (p := (k, y)) e
  | p :: r, hn => by
    rw [List.cons_append]
    have hk : ¬ p.1 = k := fun z => by rw [valV_pos z] at hn; cases hn
    rw [valV_neg hk] at hn
    have ih := valV_snoc k j y r hn
    by_cases e : p.1 = j
    · rw [valV_pos e, valV_pos e, if_neg (fun z => hk (e.trans z))]
    · rw [valV_neg e, valV_neg e, ih]
theorem valV_put (kvs : List (κ × V)) (k j : κ) (y : V) : valV (putK kvs k y) j = if j = k then some y else valV kvs j := by
  unfold putK
  by_cases a : (kvs.any fun kv => decide (kv.1 = k)) = true
  · rw [if_pos a, valV_map]
    rw [valV_any] at a
    by_cases e : j = k
    · obtain ⟨x, hx⟩ := Option.isSome_iff_exists.mp a
      rw [if_pos e, e, hx, Option.map_some, if_pos rfl]
    · rw [if_neg e]
      cases valV kvs j with
      | none => rfl
      | some x => rw [Option.map_some, if_neg e]
  · rw [if_neg a]
    refine valV_snoc k j y kvs ?_
    rw [valV_any] at a
    cases q : valV kvs k with
    | none => rfl
    | some x => rw [q] at a; exact (a rfl).elim
theorem length_putK (kvs : List (κ × V)) (k : κ) (v : V) : (putK kvs k v).length ≤ kvs.length + 1 := by
  unfold putK
  split
  · rw [List.length_map]; omega
  · rw [List.length_append, List.length_cons, List.length_nil]; omega
theorem putK_new {kvs : List (κ × V)} {k : κ} (v : V) (h : valV kvs k = none) : putK kvs k v = kvs ++ [(k, v)] := by
  unfold putK
  rw [valV_any, h]
  exact if_neg (by decide)

theorem RelO.isSome_eq {o : Option V} {u : Option Value} (r : RelO o u) : o.isSome = u.isSome := by
  cases o with
  | none => cases u with
    | none => rfl
    | some _ => exact (show False from r).elim
  | some _ => cases u with
    | none => exact (show False from r).elim
    | some _ => rfl
theorem RelO.getD {o : Option V} {u : Option Value} {d : V} {d' : Value} (r : RelO o u) (rd : RelV d d') : RelV (o.getD d) (u.getD d') := by
  cases o with
  | none => cases u with
    | none => exact rd
    | some _ => exact (show False from r).elim
  | some _ => cases u with
    | none => exact (show False from r).elim
    | some _ => exact r

theorem KV.val {kvs : List (κ × V)} {vs : List (κ × Value)} (r : KV kvs vs) (k : κ) : RelO (valV kvs k) (valueAt vs k) := by
  unfold KV at r
  induction r with
  | nil => exact True.intro
  | @cons p q ps qs h t ih =>
    obtain ⟨h1, h2⟩ := h
    by_cases e : p.1 = k
    · have e' : q.1 = k := h1.symm.trans e
      have b : valueAt (q :: qs) k = some q.2 := by simp [valueAt, List.find?_cons, e']
      rw [valV_pos e, b]; exact h2
    · have e' : ¬ q.1 = k := fun z => e (h1.trans z)
      have b : valueAt (q :: qs) k = valueAt qs k := by simp [valueAt, List.find?_cons, e']
      rw [valV_neg e, b]; exact ih
theorem KV.any {kvs : List (κ × V)} {vs : List (κ × Value)} (r : KV kvs vs) (k : κ) : (kvs.any fun kv => decide (kv.1 = k)) = vs.any fun kv => decide (kv.1 = k) := by
  unfold KV at r
  induction r with
  | nil => rfl
  | cons h t ih => rw [List.any_cons, List.any_cons, ih, h.1]
theorem KV.repl {kvs : List (κ × V)} {vs : List (κ × Value)} (r : KV kvs vs) (k : κ) {y : V} {u : Value} (ry : RelV y u) :
    KV (kvs.map fun kv => if kv.1 = k then (kv.1, y) else kv) (vs.map fun kv => if kv.1 = k then (kv.1, u) else kv) := by
  unfold KV at r ⊢
  induction r with
  | nil => exact .nil
  | @cons p q ps qs h t ih =>
    rw [List.map_cons, List.map_cons]
    refine .cons ?_ ih
    obtain ⟨h1, h2⟩ := h
    by_cases e : p.1 = k
    · rw [if_pos e, if_pos (h1.symm.trans e)]; exact ⟨h1, ry⟩
    · rw [if_neg e, if_neg (fun z => e (h1.trans z))]; exact ⟨h1, h2⟩
theorem KV.put {kvs : List (κ × V)} {vs : List (κ × Value)} (r : KV kvs vs) (k : κ) {y : V} {u : Value} (ry : RelV y u) : KV (putK kvs k y) (stored vs k u) := by
  unfold putK stored
  rw [r.any k]
  by_cases e : (vs.any fun kv => decide (kv.1 = k)) = true
  · rw [if_pos e, if_pos e]; exact r.repl k ry
  · rw [if_neg e, if_neg e]; exact Paired.snoc r ⟨rfl, ry⟩
theorem KV.length {kvs : List (κ × V)} {vs : List (κ × Value)} (r : KV kvs vs) : kvs.length = vs.length := Paired.length r
end


theorem kV_is {P : Program} {w : World} {k : Key} {u : Value} (r : RelV (kV k) u) : (mixKind P w).is k u = true := by
  cases k with
  | inl i => obtain ⟨t, e⟩ := (show ∃ t, u = Value.int i t from r); subst e; exact mixKind_int P w i t
  | inr x => obtain ⟨t, e⟩ := (show ∃ t, u = Value.str x t from r); subst e; exact mixKind_str P w x t
theorem items_are {P : Program} {w : World} : ∀ {ks : List Key} {us : List Value}, Vals (ks.map kV) us → ItemsAre (mixKind P w) ks us
  | [], _, r => by rw [List.map_nil] at r; cases r; exact .nil
  | k :: ks, _, r => by
    rw [List.map_cons] at r
    cases r with
    | cons h t => exact .cons (kV_is h) (items_are t)

noncomputable abbrev KT (H : Hp) : List (List Key × V) → List (List Key × Addr × Value) → Prop := Paired fun p q => p.1 = q.1 ∧ H q.2.1 = some (.tup (p.1.map kV)) ∧ RelV p.2 q.2.2
theorem KT.val {H : Hp} {kvs : List (List Key × V)} {xs : List (List Key × Addr × Value)} (r : KT H kvs xs) (k : List Key) : RelO (valV kvs k) ((atKey xs k).map (·.2)) := by
  induction r with
  | nil => exact True.intro
  | @cons p q ps qs h t ih =>
    obtain ⟨h1, _, h2⟩ := h
    by_cases e : p.1 = k
    · have e' : q.1 = k := h1.symm.trans e
      have b : atKey (q :: qs) k = some q.2 := by simp [atKey, List.find?_cons, e']
      rw [valV_pos e, b]; exact h2
    · have e' : ¬ q.1 = k := fun z => e (h1.trans z)
      have b : atKey (q :: qs) k = atKey qs k := by simp [atKey, List.find?_cons, e']
      rw [valV_neg e, b]; exact ih
theorem KT.repl {H : Hp} {kvs : List (List Key × V)} {xs : List (List Key × Addr × Value)} (r : KT H kvs xs) (k : List Key) {y : V} {u : Value} (ry : RelV y u) :
    KT H (kvs.map fun kv => if kv.1 = k then (kv.1, y) else kv) (xs.map (putAt k u)) := by
  induction r with
  | nil => exact .nil
  | @cons p q ps qs h t ih =>
    rw [List.map_cons, List.map_cons]
    refine .cons ?_ ih
    obtain ⟨h1, h2, h3⟩ := h
    unfold putAt
    by_cases e : p.1 = k
    · rw [if_pos e, if_pos (h1.symm.trans e)]; exact ⟨h1, h2, ry⟩
    · rw [if_neg e, if_neg (fun z => e (h1.trans z))]; exact ⟨h1, h2, h3⟩
theorem KT.put {H : Hp} {kvs : List (List Key × V)} {xs : List (List Key × Addr × Value)} (r : KT H kvs xs) (k : List Key) {b : Addr} {y : V} {u : Value} (hb : H b = some (.tup (k.map kV))) (ry : RelV y u) :
    KT H (putK kvs k y) (storedH xs k b u) := by
  have e : (kvs.any fun kv => decide (kv.1 = k)) = (atKey xs k).isSome := by
    rw [valV_any, (r.val k).isSome_eq, Option.isSome_map]
  unfold putK storedH
  rw [e]
  by_cases q : (atKey xs k).isSome = true
  · rw [if_pos q, if_pos q]; exact r.repl k ry
  · rw [if_neg q, if_neg q]; exact Paired.snoc r ⟨rfl, hb, ry⟩
theorem KT.keeps {H H' : Hp} {kvs : List (List Key × V)} {xs : List (List Key × Addr × Value)} (r : KT H kvs xs) (ht : ∀ b ys, H b = some (.tup ys) → H' b = some (.tup ys)) : KT H' kvs xs :=
  Paired.mapP r fun _ _ z => ⟨z.1, ht _ _ z.2.1, z.2.2⟩

section
variable {P : Program} {w : World} {H : Hp} {h : Heap} {a : Addr}
theorem rd_of {u : HO} (ok : HOk P w H h) (e : Rd H a u) : ObjOk P w H h a u := e.ok ok
theorem dk_rd {kvs : List (Key × V)} (ok : HOk P w H h) (e : Rd H a (.dK kvs)) : kvs.length ≤ sizeLine ∧ (a == sysModules) = false ∧ ∃ vs, KV kvs vs ∧ h.DictOf (mixKind P w) a vs :=
  show ObjOk P w H h a (.dK kvs) from rd_of ok e
theorem dk_of {kvs : List (Key × V)} (ok : HOk P w H h) (e : H a = some (.dK kvs)) : kvs.length ≤ sizeLine ∧ (a == sysModules) = false ∧ ∃ vs, KV kvs vs ∧ h.DictOf (mixKind P w) a vs := dk_rd ok (.inl e)
theorem key_of {ks : List Key} (ok : HOk P w H h) (e : H a = some (.tup (ks.map kV))) : (tupleKind (mixKind P w)).is h ks a := by
  obtain ⟨_, its, r, o, h1, h2, n, h3⟩ := (show ObjOk P w H h a (.tup (ks.map kV)) from ok a _ e)
  exact ⟨o, its.toArray, n, h1, h2, h3, by simpa using items_are r⟩
theorem dt_rd {kvs : List (List Key × V)} (ok : HOk P w H h) (e : Rd H a (.dT kvs)) : kvs.length ≤ sizeLine ∧ (a == sysModules) = false ∧
    ∃ xs, KT H kvs xs ∧ h.DictOfH (tupleKind (mixKind P w)) a xs := by
  obtain ⟨z, y, xs, r, o, es, ep, h1, h2, h3, h4, h5⟩ := (show ObjOk P w H h a (.dT kvs) from rd_of ok e)
  refine ⟨z, y, xs, r, o, es, ep, h1, h2, h3, h4, fun x hx => ?_, h5⟩
  have all : ∀ {l : List (List Key × V)} {m : List (List Key × Addr × Value)}, KT H l m → ∀ x ∈ m, (tupleKind (mixKind P w)).is h x.1 x.2.1 := by
    intro l m q
    induction q with
    | nil => intro x hx; exact nomatch hx
    | @cons p q ps qs hq t ih =>
      intro x hx
      rcases List.mem_cons.mp hx with e | hx
      · subst e
        exact key_of ok (by rw [← hq.1]; exact hq.2.1)
      · exact ih x hx
  exact all r x hx
theorem dt_of {kvs : List (List Key × V)} (ok : HOk P w H h) (e : H a = some (.dT kvs)) : kvs.length ≤ sizeLine ∧ (a == sysModules) = false ∧
    ∃ xs, KT H kvs xs ∧ h.DictOfH (tupleKind (mixKind P w)) a xs := dt_rd ok (.inl e)
end

noncomputable def DGet (H : Hp) (a : Addr) (y : V) (r : Option V) : Prop :=
  (∃ kvs k, Rd H a (.dK kvs) ∧ y = kV k ∧ r = valV kvs k) ∨ ∃ kvs k b, Rd H a (.dT kvs) ∧ y = .ref b ∧ H b = some (.tup (k.map kV)) ∧ r = valV kvs k
noncomputable def DPut (H : Hp) (a : Addr) (y v : V) (H' : Hp) : Prop :=
  (∃ kvs k, H a = some (.dK kvs) ∧ y = kV k ∧ kvs.length < sizeLine ∧ H' = upd H a (.dK (putK kvs k v))) ∨
  ∃ kvs k b, H a = some (.dT kvs) ∧ y = .ref b ∧ H b = some (.tup (k.map kV)) ∧ kvs.length < sizeLine ∧ H' = upd H a (.dT (putK kvs k v))
theorem DGet.k {H : Hp} {a : Addr} {kvs : List (Key × V)} {k : Key} (e : H a = some (.dK kvs)) : DGet H a (kV k) (valV kvs k) := .inl ⟨kvs, k, .inl e, rfl, rfl⟩
theorem DGet.t {H : Hp} {a b : Addr} {kvs : List (List Key × V)} {k : List Key} (e : H a = some (.dT kvs)) (eb : H b = some (.tup (k.map kV))) : DGet H a (.ref b) (valV kvs k) := .inr ⟨kvs, k, b, .inl e, rfl, eb, rfl⟩
theorem DPut.k {H : Hp} {a : Addr} {kvs : List (Key × V)} {k : Key} {v : V} (e : H a = some (.dK kvs)) (hl : kvs.length < sizeLine) : DPut H a (kV k) v (upd H a (.dK (putK kvs k v))) := .inl ⟨kvs, k, e, rfl, hl, rfl⟩
theorem DPut.t {H : Hp} {a b : Addr} {kvs : List (List Key × V)} {k : List Key} {v : V} (e : H a = some (.dT kvs)) (eb : H b = some (.tup (k.map kV))) (hl : kvs.length < sizeLine) :
    DPut H a (.ref b) v (upd H a (.dT (putK kvs k v))) := .inr ⟨kvs, k, b, e, rfl, eb, hl, rfl⟩


section
variable {X : Cx} {pins : List (Addr × Obj)} {σ : St} {H : Hp} {s : Shared} {a : Addr} {y v : V} {u r : Value} {o : Option V} {A : Around} {E : Value → Shared → Prop}

theorem Inv.big (I : Inv X pins σ H s) : sysModules < s.heap.objs.size := by
  have h : mainGlobals < s.heap.objs.size := (I.mod.glob.keeps I.bk).lt
  exact Nat.lt_trans (by decide) h

theorem d_getItem {Q : Value → Shared → Prop} (hu : A.units + 1 < cLine) (I : Inv X pins σ H s) (g : DGet H a y (some v)) (ry : RelV y u) (h : ∀ w' s', Inv X pins σ H s' → RelV v w' → Q w' s') :
    wpAny (model X.prog X.w) A (getItem (.ref a) u) Q E s := by
  rcases g with ⟨kvs, k, e, ey, l⟩ | ⟨kvs, k, b, e, ey, eb, l⟩
  · subst ey
    obtain ⟨z, hd, vs, rel, dd⟩ := dk_rd I.hok e
    obtain ⟨w', hw, rw'⟩ := RelO.some_of (v := v) (o := valueAt vs k) (by rw [l]; exact rel.val k)
    exact wpAny_getItem_of (kV_is ry) dd.mapOf hw (h w' _ (I.tok _) rw')
  · subst ey
    cases (show u = Value.ref b from ry)
    obtain ⟨z, hd, xs, rel, dd⟩ := dt_rd I.hok e
    obtain ⟨w', hw, rw'⟩ := RelO.some_of (v := v) (o := (atKey xs k).map (·.2)) (by rw [l]; exact rel.val k)
    obtain ⟨p, hp, hp2⟩ := Option.map_eq_some_iff.mp hw
    refine wpAny_getItem_heap (tupleKind_room_in1 hu) (key_of I.hok eb) dd hp ?_
    rw [hp2]
    exact h w' _ (I.tok _) rw'
theorem d_in {Q : Value → Shared → Prop} (hu : A.units + 1 < cLine) (I : Inv X pins σ H s) (g : DGet H a y o) (ry : RelV y u) (h : ∀ s', Inv X pins σ H s' → Q (.bool o.isSome) s') :
    wpAny (model X.prog X.w) A (compareOp .In u (.ref a)) Q E s := by
  rcases g with ⟨kvs, k, e, ey, l⟩ | ⟨kvs, k, b, e, ey, eb, l⟩
  · subst ey
    obtain ⟨z, hd, vs, rel, dd⟩ := dk_rd I.hok e
    refine wpAny_in_of (kV_is ry) hd dd.mapOf ?_
    rw [← (rel.val k).isSome_eq, ← l]
    exact h _ (I.tok _)
  · subst ey
    cases (show u = Value.ref b from ry)
    obtain ⟨z, hd, xs, rel, dd⟩ := dt_rd I.hok e
    refine wpAny_in_heap (tupleKind_room_in1 hu) (key_of I.hok eb) hd dd ?_
    have q := (rel.val k).isSome_eq
    rw [Option.isSome_map] at q
    rw [← q, ← l]
    exact h _ (I.tok _)
theorem d_write {h' : Heap} {t' : Nat} {ob : HO} (I : Inv X pins σ H s) (mu : Mut (H a)) (hs : Heap.SameBut a s.heap h') (he : ∃ q, h'.get? a = some q) (new : ObjOk X.prog X.w (upd H a ob) h' a ob) :
    Inv X pins σ (upd H a ob) { s with heap := h', toks := t' } :=
  I.write (x := a) (e := a) mu (.inl rfl) (fun b q hb z => (hs.2 b hb).trans z) he new
theorem dk_new {P : Program} {w : World} {H' : Hp} {h' : Heap} {kvs : List (Key × V)} {vs : List (Key × Value)} (z : kvs.length ≤ sizeLine) (hd : (a == sysModules) = false) (rel : KV kvs vs) (dd : h'.DictOf (mixKind P w) a vs) :
    ObjOk P w H' h' a (.dK kvs) := ⟨z, hd, vs, rel, dd⟩
theorem d_setItem {H' : Hp} {Q : Unit → Shared → Prop} (hu : A.units + 1 < cLine) (I : Inv X pins σ H s) (g : DPut H a y v H') (ry : RelV y u) (rv : RelV v r) (h : ∀ s', Inv X pins σ H' s' → Q () s') :
    wpAny (model X.prog X.w) A (setItem (.ref a) u r) Q E s := by
  rcases g with ⟨kvs, k, e, ey, l, eH⟩ | ⟨kvs, k, b, e, ey, eb, l, eH⟩
  · subst ey eH
    obtain ⟨z, hd, vs, rel, dd⟩ := dk_of I.hok e
    have hz : vs.length ≤ sizeLine := by rw [← rel.length]; exact z
    have hl : (putK kvs k v).length ≤ sizeLine := by have := length_putK kvs k v; omega
    refine wpAny_setItem_pairs (hsz := hz) (kV_is ry) dd fun h' dd' hs => h _ ?_
    have he : ∃ q, h'.get? a = some q := let ⟨q, _, _, hq, _⟩ := dd'; ⟨q, hq⟩
    exact d_write I (by rw [e]; exact True.intro) hs he (dk_new hl hd (rel.put k rv) dd')
  · subst ey eH
    cases (show u = Value.ref b from ry)
    obtain ⟨z, hd, xs, rel, dd⟩ := dt_of I.hok e
    have hz : xs.length ≤ sizeLine := by rw [← Paired.length rel]; exact z
    have hl : (putK kvs k v).length ≤ sizeLine := by have := length_putK kvs k v; omega
    refine wpAny_setItem_heap (hsz := hz) (tupleKind_room_in1 hu) (key_of I.hok eb) dd fun h' dd' hs => h _ ?_
    obtain ⟨q, es, ep, hq, h2, h3, h4, _, h5⟩ := dd'
    refine d_write I (by rw [e]; exact True.intro) hs ⟨q, hq⟩ ⟨hl, hd, _, (rel.put k eb rv).keeps fun c ys ec => ?_, q, es, ep, hq, h2, h3, h4, h5⟩
    rw [upd_ne (ne_of ec e (fun z => nomatch z))]
    exact ec
end

section
variable {X : Cx} {pins : List (Addr × Obj)} {σ : St} {H : Hp} {s : Shared} {a : Addr} {kvs : List (Key × V)} {k : Key} {u : Value} {A : Around} {E : Value → Shared → Prop}
end


noncomputable def NoSl (i : Expr) : Prop := ∀ ov iv, subscripted i false ov iv = operate [ov, iv] (getItem ov iv)
theorem subD_of {prog : Program} {w : World} {A : Around} {E : Value → Shared → Prop} {s : Shared} {env : Env} {value slice : Expr} {pos : Pos} {T id : String} {Q : Value → Shared → Prop}
    (hl : typeLookup (.type T) "__getitem__" = pure (some (.builtin id))) (hs : NoSl slice)
    (h : wpAny (model prog w) A (eval value env) (fun o s₁ => wpAny (model prog w) A (eval slice env) (fun i s₂ => s₂.TypeIs o T ∧ wpAny (model prog w) A (getItem o i) Q E s₂) E s₁) E s) :
    wpAny (model prog w) A (eval (.Subscript value slice pos) env) Q E s := by
  refine Subscript_ (wpAny_mono h (fun o s₁ h₁ => wpAny_mono h₁ (fun i s₂ h₂ => ?_) fun _ _ x => x) fun _ _ x => x)
  obtain ⟨hT, h₂⟩ := h₂
  unfold subscriptTail
  refine wpAny_bind ?_
  rw [getitemInPython_of_ne hT.not_modules]
  refine wpAny_bind (wpAny_specialOf hT hl ?_)
  have fin : wpAny (model prog w) A (subscripted slice false o i) (fun r s₃ => wpAny (model prog w) A (letTemporaryGo value o r >>= fun _ => pure r) Q E s₃) E s₂ := by
    rw [hs o i]
    exact wpAny_operating (wpAny_mono h₂ (fun r s₃ h₃ => wpAny_bind (wpAny_letTemporaryGo (wpAny_pure h₃))) fun _ _ x => x)
  first
    | exact wpAny_pure (wpAny_bind fin)
    | exact wpAny_bind (wpAny_pure (wpAny_bind fin))
    | exact wpAny_bind fin

theorem dict_typeIs {X : Cx} {pins : List (Addr × Obj)} {σ : St} {H : Hp} {s : Shared} {a : Addr} {y : V} {o : Option V} (I : Inv X pins σ H s) (g : DGet H a y o) : s.TypeIs (.ref a) "dict" := by
  rcases g with ⟨kvs, k, e, _, _⟩ | ⟨kvs, k, b, e, _, _, _⟩
  · obtain ⟨_, _, vs, _, dd⟩ := dk_rd I.hok e
    exact dd.typeIs
  · obtain ⟨_, _, xs, _, dd⟩ := dt_rd I.hok e
    exact dd.typeIs
noncomputable def tDGet (td ty : TE) : TE := fun σ H Q => td σ H fun x H1 => ty σ H1 fun y H2 => ∃ a v, x = .ref a ∧ DGet H2 a y (some v) ∧ Q v H2
noncomputable def tDIn (ty td : TE) : TE := fun σ H Q => ty σ H fun y H1 => td σ H1 fun x H2 => ∃ a o, x = .ref a ∧ DGet H2 a y o ∧ Q (.bl o.isSome) H2
noncomputable def sDPut (td ty tv : TE) : TS := fun D σ H => tv σ H fun v H1 => td σ H1 fun x H2 => ty σ H2 fun y H3 => ∃ a H4, x = .ref a ∧ DPut H3 a y v H4 ∧ D.nx σ H4
section
variable {X : Cx} {o i e value : Expr} {pos pos' tpos : Pos} {td ty tv : TE}
theorem pe_dget (hu : X.A.units + 1 < cLine) (ho : PE X o td) (hi : PE X i ty) (hs : NoSl i) : PE X (.Subscript o i pos) (tDGet td ty) := by
  intro pins s σ H Q I h
  refine subD_of PySem.F.slot_dict_getitem.lookup hs (thn (ho pins s σ H _ I h) fun u s1 ⟨x, H1, I1, rx, q1⟩ => thn (hi pins s1 σ H1 _ I1 q1) fun iv s2 ⟨y, H2, I2, ry, a, v, ex, g, q2⟩ => ?_)
  subst ex
  obtain rfl : u = Value.ref a := rx
  exact ⟨dict_typeIs I2 g, d_getItem hu I2 g ry fun w' s3 I3 rw' => ⟨v, H2, I3, rw', q2⟩⟩
theorem pc_din (hu : X.A.units + 1 < cLine) (hi : PE X i ty) (ho : PE X o td) : PC X .In i o (tDIn ty td) := by
  intro pins s σ H Q I h
  refine thn (hi pins s σ H _ I h) fun iv s1 ⟨y, H1, I1, ry, q1⟩ => thn (ho pins s1 σ H1 _ I1 q1) fun u s2 ⟨x, H2, I2, rx, a, ov, ex, g, q2⟩ => ?_
  subst ex
  obtain rfl : u = Value.ref a := rx
  exact d_in hu I2 g ry fun s3 I3 => ⟨.bl ov.isSome, H2, I3, rfl, q2⟩
theorem ps_dput (hu : X.A.units + 1 < cLine) (ho : PE X o td) (hi : PE X i ty) (hv : PE X value tv) (hs : swapsWith value (some (.Subscript o i pos')) pos.line X.env = pure false) :
    PS X (.Assign [.Subscript o i pos'] value pos) (sDPut td ty tv) := by
  intro pins s σ H D I h
  refine wpAny_Assign_Subscript (thn (hv pins s σ H _ I h) fun r s1 ⟨v, H1, I1, rv, q1⟩ => thn (ho pins s1 σ H1 _ I1 q1) fun u s2 ⟨x, H2, I2, rx, q2⟩ => thn (hi pins s2 σ H2 _ I2 q2) fun iv s3 ⟨y, H3, I3, ry, a, H4, ex, g, q3⟩ => ?_) hs
  subst ex
  obtain rfl : u = Value.ref a := rx
  exact d_setItem hu I3 g ry rv fun s4 I4 => ⟨σ, H4, I4, q3⟩
end


theorem dk_empty {P : Program} {w : World} {H : Hp} (h : Heap) (hb : sysModules < h.objs.size) : ObjOk P w H (h.push { cls := .type "dict", data := .dict #[] }) h.objs.size (.dK []) :=
  ⟨Nat.zero_le _, beq_eq_false_iff_ne.mpr (Ne.symm (Nat.ne_of_lt hb)), [], .nil, Heap.DictOf.new h⟩
theorem dt_empty {P : Program} {w : World} {H : Hp} (h : Heap) (hb : sysModules < h.objs.size) : ObjOk P w H (h.push { cls := .type "dict", data := .dict #[] }) h.objs.size (.dT []) :=
  ⟨Nat.zero_le _, beq_eq_false_iff_ne.mpr (Ne.symm (Nat.ne_of_lt hb)), [], .nil, _, #[], 0, Heap.get?_push_size _ rfl, ⟨rfl, rfl, rfl⟩, rfl, rfl, List.nodup_nil⟩
noncomputable def tDNewK : TE := fun _ H Q => ∀ p, H p = none → Q (.ref p) (upd H p (.dK []))
noncomputable def tDNewT : TE := fun _ H Q => ∀ p, H p = none → Q (.ref p) (upd H p (.dT []))
section
variable {X : Cx} {pos : Pos}
theorem pe_dnewK : PE X (.Dict [] [] pos) tDNewK := fun pins s σ H Q I h =>
  wpAny_Dict_empty ⟨.ref s.heap.objs.size, _, I.laid (a := s.heap.objs.size) (o := .dK []) (t' := s.toks) (fun _ _ q => Heap.get?_push_of_some _ q) (Nat.le_refl _) (dk_empty s.heap I.big), rfl, h _ (I.hok.fresh (Nat.le_refl _))⟩
theorem pe_dnewT : PE X (.Dict [] [] pos) tDNewT := fun pins s σ H Q I h =>
  wpAny_Dict_empty ⟨.ref s.heap.objs.size, _, I.laid (a := s.heap.objs.size) (o := .dT []) (t' := s.toks) (fun _ _ q => Heap.get?_push_of_some _ q) (Nat.le_refl _) (dt_empty s.heap I.big), rfl, h _ (I.hok.fresh (Nat.le_refl _))⟩
end

structure M1 (X : Cx) (o : Expr) (m : Str) (apos : Pos) (e : Expr) (cpos : Pos) : Prop where
  base : attributeBase o m X.env (eval o X.env) = eval o X.env
  few : ((backTo cpos (starEach [e] X.env)).all (fun x => !x.1) && (backToKw cpos (keywordEach [] X.env)).all (fun x => x.1.isSome)
    && decide (([e] : List Expr).length + ([] : List Keyword).length + (if ([] : List Keyword).isEmpty then 0 else 1) < 30)) = true
  line : (apos.endLine == cpos.line) = true
  trees : backTo cpos (starEach [e] X.env) = [(false, eval e X.env)]
structure M2 (X : Cx) (o : Expr) (m : Str) (apos : Pos) (e f : Expr) (cpos : Pos) : Prop where
  base : attributeBase o m X.env (eval o X.env) = eval o X.env
  few : ((backTo cpos (starEach [e, f] X.env)).all (fun x => !x.1) && (backToKw cpos (keywordEach [] X.env)).all (fun x => x.1.isSome)
    && decide (([e, f] : List Expr).length + ([] : List Keyword).length + (if ([] : List Keyword).isEmpty then 0 else 1) < 30)) = true
  line : (apos.endLine == cpos.line) = true
  trees : backTo cpos (starEach [e, f] X.env) = [(false, eval e X.env), (false, eval f X.env)]

noncomputable def IsD (H : Hp) (a : Addr) : Prop := (∃ kvs, Rd H a (.dK kvs)) ∨ ∃ kvs, Rd H a (.dT kvs)
theorem isD_at {X : Cx} {pins : List (Addr × Obj)} {σ : St} {H : Hp} {s : Shared} {a : Addr} (I : Inv X pins σ H s) (d : IsD H a) :
    s.TypeIs (.ref a) "dict" ∧ (∀ b, Value.ref a = .ref b → ∃ ob, s.heap.get? b = some ob ∧ ob.dict = none) ∧ (a == sysModules) = false := by
  rcases d with ⟨kvs, e⟩ | ⟨kvs, e⟩
  · obtain ⟨_, hd, vs, _, dd⟩ := dk_rd I.hok e
    refine ⟨dd.typeIs, fun b q => ?_, hd⟩
    cases q
    obtain ⟨ob, _, _, h1, h2, _⟩ := dd
    exact ⟨ob, h1, h2.2.1⟩
  · obtain ⟨_, hd, xs, _, dd⟩ := dt_rd I.hok e
    refine ⟨dd.typeIs, fun b q => ?_, hd⟩
    cases q
    obtain ⟨ob, _, _, h1, h2, _⟩ := dd
    exact ⟨ob, h1, h2.2.1⟩

section
variable {X : Cx} {pins : List (Addr × Obj)} {σ : St} {H : Hp} {s : Shared} {a : Addr} {y d : V} {u r : Value} {o : Option V} {A : Around} {E : Value → Shared → Prop}
theorem d_get2 {Q : Value → Shared → Prop} (hu : A.units + 1 < cLine) (I : Inv X pins σ H s) (g : DGet H a y o) (ry : RelV y u) (rd : RelV d r) (h : ∀ w' s', Inv X pins σ H s' → RelV (o.getD d) w' → Q w' s') :
    wpAny (model X.prog X.w) A (call (.builtin "dict.get") [.ref a, u, r]) Q E s := by
  rcases g with ⟨kvs, k, e, ey, l⟩ | ⟨kvs, k, b, e, ey, eb, l⟩
  · subst ey
    obtain ⟨z, hd, vs, rel, dd⟩ := dk_rd I.hok e
    refine call_meetsIn PySem.F.slot_dict_get dd.typeIs PySem.F.entry_dict_get (PySem.F.args_dict_get_3 _ _ _) (meets_dict_get_default (mixKind X.prog X.w) a (kV_is ry) hd r) ⟨_, dd.mapOf, h _ _ (I.tok _) ?_⟩
    rw [l]
    exact (rel.val k).getD rd
  · subst ey
    cases (show u = Value.ref b from ry)
    obtain ⟨z, hd, xs, rel, dd⟩ := dt_rd I.hok e
    refine call_meetsIn PySem.F.slot_dict_get dd.typeIs PySem.F.entry_dict_get (PySem.F.args_dict_get_3 _ _ _) (meetsH_dict_get_default (tupleKind (mixKind X.prog X.w)) a b hd r) ⟨tupleKind_room_in1 hu, k, xs, key_of I.hok eb, dd, h _ _ (I.tok _) ?_⟩
    rw [l]
    exact (rel.val k).getD rd
end

noncomputable def tDGet2 (td ty tx : TE) : TE := fun σ H Q => td σ H fun x H1 => ∃ a, x = .ref a ∧ IsD H1 a ∧ ty σ H1 fun y H2 => tx σ H2 fun z H3 => ∃ o, DGet H3 a y o ∧ Q (o.getD z) H3
section
variable {X : Cx} {o e f : Expr} {apos cpos : Pos} {td ty tx : TE}
theorem pe_dget2 (hu : X.A.units + 1 < cLine) (ho : PE X o td) (he : PE X e ty) (hf : PE X f tx) (m : M2 X o "get" apos e f cpos) : PE X (.Call (.Attribute o "get" apos) [e, f] [] cpos) (tDGet2 td ty tx) := by
  intro pins s σ H Q I h
  refine wpAny_Call_method m.base m.few m.line PySem.F.plainAttrs_dict PySem.F.slot_dict_get PySem.F.type_dict_get (thn (ho pins s σ H _ I h) fun u s1 ⟨x, H1, I1, rx, a, ex, d, q1⟩ => ?_)
  subst ex
  obtain rfl : u = Value.ref a := rx
  obtain ⟨t1, t2, _⟩ := isD_at I1 d
  refine ⟨t1, t2, ?_⟩
  rw [m.trees]
  refine Calls.callWith_builtin rfl (Calls.evalArgs_plain (Calls.spliced_cons (thn (he pins s1 σ H1 _ I1 q1) fun iv s2 ⟨y, H2, I2, ry, q2⟩ =>
    Calls.spliced_cons (thn (hf pins s2 σ H2 _ I2 q2) fun fv s3 ⟨z, H3, I3, rz, ov, g, q3⟩ => Calls.spliced_nil ?_))))
  exact d_get2 hu I3 g ry rz fun w' s4 I4 rw' => ⟨_, H3, I4, rw', q3⟩
end

section
variable {X : Cx} {pins : List (Addr × Obj)} {σ : St} {H : Hp} {s : Shared} {a : Addr} {kvs : List (Key × V)} {A : Around} {E : Value → Shared → Prop}
end


section
variable {X : Cx} {pins : List (Addr × Obj)} {σ : St} {H : Hp} {s : Shared} {a : Addr} {y : V} {u : Value} {A : Around} {E : Value → Shared → Prop}
end
end L2
namespace L2
open PySem PySem.Spec PyProof.Rows
section
variable {X : Cx}
end
section
variable {κ : Type} [DecidableEq κ]
end
end L2
set_option Elab.async false
set_option linter.all false
set_option maxRecDepth 100000
set_option maxHeartbeats 4000000
namespace L3
section
open PySem PySem.Spec PyProof.Rows
open PySem.Builtin PySem.Builtin.Getset_descriptor
section
variable {prog : Program} {w : World} {A : Around} {E : Value → Shared → Prop} {s : Shared} {K : PySem.W.Frag} {x C : Addr} {name : Str}
end
end
open PySem PySem.Spec PyProof.Rows L2
section
variable {X : Cx}
theorem in65 {k : Nat} {A : Around} (r : Room k A) : A.units + 65 < cLine := by have := r.un; omega
noncomputable def rInD (K : PySem.W.Frag) (neg : Bool) : R2 := fun x y H Q => ∃ d ds, Dt K H x d ∧ Dt K H y (.list ds) ∧ SeqAt.shaped d = true ∧ PyData.canLayAll0 ds = true ∧ Q (.bl (if neg then !(ds.any fun z => PyData.eqv z d) else ds.any fun z => PyData.eqv z d)) H
theorem room_inD {A : Around} {ds : List PyData} {d : PyData} (sd : SeqAt.shaped d = true) (hu : A.units + 65 < cLine) : A.units + 1 + min (PyData.depthAll ds) d.depth < cLine := by
  have h1 := SeqAt.depth_of_shaped sd
  have h2 : min (PyData.depthAll ds) d.depth ≤ d.depth := Nat.min_le_right _ _
  omega
theorem op_inD (hu : X.A.units + 65 < cLine) : OpR X (compareOp .In) (rInD X.K false) := by
  intro pins s σ H x y v u Q I rx ry h
  obtain ⟨d, ds, hd, he, sd, se, q⟩ := h
  obtain ⟨as, ra⟩ := dt_reads I hd rx
  obtain ⟨bs, rb⟩ := dt_reads I he ry
  exact SeqAt.in_list_reads rb ra se (SeqAt.canLay_of_shaped sd) (room_inD sd hu) ⟨.bl _, H, I, rfl, q⟩
theorem op_notInD (hu : X.A.units + 65 < cLine) : OpR X (compareOp .NotIn) (rInD X.K true) := by
  intro pins s σ H x y v u Q I rx ry h
  obtain ⟨d, ds, hd, he, sd, se, q⟩ := h
  obtain ⟨as, ra⟩ := dt_reads I hd rx
  obtain ⟨bs, rb⟩ := dt_reads I he ry
  exact SeqAt.notIn_list_reads rb ra se (SeqAt.canLay_of_shaped sd) (room_inD sd hu) ⟨.bl _, H, I, rfl, q⟩

end
end L3
set_option Elab.async false
set_option linter.all false
set_option maxRecDepth 100000
set_option maxHeartbeats 4000000
namespace K1
open PySem L2 L3
theorem bt_len : bootBuiltins "len" = some (.builtin "len") := by decide +kernel
theorem bt_isinstance : bootBuiltins "isinstance" = some (.builtin "isinstance") := by decide +kernel
theorem bt_all : bootBuiltins "all" = some (.builtin "all") := by decide +kernel
theorem bt_int : bootBuiltins "int" = some (.type "int") := by decide +kernel
theorem bt_bool : bootBuiltins "bool" = some (.type "bool") := by decide +kernel
theorem bt_str : bootBuiltins "str" = some (.type "str") := by decide +kernel
theorem bt_list : bootBuiltins "list" = some (.type "list") := by decide +kernel
theorem bt_tuple : bootBuiltins "tuple" = some (.type "tuple") := by decide +kernel
theorem bt_set : bootBuiltins "set" = some (.type "set") := by decide +kernel
structure Blt (mg : Str → Option Value) : Prop where
  len : mg "len" = none
  range : mg "range" = none
  isinstance : mg "isinstance" = none
  all_ : mg "all" = none
  int : mg "int" = none
  bool : mg "bool" = none
  str : mg "str" = none
  list : mg "list" = none
  tuple : mg "tuple" = none
  set_ : mg "set" = none
  ValueError : mg "ValueError" = none
  enumerate : mg "enumerate" = none
  max : mg "max" = none
  min : mg "min" = none
  sum : mg "sum" = none
  any_ : mg "any" = none
  dict : mg "dict" = none
  sorted : mg "sorted" = none
  zip : mg "zip" = none
structure Dn (K : PySem.W.Frag) (mg : Str → Option Value) (x : Str) (st : Stmt) (ps : List Str) (f : Addr) (fd : FuncData) : Prop where
  fn : Fun K x x st f fd
  at_ : mg x = some (.ref f)
  bd : Binds K fd ps []
structure Mn (K : PySem.W.Frag) (C : Addr) (m qual : Str) (st : Stmt) (ps : List Str) (f : Addr) (fd : FuncData) : Prop where
  fn : Fun K m qual st f fd
  me : Meth K C m f
  bd : Binds K fd ps []
structure Inn (K : PySem.W.Frag) (C : Addr) (qual : Str) (st : Stmt) (ps : List Str) (f : Addr) (fd : FuncData) : Prop where
  fn : Fun K "__init__" qual st f fd
  made : Mk K C f
  bd : Binds K fd ps []
noncomputable def Cst (mg : Str → Option Value) (x : Str) (i : Int) : Prop := ∃ t, mg x = some (.int i t)
theorem pe_const {X : Cx} {x : Str} {i : Int} {pos : Pos} (hg : Gl X x) (h : Cst X.mg x i) (hd : (x == ("__debug__" : Str)) = false := by decide) : PE X (.Name x pos) (tC (.int i)) := by
  obtain ⟨t, e⟩ := h
  exact pe_glob hg e ⟨t, rfl⟩ hd
theorem pe_bty {X : Cx} {x : Str} {T : String} {pos : Pos} (hg : Gl X x) (hm : X.mg x = none) (hv : bootBuiltins x = some (.type T)) (hn : x ≠ "__name__" := by decide) (hd : (x == ("__debug__" : Str)) = false := by decide) : PE X (.Name x pos) (tC (.ty T)) :=
  pe_bltn (v := .ty T) hg hm hv rfl hn hd
theorem pe_cls {X : Cx} {x : Str} {C : Addr} {pos : Pos} (hg : Gl X x) (hm : X.mg x = some (.ref C)) (hd : (x == ("__debug__" : Str)) = false := by decide) : PE X (.Name x pos) (tC (.ref C)) :=
  pe_glob (v := .ref C) hg hm rfl hd
theorem tlc_map {wi : TI} {cs : List (Option Nat)} {te : TE} {σ rest : L2.St} {H H1 : Hp} {Q : VK} {J : It} {xs : List L2.V} (hw : ∀ R : It → Hp → Prop, R J H1 → wi σ H R) (hcs : caps cs σ = none :: rest) (wk : Wk J H1 xs) (hl : xs.length < sizeLine) (f : L2.V → L2.V)
    (elt : ∀ (i : Nat) (x : L2.V) (H2 : Hp) (R : VK), xs[i]? = some x → Same H1 H2 → (∀ H5, Same H2 H5 → R (f x) H5) → te (some x :: rest) H2 R)
    (fin : ∀ (D : Addr) (H' : Hp), H1 D = none → H' D = some (.lst (xs.map f)) → Same H1 H' → Q (.ref D) H') : tLC wi cs (gName 0) tAll te σ H Q := hw _ (lc_map hcs wk hl f elt fin)
theorem kit_eq (K : PySem.W.Frag) (t : String) : PySem.W.kitOne K (.type t) (.type t) = some true := by
  unfold PySem.W.kitOne
  exact if_pos (by simp)
theorem sub_of {cl big : List (Str × Addr)} (h : ∀ p ∈ cl, big.lookup p.1 = some p.2) (x : Str) (c : Addr) (e : cl.lookup x = some c) : big.lookup x = some c := by
  induction cl with
  | nil => cases e
  | cons p r ih =>
    obtain ⟨y, d⟩ := p
    rw [List.lookup_cons] at e
    by_cases hb : (x == y) = true
    · rw [hb] at e
      cases e
      have := h (y, c) (List.mem_cons_self ..)
      rw [show x = y from eq_of_beq hb]
      exact this
    · rw [Bool.not_eq_true] at hb
      rw [hb] at e
      exact ih (fun p hp => h p (List.mem_cons_of_mem _ hp)) e
end K1
set_option Elab.async false
set_option linter.all false
namespace M1
open PySem
noncomputable def wcs : Nat → Int → List Nat
  | 0, _ => []
  | k + 1, n => (97 + (n % 26).toNat) :: wcs k (n / 26)
noncomputable def wnum (c : Int) : Int := c * 1099087573 % 10000000000037
noncomputable def wsize (c : Int) : Nat := (1 + wnum c % 7).toNat
noncomputable def wordL (c : Int) : List Nat := wcs (wsize c) (wnum c / 7)
noncomputable def Nm (l : List Nat) : Prop := 1 ≤ l.length ∧ l.length ≤ 8 ∧ ∀ x ∈ l, 97 ≤ x ∧ x ≤ 122
noncomputable def letters : List Nat := [107, 99, 120, 113, 97, 109, 122, 102, 116, 98, 106, 101]
noncomputable def hat (c : Int) : Nat := (c % ((wsize c : Int) + 1)).toNat
noncomputable def house (c : Int) (l : Nat) : List Nat := (wordL c).take (hat c) ++ l :: (wordL c).drop (hat c)
structure Rd where
  a : Nat
  b : Nat
  t : Int
  m : Int
noncomputable def rnum (c : Int) : Int := c * 48271 % 2147483647
noncomputable def rbeg (n : Nat) (c : Int) : Int := rnum c % n
noncomputable def rend (n : Nat) (c : Int) : Int := (rbeg n c + 1 + rnum c / 12 % ((n : Int) - 1)) % n
noncomputable def rroom (c : Int) : Int := if rnum c / 432 % 5 = 1 then 1 + c % 10 ^ 9 else 1 + rnum c / 144 % 3
noncomputable def rturn (l : Int) (c : Int) : Int := 1 + rnum c / 2160 % l
noncomputable def rd (n : Nat) (c : Int) : Rd := ⟨(rbeg n c).toNat, (rend n c).toNat, rturn 9 c, rroom c⟩
structure Rd.Ok (r : Rd) (n : Nat) : Prop where
  a : r.a < n
  b : r.b < n
  ne : r.a ≠ r.b
  t : 1 ≤ r.t ∧ r.t ≤ 9
  m : 1 ≤ r.m ∧ r.m ≤ 1000000000
end M1
set_option Elab.async false
set_option linter.all false
set_option maxRecDepth 100000
set_option maxHeartbeats 4000000
namespace K1
open PySem L2 L3 M1
section
variable {P : Program} {w : World} {K : PySem.W.Frag} {mg : Str → Option Value} {base : Heap}
noncomputable abbrev S (l : List Nat) : Str := ⟨l.toArray⟩
theorem atI_int {ns : List Int} {k : Int} (h0 : 0 ≤ k) (h1 : k < (ns.map V.int).length) : atI (ns.map V.int) k = some (V.int (ns.getD k.toNat 0)) := by
  have h2 : k.toNat < ns.length := by rw [List.length_map] at h1; omega
  have e : (ns.map V.int)[k.toNat]? = some (V.int (ns.getD k.toNat 0)) := by
    rw [List.getElem?_map, List.getElem?_eq_getElem h2]
    simp [List.getD, h2]
  have := atI_nat e
  rwa [Int.toNat_of_nonneg h0] at this
noncomputable def spAt (K : PySem.W.Frag) : Sp := fun vs H Q _ => ∃ (a : Addr) (ns : List Int) (k : Int), vs = [.ref a, .int k] ∧ SqL K H a (ns.map V.int) ∧ 0 ≤ k ∧ Q (.int (ns.getD k.toNat 0)) H
theorem alpha_codes : (Str.ofString "abcdefghijklmnopqrstuvwxyz").cps.toList = (List.range 26).map (97 + ·) := by decide +kernel
theorem alpha_at {i : Int} (h0 : 0 ≤ i) (h1 : i < 26) : atI (Str.ofString "abcdefghijklmnopqrstuvwxyz").cps.toList i = some (97 + i.toNat) := by
  have e : (Str.ofString "abcdefghijklmnopqrstuvwxyz").cps.toList[i.toNat]? = some (97 + i.toNat) := by
    rw [alpha_codes, List.getElem?_map, List.getElem?_range (by omega)]
    rfl
  have := atI_nat e
  rwa [Int.toNat_of_nonneg h0] at this
theorem S_app (a b : List Nat) : S a ++ S b = S (a ++ b) := by
  show Str.append _ _ = _
  simp [Str.append, S]
theorem S_len (a : List Nat) : (S a).length = a.length := by simp [S, Str.length]
noncomputable def txs (hs : List (List Nat)) : List L2.V := hs.map fun l => V.str (S l)
theorem txs_map (hs : List (List Nat)) : txs hs = (hs.map S).map V.str := by simp [txs]
theorem signs_S (l : List Nat) : signs (S l) = l.map fun c => V.str (S [c]) := by simp [signs, S]
noncomputable def rdV (hs : List (List Nat)) (r : M1.Rd) : List L2.V := [.str (S (hs.getD r.a [])), .str (S (hs.getD r.b [])), .int r.t, .int r.m]
noncomputable def Tups (H : Hp) : List Addr → List (List L2.V) → Prop := Paired fun r d => H r = some (.tup d)
theorem Tups.same {H H' : Hp} (sm : Same H H') {rs ds} (h : Tups H rs ds) : Tups H' rs ds := Paired.mapP h fun _ _ e => sm _ _ e
noncomputable def refs (rs : List Addr) : List L2.V := rs.map V.ref
theorem Paired.snoc {α β : Type} {F : α → β → Prop} {x : α} {y : β} (q : F x y) : ∀ {l : List α} {m : List β}, Paired F l m → Paired F (l ++ [x]) (m ++ [y])
  | _, _, .nil => .cons q .nil
  | _, _, .cons r t => .cons r (Paired.snoc q t)
theorem txs_at {hs : List (List Nat)} {k : Int} (h0 : 0 ≤ k) (h1 : k < hs.length) : atI (txs hs) k = some (V.str (S (hs.getD k.toNat []))) := by
  have h2 : k.toNat < hs.length := by omega
  have e : (txs hs)[k.toNat]? = some (V.str (S (hs.getD k.toNat []))) := by
    unfold txs
    rw [List.getElem?_map, List.getElem?_eq_getElem h2]
    simp [List.getD, h2]
  have := atI_nat e
  rwa [Int.toNat_of_nonneg h0] at this
theorem txs_len (hs : List (List Nat)) : (txs hs).length = hs.length := List.length_map ..
theorem upd_other {H H' : Hp} {p : Addr} {o : HO} (hp : H p = none) (sm : Same H H') : Same H (upd H' p o) := fun b u e => by
  rw [upd_ne (ne_of_none e hp)]
  exact sm b u e
theorem Tups.upd {H : Hp} {p : Addr} {o u : HO} {rs ds} (h : Tups H rs ds) (e : H p = some u) (hu : ∀ d, u ≠ .tup d) : Tups (upd H p o) rs ds := Paired.mapP h fun r d q => by
  rw [upd_ne]
  · exact q
  · rintro rfl
    rw [e] at q
    exact hu d (Option.some.inj q)
theorem refs_snoc (rs : List Addr) (t : Addr) : refs rs ++ [V.ref t] = refs (rs ++ [t]) := by simp [refs]
theorem refs_len (rs : List Addr) : (refs rs).length = rs.length := List.length_map ..
theorem Tups.len {H rs ds} (h : Tups H rs ds) : rs.length = ds.length := Paired.length h
theorem upd_free {H : Hp} {t : Addr} {o : HO} (ht : H t = none) : Same H (upd H t o) := fun b u e => by
  rw [upd_ne (ne_of_none e ht)]
  exact e
theorem iteB {b : Bool} {A B : Prop} (h : b = true) (q : A) : if b = true then A else B := by rw [if_pos h]; exact q
theorem iteN {b : Bool} {A B : Prop} (h : b = false) (q : B) : if b = true then A else B := by subst h; exact q
theorem bl_of {R : VK} {b : Bool} {H : Hp} (e : b = true) (h : R (.bl true) H) : R (.bl b) H := by rw [e]; exact h
theorem map_true (xs : List L2.V) : xs.map (fun _ => V.bl true) = (List.replicate xs.length true).map V.bl := by
  induction xs with
  | nil => rfl
  | cons x r ih => simp [List.replicate_succ, ih]
theorem all_true (n : Nat) : (List.replicate n true).all id = true := by
  rw [List.all_eq_true]
  intro x hx
  exact (List.mem_replicate.mp hx).2
structure Kit (K : PySem.W.Frag) : Prop where
  ib : PySem.W.kitOne K (.type "int") (.type "bool") = some false
noncomputable def spWhole : Sp := fun vs H Q _ => ∃ i : Int, vs = [.int i] ∧ Q (.bl true) H
noncomputable def spWithin : Sp := fun vs H Q _ => ∃ i a b : Int, vs = [.int i, .int a, .int b] ∧ a ≤ i ∧ i ≤ b ∧ Q (.bl true) H
noncomputable def spTupOf : Sp := fun vs H Q _ => ∃ (r : Addr) (xs : List L2.V) (n : Int), vs = [.ref r, .int n] ∧ H r = some (.tup xs) ∧ (xs.length : Int) = n ∧ Q (.bl true) H
theorem flat_strs (ys : List Str) : (ys.map V.str).all flatV = true := by
  rw [List.all_eq_true]
  intro x hx
  obtain ⟨y, _, rfl⟩ := List.mem_map.mp hx
  rfl
theorem in_strs {ys : List Str} {x : Str} (h : x ∈ ys) : inV (.str x) (ys.map V.str) = true := by
  unfold inV
  rw [List.any_eq_true]
  exact ⟨.str x, List.mem_map.mpr ⟨x, h, rfl⟩, by show (x == x) = true; exact beq_self_eq_true x⟩
noncomputable def spUnlike (K : PySem.W.Frag) : Sp := fun vs H Q _ => ∃ (a : Addr) (ys : List Str) (x y : Str), vs = [.ref a, .str x, .str y] ∧ SqL K H a (ys.map V.str) ∧ x ∈ ys ∧ y ∈ ys ∧ x ≠ y ∧ Q (.bl true) H
theorem sA : Str.ofString "a" = ⟨#[97]⟩ := by decide +kernel
theorem sZ : Str.ofString "z" = ⟨#[122]⟩ := by decide +kernel
noncomputable def spName : Sp := fun vs H Q _ => ∃ l : List Nat, vs = [.str (S l)] ∧ Nm l ∧ ∀ H', Same H H' → Q (.bl true) H'
structure Csts (mg : Str → Option Value) : Prop where
  MOST_HOUSES : Cst mg "MOST_HOUSES" 12
  MOST_ROADS : Cst mg "MOST_ROADS" 40
  MOST_SIGNS : Cst mg "MOST_SIGNS" 8
  MOST_TURNS : Cst mg "MOST_TURNS" 9
  MOST_ROOM : Cst mg "MOST_ROOM" 1000000000
theorem S_inj {a b : List Nat} (h : S a = S b) : a = b := by
  have := congrArg (fun x => x.cps.toList) h
  simpa [S] using this
theorem nodup_S {hs : List (List Nat)} (h : hs.Nodup) : ∀ i j, i < j → j < (hs.map S).length → (hs.map S).getD i Str.empty ≠ (hs.map S).getD j Str.empty := by
  intro i j hij hj e
  rw [List.length_map] at hj
  have hi : i < hs.length := by omega
  rw [List.getD, List.getD, List.getElem?_map, List.getElem?_map, List.getElem?_eq_getElem hi, List.getElem?_eq_getElem hj] at e
  have e2 := S_inj (show S hs[i] = S hs[j] from e)
  exact List.pairwise_iff_getElem.mp h i j hi hj hij e2
structure Good (hs : List (List Nat)) : Prop where
  nm : ∀ x ∈ hs, Nm x
  nd : hs.Nodup
  few : hs.length ≤ 12
noncomputable def spAreH : Sp := fun vs H Q _ => ∃ (a : Addr) (hs : List (List Nat)), vs = [.ref a] ∧ H a = some (.lst (txs hs)) ∧ Good hs ∧ ∀ H', Same H H' → Q (.bl true) H'
theorem Paired.get {α β : Type} {F : α → β → Prop} : ∀ {l : List α} {m : List β} {i : Nat} {x : α}, Paired F l m → l[i]? = some x → ∃ y, m[i]? = some y ∧ F x y
  | _, _, _, _, .nil, e => by simp at e
  | _, _, 0, _, .cons r _, e => by simp at e; subst e; exact ⟨_, rfl, r⟩
  | _, _, i + 1, x, .cons _ t, e => by
    obtain ⟨y, h1, h2⟩ := Paired.get (i := i) (x := x) t (by simpa using e)
    exact ⟨y, by simpa using h1, h2⟩
structure RoadsAt (H : Hp) (hs : List (List Nat)) (rs : List Addr) (ds : List M1.Rd) : Prop where
  tups : Tups H rs (ds.map (rdV hs))
  ok : ∀ d ∈ ds, d.Ok hs.length
theorem RoadsAt.same {H H' : Hp} {hs rs ds} (r : RoadsAt H hs rs ds) (sm : Same H H') : RoadsAt H' hs rs ds := ⟨r.tups.same sm, r.ok⟩
theorem RoadsAt.get {H : Hp} {hs rs ds} {i : Nat} {r : Addr} (q : RoadsAt H hs rs ds) (e : rs[i]? = some r) : ∃ d, ds[i]? = some d ∧ d.Ok hs.length ∧ H r = some (.tup (rdV hs d)) := by
  obtain ⟨y, h1, h2⟩ := Paired.get q.tups e
  rw [List.getElem?_map] at h1
  obtain ⟨d, hd, rfl⟩ := Option.map_eq_some_iff.mp h1
  exact ⟨d, hd, q.ok d (List.mem_of_getElem? hd), h2⟩
theorem RoadsAt.len {H : Hp} {hs rs ds} (q : RoadsAt H hs rs ds) : rs.length = ds.length := by
  have := q.tups.len
  rwa [List.length_map] at this
theorem mem_at {hs : List (List Nat)} {a : Nat} (h : a < hs.length) : S (hs.getD a []) ∈ hs.map S := by
  refine List.mem_map.mpr ⟨hs.getD a [], ?_, rfl⟩
  rw [List.getD, List.getElem?_eq_getElem h]
  exact List.getElem_mem h
theorem ne_at {hs : List (List Nat)} {a b : Nat} (nd : hs.Nodup) (ha : a < hs.length) (hb : b < hs.length) (ne : a ≠ b) : S (hs.getD a []) ≠ S (hs.getD b []) := by
  intro e
  have e2 := S_inj e
  rw [List.getD, List.getD, List.getElem?_eq_getElem ha, List.getElem?_eq_getElem hb] at e2
  rcases Nat.lt_or_gt_of_ne ne with h | h
  · exact List.pairwise_iff_getElem.mp nd a b ha hb h e2
  · exact List.pairwise_iff_getElem.mp nd b a hb ha h e2.symm
noncomputable def spRoad (K : PySem.W.Frag) : Sp := fun vs H Q _ => ∃ (a r : Addr) (hs : List (List Nat)) (d : M1.Rd), vs = [.ref a, .ref r] ∧ SqL K H a (txs hs) ∧ hs.Nodup ∧ d.Ok hs.length ∧ H r = some (.tup (rdV hs d)) ∧ Q (.bl true) H
noncomputable def spAreR (K : PySem.W.Frag) : Sp := fun vs H Q _ => ∃ (a b : Addr) (hs : List (List Nat)) (rs : List Addr) (ds : List M1.Rd), vs = [.ref a, .ref b] ∧ SqL K H a (txs hs) ∧ hs.Nodup ∧ H b = some (.lst (refs rs)) ∧ RoadsAt H hs rs ds ∧ rs.length ≤ 40 ∧ ∀ H', Same H H' → Q (.bl true) H'
noncomputable def SameBut (x : Addr) (H H' : Hp) : Prop := ∀ b o, b ≠ x → H b = some o → H' b = some o
noncomputable def netF (a b : Addr) : List (Str × L2.V) := [("kept_houses", .ref a), ("kept_roads", .ref b)]
structure NetC (K : PySem.W.Frag) (C : Addr) : Prop where
  cl : Cls K C
  nh : NoAttr K C "kept_houses"
  nr : NoAttr K C "kept_roads"
noncomputable def spInit (K : PySem.W.Frag) (C : Addr) : Sp := fun vs H Q _ => ∃ (x dx a b : Addr) (hs : List (List Nat)) (rs : List Addr) (ds : List M1.Rd), vs = [.ref x, .ref a, .ref b] ∧ H x = some (.ins C dx []) ∧ H a = some (.lst (txs hs)) ∧ Good hs ∧
  H b = some (.lst (refs rs)) ∧ RoadsAt H hs rs ds ∧ rs.length ≤ 40 ∧
  ∀ (H' : Hp) (a' b' : Addr), SameBut x H H' → H' x = some (.ins C dx (netF a' b')) → H' a' = some (.lst (txs hs)) → H' b' = some (.lst (refs rs)) → H a' = none → H b' = none → Q .non H'
structure NetAt (C : Addr) (H : Hp) (x a' b' : Addr) (xs ys : List L2.V) : Prop where
  ins : ∃ dx, H x = some (.ins C dx (netF a' b'))
  hou : H a' = some (.lst xs)
  roa : H b' = some (.lst ys)
theorem NetAt.same {C : Addr} {H H' : Hp} {x a' b' : Addr} {xs ys : List L2.V} (n : NetAt C H x a' b' xs ys) (sm : Same H H') : NetAt C H' x a' b' xs ys :=
  let ⟨dx, h⟩ := n.ins
  ⟨⟨dx, sm _ _ h⟩, sm _ _ n.hou, sm _ _ n.roa⟩
noncomputable def spRoadsM (C : Addr) : Sp := fun vs H Q _ => ∃ (x a' b' : Addr) (xs ys : List L2.V), vs = [.ref x] ∧ NetAt C H x a' b' xs ys ∧ ∀ l, H l = none → Q (.ref l) (upd H l (.lst ys))
noncomputable def hD (hs : List (List Nat)) : List PyData := (hs.map S).map PyData.str
theorem strOk_nm {l : List Nat} (h : Nm l) : PyData.canLay0 (.str (S l)) = true := by
  simp only [PyData.canLay0, PyData.strOk, S]
  rw [Array.all_eq_true_iff_forall_mem]
  intro x hx
  have := h.2.2 x (by simpa using hx)
  exact decide_eq_true (by omega)
theorem can_all {ds : List PyData} (h : ∀ d ∈ ds, d.canLay0 = true) : PyData.canLayAll0 ds = true := by
  induction ds with
  | nil => rfl
  | cons d r ih =>
    simp only [PyData.canLayAll0, Bool.and_eq_true]
    exact ⟨h d (List.mem_cons_self ..), ih fun e he => h e (List.mem_cons_of_mem _ he)⟩
theorem depth_all {ds : List PyData} {n : Nat} (h : ∀ d ∈ ds, d.depth ≤ n) : PyData.depthAll ds ≤ n := by
  induction ds with
  | nil => exact Nat.zero_le _
  | cons d r ih =>
    simp only [PyData.depthAll]
    exact Nat.max_le.mpr ⟨h d (List.mem_cons_self ..), ih fun e he => h e (List.mem_cons_of_mem _ he)⟩
theorem Good.at {hs : List (List Nat)} (G : Good hs) {a : Nat} (h : a < hs.length) : Nm (hs.getD a []) := by
  refine G.nm _ ?_
  rw [List.getD, List.getElem?_eq_getElem h]
  exact List.getElem_mem h
theorem shaped_of {d : PyData} {n : Nat} (h1 : d.canLay0 = true) (h2 : d.depth ≤ n) (h3 : n ≤ 64) : SeqAt.shaped d = true := by
  unfold SeqAt.shaped
  rw [h1, decide_eq_true (Nat.le_trans h2 h3)]
  rfl
theorem ne_self {d : PyData} (h : d.canLay0 = true) : (if true = true then !PyData.eqv d d else PyData.eqv d d) = false := by
  rw [eqv_self d h]
  rfl
theorem refs_at {rs : List Addr} {i : Nat} {r : Addr} (e : rs[i]? = some r) : atI (refs rs) ((0 : Int) + (i : Int)) = some (V.ref r) := by
  rw [Int.zero_add]
  refine atI_nat ?_
  unfold refs
  rw [List.getElem?_map, e]
  rfl
theorem make_same {Hc H4 : Hp} {x dx : Addr} {o u : HO} (hx : Hc x = none) (hd : Hc dx = none) (sb : SameBut x (upd (upd Hc dx o) x u) H4) : Same Hc H4 := fun b v e => by
  have n1 := ne_of_none e hx
  have n2 := ne_of_none e hd
  refine sb b v n1 ?_
  rw [upd_ne n1, upd_ne n2]
  exact e
noncomputable def spLaw (K : PySem.W.Frag) : Sp := fun vs H Q _ => ∃ (a : Addr) (ns : List Int), vs = [.ref a] ∧ SqL K H a (ns.map V.int) ∧ ns.length ≤ 63 ∧ ∀ H', Q (.bl true) H'
theorem kit_ib (K : PySem.W.Frag) : PySem.W.kitOne K (.type "int") (.type "bool") = some false := by
  show (if (Value.type "int" == Value.type "bool") = true then some true else if PySem.W.kitMeta "bool" = true then (fastBuiltinMro "int").map (·.contains (.type "bool")) else none) = some false
  decide +kernel
theorem dts_ints {K : PySem.W.Frag} {H : Hp} : ∀ ns : List Int, Dts K H (ns.map V.int) (ns.map PyData.int)
  | [] => .nil
  | x :: r => .cons (.int x) (dts_ints r)
theorem ne_int {i j : Int} (h : i ≠ j) : decide (V.int i = V.int j) = false := decide_eq_false fun z => h (V.int.inj z)
end
end K1
set_option Elab.async false
set_option linter.all false
set_option maxRecDepth 100000
set_option maxHeartbeats 4000000
namespace K1
open PySem L2 L3 M1
section
variable {P : Program} {w : World} {K : PySem.W.Frag} {mg : Str → Option Value} {base : Heap}
noncomputable def top (i : Nat) : Stmt := PySem.Challenge.pw_postroad_k16_whole_letters_kept.main.body.getD i (.Pass ⟨0, 0, 0, 0⟩)
end
end K1
set_option Elab.async false
set_option linter.all false
set_option maxRecDepth 100000
set_option maxHeartbeats 4000000
namespace K1
open PySem L2 L3 M1
end K1
set_option Elab.async false
set_option linter.all false
set_option maxRecDepth 100000
set_option maxHeartbeats 4000000
namespace L3
open PySem PySem.Spec PyProof.Rows L2
section
variable {X : Cx} {e : Expr} {es : List Expr} {pos p : Pos} {k : Nat} {f C : Addr} {fd : FuncData} {ps : List Str} {sp : Sp} {t : TA} {x : Str}
end
end L3
set_option Elab.async false
set_option linter.all false
set_option maxRecDepth 100000
set_option maxHeartbeats 4000000
namespace K1
open PySem PySem.Spec PyProof.Rows L2 L3 M1
structure Pd where
  p : Hp → L2.V → Prop
  up : ∀ {H H' : Hp} {v : L2.V}, Same H H' → p H v → p H' v
section
variable {X : Cx} {e a b : Expr} {es : List Expr} {pos p2 : Pos} {Γ : List (Option Pd)} {A B R : Pd}
variable {i j : Int}
variable {st : List Stmt}
end
section
variable {X : Cx} {K : PySem.W.Frag} {o e : Expr} {es : List Expr} {to : TE} {t : TA} {name : Str} {apos cpos : Pos} {T id : String} {r : L2.V → List L2.V → Hp → VK → Prop}
end
end K1
set_option Elab.async false
set_option linter.all false
set_option maxRecDepth 100000
set_option maxHeartbeats 4000000
namespace K1
open PySem L2 L3 M1
noncomputable abbrev L (x : String) : Str := Str.ofString x
end K1
set_option Elab.async false
set_option linter.all false
namespace M1
open PySem
noncomputable def hsz (c : Int) : Nat := (1 + c % 8).toNat
noncomputable def hpl (c : Int) : Nat := (c / 8 % (1 + c % 8)).toNat
noncomputable def hch (c : Int) (k j : Nat) : Nat := 97 + ((c / 64 + 5 * (j : Int) * (j : Int) + 2 * (k : Int) * (if j = hpl c then 1 else 0)) % 26).toNat
noncomputable def hnm (c : Int) (k : Nat) : List Nat := (List.range (hsz c)).map (hch c k)
noncomputable def housesN (c : Int) (m : Nat) : List (List Nat) := (List.range m).map (hnm c)
theorem hsz_ok (c : Int) : 1 ≤ hsz c ∧ hsz c ≤ 8 := by unfold hsz; omega
theorem hsz_int (c : Int) : (1 + c % 8) = (hsz c : Int) := by unfold hsz; omega
theorem hpl_lt (c : Int) : hpl c < hsz c := by
  have h1 : 0 < 1 + c % 8 := by omega
  have h2 := Int.emod_lt_of_pos (c / 8) h1
  have h3 := Int.emod_nonneg (c / 8) (by omega : 1 + c % 8 ≠ 0)
  unfold hpl hsz
  omega
theorem hpl_int (c : Int) : c / 8 % (1 + c % 8) = (hpl c : Int) := by
  have h3 := Int.emod_nonneg (c / 8) (by omega : 1 + c % 8 ≠ 0)
  unfold hpl
  omega
theorem hch_ok (c : Int) (k j : Nat) : 97 ≤ hch c k j ∧ hch c k j ≤ 122 := by unfold hch; omega
theorem hnm_nm (c : Int) (k : Nat) : Nm (hnm c k) := by
  have h := hsz_ok c
  refine ⟨by simp [hnm]; omega, by simp [hnm]; omega, fun x hx => ?_⟩
  obtain ⟨j, _, rfl⟩ := List.mem_map.mp hx
  exact hch_ok c k j
theorem hnm_inj {c : Int} {k l : Nat} (hk : k < 13) (hl : l < 13) (e : hnm c k = hnm c l) : k = l := by
  have h := hpl_lt c
  have e2 : (hnm c k)[hpl c]? = (hnm c l)[hpl c]? := by rw [e]
  unfold hnm at e2
  rw [List.getElem?_map, List.getElem?_map, List.getElem?_range h] at e2
  have e3 : hch c k (hpl c) = hch c l (hpl c) := by simpa using e2
  unfold hch at e3
  rw [if_pos rfl] at e3
  generalize c / 64 + 5 * (hpl c : Int) * (hpl c : Int) = z at e3
  omega
theorem nd_map_range {α : Type} {f : Nat → α} {m : Nat} (h : ∀ i j, i < m → j < m → f i = f j → i = j) : ((List.range m).map f).Nodup := by
  refine List.pairwise_map.mpr ?_
  refine List.Pairwise.imp_of_mem ?_ (List.nodup_range (n := m))
  intro a b ha hb hab e
  exact hab (h a b (List.mem_range.mp ha) (List.mem_range.mp hb) e)
theorem housesN_nd {c : Int} {m : Nat} (h : m ≤ 12) : (housesN c m).Nodup := nd_map_range fun i j hi hj e => hnm_inj (by omega) (by omega) e
theorem housesN_len (c : Int) (m : Nat) : (housesN c m).length = m := by simp [housesN]
structure Lt where
  a : Nat
  b : Nat
  t : Int
noncomputable def lnum (c : Int) : Int := c * 982451653 % 10000000000037
noncomputable def lbeg (n : Nat) (c : Int) : Int := lnum c % n
noncomputable def lend (n : Nat) (c : Int) : Int := (lbeg n c + 1 + lnum c / n % ((n : Int) - 1)) % n
noncomputable def lt (n : Nat) (c base : Int) : Lt := ⟨(lbeg n c).toNat, (lend n c).toNat, base + lnum c / 1000 % 31⟩
structure Lt.Ok (d : Lt) (n : Nat) (base : Int) : Prop where
  a : d.a < n
  b : d.b < n
  ne : d.a ≠ d.b
  lo : base ≤ d.t
  hi : d.t ≤ base + 30
theorem lt_ok {n : Nat} (h : 1 < n) (c base : Int) : (lt n c base).Ok n base := by
  have b1 : 0 ≤ lbeg n c := Int.emod_nonneg _ (by omega)
  have b2 : lbeg n c < n := Int.emod_lt_of_pos _ (by omega)
  have e1 : 0 ≤ lend n c := Int.emod_nonneg _ (by omega)
  have e2 : lend n c < n := Int.emod_lt_of_pos _ (by omega)
  have d1 : 0 ≤ lnum c / n % ((n : Int) - 1) := Int.emod_nonneg _ (by omega)
  have d2 : lnum c / n % ((n : Int) - 1) < (n : Int) - 1 := Int.emod_lt_of_pos _ (by omega)
  have ne : lbeg n c ≠ lend n c := by
    intro z
    have e3 : lend n c = (lbeg n c + 1 + lnum c / n % ((n : Int) - 1)) % n := rfl
    generalize lnum c / n % ((n : Int) - 1) = x at d1 d2 e3
    by_cases hlt : lbeg n c + 1 + x < n
    · rw [Int.emod_eq_of_lt (by omega) hlt] at e3
      omega
    · have h5 : (lbeg n c + 1 + x) % (n : Int) = (lbeg n c + 1 + x - n) % (n : Int) := by rw [Int.sub_emod_right]
      rw [h5, Int.emod_eq_of_lt (by omega) (by omega)] at e3
      omega
  have t1 : 0 ≤ lnum c / 1000 % 31 := Int.emod_nonneg _ (by decide)
  have t2 : lnum c / 1000 % 31 < 31 := Int.emod_lt_of_pos _ (by decide)
  exact ⟨by show (lbeg n c).toNat < n; omega, by show (lend n c).toNat < n; omega, by show (lbeg n c).toNat ≠ (lend n c).toNat; omega, by show base ≤ base + _; omega, by show base + _ ≤ base + 30; omega⟩
end M1
set_option Elab.async false
set_option linter.all false
set_option maxRecDepth 100000
set_option maxHeartbeats 4000000
namespace L3
open PySem PySem.Spec PyProof.Rows L2
section
variable {prog : Program} {w : World} {A : Around} {E : Value → Shared → Prop} {s : Shared} {K : PySem.W.Frag}
variable {nm q : Str} {C N fI : Addr} {bs bm tl : List Value} {hd : Bool} {sn : List Str} {sub : List Value} {ab : Bool} {col : Option Bool} {dC : Option Addr} {k0 k1 k2 k3 k5 : Option Value} {B newId initId : String}
end
end L3
set_option Elab.async false
set_option linter.all false
set_option maxRecDepth 100000
set_option maxHeartbeats 4000000
namespace L3
open PySem PySem.Spec PyProof.Rows L2
section
variable {P : Program} {w : World} {H : Hp} {h : Heap} {e C dx d : Addr}
end
section
variable {X : Cx} {pins : List (Addr × Obj)} {σ : L2.St} {H : Hp} {s : Shared}
end
section
variable {X : Cx} {o e value : Expr} {es : List Expr} {f y : Str} {pos pos' apos np : Pos} {ta tv : TE} {t : TA} {R : Addr}
end
section
variable {X : Cx} {k : Nat} {f C R : Addr} {fd : FuncData} {ps : List Str} {sp : Sp} {y : Str}
end
section
variable {prog : Program} {w : World} {A : Around} {E : Value → Shared → Prop} {s : Shared} {env : Env} {K : PySem.W.Frag} {mg : Str → Option Value} {y : Str} {C R : Addr}
end
section
variable {P : Program} {w : World} {K : PySem.W.Frag} {mg : Str → Option Value} {base : Heap} {N : List Str} {qual : Str} {scope : Scope} {f : Addr} {cdv : Value} {A : Around} {outer : List Env} {s : Shared} {H : Hp} {E : XK}
end
section
variable {X : Cx} {e o : Expr} {es : List Expr} {pos apos p : Pos} {k : Nat} {f C : Addr} {fd : FuncData} {ps : List Str} {sp : Sp} {ta : TE} {t : TA} {m x : Str}
end
section
variable {M : Model} {A : Around} {E : Value → Shared → Prop} {s : Shared} {B : Heap} {e L : Addr} {cls a0 : Value} {Q : Unit → Shared → Prop} {env : Env} {outer l : List Env}
end
section
variable {X : Cx}
end
theorem for_enum {K : PySem.W.Frag} {a : Addr} {xs : List V} {g : TG} {tb : TS} {D : Ends} {σ : L2.St} {H : Hp} (Pv : Nat → L2.St → Hp → Prop) (h0 : Pv 0 σ H) (hl : ∀ i σ H, Pv i σ H → SqL K H a xs)
    (hs : ∀ i x σ H p, xs[i]? = some x → Pv i σ H → H p = none → g (.ref p) σ (upd H p (.tup [.int i, x])) fun σ2 H2 => tb { D with nx := Pv (i + 1), ct := Pv (i + 1), bk := D.nx } σ2 H2) (hd : ∀ σ H, Pv xs.length σ H → D.nx σ H) :
    ∃ W : Nat → Nat → L2.St → Hp → Prop, (∃ m, W 0 m σ H) ∧ ∀ i m σ H, W i m σ H →
      ((Ite K a).stop i H ∧ D.nx σ H) ∨ ((Ite K a).go i H ∧ ∃ N : L2.St → Hp → Prop, (∀ σ' H', N σ' H' → ∃ m', m' < m ∧ W (i + 1) m' σ' H') ∧ ∀ x H', (Ite K a).yld i H x H' → g x σ H' fun σ2 H2 => tb { D with nx := N, ct := N, bk := D.nx } σ2 H2) := by
  refine ⟨fun i m σ H => m = xs.length - i ∧ i ≤ xs.length ∧ Pv i σ H, ⟨xs.length, by simp, Nat.zero_le _, h0⟩, ?_⟩
  rintro i m σ H ⟨rfl, hi, p⟩
  have q := hl i σ H p
  by_cases hlt : i < xs.length
  · refine .inr ⟨⟨xs, xs[i], q, by simp [hlt]⟩, Pv (i + 1), fun σ' H' p' => ⟨xs.length - (i + 1), by omega, rfl, hlt, p'⟩, fun v H' y => ?_⟩
    obtain ⟨r, x, hr, rfl, hx, rfl⟩ := y
    exact hs i x σ H r (hx xs q) p hr
  · have e : i = xs.length := by omega
    subst e
    exact .inl ⟨⟨xs, q, Nat.le_refl _⟩, hd σ H p⟩
end L3
set_option Elab.async false
set_option linter.all false
set_option maxRecDepth 100000
set_option maxHeartbeats 4000000
namespace K1
open PySem L2 L3 M1
noncomputable def spHousesN : Sp := fun vs H Q _ => ∃ (c : Int) (m : Nat), vs = [.int c, .int m] ∧ m ≤ 12 ∧ ∀ (p : Addr) (H' : Hp), H p = none → Same H H' → H' p = some (.lst (txs (housesN c m))) → Q (.ref p) H'
theorem housesN_good {c : Int} {m : Nat} (h : m ≤ 12) : Good (housesN c m) := ⟨fun x hx => by
  obtain ⟨k, _, rfl⟩ := List.mem_map.mp hx
  exact hnm_nm c k, housesN_nd h, by rw [housesN_len]; exact h⟩
noncomputable def hplV (c : Int) (k j : Nat) : Int := c / 64 + 5 * (0 + (j : Int)) * (0 + (j : Int)) + 2 * (0 + (k : Int)) * (if decide (V.int (0 + (j : Int)) = V.int (c / 8 % (1 + c % 8))) = true then 1 else 0)
theorem hch_V (c : Int) (k j : Nat) : 97 + (hplV c k j % 26).toNat = hch c k j := by
  unfold hplV hch
  rw [hpl_int c]
  by_cases h : j = hpl c
  · subst h
    rw [if_pos rfl, if_pos (decide_eq_true (by rw [Int.zero_add])), Int.zero_add, Int.zero_add]
  · rw [if_neg h, if_neg (by rw [decide_eq_false (fun z => h (by have := V.int.inj z; omega))]; exact Bool.false_ne_true), Int.zero_add, Int.zero_add]
theorem range_map_succ {α : Type} (f : Nat → α) (n : Nat) : (List.range (n + 1)).map f = (List.range n).map f ++ [f n] := by rw [List.range_succ, List.map_append]; rfl
noncomputable def ltV (hs : List (List Nat)) (d : M1.Lt) : List L2.V := [.str (S (hs.getD d.a [])), .int d.t, .str (S (hs.getD d.b []))]
noncomputable def spLet1 : Sp := fun vs H Q _ => ∃ (c b : Int) (a : Addr) (hs : List (List Nat)), vs = [.int c, .ref a, .int b] ∧ H a = some (.lst (txs hs)) ∧ 2 ≤ hs.length ∧ hs.length ≤ 12 ∧ ∀ r, H r = none → Q (.ref r) (upd H r (.tup (ltV hs (lt hs.length c b))))
section
variable {P : Program} {w : World} {K : PySem.W.Frag} {mg : Str → Option Value} {base : Heap}
noncomputable abbrev sAt : Stmt := top 37
theorem scAt : FnScope ["_law_script", "_law_k"] ["_law_script", "_law_k"] (defScope sAt) := ⟨rfl, rfl, rfl, by decide +kernel, rfl, by decide +kernel, by decide +kernel⟩
theorem ok_at {f : Addr} {fd : FuncData} (F : Fun K "_law_cell_at" "_law_cell_at" sAt f fd) (len : mg "len" = none) : FnOk P w K mg base CX0 1 f fd ["_law_script", "_law_k"] (spAt K) := by
  refine F.ok scAt (fun vs H Q E h => ?_) (fun cdv A outer s H vs Q E hr h => ?_)
  · obtain ⟨a, ns, k, rfl, _⟩ := h
    rfl
  · obtain ⟨a, ns, k, rfl, hS, h0, q⟩ := h
    refine ⟨_, pss_cons (ps_if (pt_cmpR op_lt (pv 1) (pe_callB call_len_seq (by rfl) len PySem.boot_len (pa_cons (pv 0) pa_nil)) (nomark _)) (pss_one (ps_ret (pe_ix ix_list (pv 0) (pv 1) (fun _ _ => rfl)))) pss_nil) (pss_one (ps_ret pe_int)), ?_⟩
    refine ⟨_, rfl, _, rfl, a, _, rfl, .inl hS, _, _, rfl, rfl, _, rfl, ?_⟩
    refine ite2 (fun h => ?_) (fun h => ?_)
    · have h1 := of_decide_eq_true h
      exact ⟨_, rfl, _, rfl, a, _, k, _, rfl, rfl, hS, atI_int h0 h1, q⟩
    · have h1 : ¬ k < ((ns.map V.int).length : Int) := fun z => h (decide_eq_true z)
      rw [List.length_map] at h1
      have e : ns.getD k.toNat 0 = 0 := by
        rw [List.getD, List.getElem?_eq_none (by omega)]
        rfl
      rw [e] at q
      exact q
noncomputable abbrev sHousesN : Stmt := top 38
noncomputable abbrev nHousesN : List Str := ["_law_cell", "_law_many", "_law_letters", "_law_size", "_law_at", "_law_names", "_law_k", "_law_name", "_law_j", "_law_place"]
theorem scHousesN : FnScope nHousesN ["_law_cell", "_law_many"] (defScope sHousesN) := ⟨rfl, rfl, rfl, by decide +kernel, rfl, by decide +kernel, by decide +kernel⟩
theorem ok_housesN {f : Addr} {fd : FuncData} (F : Fun K "_law_houses" "_law_houses" sHousesN f fd) (B : Blt mg) : FnOk P w K mg base CX0 1 f fd ["_law_cell", "_law_many"] spHousesN := by
  refine F.ok scHousesN (fun vs H Q E h => ?_) (fun cdv A outer s H vs Q E hr h => ?_)
  · obtain ⟨c, m, rfl, _⟩ := h
    rfl
  · obtain ⟨c, m, rfl, hm, q⟩ := h
    refine ⟨_, (pss_cons (ps_set (i := 2) scHousesN.nd rfl (Or.inl rfl) pe_str)
      (pss_cons (ps_set (i := 3) scHousesN.nd rfl (Or.inl rfl) (pe_op op_add pe_int (pe_op op_mod (pv 0) pe_int)))
      (pss_cons (ps_set (i := 4) scHousesN.nd rfl (Or.inl rfl) (pe_op op_mod (pe_op op_fdiv (pv 0) pe_int) (pv 3)))
      (pss_cons (ps_set (i := 5) scHousesN.nd rfl (Or.inl rfl) (pe_lst pa_nil))
      (pss_cons (ps_for PassesOwn.never rfl (pi_range1 rfl B.range (pa_cons (pv 1) pa_nil)) (pg_name (i := 6) scHousesN.nd rfl (Or.inl rfl))
        (pss_cons (ps_set (i := 7) scHousesN.nd rfl (Or.inl rfl) pe_str)
      (pss_cons (ps_for PassesOwn.never rfl (pi_range1 rfl B.range (pa_cons (pv 3) pa_nil)) (pg_name (i := 8) scHousesN.nd rfl (Or.inl rfl))
        (pss_cons (ps_set (i := 9) scHousesN.nd rfl (Or.inl rfl) (pe_op op_add (pe_op op_add (pe_op op_fdiv (pv 0) pe_int) (pe_op op_mul (pe_op op_mul pe_int (pv 8)) (pv 8))) (pe_op op_mul (pe_op op_mul pe_int (pv 6)) (pe_callTy call_int1 (by rfl) B.int bt_int (pa_cons (pe_cmpR op_eq (pv 8) (pv 4) (nomark _)) pa_nil)))))
      (pss_one (ps_set (i := 7) scHousesN.nd rfl (Or.inl rfl) (pe_op op_add_str (pv 7) (pe_ix ix_str (pv 2) (pe_op op_mod (pv 9) pe_int) (fun _ _ => rfl)))))))
      (pss_one (ps_expr (pe_bm PySem.F.plainAttrs_list PySem.F.slot_list_append PySem.F.type_list_append mt_append (pv 5) (pa_cons (pv 7) pa_nil)))))))
      (pss_one (ps_ret (pv 5)))))))), ?_⟩
    have z1 := hsz_ok c
    have z2 := hsz_int c
    refine ⟨_, rfl, _, _, rfl, rfl, (by show (0 : Int) < 8; decide), _, _, rfl, rfl, ?_⟩
    refine ⟨_, rfl, _, _, rfl, rfl, ⟨by decide, by decide⟩, _, rfl, _, _, rfl, rfl, (by show (0 : Int) < 1 + c % 8; omega), ?_⟩
    refine ⟨Nat.zero_le _, fun p np => ⟨_, rfl, _, rfl, (by omega), (by omega), ?_⟩⟩
    refine for_range (lo := 0) (n := m) (fun k σ H2 => H2 = upd H p (.lst (txs (housesN c k))) ∧ ∃ a1 a2 a3 a4, σ = [some (.int c), some (.int m), some (.str (Str.ofString "abcdefghijklmnopqrstuvwxyz")), some (.int (1 + c % 8)), some (.int (c / 8 % (1 + c % 8))), some (.ref p), a1, a2, a3, a4]) ⟨rfl, none, none, none, none, rfl⟩ ?_ ?_
    · rintro k σ H2 hk ⟨rfl, a1, a2, a3, a4, rfl⟩
      refine ⟨_, rfl, _, rfl, (by omega), (by omega), ?_⟩
      refine for_range (lo := 0) (n := hsz c) (fun j σ H3 => H3 = upd H p (.lst (txs (housesN c k))) ∧ ∃ b1 b2, σ = [some (.int c), some (.int m), some (.str (Str.ofString "abcdefghijklmnopqrstuvwxyz")), some (.int (1 + c % 8)), some (.int (c / 8 % (1 + c % 8))), some (.ref p), some (.int (0 + (k : Int))), some (.str (S ((List.range j).map (hch c k)))), b1, b2]) ⟨rfl, a3, a4, rfl⟩ ?_ ?_
      · rintro j σ H3 hj ⟨rfl, b1, b2, rfl⟩
        refine ⟨_, rfl, _, _, rfl, rfl, ⟨by decide, by decide⟩, _, rfl, _, _, rfl, rfl, .inl ⟨by decide, by decide⟩, _, rfl, _, _, rfl, rfl, .inr ⟨by show -(2 ^ 64) < 0 + (j : Int); omega, by show 0 + (j : Int) < 2 ^ 64; omega⟩, _, _, rfl, rfl, _, rfl, _, _, rfl, rfl, .inl ⟨by decide, by decide⟩, _, rfl, _, rfl, rfl, .inr ⟨_, rfl, _, _, rfl, rfl, .inl ⟨by show -(2 ^ 64) < 2 * (0 + (k : Int)); omega, by show 2 * (0 + (k : Int)) < 2 ^ 64; omega⟩, _, _, rfl, rfl, ?_⟩⟩
        have k1 : 0 ≤ hplV c k j % 26 := Int.emod_nonneg _ (by decide)
        have k2 : hplV c k j % 26 < 26 := Int.emod_lt_of_pos _ (by decide)
        have l1 : (⟨#[97 + (hplV c k j % 26).toNat]⟩ : Str).length = 1 := rfl
        refine ⟨_, rfl, _, rfl, _, rfl, _, _, rfl, rfl, (by show (0 : Int) < 26; decide), _, _, _, rfl, rfl, (by decide +kernel), alpha_at k1 k2, _, _, rfl, rfl, ?_, rfl, some (.int (0 + (j : Int))), some (.int (hplV c k j)), ?_⟩
        · rw [S_len, List.length_map, List.length_range]
          show j + 1 ≤ sizeLine
          exact Nat.le_of_lt (small1000 (by omega))
        · rw [range_map_succ, ← S_app, ← hch_V]
          rfl
      · rintro σ H3 ⟨rfl, b1, b2, rfl⟩
        refine ⟨_, rfl, .inl ⟨rfl, _, SqL.of upd_same⟩, _, rfl, p, _, _, rfl, rfl, upd_same, small1000 (by rw [txs_len, housesN_len]; omega), ?_, _, _, _, _, rfl⟩
        rw [upd_upd]
        unfold housesN
        rw [range_map_succ]
        unfold txs
        rw [List.map_append]
        rfl
    · rintro σ H2 ⟨rfl, a1, a2, a3, a4, rfl⟩
      exact ⟨_, rfl, q p _ np (upd_free np) upd_same⟩
noncomputable abbrev sLet1 : Stmt := top 40
noncomputable abbrev nLet1 : List Str := ["_law_cell", "_law_names", "_law_base", "_law_n", "_law_many", "_law_first", "_law_last"]
theorem scLet1 : FnScope nLet1 ["_law_cell", "_law_names", "_law_base"] (defScope sLet1) := ⟨rfl, rfl, rfl, by decide +kernel, rfl, by decide +kernel, by decide +kernel⟩
theorem ok_let1 {f : Addr} {fd : FuncData} (F : Fun K "_law_letter" "_law_letter" sLet1 f fd) (B : Blt mg) : FnOk P w K mg base CX0 1 f fd ["_law_cell", "_law_names", "_law_base"] spLet1 := by
  refine F.ok scLet1 (fun vs H Q E h => ?_) (fun cdv A outer s H vs Q E hr h => ?_)
  · obtain ⟨c, b, a, hs, rfl, _⟩ := h
    rfl
  · obtain ⟨c, b, a, hs, rfl, ha, h2, h12, q⟩ := h
    refine ⟨_, (pss_cons (ps_set (i := 3) scLet1.nd rfl (Or.inl rfl) (pe_op op_mod (pe_op op_mul (pv 0) pe_int) pe_int))
      (pss_cons (ps_set (i := 4) scLet1.nd rfl (Or.inl rfl) (pe_callB call_len_seq (by rfl) B.len bt_len (pa_cons (pv 1) pa_nil)))
      (pss_cons (ps_set (i := 5) scLet1.nd rfl (Or.inl rfl) (pe_op op_mod (pv 3) (pv 4)))
      (pss_cons (ps_set (i := 6) scLet1.nd rfl (Or.inl rfl) (pe_op op_mod (pe_op op_add (pe_op op_add (pv 5) pe_int) (pe_op op_mod (pe_op op_fdiv (pv 3) (pv 4)) (pe_op op_sub (pv 4) pe_int))) (pv 4)))
      (pss_one (ps_ret (pe_tup (pa_cons (pe_ix ix_list (pv 1) (pv 5) (fun _ _ => rfl)) (pa_cons (pe_op op_add (pv 2) (pe_op op_mod (pe_op op_fdiv (pv 3) pe_int) pe_int)) (pa_cons (pe_ix ix_list (pv 1) (pv 6) (fun _ _ => rfl)) pa_nil)))))))))), ?_⟩
    have hl := txs_len hs
    have b1 : 0 ≤ lbeg hs.length c := Int.emod_nonneg _ (by omega)
    have b2 : lbeg hs.length c < hs.length := Int.emod_lt_of_pos _ (by omega)
    have e1 : 0 ≤ lend hs.length c := Int.emod_nonneg _ (by omega)
    have e2 : lend hs.length c < hs.length := Int.emod_lt_of_pos _ (by omega)
    refine ⟨_, rfl, _, _, rfl, rfl, .inr ⟨by decide, by decide⟩, _, _, rfl, rfl, (by show (0 : Int) < 10000000000037; decide), ?_⟩
    refine ⟨_, rfl, a, _, rfl, .inl (SqL.of ha), ?_⟩
    rw [hl]
    refine ⟨_, rfl, _, rfl, _, _, rfl, rfl, (by show (0 : Int) < (hs.length : Int); omega), ?_⟩
    refine ⟨_, rfl, _, _, rfl, rfl, _, rfl, _, rfl, _, _, rfl, rfl, ⟨by show (0 : Int) < (hs.length : Int); omega, by show (hs.length : Int) < 1073741824; omega⟩, _, rfl, _, _, rfl, rfl, _, _, rfl, rfl, (by show (0 : Int) < (hs.length : Int) - 1; omega), _, _, rfl, rfl, _, rfl, _, _, rfl, rfl, (by show (0 : Int) < (hs.length : Int); omega), ?_⟩
    refine ⟨_, rfl, _, rfl, a, _, _, _, rfl, rfl, SqL.of ha, txs_at (k := lbeg hs.length c) b1 b2, _, rfl, _, rfl, _, _, rfl, rfl, ⟨by decide, by decide⟩, _, _, rfl, rfl, (by show (0 : Int) < 31; decide), _, _, rfl, rfl, _, rfl, _, rfl, a, _, _, _, rfl, rfl, SqL.of ha, txs_at (k := lend hs.length c) e1 e2, (by show 3 ≤ sizeLine; decide), q⟩
end
end K1
set_option Elab.async false
set_option linter.all false
set_option maxRecDepth 100000
set_option maxHeartbeats 4000000
namespace K1
open PySem L2 L3 M1
section
variable {P : Program} {w : World} {K : PySem.W.Frag} {mg : Str → Option Value} {base : Heap}
noncomputable abbrev sWhole : Stmt := top 7
noncomputable abbrev sWithin : Stmt := top 8
noncomputable abbrev sTupOf : Stmt := top 9
noncomputable abbrev sUnlike : Stmt := top 10
noncomputable abbrev sName : Stmt := top 31
noncomputable abbrev sAreH : Stmt := top 32
noncomputable abbrev sRoad : Stmt := top 33
noncomputable abbrev sAreR : Stmt := top 34
theorem scWhole : FnScope ["thing"] ["thing"] (defScope sWhole) := ⟨rfl, rfl, rfl, by decide +kernel, rfl, by decide +kernel, by decide +kernel⟩
theorem ok_whole {f : Addr} {fd : FuncData} (F : Fun K "is_whole" "is_whole" sWhole f fd) (B : Blt mg) (KT : Kit K) : FnOk P w K mg base CX0 1 f fd ["thing"] spWhole := by
  refine F.ok scWhole (fun vs H Q E h => ?_) (fun cdv A outer s H vs Q E hr h => ?_)
  · obtain ⟨i, rfl, _⟩ := h
    rfl
  · obtain ⟨i, rfl, q⟩ := h
    refine ⟨_, (pss_one (ps_ret (pe_and (pe_callB call_isi (by rfl) B.isinstance bt_isinstance (pa_cons (pv 0) (pa_cons (pe_bty (by rfl) B.int bt_int) pa_nil))) (pe_one (pe_not (pe_callB call_isi (by rfl) B.isinstance bt_isinstance (pa_cons (pv 0) (pa_cons (pe_bty (by rfl) B.bool bt_bool) pa_nil)))))))), ?_⟩
    refine ⟨_, rfl, _, _, _, _, _, rfl, ⟨rfl, .int _, kit_eq _ _⟩, _, rfl, iteT ?_⟩
    exact ⟨_, rfl, _, _, _, _, _, rfl, ⟨rfl, .int _, KT.ib⟩, _, rfl, q⟩
theorem scWithin : FnScope ["thing", "least", "greatest"] ["thing", "least", "greatest"] (defScope sWithin) := ⟨rfl, rfl, rfl, by decide +kernel, rfl, by decide +kernel, by decide +kernel⟩
theorem ok_within {f fW : Addr} {fd fdW : FuncData} (F : Fun K "is_whole_within" "is_whole_within" sWithin f fd) (D_is_whole : Dn K mg "is_whole" sWhole ["thing"] fW fdW)
    (G_is_whole : FnOk P w K mg base CX0 1 fW fdW ["thing"] spWhole) : FnOk P w K mg base CX0 2 f fd ["thing", "least", "greatest"] spWithin := by
  refine F.ok scWithin (fun vs H Q E h => ?_) (fun cdv A outer s H vs Q E hr h => ?_)
  · obtain ⟨i, a, b, rfl, _⟩ := h
    rfl
  · obtain ⟨i, a, b, rfl, h1, h2, q⟩ := h
    refine ⟨_, (pss_one (ps_ret (pe_and (pe_call G_is_whole (hr.mono (by decide)) (by rfl) D_is_whole.at_ D_is_whole.fn.kp D_is_whole.bd .nil pass0 (pa_cons (pv 0) pa_nil)) (pe_one (pe_chain op_le op_le (pv 1) (pv 0) (pv 2)))))), ?_⟩
    refine ⟨_, rfl, _, rfl, _, rfl, iteT ?_⟩
    exact ⟨_, rfl, _, rfl, _, _, rfl, rfl, _, rfl, iteB (decide_eq_true h1) ⟨_, rfl, _, _, rfl, rfl, bl_of (decide_eq_true h2) q⟩⟩
theorem scTupOf : FnScope ["thing", "length"] ["thing", "length"] (defScope sTupOf) := ⟨rfl, rfl, rfl, by decide +kernel, rfl, by decide +kernel, by decide +kernel⟩
theorem ok_tupOf {f : Addr} {fd : FuncData} (F : Fun K "is_tuple_of" "is_tuple_of" sTupOf f fd) (B : Blt mg) : FnOk P w K mg base CX0 1 f fd ["thing", "length"] spTupOf := by
  refine F.ok scTupOf (fun vs H Q E h => ?_) (fun cdv A outer s H vs Q E hr h => ?_)
  · obtain ⟨r, xs, n, rfl, _⟩ := h
    rfl
  · obtain ⟨r, xs, n, rfl, h1, h2, q⟩ := h
    refine ⟨_, (pss_one (ps_ret (pe_and (pe_callB call_isi (by rfl) B.isinstance bt_isinstance (pa_cons (pv 0) (pa_cons (pe_bty (by rfl) B.tuple bt_tuple) pa_nil))) (pe_one (pe_cmpR op_eq (pe_callB call_len_seq (by rfl) B.len bt_len (pa_cons (pv 0) pa_nil)) (pv 1) (nomark _)))))), ?_⟩
    refine ⟨_, rfl, _, _, _, _, _, rfl, ⟨rfl, .tup h1, kit_eq _ _⟩, _, rfl, iteT ?_⟩
    exact ⟨_, rfl, r, _, rfl, .inr (SqT.of h1), _, rfl, rfl, bl_of (decide_eq_true (congrArg V.int h2)) q⟩
theorem scUnlike : FnScope ["houses", "one", "other"] ["houses", "one", "other"] (defScope sUnlike) := ⟨rfl, rfl, rfl, by decide +kernel, rfl, by decide +kernel, by decide +kernel⟩
theorem ok_unlike {f : Addr} {fd : FuncData} (F : Fun K "are_unlike_houses" "are_unlike_houses" sUnlike f fd) : FnOk P w K mg base CX0 1 f fd ["houses", "one", "other"] (spUnlike K) := by
  refine F.ok scUnlike (fun vs H Q E h => ?_) (fun cdv A outer s H vs Q E hr h => ?_)
  · obtain ⟨a, ys, x, y, rfl, _⟩ := h
    rfl
  · obtain ⟨a, ys, x, y, rfl, hS, hx, hy, ne, q⟩ := h
    refine ⟨_, (pss_one (ps_ret (pe_and (pe_cmpR op_in_seq (pv 1) (pv 0) (by rfl)) (pe_and (pe_cmpR op_in_seq (pv 2) (pv 0) (by rfl)) (pe_one (pe_cmpR op_ne (pv 1) (pv 2) (nomark _))))))), ?_⟩
    refine ⟨_, rfl, _, rfl, a, _, rfl, .inl hS, rfl, flat_strs ys, _, rfl, iteB (in_strs hx) ?_⟩
    refine ⟨_, rfl, _, rfl, a, _, rfl, .inl hS, rfl, flat_strs ys, _, rfl, iteB (in_strs hy) ?_⟩
    refine ⟨_, rfl, _, rfl, rfl, bl_of ?_ q⟩
    rw [decide_eq_false (fun z => ne (V.str.inj z))]
    rfl
theorem scName : FnScope ["thing"] ["thing"] (defScope sName) := ⟨rfl, rfl, rfl, by decide +kernel, rfl, by decide +kernel, by decide +kernel⟩
theorem ok_name {f : Addr} {fd : FuncData} (F : Fun K "is_name" "is_name" sName f fd) (B : Blt mg) (Cn : Csts mg) : FnOk P w K mg base CX0 1 f fd ["thing"] spName := by
  refine F.ok scName (fun vs H Q E h => ?_) (fun cdv A outer s H vs Q E hr h => ?_)
  · obtain ⟨l, rfl, _⟩ := h
    rfl
  · obtain ⟨l, rfl, hN, q⟩ := h
    refine ⟨_, (pss_cons (ps_if (PW.pt (pw_or (pt_not (pt_val (pe_callB call_isi (by rfl) B.isinstance bt_isinstance (pa_cons (pv 0) (pa_cons (pe_bty (by rfl) B.str bt_str) pa_nil))))) (pw_or1 (pt_not (pt_chain op_le op_le pe_int (pe_callB call_len_str (by rfl) B.len bt_len (pa_cons (pv 0) pa_nil)) (pe_const (by rfl) Cn.MOST_SIGNS)))))) (pss_one (ps_ret pe_bl)) pss_nil)
      (pss_one (ps_ret (pe_callB (call_all rfl) (by rfl) B.all_ bt_all (pa_cons (pe_lc (N' := ["sign"]) (cs := [none]) rfl (pi_str (pv 0)) rfl (by decide +kernel) rfl (by decide +kernel) (sub_of (fun p hp => absurd hp (List.not_mem_nil))) rfl
        (.own .nil)
        (fun C s3 H3 fp pn => ⟨(pg_name (i := 0) (by show (["sign"] : List Str).Nodup; decide +kernel) rfl (.inl rfl)), pif_nil, (pe_chain op_le_str op_le_str pe_str (pv 0) pe_str)⟩)) pa_nil))))), ?_⟩
    have hl := S_len l
    have hz : (S l).length ≤ sizeLine := Nat.le_of_lt (small1000 (by rw [hl]; have := hN.2.1; omega))
    have h1 : (1 : Int) ≤ ((S l).length : Int) := by have := hN.1; omega
    have h8 : ((S l).length : Int) ≤ 8 := by have := hN.2.1; omega
    refine ⟨_, rfl, _, _, _, _, _, rfl, ⟨rfl, .str _, kit_eq _ _⟩, _, rfl, iteF ?_⟩
    refine ⟨_, rfl, _, rfl, hz, _, _, rfl, rfl, _, rfl, iteB (decide_eq_true h1) ⟨_, _, rfl, rfl, _, rfl, iteNS h8 ?_⟩⟩
    dsimp only [tNext, tRet, tAndV, tCB, tCons]
    refine tlc_map (J := Its (S l)) (H1 := H) (xs := signs (S l)) (rest := []) (fun R h => ⟨_, rfl, _, rfl, h⟩) rfl (wk_str _) (small1000 ?_) (fun _ => .bl true) (fun i x H2 R ex sm hR => ?_) (fun D H' h1 h2 h3 => ?_)
    · rw [signs_S, List.length_map]
      have := hN.2.1
      omega
    · rw [signs_S] at ex
      obtain ⟨k, hk, rfl⟩ := List.mem_map.mp (List.mem_of_getElem? ex)
      have hk2 := hN.2.2 k hk
      have e1 : (!decide ((S [k]).cps.toList < (Str.ofString "a").cps.toList)) = true := by
        rw [sA]
        exact (le_one k 97).trans (decide_eq_true hk2.1)
      have e2 : (!decide ((Str.ofString "z").cps.toList < (S [k]).cps.toList)) = true := by
        rw [sZ]
        exact (le_one 122 k).trans (decide_eq_true hk2.2)
      exact ⟨_, rfl, _, _, rfl, rfl, _, rfl, iteB e1 ⟨_, _, rfl, rfl, bl_of e2 (hR H2 (Same.refl _))⟩⟩
    · exact ⟨D, List.replicate (signs (S l)).length true, rfl, SqL.of (by rw [h2, map_true]), bl_of (all_true _) (q H' h3)⟩
theorem scAreH : FnScope ["things"] ["things"] (defScope sAreH) := ⟨rfl, rfl, rfl, by decide +kernel, rfl, by decide +kernel, by decide +kernel⟩
theorem ok_areH {f fN : Addr} {fd fdN : FuncData} (F : Fun K "are_houses" "are_houses" sAreH f fd) (B : Blt mg) (Cn : Csts mg) (D_is_name : Dn K mg "is_name" sName ["thing"] fN fdN) (G_is_name : FnOk P w K mg base CX0 1 fN fdN ["thing"] spName) :
    FnOk P w K mg base CX0 2 f fd ["things"] spAreH := by
  refine F.ok scAreH (fun vs H Q E h => ?_) (fun cdv A outer s H vs Q E hr h => ?_)
  · obtain ⟨a, hs, rfl, _⟩ := h
    rfl
  · obtain ⟨a, hs, rfl, ha, hG, q⟩ := h
    refine ⟨_, (pss_cons (ps_if (PW.pt (pw_or (pt_not (pt_val (pe_callB call_isi (by rfl) B.isinstance bt_isinstance (pa_cons (pv 0) (pa_cons (pe_bty (by rfl) B.list bt_list) pa_nil))))) (pw_or1 (pt_cmpR op_gt (pe_callB call_len_seq (by rfl) B.len bt_len (pa_cons (pv 0) pa_nil)) (pe_const (by rfl) Cn.MOST_HOUSES) (nomark _))))) (pss_one (ps_ret pe_bl)) pss_nil)
      (pss_one (ps_ret (pe_and (pe_callB (call_all rfl) (by rfl) B.all_ bt_all (pa_cons (pe_lc (N' := ["thing"]) (cs := [none]) rfl (pi_list (pv 0)) rfl (by decide +kernel) rfl (by decide +kernel) (sub_of (fun p hp => absurd hp (List.not_mem_nil))) rfl
        (.own .nil)
        (fun C s3 H3 fp pn => ⟨(pg_name (i := 0) (by show (["thing"] : List Str).Nodup; decide +kernel) rfl (.inl rfl)), pif_nil, (pe_call G_is_name (hr.mono (by decide)) (by rfl) D_is_name.at_ D_is_name.fn.kp D_is_name.bd .nil pass0 (pa_cons (pv 0) pa_nil))⟩)) pa_nil)) (pe_one (pe_cmpR op_eq (pe_callB call_len_setO (by rfl) B.len bt_len (pa_cons (pe_callTy (call_set rfl) (by rfl) B.set_ bt_set (pa_cons (pv 0) pa_nil)) pa_nil)) (pe_callB call_len_seq (by rfl) B.len bt_len (pa_cons (pv 0) pa_nil)) (nomark _))))))), ?_⟩
    have hl := txs_len hs
    have hf := hG.few
    refine ⟨_, rfl, _, _, _, _, _, rfl, ⟨rfl, .lst ha, kit_eq _ _⟩, _, rfl, iteF ?_⟩
    refine ⟨_, rfl, a, _, rfl, .inl (SqL.of ha), _, _, rfl, rfl, _, rfl, iteN (decide_eq_false (by omega)) ?_⟩
    dsimp only [tNext, tRet, tAndV, tCB, tCons]
    refine tlc_map (J := Itl K a) (H1 := H) (xs := txs hs) (rest := []) (fun R h => ⟨_, rfl, a, rfl, ⟨_, SqL.of ha⟩, h⟩) rfl (wk_list (SqL.of ha)) (small1000 (by omega)) (fun _ => .bl true) (fun i x H2 R ex sm hR => ?_) (fun D H' h1 h2 h3 => ?_)
    · obtain ⟨l, hl', rfl⟩ := List.mem_map.mp (List.mem_of_getElem? ex)
      exact ⟨_, rfl, l, rfl, hG.nm l hl', fun H' sm' => hR H' sm'⟩
    · refine ⟨D, List.replicate (txs hs).length true, rfl, SqL.of (by rw [h2, map_true]), _, rfl, iteB (all_true _) ?_⟩
      have ha' := h3 _ _ ha
      refine ⟨_, rfl, a, hs.map S, rfl, SqL.of (by rw [ha', txs_map]), (by rw [List.length_map]; omega), fun p hp => ?_⟩
      have s2 : Same H' (upd H' p (setO P w p (cntS (fun i => (hs.map S).getD i Str.empty) (hs.map S).length))) := upd_free hp
      refine ⟨p, _, rfl, upd_same, _, rfl, a, _, rfl, .inl (SqL.of (s2 _ _ ha')), rfl, bl_of (decide_eq_true ?_) (q _ (h3.trans s2))⟩
      rw [cntS_all _ _ (nodup_S hG.nd), List.length_map, hl]
theorem scRoad : FnScope ["houses", "thing"] ["houses", "thing"] (defScope sRoad) := ⟨rfl, rfl, rfl, by decide +kernel, rfl, by decide +kernel, by decide +kernel⟩
theorem ok_road {f f1 f2 f3 : Addr} {fd fd1 fd2 fd3 : FuncData} (F : Fun K "is_road" "is_road" sRoad f fd) (Cn : Csts mg)
    (D_is_tuple_of : Dn K mg "is_tuple_of" sTupOf ["thing", "length"] f1 fd1) (G_is_tuple_of : FnOk P w K mg base CX0 1 f1 fd1 ["thing", "length"] spTupOf)
    (D_are_unlike_houses : Dn K mg "are_unlike_houses" sUnlike ["houses", "one", "other"] f2 fd2) (G_are_unlike_houses : FnOk P w K mg base CX0 1 f2 fd2 ["houses", "one", "other"] (spUnlike K))
    (D_is_whole_within : Dn K mg "is_whole_within" sWithin ["thing", "least", "greatest"] f3 fd3) (G_is_whole_within : FnOk P w K mg base CX0 2 f3 fd3 ["thing", "least", "greatest"] spWithin) :
    FnOk P w K mg base CX0 3 f fd ["houses", "thing"] (spRoad K) := by
  refine F.ok scRoad (fun vs H Q E h => ?_) (fun cdv A outer s H vs Q E hr h => ?_)
  · obtain ⟨a, r, hs, d, rfl, _⟩ := h
    rfl
  · obtain ⟨a, r, hs, d, rfl, hS, nd, ok, hr', q⟩ := h
    refine ⟨_, (pss_one (ps_ret (pe_and (pe_call G_is_tuple_of (hr.mono (by decide)) (by rfl) D_is_tuple_of.at_ D_is_tuple_of.fn.kp D_is_tuple_of.bd .nil pass0 (pa_cons (pv 1) (pa_cons pe_int pa_nil))) (pe_and (pe_call G_are_unlike_houses (hr.mono (by decide)) (by rfl) D_are_unlike_houses.at_ D_are_unlike_houses.fn.kp D_are_unlike_houses.bd .nil pass0 (pa_cons (pv 0) (pa_cons (pe_ix ix_tup (pv 1) pe_int (fun _ _ => rfl)) (pa_cons (pe_ix ix_tup (pv 1) pe_int (fun _ _ => rfl)) pa_nil)))) (pe_and (pe_call G_is_whole_within (hr.mono (by decide)) (by rfl) D_is_whole_within.at_ D_is_whole_within.fn.kp D_is_whole_within.bd .nil pass0 (pa_cons (pe_ix ix_tup (pv 1) pe_int (fun _ _ => rfl)) (pa_cons pe_int (pa_cons (pe_const (by rfl) Cn.MOST_TURNS) pa_nil)))) (pe_one (pe_call G_is_whole_within (hr.mono (by decide)) (by rfl) D_is_whole_within.at_ D_is_whole_within.fn.kp D_is_whole_within.bd .nil pass0 (pa_cons (pe_ix ix_tup (pv 1) pe_int (fun _ _ => rfl)) (pa_cons pe_int (pa_cons (pe_const (by rfl) Cn.MOST_ROOM) pa_nil)))))))))), ?_⟩
    have hS' : SqL K H a ((hs.map S).map V.str) := by rw [← txs_map]; exact hS
    refine ⟨_, rfl, r, _, _, rfl, hr', rfl, _, rfl, iteT ?_⟩
    refine ⟨_, rfl, _, rfl, r, _, _, _, rfl, rfl, SqT.of hr', rfl, _, rfl, r, _, _, _, rfl, rfl, SqT.of hr', rfl, a, hs.map S, _, _, rfl, hS', mem_at ok.a, mem_at ok.b, ne_at nd ok.a ok.b ok.ne, _, rfl, iteT ?_⟩
    refine ⟨_, rfl, r, _, _, _, rfl, rfl, SqT.of hr', rfl, _, _, _, rfl, ok.t.1, ok.t.2, _, rfl, iteT ?_⟩
    exact ⟨_, rfl, r, _, _, _, rfl, rfl, SqT.of hr', rfl, _, _, _, rfl, ok.m.1, ok.m.2, q⟩
theorem scAreR : FnScope ["houses", "things"] ["houses", "things"] (defScope sAreR) := ⟨rfl, rfl, rfl, by decide +kernel, rfl, by decide +kernel, by decide +kernel⟩
theorem ok_areR {f fN : Addr} {fd fdN : FuncData} (F : Fun K "are_roads" "are_roads" sAreR f fd) (B : Blt mg) (Cn : Csts mg) (D_is_road : Dn K mg "is_road" sRoad ["houses", "thing"] fN fdN) (G_is_road : FnOk P w K mg base CX0 3 fN fdN ["houses", "thing"] (spRoad K)) :
    FnOk P w K mg base CX0 4 f fd ["houses", "things"] (spAreR K) := by
  refine F.ok scAreR (fun vs H Q E h => ?_) (fun cdv A outer s H vs Q E hr h => ?_)
  · obtain ⟨a, b, hs, rs, ds, rfl, _⟩ := h
    rfl
  · obtain ⟨a, b, hs, rs, ds, rfl, ha, nd, hb, hR, few, q⟩ := h
    refine ⟨_, (pss_cons (ps_if (PW.pt (pw_or (pt_not (pt_val (pe_callB call_isi (by rfl) B.isinstance bt_isinstance (pa_cons (pv 1) (pa_cons (pe_bty (by rfl) B.list bt_list) pa_nil))))) (pw_or1 (pt_cmpR op_gt (pe_callB call_len_seq (by rfl) B.len bt_len (pa_cons (pv 1) pa_nil)) (pe_const (by rfl) Cn.MOST_ROADS) (nomark _))))) (pss_one (ps_ret pe_bl)) pss_nil)
      (pss_one (ps_ret (pe_callB (call_all rfl) (by rfl) B.all_ bt_all (pa_cons (pe_lc (N' := ["thing", "houses"]) (cs := [none, some 0]) rfl (pi_list (pv 1)) rfl (by decide +kernel) rfl (by decide +kernel) (sub_of (List.forall_mem_cons.mpr ⟨rfl, (fun p hp => absurd hp (List.not_mem_nil))⟩)) rfl
        (.own (.cap rfl (.inl rfl) (.inl rfl) rfl .nil))
        (fun C s3 H3 fp pn => ⟨(pg_name (i := 0) (by show (["thing", "houses"] : List Str).Nodup; decide +kernel) rfl (.inl rfl)), pif_nil, (pe_call G_is_road (hr.mono (by decide)) (by rfl) D_is_road.at_ D_is_road.fn.kp D_is_road.bd .nil pass0 (pa_cons (pv 1) (pa_cons (pv 0) pa_nil)))⟩)) pa_nil))))), ?_⟩
    have hl := refs_len rs
    refine ⟨_, rfl, _, _, _, _, _, rfl, ⟨rfl, .lst hb, kit_eq _ _⟩, _, rfl, iteF ?_⟩
    refine ⟨_, rfl, b, _, rfl, .inl (SqL.of hb), _, _, rfl, rfl, _, rfl, iteN (decide_eq_false (by omega)) ?_⟩
    dsimp only [tNext, tRet, tAndV, tCB, tCons]
    refine tlc_map (J := Itl K b) (H1 := H) (xs := refs rs) (rest := [some (.ref a)]) (fun R h => ⟨_, rfl, b, rfl, ⟨_, SqL.of hb⟩, h⟩) rfl (wk_list (SqL.of hb)) (small1000 (by omega)) (fun _ => .bl true) (fun i x H2 R ex sm hr2 => ?_) (fun D H' h1 h2 h3 => ?_)
    · unfold refs at ex
      rw [List.getElem?_map] at ex
      obtain ⟨r, er, rfl⟩ := Option.map_eq_some_iff.mp ex
      obtain ⟨d, _, ok, hd⟩ := hR.get er
      exact ⟨_, rfl, _, rfl, a, r, hs, d, rfl, sm.seq ha, nd, ok, sm _ _ hd, hr2 H2 (Same.refl _)⟩
    · exact ⟨D, List.replicate (refs rs).length true, rfl, SqL.of (by rw [h2, map_true]), bl_of (all_true _) (q H' h3)⟩
noncomputable abbrev sInit : Stmt := inClass (top 35) 0
noncomputable abbrev sHousesM : Stmt := inClass (top 35) 1
noncomputable abbrev sRoadsM : Stmt := inClass (top 35) 2
theorem scInit : FnScope ["self", "houses", "roads"] ["self", "houses", "roads"] (defScope sInit) := ⟨rfl, rfl, rfl, by decide +kernel, rfl, by decide +kernel, by decide +kernel⟩
theorem ok_init {C f fH fR : Addr} {fd fdH fdR : FuncData} (F : Fun K "__init__" "Net.__init__" sInit f fd) (B : Blt mg) (NC : NetC K C)
    (D_are_houses : Dn K mg "are_houses" sAreH ["things"] fH fdH) (G_are_houses : FnOk P w K mg base CX0 2 fH fdH ["things"] spAreH)
    (D_are_roads : Dn K mg "are_roads" sAreR ["houses", "things"] fR fdR) (G_are_roads : FnOk P w K mg base CX0 4 fR fdR ["houses", "things"] (spAreR K)) :
    FnOk P w K mg base CX0 5 f fd ["self", "houses", "roads"] (spInit K C) := by
  refine F.ok scInit (fun vs H Q E h => ?_) (fun cdv A outer s H vs Q E hr h => ?_)
  · obtain ⟨x, dx, a, b, hs, rs, ds, rfl, _⟩ := h
    rfl
  · obtain ⟨x, dx, a, b, hs, rs, ds, rfl, hx, ha, hG, hb, hR, few, q⟩ := h
    refine ⟨_, (pss_cons (ps_if (pt_not (pt_val (pe_call G_are_houses (hr.mono (by decide)) (by rfl) D_are_houses.at_ D_are_houses.fn.kp D_are_houses.bd .nil pass0 (pa_cons (pv 1) pa_nil)))) (pss_one ps_never) pss_nil)
      (pss_cons (ps_if (pt_not (pt_val (pe_call G_are_roads (hr.mono (by decide)) (by rfl) D_are_roads.at_ D_are_roads.fn.kp D_are_roads.bd .nil pass0 (pa_cons (pv 1) (pa_cons (pv 2) pa_nil))))) (pss_one ps_never) pss_nil)
      (pss_cons (ps_fld (pv 0) (pe_callTy call_list_of (by rfl) B.list bt_list (pa_cons (pv 1) pa_nil)) rfl)
      (pss_one (ps_fld (pv 0) (pe_callTy call_list_of (by rfl) B.list bt_list (pa_cons (pv 2) pa_nil)) rfl))))), ?_⟩
    refine ⟨_, rfl, a, hs, rfl, ha, hG, fun H1 s1 => ⟨_, rfl, iteF ?_⟩⟩
    refine ⟨_, rfl, _, rfl, a, b, hs, rs, ds, rfl, SqL.of (s1 _ _ ha), hG.nd, s1 _ _ hb, hR.same s1, few, fun H2 s2 => ⟨_, rfl, iteF ?_⟩⟩
    have s12 := s1.trans s2
    refine ⟨_, rfl, a, _, rfl, .inl (SqL.of (s12 _ _ ha)), fun a' ha' => ?_⟩
    have s3 : Same H2 (upd H2 a' (.lst (txs hs))) := upd_free ha'
    have s13 := s12.trans s3
    have nx : x ≠ a' := ne_of_none (s12 _ _ hx) ha'
    refine ⟨_, rfl, x, C, dx, _, rfl, s13 _ _ hx, NC.cl, NC.nh, (by decide), ?_⟩
    have hbx : b ≠ x := fun e => by rw [e, hx] at hb; cases hb
    have hb4 : upd (upd H2 a' (.lst (txs hs))) x (.ins C dx (putF "kept_houses" (.ref a') [])) b = some (.lst (refs rs)) := by
      rw [upd_ne hbx]
      exact s13 _ _ hb
    refine ⟨_, rfl, b, _, rfl, .inl (SqL.of hb4), fun b' hb' => ?_⟩
    have nx2 : b' ≠ x := fun e => by rw [e, upd_same] at hb'; cases hb'
    have nb : b' ≠ a' := fun e => by rw [e, upd_ne nx.symm, upd_same] at hb'; cases hb'
    refine ⟨_, rfl, x, C, dx, _, rfl, (by rw [upd_ne nx2.symm, upd_same]), NC.cl, NC.nr, (by show 1 < 1000; decide), ?_⟩
    refine q _ a' b' (fun c o hc hH => ?_) (by rw [upd_same]; rfl) ?_ ?_ ?_ ?_
    · rw [upd_ne hc]
      have : c ≠ b' := fun e => by
        rw [← e, upd_ne hc, s13 _ _ hH] at hb'
        cases hb'
      rw [upd_ne this, upd_ne hc]
      exact s13 _ _ hH
    · rw [upd_ne nx.symm, upd_ne nb.symm, upd_ne nx.symm, upd_same]
    · rw [upd_ne nx2, upd_same]
    · exact s12.free ha'
    · rw [upd_ne nx2, upd_ne nb] at hb'
      exact s12.free hb'
theorem scHousesM : FnScope ["self"] ["self"] (defScope sHousesM) := ⟨rfl, rfl, rfl, by decide +kernel, rfl, by decide +kernel, by decide +kernel⟩
theorem scRoadsM : FnScope ["self"] ["self"] (defScope sRoadsM) := ⟨rfl, rfl, rfl, by decide +kernel, rfl, by decide +kernel, by decide +kernel⟩
theorem ok_roadsM {C f : Addr} {fd : FuncData} (F : Fun K "roads" "Net.roads" sRoadsM f fd) (B : Blt mg) (NC : NetC K C) : FnOk P w K mg base CX0 1 f fd ["self"] (spRoadsM C) := by
  refine F.ok scRoadsM (fun vs H Q E h => ?_) (fun cdv A outer s H vs Q E hr h => ?_)
  · obtain ⟨x, a', b', xs, ys, rfl, _⟩ := h
    rfl
  · obtain ⟨x, a', b', xs, ys, rfl, n, q⟩ := h
    obtain ⟨dx, hx⟩ := n.ins
    refine ⟨_, (pss_one (ps_ret (pe_callTy call_list_of (by rfl) B.list bt_list (pa_cons (pe_fld (pv 0) (by rfl)) pa_nil)))), ?_⟩
    exact ⟨_, rfl, x, C, dx, _, _, rfl, hx, NC.cl, NC.nr, rfl, b', _, rfl, .inl (SqL.of n.roa), q⟩
end
end K1
set_option Elab.async false
set_option linter.all false
set_option maxRecDepth 100000
set_option maxHeartbeats 4000000
namespace K1
open PySem L2 L3 M1
theorem tlc_tup {wi : TI} {cs : List (Option Nat)} {te : TE} {σ rest : L2.St} {H H1 : Hp} {Q : VK} {J : It} {xs : List L2.V} (hw : ∀ R : It → Hp → Prop, R J H1 → wi σ H R) (hcs : caps cs σ = none :: rest) (wk : Wk J H1 xs) (hl : xs.length < sizeLine) (f : L2.V → List L2.V)
    (elt : ∀ (i : Nat) (x : L2.V) (H2 : Hp) (R : VK), xs[i]? = some x → Same H1 H2 → (∀ r H5, Same H2 H5 → H5 r = some (.tup (f x)) → R (.ref r) H5) → te (some x :: rest) H2 R)
    (fin : ∀ (D : Addr) (H' : Hp) (rs : List Addr), H1 D = none → H' D = some (.lst (refs rs)) → Tups H' rs (xs.map f) → Same H1 H' → Q (.ref D) H') : tLC wi cs (gName 0) tAll te σ H Q := by
  refine hw _ fun D hD => ?_
  refine ⟨fun i m ys σ' H' => m = xs.length - i ∧ i ≤ xs.length ∧ (∃ rs, ys = refs rs ∧ Tups H' rs ((xs.take i).map f)) ∧ (∃ o, σ' = o :: rest) ∧ Same H1 H' ∧ H' D = some (.lst ys), ⟨xs.length, by simp, Nat.zero_le _, ⟨[], rfl, .nil⟩, ⟨none, hcs⟩, fun b o e => ?_, upd_same⟩, ?_⟩
  · rw [upd_ne (ne_of_none e hD)]
    exact e
  · rintro i m ys σ' H' ⟨rfl, hi, ⟨rs, rfl, tp⟩, ⟨o, rfl⟩, sm, hHD⟩
    obtain ⟨w1, w2, w3⟩ := wk H' sm
    have ln := tp.len
    rw [List.length_map, List.length_take, Nat.min_eq_left hi] at ln
    refine ⟨hHD, Nat.lt_of_le_of_lt (by rw [refs_len]; omega) hl, ?_⟩
    by_cases hlt : i < xs.length
    · refine .inr ⟨w2 i hlt, fun x H2 y => ?_⟩
      obtain ⟨rfl, ex⟩ := w3 i x H2 hlt y
      have tk : xs.take (i + 1) = xs.take i ++ [x] := by rw [List.take_add_one, ex]; rfl
      show te (some x :: rest) H2 _
      refine elt i x H2 _ ex sm fun r H5 s5 hr => ⟨s5 _ _ hHD, xs.length - (i + 1), by omega, rfl, hlt, ⟨rs ++ [r], refs_snoc rs r, ?_⟩, ⟨_, rfl⟩, fun b ob e => ?_, upd_same⟩
      · rw [tk, List.map_append]
        exact Tups.upd (Paired.snoc (F := fun r d => H5 r = some (.tup d)) hr (tp.same s5)) (s5 _ _ hHD) (by intro d z; cases z)
      · rw [upd_ne (ne_of_none e hD)]
        exact s5 _ _ (sm _ _ e)
    · have e : i = xs.length := by omega
      subst e
      rw [List.take_length] at tp
      exact .inl ⟨w1, fin D H' rs hD hHD tp sm⟩
theorem tlc_tupS {K : PySem.W.Frag} {wi : TI} {cs : List (Option Nat)} {te : TE} {σ rest : L2.St} {H Hs : Hp} {Q : VK} {xs : List L2.V} (hw : ∀ R : It → Hp → Prop, (∀ p, Hs p = none → R (Itl K p) (upd Hs p (.lst xs))) → wi σ H R) (hcs : caps cs σ = none :: rest) (hl : xs.length < sizeLine) (f : L2.V → List L2.V)
    (elt : ∀ (i : Nat) (x : L2.V) (H2 : Hp) (R : VK), xs[i]? = some x → Same Hs H2 → (∀ r H5, Same H2 H5 → H5 r = some (.tup (f x)) → R (.ref r) H5) → te (some x :: rest) H2 R)
    (fin : ∀ (D : Addr) (H' : Hp) (rs : List Addr), H' D = some (.lst (refs rs)) → Tups H' rs (xs.map f) → Same Hs H' → Q (.ref D) H') : tLC wi cs (gName 0) tAll te σ H Q :=
  hw _ fun p hp => tlc_tup (wi := fun _ _ R => R (Itl K p) (upd Hs p (.lst xs))) (H := Hs) (fun R h => h) hcs (wk_list (SqL.of upd_same)) hl f (fun i x H2 R ex sm k => elt i x H2 R ex ((upd_free hp).trans sm) k) fun D H' rs _ h2 h3 h4 => fin D H' rs h2 h3 ((upd_free hp).trans h4)
section
variable {X : Cx} {Γ : List (Option Pd)} {A : Pd} {a b c e : Expr} {pos p2 : Pos}
end
theorem dlist {ds : List PyData} {n : Nat} (h : ∀ d ∈ ds, d.depth ≤ n) : (PyData.list ds).depth ≤ n + 1 := Nat.succ_le_succ (depth_all h)
end K1
set_option Elab.async false
set_option linter.all false
set_option maxRecDepth 100000
set_option maxHeartbeats 4000000
namespace K1
open PySem L2 L3 M1
theorem tlc_idx {wi : TI} {cs : List (Option Nat)} {te : TE} {σ rest : L2.St} {H H1 : Hp} {Q : VK} {J : It} {xs : List L2.V} (hw : ∀ R : It → Hp → Prop, R J H1 → wi σ H R) (hcs : caps cs σ = none :: rest) (wk : Wk J H1 xs) (hl : xs.length < sizeLine) (f : Nat → L2.V)
    (elt : ∀ (i : Nat) (x : L2.V) (H2 : Hp) (R : VK), xs[i]? = some x → Same H1 H2 → (∀ H5, Same H2 H5 → R (f i) H5) → te (some x :: rest) H2 R)
    (fin : ∀ (D : Addr) (H' : Hp), H1 D = none → H' D = some (.lst ((List.range xs.length).map f)) → Same H1 H' → Q (.ref D) H') : tLC wi cs (gName 0) tAll te σ H Q := by
  refine hw _ fun D hD => ?_
  refine ⟨fun i m ys σ' H' => m = xs.length - i ∧ i ≤ xs.length ∧ ys = (List.range i).map f ∧ (∃ o, σ' = o :: rest) ∧ Same H1 H' ∧ H' D = some (.lst ys), ⟨xs.length, by simp, Nat.zero_le _, rfl, ⟨none, by rw [hcs]⟩, fun b o e => ?_, upd_same⟩, ?_⟩
  · rw [upd_ne (ne_of_none e hD)]
    exact e
  · rintro i m ys σ' H' ⟨rfl, hi, rfl, ⟨o, rfl⟩, sm, hHD⟩
    obtain ⟨w1, w2, w3⟩ := wk H' sm
    refine ⟨hHD, Nat.lt_of_le_of_lt (by rw [List.length_map, List.length_range]; omega) hl, ?_⟩
    by_cases hlt : i < xs.length
    · refine .inr ⟨w2 i hlt, fun x H2 y => ?_⟩
      obtain ⟨rfl, ex⟩ := w3 i x H2 hlt y
      show te (some x :: rest) H2 _
      refine elt i x H2 _ ex sm fun H5 s5 => ⟨s5 _ _ hHD, xs.length - (i + 1), by omega, rfl, hlt, ?_, ⟨_, rfl⟩, fun b ob e => ?_, upd_same⟩
      · rw [List.range_succ, List.map_append]
        rfl
      · rw [upd_ne (ne_of_none e hD)]
        exact s5 _ _ (sm _ _ e)
    · have e : i = xs.length := by omega
      subst e
      exact .inl ⟨w1, fin D H' hD hHD sm⟩
end K1

set_option Elab.async false
set_option linter.all false
set_option maxRecDepth 100000
set_option maxHeartbeats 4000000
namespace L3
open PySem PySem.Spec PyProof.Rows L2
noncomputable def stepV {α : Type} (xs : List α) (lo hi : Option Int) (st : Int) : List α :=
  (sliceRange (sliceBounds lo hi (some st) xs.length).1 (sliceBounds lo hi (some st) xs.length).2.1 (sliceBounds lo hi (some st) xs.length).2.2).filterMap (xs[·]?)
theorem vals_pick {xs : List V} {us : List Value} (h : Vals xs us) : ∀ is : List Nat, Vals (is.filterMap (xs[·]?)) (is.filterMap (us[·]?))
  | [] => .nil
  | i :: r => by
    cases e : xs[i]? with
    | none =>
      rw [List.filterMap_cons_none e, List.filterMap_cons_none (h.none_of e)]
      exact vals_pick h r
    | some x =>
      obtain ⟨u, e2, ru⟩ := h.get e
      rw [List.filterMap_cons_some e, List.filterMap_cons_some e2]
      exact .cons ru (vals_pick h r)
theorem stepV_map {α β : Type} (f : α → β) (xs : List α) (lo hi : Option Int) (st : Int) : stepV (xs.map f) lo hi st = (stepV xs lo hi st).map f := by
  unfold stepV
  rw [List.length_map, List.map_filterMap]
  congr 1
  funext i
  exact List.getElem?_map
theorem stepV_two {α : Type} (xs : List α) (lo hi : Nat) : (stepV xs (some (lo : Int)) (some (hi : Int)) 2).length ≤ (hi - lo + 1) / 2 := by
  unfold stepV
  refine Nat.le_trans (List.length_filterMap_le _ _) ?_
  unfold sliceRange
  rw [List.length_map, List.length_range]
  have e1 : (sliceBounds (some (lo : Int)) (some (hi : Int)) (some 2) xs.length).1 = max 0 (min (lo : Int) xs.length) := by
    have h0 : ¬ ((lo : Int) < 0) := by omega
    simp [sliceBounds, h0]
  have e2 : (sliceBounds (some (lo : Int)) (some (hi : Int)) (some 2) xs.length).2.1 = max 0 (min (hi : Int) xs.length) := by
    have h0 : ¬ ((hi : Int) < 0) := by omega
    simp [sliceBounds, h0]
  have e3 : (sliceBounds (some (lo : Int)) (some (hi : Int)) (some 2) xs.length).2.2 = 2 := rfl
  rw [e1, e2, e3]
  rw [if_pos (by decide)]
  split <;> omega
theorem wk_tup {K : PySem.W.Frag} {a : Addr} {xs : List V} {H1 : Hp} (h : SqT K H1 a xs) (k : ∀ H', Same H1 H' → SqT K H' a xs) : Wk (Itt K a) H1 xs := fun H' sm =>
  ⟨⟨xs, k H' sm, Nat.le_refl _⟩, fun i hi => ⟨xs, xs[i], k H' sm, by simp [hi]⟩, fun i x H2 _ y => ⟨y.1, y.2 xs (k H' sm)⟩⟩
section
variable {X : Cx} {e : Expr} {te : TE} {pos p2 : Pos} {lo hi : Option Expr} {tl th : TO}
noncomputable def tSl3 (K : PySem.W.Frag) (te : TE) (tl th : TO) (tk : TE) : TE := fun σ H Q => te σ H fun x H1 => tl σ H1 fun l H2 => th σ H2 fun u H3 => tk σ H3 fun k H4 => ∃ a xs i, x = .ref a ∧ k = .int i ∧ i ≠ 0 ∧ SqL K H4 a xs ∧
  ∀ p, H4 p = none → Q (.ref p) (upd H4 p (.lst (stepV xs l u i)))
theorem pe_slice3 {st : Expr} {tk : TE} (he : PE X e te) (hl : PO X lo tl) (hu : PO X hi th) (hk : PE X st tk) : PE X (.Subscript e (.Slice lo hi (some st) p2) pos) (tSl3 X.K te tl th tk) := by
  intro pins s σ H Q I h
  refine Subscript_ (thn (he pins s σ H _ I h) fun v s1 ⟨x, H1, I1, r1, q1⟩ => ?_)
  refine wpAny_Slice (thn (hl pins s1 σ H1 _ I1 q1) fun vl s2 ⟨l, H2, I2, pl', q2⟩ => thn (hu pins s2 σ H2 _ I2 q2) fun vu s3 ⟨u, H3, I3, pu, q3⟩ => ?_)
  rw [evalPart_some]
  refine thn (hk pins s3 σ H3 _ I3 q3) fun kv s4 ⟨k, H4, I4, r4, q4⟩ => ?_
  obtain ⟨a, xs, i, rfl, rfl, hi0, hx, q⟩ := q4
  cases r1
  obtain ⟨t, rfl⟩ := r4
  have I5 : Inv X pins σ H4 { s4 with heap := s4.heap.push { cls := .type "slice", data := .fields #[vl, vu, .int i t] } } := I4.kept (t' := s4.toks) fun b ob q => Heap.get?_push_of_some _ q
  obtain ⟨its, r, pl, hz⟩ := I5.list hx
  have hlen := r.length
  have hg : wpAny (model X.prog X.w) X.A (getItem (.ref a) (.ref s4.heap.objs.size)) (EP X pins σ Q) X.xe { s4 with heap := s4.heap.push { cls := .type "slice", data := .fields #[vl, vu, .int i t] } } := by
    refine wpAny_getItem_list_slice pl.isList (Heap.IsSliceOf.new ..) pl' pu (.int i t) (by intro z; exact hi0 (Option.some.inj z)) ?_ (by rw [List.size_toArray] <;> omega)
    have ep : slicePick its.toArray l u (some i) = (stepV its l u i).toArray := by
      unfold slicePick stepV
      rw [List.size_toArray]
      simp only [List.getElem?_toArray]
    have rs : Vals (stepV xs l u i) (stepV its l u i) := by
      unfold stepV
      rw [hlen]
      exact vals_pick r _
    have hz2 : (stepV xs l u i).length ≤ sizeLine := by
      have := slicePick_size_le its.toArray l u (some i)
      rw [ep, List.size_toArray, List.size_toArray] at this
      rw [rs.length]
      omega
    rw [ep]
    refine ⟨.ref _, _, I5.laid (t' := s4.toks) (o := .lst (stepV xs l u i)) (fun b ob q => Heap.get?_push_of_some _ q) (Nat.le_refl _) ?_, rfl, q _ (I5.hok.fresh (Nat.le_refl _))⟩
    exact ⟨hz2, _, 0, rs, Heap.get?_push_size _ rfl⟩
  show wpAny (model X.prog X.w) X.A (subscriptTail e (.Slice lo hi (some st) p2) (.ref a) (.ref s4.heap.objs.size)) (EP X pins σ Q) X.xe { s4 with heap := s4.heap.push { cls := .type "slice", data := .fields #[vl, vu, .int i t] } }
  exact tail_any (ops := [.ref a, .ref s4.heap.objs.size]) pl.isList.typeIs slot_list_getitem.lookup hg (by with_unfolding_all rfl)
theorem preSum_take (is : List Int) : ∀ j, preSum (fun i => is.getD i 0) j = (is.take j).sum
  | 0 => rfl
  | j + 1 => by
    show preSum _ j + is.getD j 0 = _
    rw [preSum_take is j, List.take_add_one, List.sum_append]
    congr 1
    rw [List.getD]
    cases is[j]? with
    | none => rfl
    | some x => show x = x + 0; omega
theorem bt_sum : bootBuiltins "sum" = some (.builtin "sum") := by decide +kernel
theorem call_sum (hc : X.calm = true) : CallR X (.builtin "sum") (fun xs H Q => ∃ (p : Addr) (is : List Int), xs = [.ref p] ∧ SqL X.K H p (is.map V.int) ∧ (∀ x ∈ is, 0 ≤ x) ∧ is.sum < 2 ^ 63 ∧ Q (.int is.sum) H) := by
  intro pins s σ H xs us Q I r h
  obtain ⟨p, is, rfl, hq, h0, hm, q⟩ := h
  obtain ⟨u, rfl, ru⟩ := vals1 r
  cases ru
  obtain ⟨its, rv, pl, hz⟩ := I.list hq
  have hlen : is.length = its.length := by have := rv.length; rwa [List.length_map] at this
  obtain ⟨o, n, eo, _⟩ := id pl
  have hne : p ≠ s.heap.objs.size := Nat.ne_of_lt (Heap.lt_size eo)
  have hh : X.A.in1.handled = none := I.ok.hd hc
  have psum : ∀ (l : List Int), (∀ x ∈ l, 0 ≤ x) → 0 ≤ l.sum := fun l => by
    induction l with
    | nil => intro _; exact Int.le_refl _
    | cons a r ih =>
      intro h
      rw [List.sum_cons]
      have := h a (.head _)
      have := ih fun x hx => h x (.tail _ hx)
      omega
  have tot : ∀ j, 0 ≤ (is.take j).sum ∧ (is.take j).sum ≤ is.sum := fun j => by
    have e : is.sum = (is.take j).sum + (is.drop j).sum := by rw [← List.sum_append, List.take_append_drop]
    have := psum (is.take j) fun x hx => h0 x (List.mem_of_mem_take hx)
    have := psum (is.drop j) fun x hx => h0 x (List.mem_of_mem_drop hx)
    omega
  refine call_sum_walk (wpAny_pyIter_list pl.isList ?_)
  refine ⟨s.heap.objs.size, [s.heap.objs.size, p], [s.heap.objs.size], its.toArray.size, _, _, fun i => is.getD i 0, rfl, Walks.list hh _ p hne its.toArray, ⟨⟨_, Heap.get?_push_size _ rfl, rfl, rfl⟩, pl.isList.push _⟩, ?_, ?_, ?_, fun h' tk t' k => ?_⟩
  · intro b hb
    have l1 : p < s.heap.objs.size := Heap.lt_size eo
    have l2 : (s.heap.push ({ cls := .type "list_iterator", data := .fields #[Value.ref p, rawInt 0] } : Obj)).objs.size = s.heap.objs.size + 1 := by simp [Heap.push]
    simp only [List.mem_cons, List.not_mem_nil, or_false] at hb
    have l3 : b < s.heap.objs.size + 1 := by
      rcases hb with h | h <;> rw [h]
      · exact Nat.lt_succ_self _
      · exact Nat.lt_succ_of_lt l1
    refine Nat.lt_of_lt_of_eq l3 ?_
    simp [Heap.push]
  · intro i v hP
    have hP' : its[i]? = some v := by simpa using hP
    have hi : i < its.length := (List.getElem?_eq_some_iff.mp hP').1
    have hb : (is.map V.int)[i]? = some (V.int (is.getD i 0)) := by
      rw [List.getElem?_map, List.getElem?_eq_getElem (by omega : i < is.length)]
      simp [List.getD, hlen ▸ hi]
    obtain ⟨u', e', r'⟩ := rv.get hb
    rw [hP'] at e'
    cases e'
    exact r'
  · intro j hj
    rw [List.size_toArray, ← hlen] at hj
    have t1 := tot j
    have t2 := tot (j + 1)
    have e1 := preSum_take is j
    have e2 := preSum_take is (j + 1)
    have e3 : preSum (fun i => is.getD i 0) (j + 1) = preSum (fun i => is.getD i 0) j + is.getD j 0 := rfl
    have h1 : 0 ≤ is.getD j 0 := by
      rw [List.getD, List.getElem?_eq_getElem hj]
      exact h0 _ (List.getElem_mem hj)
    refine ⟨⟨?_, ?_⟩, ?_, ?_⟩
    · show -(2 ^ 63) ≤ is.getD j 0
      omega
    · show is.getD j 0 < 2 ^ 63
      omega
    · rw [e2]
      omega
    · rw [e2]
      omega
  · have e : preSum (fun i => is.getD i 0) its.toArray.size = is.sum := by rw [preSum_take, List.size_toArray, ← hlen, List.take_length]
    rw [e]
    exact ⟨.int is.sum, H, I.kept fun b ob z => k b ob (by simpa using Nat.ne_of_lt (Heap.lt_size z)) (Heap.get?_push_of_some _ z), ⟨_, rfl⟩, q⟩
end
end L3
set_option Elab.async false
set_option linter.all false
set_option maxRecDepth 100000
set_option maxHeartbeats 4000000
namespace K1
open PySem L2 L3 M1
theorem tlc_fi {wi : TI} {cs : List (Option Nat)} {tt : TT} {te : TE} {σ rest : L2.St} {H H1 : Hp} {Q : VK} {J : It} {xs : List L2.V} (hw : ∀ R : It → Hp → Prop, R J H1 → wi σ H R) (hcs : caps cs σ = none :: rest) (wk : Wk J H1 xs) (hl : xs.length < sizeLine) (p : Nat → Bool) (f : Nat → L2.V)
    (test : ∀ (i : Nat) (x : L2.V) (H2 : Hp) (R : Bool → Hp → Prop), xs[i]? = some x → Same H1 H2 → (∀ H5, Same H2 H5 → R (p i) H5) → tt (some x :: rest) H2 R)
    (elt : ∀ (i : Nat) (x : L2.V) (H2 : Hp) (R : VK), xs[i]? = some x → p i = true → Same H1 H2 → (∀ H5, Same H2 H5 → R (f i) H5) → te (some x :: rest) H2 R)
    (fin : ∀ (D : Addr) (H' : Hp), H1 D = none → H' D = some (.lst (((List.range xs.length).filter p).map f)) → Same H1 H' → Q (.ref D) H') : tLC wi cs (gName 0) tt te σ H Q := by
  refine hw _ fun D hD => ?_
  refine ⟨fun i m ys σ' H' => m = xs.length - i ∧ i ≤ xs.length ∧ ys = ((List.range i).filter p).map f ∧ (∃ o, σ' = o :: rest) ∧ Same H1 H' ∧ H' D = some (.lst ys), ⟨xs.length, by simp, Nat.zero_le _, rfl, ⟨none, by rw [hcs]⟩, fun b o e => ?_, upd_same⟩, ?_⟩
  · rw [upd_ne (ne_of_none e hD)]
    exact e
  · rintro i m ys σ' H' ⟨rfl, hi, rfl, ⟨o, rfl⟩, sm, hHD⟩
    obtain ⟨w1, w2, w3⟩ := wk H' sm
    refine ⟨hHD, Nat.lt_of_le_of_lt ?_ hl, ?_⟩
    · rw [List.length_map]
      refine Nat.le_trans (List.length_filter_le _ _) ?_
      rw [List.length_range]
      exact hi
    by_cases hlt : i < xs.length
    · refine .inr ⟨w2 i hlt, fun x H2 y => ?_⟩
      obtain ⟨rfl, ex⟩ := w3 i x H2 hlt y
      show tt (some x :: rest) H2 _
      refine test i x H2 _ ex sm fun H4 s4 => ?_
      cases hp : p i with
      | true =>
        refine iteT ?_
        refine elt i x H4 _ ex hp (sm.trans s4) fun H5 s5 => ⟨s5 _ _ (s4 _ _ hHD), xs.length - (i + 1), by omega, rfl, hlt, ?_, ⟨_, rfl⟩, fun b ob e => ?_, upd_same⟩
        · rw [List.range_succ, List.filter_append, List.map_append]
          simp [hp]
        · rw [upd_ne (ne_of_none e hD)]
          exact s5 _ _ (s4 _ _ (sm _ _ e))
      | false =>
        refine iteF ⟨xs.length - (i + 1), by omega, rfl, hlt, ?_, ⟨_, rfl⟩, sm.trans s4, s4 _ _ hHD⟩
        rw [List.range_succ, List.filter_append, List.map_append]
        simp [hp]
    · have e : i = xs.length := by omega
      subst e
      exact .inl ⟨w1, fin D H' hD hHD sm⟩
theorem gd_of {α : Type} {l : List α} {i : Nat} {x d : α} (e : l[i]? = some x) : l.getD i d = x := by rw [List.getD, e]; rfl
theorem filter_range_map {α β : Type} (q : α → Bool) (g : α → β) (d0 : α) (ls : List α) : (((List.range ls.length).filter fun i => q (ls.getD i d0)).map fun i => g (ls.getD i d0)) = (ls.filter q).map g := by
  have h : ls = (List.range ls.length).map fun i => ls.getD i d0 := by
    apply List.ext_getElem
    · simp
    · intro i h1 h2
      simp [List.getD, h1]
  have e : (ls.filter q).map g = (((List.range ls.length).map fun i => ls.getD i d0).filter q).map g := by rw [← h]
  rw [e, List.filter_map, List.map_map]
  rfl
end K1
set_option Elab.async false
set_option linter.all false
set_option maxRecDepth 100000
set_option maxHeartbeats 4000000
namespace K1
open PySem L2 L3 M1
structure Step where
  left : Int
  by_ : Option Int
  house : Str
  due : Int
noncomputable def byV : Option Int → L2.V
  | none => .non
  | some i => .int i
noncomputable def stV (s : Step) : List L2.V := [.int s.left, byV s.by_, .str s.house, .int s.due]
noncomputable def walkFs (n g st : Addr) : List (Str × L2.V) := [("net", .ref n), ("goals", .ref g), ("steps", .ref st)]
noncomputable def StepsAt (H : Hp) (l : Addr) (ss : List Step) : Prop := ∃ ts, H l = some (.lst (refs ts)) ∧ Tups H ts (ss.map stV)
structure WalkAt (C : Addr) (H : Hp) (x n g st : Addr) (gs : List Str) (ls : List Addr) (sss : List (List Step)) : Prop where
  ins : ∃ dx, H x = some (.ins C dx (walkFs n g st))
  goals : H g = some (.lst (gs.map V.str))
  steps : H st = some (.lst (refs ls))
  each : Paired (StepsAt H) ls sss
structure WalkC (K : PySem.W.Frag) (C : Addr) : Prop where
  cl : Cls K C
  nn : PySem.W.findIn K (.ref C) "net" = some none
  ng : PySem.W.findIn K (.ref C) "goals" = some none
  ns : PySem.W.findIn K (.ref C) "steps" = some none
noncomputable def spLastH (C : Addr) : Sp := fun vs H Q _ => ∃ (x n g st : Addr) (gs : List Str) (ls : List Addr) (sss : List (List Step)) (k : Nat) (ss : List Step) (s : Step), vs = [.ref x, .int k] ∧ WalkAt C H x n g st gs ls sss ∧ sss[k]? = some (ss ++ [s]) ∧ Q (.str s.house) H
noncomputable def spLastT (C : Addr) : Sp := fun vs H Q _ => ∃ (x n g st : Addr) (gs : List Str) (ls : List Addr) (sss : List (List Step)) (k : Nat) (ss : List Step) (s : Step), vs = [.ref x, .int k] ∧ WalkAt C H x n g st gs ls sss ∧ sss[k]? = some (ss ++ [s]) ∧ Q (.int s.due) H
theorem atI_last' {xs : List L2.V} {v : L2.V} : L2.atI (xs ++ [v]) (-1) = some v := by
  unfold L2.atI L2.ixN
  rw [List.length_append, if_neg (by decide), if_pos (by show -((xs.length + 1 : Nat) : Int) ≤ -1; omega)]
  show (xs ++ [v])[((-1 : Int) + ((xs.length + 1 : Nat) : Int)).toNat]? = _
  have e : ((-1 : Int) + ((xs.length + 1 : Nat) : Int)).toNat = xs.length := by omega
  rw [e]
  simp
section
variable {P : Program} {w : World} {K : PySem.W.Frag} {mg : Str → Option Value} {base : Heap}
noncomputable abbrev sLastH : Stmt := inClass (top 18) 4
theorem scLastH : FnScope ["self", "number"] ["self", "number"] (defScope sLastH) := ⟨rfl, rfl, rfl, by decide +kernel, rfl, by decide +kernel, by decide +kernel⟩
theorem last_at {C : Addr} {H : Hp} {x n g st : Addr} {gs : List Str} {ls : List Addr} {sss : List (List Step)} {k : Nat} {ss : List Step} {s : Step} (W : WalkAt C H x n g st gs ls sss) (e : sss[k]? = some (ss ++ [s])) :
    ∃ l ts t, ls[k]? = some l ∧ H l = some (.lst (refs (ts ++ [t]))) ∧ H t = some (.tup (stV s)) := by
  have ln := Paired.length W.each
  obtain ⟨hk, _⟩ := List.getElem?_eq_some_iff.mp e
  obtain ⟨l, el⟩ : ∃ l, ls[k]? = some l := ⟨_, List.getElem?_eq_getElem (by omega)⟩
  obtain ⟨ss', es, ts, hl, tp⟩ := Paired.get W.each el
  rw [e] at es
  cases es
  have lt := tp.len
  rw [List.length_map, List.length_append] at lt
  simp only [List.length_cons, List.length_nil] at lt
  obtain ⟨t, et⟩ : ∃ t, ts[ss.length]? = some t := ⟨_, List.getElem?_eq_getElem (by omega)⟩
  obtain ⟨d, ed, hd⟩ := Paired.get tp et
  rw [List.map_append, List.getElem?_append_right (by rw [List.length_map]; omega), List.length_map, Nat.sub_self] at ed
  cases ed
  refine ⟨l, ts.take ss.length, t, el, ?_, hd⟩
  have e2 : ts = ts.take ss.length ++ [t] := by
    have this := (List.take_append_drop ss.length ts).symm
    have hd2 : ts.drop ss.length = [t] := by
      rw [List.drop_eq_getElem_cons (by omega : ss.length < ts.length)]
      rw [List.getElem?_eq_getElem (by omega : ss.length < ts.length)] at et
      cases et
      rw [List.drop_eq_nil_of_le (by omega)]
    rw [hd2] at this
    exact this
  rw [← e2]
  exact hl
theorem ok_lastH {C f : Addr} {fd : FuncData} (F : Fun K "last_house" "Walk.last_house" sLastH f fd) (WC : WalkC K C) : FnOk P w K mg base CX0 1 f fd ["self", "number"] (spLastH C) := by
  refine F.ok scLastH (fun vs H Q E h => ?_) (fun cdv A outer s H vs Q E hr h => ?_)
  · obtain ⟨x, n, g, st, gs, ls, sss, k, ss, s', rfl, _⟩ := h
    rfl
  · obtain ⟨x, n, g, st, gs, ls, sss, k, ss, s', rfl, W, es, q⟩ := h
    obtain ⟨dx, hx⟩ := W.ins
    obtain ⟨l, ts, t, el, hl, ht⟩ := last_at W es
    refine ⟨_, (pss_one (ps_ret (pe_ix ix_tup (pe_ix ix_list (pe_ix ix_list (pe_fld (pv 0) (by rfl)) (pv 1) (fun _ _ => rfl)) (pe_un un_neg pe_int) (fun _ _ => rfl)) pe_int (fun _ _ => rfl)))), ?_⟩
    have h1 : L2.atI (refs (ts ++ [t])) (-1) = some (.ref t) := by unfold refs; rw [List.map_append]; exact atI_last'
    exact ⟨_, rfl, x, C, dx, _, _, rfl, hx, WC.cl, WC.ns, rfl, _, rfl, st, _, _, _, rfl, rfl, SqL.of W.steps, atI_nat (by unfold refs; rw [List.getElem?_map, el]; rfl), _, rfl, l, _, _, _, rfl, rfl, SqL.of hl, h1, t, _, _, _, rfl, rfl, SqT.of ht, rfl, q⟩
noncomputable abbrev sLastT : Stmt := inClass (top 18) 5
theorem scLastT : FnScope ["self", "number"] ["self", "number"] (defScope sLastT) := ⟨rfl, rfl, rfl, by decide +kernel, rfl, by decide +kernel, by decide +kernel⟩
theorem ok_lastT {C f : Addr} {fd : FuncData} (F : Fun K "last_turn" "Walk.last_turn" sLastT f fd) (WC : WalkC K C) : FnOk P w K mg base CX0 1 f fd ["self", "number"] (spLastT C) := by
  refine F.ok scLastT (fun vs H Q E h => ?_) (fun cdv A outer s H vs Q E hr h => ?_)
  · obtain ⟨x, n, g, st, gs, ls, sss, k, ss, s', rfl, _⟩ := h
    rfl
  · obtain ⟨x, n, g, st, gs, ls, sss, k, ss, s', rfl, W, es, q⟩ := h
    obtain ⟨dx, hx⟩ := W.ins
    obtain ⟨l, ts, t, el, hl, ht⟩ := last_at W es
    refine ⟨_, (pss_one (ps_ret (pe_ix ix_tup (pe_ix ix_list (pe_ix ix_list (pe_fld (pv 0) (by rfl)) (pv 1) (fun _ _ => rfl)) (pe_un un_neg pe_int) (fun _ _ => rfl)) pe_int (fun _ _ => rfl)))), ?_⟩
    have h1 : L2.atI (refs (ts ++ [t])) (-1) = some (.ref t) := by unfold refs; rw [List.map_append]; exact atI_last'
    exact ⟨_, rfl, x, C, dx, _, _, rfl, hx, WC.cl, WC.ns, rfl, _, rfl, st, _, _, _, rfl, rfl, SqL.of W.steps, atI_nat (by unfold refs; rw [List.getElem?_map, el]; rfl), _, rfl, l, _, _, _, rfl, rfl, SqL.of hl, h1, t, _, _, _, rfl, rfl, SqT.of ht, rfl, q⟩
noncomputable def homeV (s : Step) (g : Str) : L2.V := if s.house = g then .int s.due else .non
noncomputable def spHomeT (C : Addr) : Sp := fun vs H Q _ => ∃ (x n g st : Addr) (gs : List Str) (ls : List Addr) (sss : List (List Step)) (k : Nat) (ss : List Step) (s : Step) (y : Str), vs = [.ref x, .int k] ∧ WalkAt C H x n g st gs ls sss ∧ sss[k]? = some (ss ++ [s]) ∧ gs[k]? = some y ∧ Q (homeV s y) H
noncomputable abbrev sHomeT : Stmt := inClass (top 18) 6
theorem scHomeT : FnScope ["self", "number"] ["self", "number"] (defScope sHomeT) := ⟨rfl, rfl, rfl, by decide +kernel, rfl, by decide +kernel, by decide +kernel⟩
theorem ok_homeT {C f f1 f2 : Addr} {fd fd1 fd2 : FuncData} (F : Fun K "home_turn" "Walk.home_turn" sHomeT f fd) (WC : WalkC K C)
    (M_Walk_last_house : Mn K C "last_house" "Walk.last_house" sLastH ["self", "number"] f1 fd1) (G_Walk_last_house : FnOk P w K mg base CX0 1 f1 fd1 ["self", "number"] (spLastH C))
    (M_Walk_last_turn : Mn K C "last_turn" "Walk.last_turn" sLastT ["self", "number"] f2 fd2) (G_Walk_last_turn : FnOk P w K mg base CX0 1 f2 fd2 ["self", "number"] (spLastT C)) : FnOk P w K mg base CX0 2 f fd ["self", "number"] (spHomeT C) := by
  have Cl_Walk := WC.cl
  refine F.ok scHomeT (fun vs H Q E h => ?_) (fun cdv A outer s H vs Q E hr h => ?_)
  · obtain ⟨x, n, g, st, gs, ls, sss, k, ss, s', y, rfl, _⟩ := h
    rfl
  · obtain ⟨x, n, g, st, gs, ls, sss, k, ss, s', y, rfl, W, es, ey, q⟩ := h
    obtain ⟨dx, hx⟩ := W.ins
    refine ⟨_, (pss_cons (ps_if (pt_cmpR op_ne (pe_meth (pv 0) Cl_Walk M_Walk_last_house.me G_Walk_last_house (hr.mono (by decide)) M_Walk_last_house.bd .nil pass0 (pa_cons (pv 1) pa_nil)) (pe_ix ix_list (pe_fld (pv 0) (by rfl)) (pv 1) (fun _ _ => rfl)) (nomark _)) (pss_one (ps_ret pe_non)) pss_nil)
      (pss_one (ps_ret (pe_meth (pv 0) Cl_Walk M_Walk_last_turn.me G_Walk_last_turn (hr.mono (by decide)) M_Walk_last_turn.bd .nil pass0 (pa_cons (pv 1) pa_nil))))), ?_⟩
    have ag : L2.atI (gs.map V.str) (k : Int) = some (.str y) := atI_nat (by rw [List.getElem?_map, ey]; rfl)
    refine ⟨_, rfl, x, dx, _, rfl, hx, rfl, _, rfl, x, n, g, st, gs, ls, sss, k, ss, s', rfl, W, es, ?_⟩
    refine ⟨_, rfl, x, C, dx, _, _, rfl, hx, WC.cl, WC.ng, rfl, _, rfl, g, _, _, _, rfl, rfl, SqL.of W.goals, ag, rfl, _, rfl, ?_⟩
    unfold homeV at q
    by_cases he : s'.house = y
    · rw [if_pos he] at q
      exact iteN (by rw [he]; simp) ⟨_, rfl, x, dx, _, rfl, hx, rfl, _, rfl, x, n, g, st, gs, ls, sss, k, ss, s', rfl, W, es, q⟩
    · rw [if_neg he] at q
      exact iteB (by simp [he]) q
noncomputable def ltT (d : Str × Int × Str) : List L2.V := [.str d.1, .int d.2.1, .str d.2.2]
noncomputable def firstS (d : Str × Int × Str) : List Step := [⟨d.2.1, none, d.1, d.2.1⟩]
noncomputable def spWkI (C : Addr) : Sp := fun vs H Q _ => ∃ (x dx n lp : Addr) (rs : List Addr) (ds : List (Str × Int × Str)), vs = [.ref x, .ref n, .ref lp] ∧ H x = some (.ins C dx []) ∧ H lp = some (.lst (refs rs)) ∧ Tups H rs (ds.map ltT) ∧ rs.length ≤ 100 ∧
  ∀ (H' : Hp) (g st : Addr) (lls : List Addr), SameBut x H H' → WalkAt C H' x n g st (ds.map fun d => d.2.2) lls (ds.map firstS) → H g = none → H st = none → lls.Nodup → (∀ l ∈ lls, H l = none ∧ l ≠ st ∧ l ≠ g) → g ≠ st → Q .non H'
noncomputable abbrev sWkI : Stmt := inClass (top 18) 0
noncomputable def spTake (C : Addr) : Sp := fun vs H Q _ => ∃ (x dx n g st r : Addr) (gs : List Str) (ls : List Addr) (d : Str × Int × Str), vs = [.ref x, .ref r] ∧ H x = some (.ins C dx (walkFs n g st)) ∧ H g = some (.lst (gs.map V.str)) ∧ H st = some (.lst (refs ls)) ∧ g ≠ st ∧ H r = some (.tup (ltT d)) ∧ gs.length ≤ 100 ∧ ls.length ≤ 100 ∧
  ∀ (H' : Hp) (l t : Addr), (∀ b o, b ≠ g → b ≠ st → H b = some o → H' b = some o) → H' g = some (.lst ((gs ++ [d.2.2]).map V.str)) → H' st = some (.lst (refs (ls ++ [l]))) → H l = none → H t = none → H' l = some (.lst [.ref t]) → H' t = some (.tup (stV ⟨d.2.1, none, d.1, d.2.1⟩)) → Q .non H'
noncomputable abbrev sTake : Stmt := inClass (top 18) 1
theorem scTake : FnScope ["self", "letter"] ["self", "letter"] (defScope sTake) := ⟨rfl, rfl, rfl, by decide +kernel, rfl, by decide +kernel, by decide +kernel⟩
theorem ok_take {C f : Addr} {fd : FuncData} (F : Fun K "take_in" "Walk.take_in" sTake f fd) (WC : WalkC K C) : FnOk P w K mg base CX0 1 f fd ["self", "letter"] (spTake C) := by
  refine F.ok scTake (fun vs H Q E h => ?_) (fun cdv A outer s H vs Q E hr h => ?_)
  · obtain ⟨x, dx, n, g, st, r, gs, ls, d, rfl, _⟩ := h
    rfl
  · obtain ⟨x, dx, n, g, st, r, gs, ls, d, rfl, hx, hg, hst, ngs, hd, fg, fl, q⟩ := h
    refine ⟨_, (pss_cons (ps_expr (pe_bm PySem.F.plainAttrs_list PySem.F.slot_list_append PySem.F.type_list_append mt_append (pe_fld (pv 0) (by rfl)) (pa_cons (pe_ix ix_tup (pv 1) pe_int (fun _ _ => rfl)) pa_nil)))
      (pss_one (ps_expr (pe_bm PySem.F.plainAttrs_list PySem.F.slot_list_append PySem.F.type_list_append mt_append (pe_fld (pv 0) (by rfl)) (pa_cons (pe_lst (pa_cons (pe_tup (pa_cons (pe_ix ix_tup (pv 1) pe_int (fun _ _ => rfl)) (pa_cons pe_non (pa_cons (pe_ix ix_tup (pv 1) pe_int (fun _ _ => rfl)) (pa_cons (pe_ix ix_tup (pv 1) pe_int (fun _ _ => rfl)) pa_nil))))) pa_nil)) pa_nil))))), ?_⟩
    have ngx : x ≠ g := ne_of hx hg (by intro z; cases z)
    have nsx : x ≠ st := ne_of hx hst (by intro z; cases z)
    have ngr : r ≠ g := ne_of hd hg (by intro z; cases z)
    have nsr : r ≠ st := ne_of hd hst (by intro z; cases z)
    refine ⟨_, rfl, x, C, dx, _, _, rfl, hx, WC.cl, WC.ng, rfl, .inl ⟨rfl, _, SqL.of hg⟩, _, rfl, r, _, _, _, rfl, rfl, SqT.of hd, rfl, g, _, _, rfl, rfl, hg, small1000 (by rw [List.length_map]; omega), ?_⟩
    have hx1 : upd H g (.lst (gs.map V.str ++ [V.str d.2.2])) x = _ := (upd_ne ngx).trans hx
    have hs1 : upd H g (.lst (gs.map V.str ++ [V.str d.2.2])) st = _ := (upd_ne ngs.symm).trans hst
    have hd1 : upd H g (.lst (gs.map V.str ++ [V.str d.2.2])) r = _ := (upd_ne ngr).trans hd
    refine ⟨_, rfl, x, C, dx, _, _, rfl, hx1, WC.cl, WC.ns, rfl, .inl ⟨rfl, _, SqL.of hs1⟩, ?_⟩
    refine ⟨_, rfl, r, _, _, _, rfl, rfl, SqT.of hd1, rfl, _, rfl, r, _, _, _, rfl, rfl, SqT.of hd1, rfl, _, rfl, r, _, _, _, rfl, rfl, SqT.of hd1, rfl, (by show 4 ≤ sizeLine; decide), fun t nt => ⟨(by show 1 ≤ sizeLine; decide), fun l nl => ?_⟩⟩
    have fr1 : ∀ {b}, upd H g (.lst (gs.map V.str ++ [V.str d.2.2])) b = none → H b = none ∧ b ≠ g := fun {b} e => by
      have nb : b ≠ g := fun z => by rw [z, upd_same] at e; cases e
      rw [upd_ne nb] at e
      exact ⟨e, nb⟩
    have nlt : l ≠ t := fun z => by rw [z, upd_same] at nl; cases nl
    have nl1 := nl
    rw [upd_ne nlt] at nl1
    have hs2 := (upd_free (o := .lst [.ref t]) nl) _ _ ((upd_free (o := .tup (stV ⟨d.2.1, none, d.1, d.2.1⟩)) nt) _ _ hs1)
    have nst : t ≠ st := fun z => by rw [z, hs1] at nt; cases nt
    have nsl : l ≠ st := fun z => by rw [z, hs1] at nl1; cases nl1
    refine ⟨st, _, _, rfl, rfl, hs2, small1000 (by rw [refs_len]; omega), ?_⟩
    refine q _ l t (fun b o h1 h2 e => ?_) ?_ ?_ (fr1 nl1).1 (fr1 nt).1 ?_ ?_
    · have e1 : upd H g (.lst (gs.map V.str ++ [V.str d.2.2])) b = some o := by rw [upd_ne h1]; exact e
      rw [upd_ne h2]
      exact (upd_free nl) _ _ ((upd_free nt) _ _ e1)
    · rw [upd_ne ngs, upd_ne (fr1 nl1).2.symm, upd_ne (fr1 nt).2.symm, upd_same, List.map_append]
      rfl
    · rw [upd_same, refs_snoc]
    · rw [upd_ne nsl, upd_same]
    · rw [upd_ne nst, upd_ne nlt.symm, upd_same]
      rfl
theorem scWkI : FnScope ["self", "net", "letters", "letter"] ["self", "net", "letters"] (defScope sWkI) := ⟨rfl, rfl, rfl, by decide +kernel, rfl, by decide +kernel, by decide +kernel⟩
theorem ok_wkI {C f f1 : Addr} {fd fd1 : FuncData} (F : Fun K "__init__" "Walk.__init__" sWkI f fd) (WC : WalkC K C) (M_Walk_take_in : Mn K C "take_in" "Walk.take_in" sTake ["self", "letter"] f1 fd1) (G_Walk_take_in : FnOk P w K mg base CX0 1 f1 fd1 ["self", "letter"] (spTake C)) : FnOk P w K mg base CX0 2 f fd ["self", "net", "letters"] (spWkI C) := by
  have Cl_Walk := WC.cl
  refine F.ok scWkI (fun vs H Q E h => ?_) (fun cdv A outer s H vs Q E hr h => ?_)
  · obtain ⟨x, dx, n, lp, rs, ds, rfl, _⟩ := h
    rfl
  · obtain ⟨x, dx, n, lp, rs, ds, rfl, hx, hlp, tp, few, q⟩ := h
    refine ⟨_, (pss_cons (ps_fld (pv 0) (pv 1) rfl)
      (pss_cons (ps_fld (pv 0) (pe_lst pa_nil) rfl)
      (pss_cons (ps_fld (pv 0) (pe_lst pa_nil) rfl)
      (pss_one (ps_for PassesOwn.never rfl (pi_list (pv 2)) (pg_name (i := 3) scWkI.nd rfl (Or.inl rfl))
        (pss_one (ps_expr (pe_meth (pv 0) Cl_Walk M_Walk_take_in.me G_Walk_take_in (hr.mono (by decide)) M_Walk_take_in.bd .nil pass0 (pa_cons (pv 3) pa_nil))))))))), ?_⟩
    refine ⟨_, rfl, _, rfl, x, C, dx, _, rfl, hx, WC.cl, WC.nn, (by show 0 < 1000; decide), ?_⟩
    have nlp : lp ≠ x := ne_of hlp hx (by intro z; cases z)
    refine ⟨(by show 0 ≤ sizeLine; decide), fun g ng => ?_⟩
    have ngx : g ≠ x := fun z => by rw [z, upd_same] at ng; cases ng
    have ng0 := ng
    rw [upd_ne ngx] at ng0
    refine ⟨_, rfl, x, C, dx, _, rfl, (by rw [upd_ne ngx.symm, upd_same]), WC.cl, WC.ng, (by show 1 < 1000; decide), (by show 0 ≤ sizeLine; decide), fun st nst => ?_⟩
    have nsx : st ≠ x := fun z => by rw [z, upd_same] at nst; cases nst
    rw [upd_ne nsx] at nst
    have nsg : st ≠ g := fun z => by rw [z, upd_same] at nst; cases nst
    rw [upd_ne nsg, upd_ne nsx] at nst
    refine ⟨_, rfl, x, C, dx, _, rfl, (by rw [upd_ne nsx.symm, upd_same]), WC.cl, WC.ns, (by show 2 < 1000; decide), ?_⟩
    refine ⟨_, rfl, lp, rfl, ⟨_, SqL.of (xs := refs rs) ?_⟩, ?_⟩
    · rw [upd_ne nlp, upd_ne (ne_of_none hlp nst), upd_ne nlp, upd_ne (ne_of_none hlp ng0), upd_ne nlp]
      exact hlp
    have lrs := refs_len rs
    have ldr : rs.length = ds.length := by have := Paired.length tp; rw [List.length_map] at this; exact this
    refine for_list (K := K) (a := lp) (xs := refs rs) (fun j σ Hj => ∃ v3 lls, σ = [some (.ref x), some (.ref n), some (.ref lp), v3] ∧ (∀ b o, b ≠ x → H b = some o → Hj b = some o) ∧ Hj x = some (.ins C dx (walkFs n g st)) ∧ Hj g = some (.lst (((ds.take j).map fun d => d.2.2).map V.str)) ∧ Hj st = some (.lst (refs lls)) ∧ Paired (StepsAt Hj) lls ((ds.take j).map firstS) ∧ lls.Nodup ∧ (∀ l ∈ lls, H l = none ∧ l ≠ st ∧ l ≠ g))
      ⟨none, [], rfl, fun b o nb e => ?_, upd_same, ?_, ?_, .nil, List.nodup_nil, fun l hl => absurd hl List.not_mem_nil⟩ (fun j σ Hj _ ⟨_, _, _, h, _⟩ => SqL.of (h _ _ nlp hlp)) ?_ ?_
    · rw [upd_ne nb, upd_ne (ne_of_none e nst), upd_ne nb, upd_ne (ne_of_none e ng0), upd_ne nb]
      exact e
    · rw [upd_ne ngx, upd_ne nsg.symm, upd_ne ngx, upd_same]
      rfl
    · rw [upd_ne nsx, upd_same]
      rfl
    · rintro j z σ Hj ez ⟨v3, lls, rfl, sj, hxj, hgj, hsj, ej, nd, fr⟩
      unfold refs at ez
      rw [List.getElem?_map] at ez
      obtain ⟨r, er, rfl⟩ := Option.map_eq_some_iff.mp ez
      obtain ⟨y, ey, hy⟩ := Paired.get tp er
      rw [List.getElem?_map] at ey
      obtain ⟨d, ed, rfl⟩ := Option.map_eq_some_iff.mp ey
      have ldj := (List.getElem?_eq_some_iff.mp ed).1
      have ll := Paired.length ej
      rw [List.length_map, List.length_take] at ll
      have tk : ds.take (j + 1) = ds.take j ++ [d] := by
        rw [List.take_add_one, ed]
        rfl
      refine ⟨_, rfl, x, dx, _, rfl, hxj, rfl, _, rfl, x, dx, n, g, st, r, _, lls, d, rfl, hxj, hgj, hsj, nsg.symm, sj _ _ (ne_of hy hx (by intro z; cases z)) hy, (by rw [List.length_map, List.length_take]; omega), (by omega), ?_⟩
      intro H' l t sb hg' hs' nl nt hl' ht'
      have ngj : ∀ {o}, Hj l = some o → False := fun {o} e => by rw [nl] at e; cases e
      have free : ∀ {b}, Hj b = none → H b = none := fun {b} e => by
        by_cases hb : b = x
        · rw [hb, hxj] at e; cases e
        · cases e2 : H b with
          | none => rfl
          | some o => rw [sj _ _ hb e2] at e; cases e
      refine ⟨_, lls ++ [l], rfl, fun b o nb e => ?_, sb _ _ ngx.symm nsx.symm hxj, ?_, hs', ?_, ?_, ?_⟩
      · exact sb _ _ (fun z => by rw [z, ng0] at e; cases e) (fun z => by rw [z, nst] at e; cases e) (sj _ _ nb e)
      · rw [hg', tk]
        simp only [List.map_append, List.map_cons, List.map_nil]
      · rw [tk, List.map_append]
        refine Paired.snoc ⟨[t], hl', .cons ht' .nil⟩ ?_
        have go : ∀ {ms : List Addr} {tss : List (List Step)}, Paired (StepsAt Hj) ms tss → (∀ l ∈ ms, l ≠ st ∧ l ≠ g) → Paired (StepsAt H') ms tss := fun {ms tss} p => by
          induction p with
          | nil => exact fun _ => .nil
          | cons r t ih =>
            refine fun h => .cons ?_ (ih fun l hl => h l (.tail _ hl))
            obtain ⟨ts, h1, h2⟩ := r
            refine ⟨ts, sb _ _ (h _ (.head _)).2 (h _ (.head _)).1 h1, Paired.mapP h2 fun a b e => sb _ _ (ne_of e hgj (by intro z; cases z)) (ne_of e hsj (by intro z; cases z)) e⟩
        exact go ej fun l hl => (fr l hl).2
      · rw [List.nodup_append]
        refine ⟨nd, List.nodup_cons.mpr ⟨List.not_mem_nil, List.nodup_nil⟩, fun a ha b hb => ?_⟩
        rw [List.mem_singleton] at hb
        subst hb
        rintro rfl
        obtain ⟨i, hi, e⟩ := List.getElem_of_mem ha
        obtain ⟨_, _, ts, h1, _⟩ := Paired.get ej (List.getElem?_eq_some_iff.mpr ⟨hi, e⟩)
        exact ngj h1
      · intro l2 hl2
        rw [List.mem_append, List.mem_singleton] at hl2
        rcases hl2 with h | rfl
        · exact fr _ h
        · exact ⟨free nl, fun z => (by rw [z] at nl; rw [nl] at hsj; cases hsj), fun z => (by rw [z] at nl; rw [nl] at hgj; cases hgj)⟩
    · rintro σ Hj ⟨v3, lls, rfl, sj, hxj, hgj, hsj, ej, nd, fr⟩
      rw [lrs, ldr, List.take_length] at hgj ej
      exact q Hj g st lls (fun b o nb e => sj b o nb e) ⟨⟨dx, hxj⟩, hgj, hsj, ej⟩ ng0 nst nd fr nsg.symm
end
end K1
set_option Elab.async false
set_option linter.all false
set_option maxRecDepth 100000
set_option maxHeartbeats 4000000
namespace K1
open PySem L2 L3 M1
section
variable {P : Program} {w : World} {K : PySem.W.Frag} {mg : Str → Option Value} {base : Heap}
noncomputable abbrev sRoadM : Stmt := inClass (top 35) 3
theorem scRoadM : FnScope ["self", "number"] ["self", "number"] (defScope sRoadM) := ⟨rfl, rfl, rfl, by decide +kernel, rfl, by decide +kernel, by decide +kernel⟩
end
end K1
set_option Elab.async false
set_option linter.all false
set_option maxRecDepth 100000
set_option maxHeartbeats 4000000
namespace L3
open PySem PySem.Spec PyProof.Rows L2 PySem.W
noncomputable def kRun {α : Type} (lt : Nat → Nat → Bool) : KasT α → α
  | .ret a => a
  | .ask i j k => kRun lt (k (lt i j))
noncomputable def kB {α : Type} (n : Nat) (P : α → Prop) : KasT α → Prop
  | .ret a => P a
  | .ask i j k => i < n ∧ j < n ∧ ∀ b, kB n P (k b)
theorem kB_bind {α β : Type} {n : Nat} {P : α → Prop} {R : β → Prop} {f : α → KasT β} (hf : ∀ a, P a → kB n R (f a)) : ∀ t : KasT α, kB n P t → kB n R (t.bind f)
  | .ret a, h => hf a h
  | .ask i j k, h => ⟨h.1, h.2.1, fun b => kB_bind hf (k b) (h.2.2 b)⟩
theorem kB_if {α : Type} {n : Nat} {P : α → Prop} {c : Prop} [Decidable c] {s t : KasT α} (h1 : c → kB n P s) (h2 : ¬ c → kB n P t) : kB n P (if c then s else t) := by
  by_cases h : c
  · rw [if_pos h]; exact h1 h
  · rw [if_neg h]; exact h2 h
theorem kRun_wp {α : Type} {cmp : Nat → Nat → (Bool → Shared → Prop) → Shared → Prop} {lt : Nat → Nat → Bool} {n : Nat} {P : α → Prop} {Q : α → Shared → Prop} {s : Shared} (hc : ∀ i j C, i < n → j < n → C (lt i j) s → cmp i j C s) :
    ∀ t : KasT α, kB n P t → (P (kRun lt t) → Q (kRun lt t) s) → t.kasWp cmp Q s
  | .ret a, p, h => h p
  | .ask i j k, p, h => hc i j _ p.1 p.2.1 (kRun_wp hc (k (lt i j)) (p.2.2 _) h)
theorem kRun_has {α : Type} {lt : Nat → Nat → Bool} {n : Nat} {P : α → Prop} : ∀ t : KasT α, kB n P t → P (kRun lt t)
  | .ret _, p => p
  | .ask i j k, p => kRun_has (k (lt i j)) (p.2.2 _)
noncomputable def AB (n : Nat) (p : Array Nat) : Prop := p.Perm (List.toArray (List.range n))
theorem AB.lt {n : Nat} {p : Array Nat} (h : AB n p) {x : Nat} (hx : x ∈ p) : x < n := by
  have := h.mem_iff.mp hx
  have : x ∈ List.range n := by simpa using this
  exact List.mem_range.mp this
theorem AB.list {n : Nat} {p : Array Nat} (h : AB n p) : p.toList.Perm (List.range n) := by
  have := Array.perm_iff_toList_perm.mp h
  simpa using this
theorem AB.at {n : Nat} {p : Array Nat} (h : AB n p) (h0 : 0 < n) (k : Nat) : p.getD k 0 < n := by
  by_cases hk : k < p.size
  · have e : p.getD k 0 = p[k] := by simp [Array.getD, hk]
    rw [e]
    exact h.lt (Array.getElem_mem hk)
  · have e : p.getD k 0 = 0 := by simp [Array.getD, hk]
    rw [e]
    exact h0
theorem AB.perm {n : Nat} {p q : Array Nat} (h : AB n p) (e : q.Perm p) : AB n q := Array.Perm.trans e h
theorem AB.rev {n : Nat} {p : Array Nat} (h : AB n p) (i j : Nat) : AB n (kas_rev p i j) := h.perm (mirror_perm ..)
theorem AB.bub {n : Nat} {p : Array Nat} (h : AB n p) (i j : Nat) : AB n (bubble p i j) := h.perm (bubble_perm ..)
section
variable {n : Nat}
theorem asc_b {p : Array Nat} (h0 : 0 < n) (h : AB n p) : ∀ f k, kB n (fun _ => True) (kas_asc p f k)
  | 0, _ => trivial
  | f + 1, k => ⟨h.at h0 _, h.at h0 _, fun b => kB_if (fun _ => trivial) fun _ => asc_b h0 h f (k + 1)⟩
theorem desc_b (h0 : 0 < n) : ∀ (f : Nat) (p : Array Nat) (k q : Nat), AB n p → kB n (fun r => AB n r.1) (kas_desc f p k q)
  | 0, p, k, q, h => h
  | f + 1, p, k, q, h => ⟨h.at h0 _, h.at h0 _, fun b => kB_if (fun _ => kB_if (fun _ => desc_b h0 f _ _ _ (h.rev _ _)) fun _ => desc_b h0 f _ _ _ h)
      fun _ => ⟨h.at h0 _, h.at h0 _, fun b => kB_if (fun _ => h) fun _ => desc_b h0 f _ _ _ h⟩⟩
theorem tail3_b {p : Array Nat} (h0 : 0 < n) (h : AB n p) (k m : Nat) : kB n (fun r => AB n r.2) (kas_tail3 k m p) := by
  unfold kas_tail3
  refine kB_bind (P := fun _ => True) (fun a _ => ?_) _ (asc_b h0 (h.rev _ _) _ _)
  exact h.rev _ _
theorem descPart_b {p : Array Nat} (h0 : 0 < n) (h : AB n p) (k m : Nat) : kB n (fun r => AB n r.2) (kas_descPart k m p) :=
  kB_bind (fun r hr => kB_if (fun _ => tail3_b h0 (AB.rev hr _ _) _ _) fun _ => tail3_b h0 hr _ _) _ (desc_b h0 _ _ _ _ h)
theorem count_b {p : Array Nat} (h0 : 0 < n) (h : AB n p) (m : Nat) : kB n (fun r => AB n r.2) (kas_count m p) := by
  unfold kas_count
  refine kB_bind (P := fun _ => True) (fun k _ => ?_) _ (asc_b h0 h _ _)
  refine kB_if (fun _ => h) fun _ => kB_if (fun _ => ⟨h.at h0 _, h.at h0 _, fun b => kB_if (fun _ => h) fun _ => descPart_b h0 (h.rev _ _) _ _⟩) fun _ => descPart_b h0 h _ _
theorem place_b {p : Array Nat} (h0 : 0 < n) (h : AB n p) (k : Nat) : ∀ f l r, kB n (fun _ => True) (kas_place p k f l r)
  | 0, _, _ => trivial
  | f + 1, l, r => kB_if (fun _ => trivial) fun _ => ⟨h.at h0 _, h.at h0 _, fun b => kB_if (fun _ => place_b h0 h k f _ _) fun _ => place_b h0 h k f _ _⟩
theorem bin_b (h0 : 0 < n) : ∀ (f : Nat) (p : Array Nat) (k : Nat), AB n p → kB n (AB n) (kas_bin f p k)
  | 0, p, k, h => h
  | f + 1, p, k, h => kB_bind (fun l _ => bin_b h0 f _ _ (h.bub _ _)) _ (place_b h0 h k _ _ _)
theorem sort_b (h0 : 0 < n) : kB n (AB n) (kas_sort n) := by
  have hr : AB n (List.toArray (List.range n)) := Array.Perm.refl _
  unfold kas_sort
  refine kB_bind (P := fun r => AB n r.2) (fun r h2 => ?_) _ (count_b h0 hr n)
  exact kB_if (fun _ => bin_b h0 _ _ _ h2) fun _ => h2
end
noncomputable def srtIx (lt : Nat → Nat → Bool) (n : Nat) : List Nat := if n < 2 then List.range n else (kRun lt (kas_sort n)).toList
noncomputable def srtL {α : Type} (d : α) (lt : Nat → Nat → Bool) (xs : List α) : List α := (srtIx lt xs.length).map fun i => xs.getD i d
theorem srtIx_lt {lt : Nat → Nat → Bool} {n i : Nat} (h : i ∈ srtIx lt n) : i < n := by
  unfold srtIx at h
  split at h
  · exact List.mem_range.mp h
  · rename_i h2
    exact AB.lt (kRun_has (lt := lt) (kas_sort n) (sort_b (by omega))) (by simpa using h)
theorem srtIx_perm (lt : Nat → Nat → Bool) (n : Nat) : (srtIx lt n).Perm (List.range n) := by
  unfold srtIx
  split
  · exact List.Perm.refl _
  · exact AB.list (kRun_has (lt := lt) (kas_sort n) (sort_b (by omega)))
theorem srtL_perm {α : Type} (d : α) (lt : Nat → Nat → Bool) (xs : List α) : (srtL d lt xs).Perm xs := by
  have e : xs = (List.range xs.length).map fun i => xs.getD i d := by
    apply List.ext_getElem
    · simp
    · intro i h1 h2
      simp [List.getD, h1]
  have p := (srtIx_perm lt xs.length).map fun i => xs.getD i d
  rw [← e] at p
  exact p
theorem srtL_len {α : Type} (d : α) (lt : Nat → Nat → Bool) (xs : List α) : (srtL d lt xs).length = xs.length := (srtL_perm d lt xs).length_eq
theorem srtL_vals {lt : Nat → Nat → Bool} {xs : List V} {us : List Value} (h : Vals xs us) : Vals (srtL .non lt xs) (srtL .none lt us) := by
  unfold srtL
  rw [h.length]
  have : ∀ is : List Nat, (∀ i ∈ is, i < xs.length) → Vals (is.map fun i => xs.getD i .non) (is.map fun i => us.getD i .none) := fun is => by
    induction is with
    | nil => intro _; exact .nil
    | cons i r ih =>
      intro hi
      refine .cons ?_ (ih fun j hj => hi j (.tail _ hj))
      have hlt : i < xs.length := hi i (.head _)
      have e1 : xs[i]? = some xs[i] := List.getElem?_eq_getElem hlt
      obtain ⟨u, e2, ru⟩ := h.get e1
      show RelV (xs[i]?.getD .non) (us[i]?.getD .none)
      rw [e1, e2]
      exact ru
  exact this _ fun i hi => by rw [h.length]; exact srtIx_lt hi
theorem srtL_few {α : Type} (d : α) (lt : Nat → Nat → Bool) {xs : List α} (h : xs.length < 2) : srtL d lt xs = xs := by
  unfold srtL srtIx
  rw [if_pos h]
  apply List.ext_getElem
  · simp
  · intro i h1 h2
    simp [List.getD, h2]
noncomputable def ExtB (a : Addr) (h h' : Heap) : Prop := ∀ b o, b ≠ a → h.get? b = some o → h'.get? b = some o
section
variable {prog : Program} {w : World} {A : Around} {E : Value → Shared → Prop} {s : Shared} {vs : List Value} {κ : SortKind} {lt : Nat → Nat → Bool}
theorem sort_at {a : Addr} {e : Nat} {R : PySem.Fin → Shared → Prop} (ho : s.heap.get? a = some (seqObj "list" vs.toArray e)) (h64 : vs.length < 64)
    (hk : 2 ≤ vs.length → ∀ s1 : Shared, ExtB a s.heap s1.heap → ∀ Q : SortKind → Shared → Prop, Q κ s1 → wpAny (model prog w) A (keyKind' vs.toArray) Q (fun _ _ => False) s1)
    (hl : 2 ≤ vs.length → ∀ s1 : Shared, ExtB a s.heap s1.heap → ∀ i j C, i < vs.length → j < vs.length → C (lt i j) s1 → kas_ask prog w A κ vs i j C s1)
    (h : ∀ h' c, ExtB a s.heap h' → h'.get? a = some (seqObj "list" (List.toArray (srtL Value.none lt vs)) c) → R (.done (.ret .none)) { s with heap := h' }) :
    wpAny (model prog w) A (Builtin.«list.sort» ⟨[.ref a], []⟩) R E s := by
  have emptied := get?_update_seq ho fun _ => (#[] : Array Value)
  obtain ⟨e1, ho1⟩ : ∃ k, (s.heap.update a (Obj.mapSeq fun _ => (#[] : Array Value))).get? a = some (seqObj "list" #[] k) := ⟨_, emptied⟩
  have x1 : ExtB a s.heap (s.heap.update a (Obj.mapSeq fun _ => (#[] : Array Value))) := fun b o hb q => (Heap.get?_update_ne _ _ _ _ hb).trans q
  have big : ∀ k, k < 64 → k ≤ sizeLine := fun k hk => by rw [sizeLine_eq]; omega
  rw [list_sort_plain]
  refine wpAny_bind (listItems_at ho rfl (wpAny_bind (listUpdate_at ho rfl ?_ (by rw [List.size_toArray]; exact big _ h64) (Nat.zero_le _))))
  refine wpAny_bind (seqEpoch_at ho1 rfl (wpAny_bind (wpAny_newTuple ?_ (big _ h64))))
  refine wpAny_bind (wpAny_newList (wpAny_holding ?_) (Nat.zero_le _))
  dsimp only
  generalize hH : ((s.heap.update a (Obj.mapSeq fun _ => (#[] : Array Value))).push (seqObj "tuple" vs.toArray 0)).push (seqObj "list" #[] 0) = H2
  have ho2 : H2.get? a = some (seqObj "list" #[] e1) := by
    rw [← hH]
    exact Heap.get?_push_of_some _ (Heap.get?_push_of_some _ ho1)
  have x2 : ExtB a s.heap H2 := fun b o hb q => by
    rw [← hH]
    exact Heap.get?_push_of_some _ (Heap.get?_push_of_some _ (x1 b o hb q))
  have tail : ∀ (x : Unit × SortSt) (out : List Value), (arrOf x.2).map (·.2) = out.toArray → failedOf x.2 = none → out.length < 64 → out = srtL Value.none lt vs →
      wpAny (model prog w) A (do
        let now ← seqEpoch a
        Builtin.List.listUpdate (.ref a) fun _ => (arrOf x.2).map (·.2)
        match failedOf x.2 with
        | some er => do
          rule "list.sort.comparison-raised"
          throw er
          if (now != e1) = true then do
            rule "list.sort.modified"
            raiseErrorWords "ValueError" "list modified during sort"
            ret Value.none
          else ret Value.none
        | _ =>
          if (now != e1) = true then do
            rule "list.sort.modified"
            raiseErrorWords "ValueError" "list modified during sort"
            ret Value.none
          else ret Value.none) R E { s with heap := H2 } := fun x out e2 e3 l64 eo => by
    refine wpAny_bind (seqEpoch_at ho2 rfl (wpAny_bind (listUpdate_at ho2 rfl ?_ (Nat.zero_le _) ?_)))
    · rw [e3]
      dsimp only
      rw [if_neg (by simp)]
      obtain ⟨c, hc⟩ : ∃ c, (H2.update a (Obj.mapSeq fun _ => (arrOf x.2).map (·.2))).get? a = some (seqObj "list" ((arrOf x.2).map (·.2)) c) := ⟨_, get?_update_seq ho2 fun _ => (arrOf x.2).map (·.2)⟩
      refine wpAny_pure (h _ c (fun b o hb q => (Heap.get?_update_ne _ _ _ _ hb).trans (x2 b o hb q)) ?_)
      rw [hc, e2, eo]
    · rw [e2, List.size_toArray]
      have := big _ l64
      omega
  by_cases h2 : (vs.toArray.size < 2)
  · rw [if_pos h2, if_pos h2]
    have h2' : vs.length < 2 := by rw [List.size_toArray] at h2; exact h2
    refine wpAny_bind (wpAny_pure (wpAny_bind (wpAny_pure ?_))); refine tail ((), SortSt.mk' general' (vs.toArray.zip vs.toArray) #[] 7 none) vs ?_ rfl h64 (srtL_few _ _ h2').symm
    show (vs.toArray.zip vs.toArray).map (·.2) = vs.toArray
    apply Array.toList_inj.mp
    simp only [Array.toList_map, Array.toList_zip]
    exact List.map_snd_zip (Nat.le_refl _)
  · rw [if_neg h2, if_neg h2]
    have h2' : 2 ≤ vs.length := by rw [List.size_toArray] at h2; omega
    refine wpAny_bind (wpAny_mono (hk h2' { s with heap := H2 } x2 (fun κ' s' => κ' = κ ∧ s' = { s with heap := H2 }) ⟨rfl, rfl⟩) ?_ fun _ _ x => x.elim)
    rintro κ' s' ⟨rfl, rfl⟩
    refine wpAny_bind (wpAny_mono (kat_run (κ := κ') (Q := fun st s' => s' = { s with heap := H2 } ∧ (arrOf st).map (·.2) = List.toArray (srtL Value.none lt vs) ∧ failedOf st = none ∧ (srtL Value.none lt vs).length = vs.length)
      (G := fun p s' => s' = { s with heap := H2 } ∧ p = kRun lt (kas_sort vs.length)) rfl h2' h64 (fun p st s' a1 a2 a3 a4 => ?_) (kRun_wp (fun i j C hi hj hC => hl h2' _ x2 i j C hi hj hC) _ (sort_b (by omega)) fun _ => ⟨rfl, rfl⟩)) ?_ fun _ _ x => x)
    · obtain ⟨b1, b2⟩ := a4
      have e : srtL Value.none lt vs = p.toList.map fun i => vs.getD i Value.none := by
        unfold srtL srtIx
        rw [if_neg (by omega), b2]
      refine ⟨b1, ?_, a3, ?_⟩
      · rw [e]
        exact kat_snds rfl a2
      · rw [e, List.length_map, Array.length_toList, a1]
    · rintro ⟨⟨⟩, st⟩ s' ⟨rfl, b2, b3, b4⟩
      exact tail ((), st) _ b2 b3 (by omega) rfl
end
end L3
namespace L3
open PySem PySem.Spec PyProof.Rows L2 PySem.W
noncomputable def ExtA (h h' : Heap) : Prop := ∀ b o, h.get? b = some o → h'.get? b = some o
section
variable {prog : Program} {w : World} {A : Around} {E : Value → Shared → Prop} {s : Shared} {vs : List Value} {κ : SortKind} {lt : Nat → Nat → Bool}
end
noncomputable def lexLt : List Key → List Key → Bool
  | .inl a :: r, .inl b :: q => if a = b then lexLt r q else decide (a < b)
  | .inr a :: r, .inr b :: q => if a = b then lexLt r q else decide (a.cps.toList < b.cps.toList)
  | _, _ => false
noncomputable def kSh : List Key → List Bool := List.map fun k => match k with
  | .inl _ => true
  | .inr _ => false
theorem eqv_int' (a b : Int) : PyData.eqv (.int a) (.int b) = decide (a = b) := by
  by_cases h : a = b
  · subst h; rw [decide_eq_true rfl]; simp [PyData.eqv]
  · rw [decide_eq_false h]; simp [PyData.eqv, h]
theorem eqv_str' (x y : Str) : PyData.eqv (.str x) (.str y) = decide (x = y) := by
  by_cases h : x = y
  · subst h; rw [decide_eq_true rfl]; simp [PyData.eqv]
  · rw [decide_eq_false h]; simp [PyData.eqv, h]
section
variable {prog : Program} {w : World} {A : Around} {E : Value → Shared → Prop} {s : Shared}
theorem lex_keys {Q : Bool → Shared → Prop} : ∀ (d e : List Key) (us ws : List Value) (i : Nat), Vals (d.map kV) us → Vals (e.map kV) ws → kSh d = kSh e → Q (lexLt d e) s → KatLex prog w A true false Q (us.zip ws) i s
  | [], e, us, ws, i, v1, v2, hs, h => by
    cases v1
    have e0 : e = [] := by
      cases e with
      | nil => rfl
      | cons _ _ => cases hs
    subst e0
    exact kat_nil h
  | .inl a :: r, [], _, _, _, _, _, hs, _ => by cases hs
  | .inr a :: r, [], _, _, _, _, _, hs, _ => by cases hs
  | .inl a :: r, .inr b :: q, _, _, _, _, _, hs, _ => by simp [kSh] at hs
  | .inr a :: r, .inl b :: q, _, _, _, _, _, hs, _ => by simp [kSh] at hs
  | .inl a :: r, .inl b :: q, _, _, i, .cons r1 t1, .cons r2 t2, hs, h => by
    obtain ⟨t, rfl⟩ := r1
    obtain ⟨u, rfl⟩ := r2
    have hs' : kSh r = kSh q := by simpa [kSh] using hs
    unfold lexLt at h
    refine kat_cons (keq_flat (d := .int a) (e := .int b) (fun _ => .int a t) (fun _ => .int b u) prog w _ _ ?_)
    rw [eqv_int']
    by_cases e : a = b
    · rw [if_pos e] at h
      rw [decide_eq_true e]
      exact kat_yes (lex_keys r q _ _ _ t1 t2 hs' h)
    · rw [if_neg e] at h
      rw [decide_eq_false e]
      refine kat_no ?_
      cases i with
      | zero => exact oneLt_int h
      | succ i => exact kat_one _ _ (lt_int h)
  | .inr a :: r, .inr b :: q, _, _, i, .cons r1 t1, .cons r2 t2, hs, h => by
    obtain ⟨t, rfl⟩ := r1
    obtain ⟨u, rfl⟩ := r2
    have hs' : kSh r = kSh q := by simpa [kSh] using hs
    unfold lexLt at h
    refine kat_cons (keq_flat (d := .str a) (e := .str b) (fun _ => .str a t) (fun _ => .str b u) prog w _ _ ?_)
    rw [eqv_str']
    by_cases e : a = b
    · rw [if_pos e] at h
      rw [decide_eq_true e]
      exact kat_yes (lex_keys r q _ _ _ t1 t2 hs' h)
    · rw [if_neg e] at h
      rw [decide_eq_false e]
      refine kat_no ?_
      cases i with
      | zero => exact oneLt_str h
      | succ i => exact kat_one _ _ (lt_str h)
end
noncomputable def ltK (ds : List (List Key)) (i j : Nat) : Bool := lexLt (ds.getD i []) (ds.getD j [])
noncomputable def isI : Key → Bool
  | .inl _ => true
  | .inr _ => false
noncomputable def tyK (b : Bool) : Value := if b = true then .type "int" else .type "str"
theorem kat_of {P : Program} {w : World} {H : Hp} {h h1 : Heap} (ok : HOk P w H h) (x : ExtA h h1) {b : Bool} : ∀ {ts : List Addr} {ds : List (List Key)}, Paired (fun r d => H r = some (.tup (d.map kV))) ts ds → (∀ d ∈ ds, ∃ r, kSh d = b :: r) →
    ∃ fs, KatTups h1 (ts.map Value.ref) fs ∧ fs.length = ts.length ∧ ∀ v ∈ fs, ∃ k : Key, isI k = b ∧ RelV (kV k) v
  | [], [], _, _ => ⟨[], KatTups.nil, rfl, fun _ h => absurd h List.not_mem_nil⟩
  | t :: ts, d :: ds, .cons r q, hd => by
    obtain ⟨fs, k1, k2, k3⟩ := kat_of ok x q fun d' h' => hd d' (.tail _ h')
    obtain ⟨sr, hs⟩ := hd d (.head _)
    obtain ⟨_, its, rv, o, ho, hc, n, hdat⟩ := ok t _ r
    cases d with
    | nil => cases hs
    | cons k d =>
      cases rv with
      | cons rk rr =>
        rename_i f fr
        refine ⟨f :: fs, KatTups.cons (x _ _ ho) hc hdat (by simp) k1, by simp [k2], fun v hv => ?_⟩
        rcases List.mem_cons.mp hv with rfl | hv2
        · refine ⟨k, ?_, rk⟩
          have : kSh (k :: d) = isI k :: kSh d := by cases k <;> rfl
          rw [this] at hs
          exact (List.cons.inj hs).1
        · exact k3 v hv2
  | [], d :: ds, h, _ => nomatch h
  | t :: ts, [], h, _ => nomatch h
section
variable {X : Cx}
theorem bt_sorted : bootBuiltins "sorted" = some (.builtin "sorted") := by decide +kernel
end
end L3
set_option Elab.async false
set_option linter.all false
set_option maxRecDepth 100000
set_option maxHeartbeats 4000000
namespace L3
open PySem PySem.Spec PyProof.Rows L2
noncomputable def DEs (h : Heap) (d : Addr) (es : Array DictEntry) (ep : Nat) : Prop := ∃ o, h.get? d = some o ∧ o.ExactDict ∧ o.data = .dict es ep
section
variable {prog : Program} {w : World} {A : Around} {E : Value → Shared → Prop} {s : Shared} {it d : Addr} {i ep : Nat} {es : Array DictEntry} {ok ov : Value}
end
section
variable {X : Cx} {pins : List (Addr × Obj)} {σ : L2.St} {H : Hp} {s : Shared} {a : Addr} {u u' : HO}
end
section
variable {X : Cx} {elts : List Expr} {k : Nat} {tpos : Pos}
end
end L3
set_option Elab.async false
set_option linter.all false
set_option maxRecDepth 100000
set_option maxHeartbeats 4000000
namespace L3
open PySem PySem.Spec PyProof.Rows L2
section
variable {prog : Program} {w : World} {A : Around} {E : Value → Shared → Prop} {s : Shared} {it d : Addr} {i ep : Nat} {es : Array DictEntry}
theorem nx_key {Q : Option Value → Shared → Prop} (hit : s.heap.IsKeyIter it d i es.size ep) (hd : DEs s.heap d es ep) (hi : i < es.size)
    (hQ : ∀ h', h'.IsKeyIter it d (i + 1) es.size ep → Heap.SameBut it s.heap h' → Q (some es[i].key) { s with heap := h' }) : wpAny (model prog w) A (pyNext (.ref it)) Q E s := by
  obtain ⟨oi, hoi, hci, hdi⟩ := id hit
  obtain ⟨o, ho, _, hdat⟩ := hd
  have T0 := hit.typeIs
  have noNone : ¬ ((Value.ref d == Value.none) = true) := Bool.false_ne_true
  have own : Builtin.Dict_items.ownsTuple "dict_keyiterator" = false := by decide
  unfold pyNext
  refine wpAny_bind (wpAny_attempt (wpAny_callSpecial?_slot (name := Str.ofString "__next__") T0 F.slot_dict_keyiterator_next (wpAny_call_entry F.slot_dict_keyiterator_next T0 F.entry_dict_keyiterator_next ?_ (F.args_dict_keyiterator_next_1 _))))
  refine wpAny_bind (wpAny_pure (wpAny_bind (wpAny_bind ?_)))
  first
  | refine wpAny_bind (wpAny_typeNameOfWhole_keyiter T0 (wpAny_pure (wpAny_bind (wpAny_fieldsOf hoi hdi ?_))))
  | refine wpAny_bind (wpAny_typeNameOf_keyiter T0 (wpAny_pure (wpAny_bind (wpAny_fieldsOf hoi hdi ?_))))
  simp only [own, Bool.false_eq_true, if_false]; change wpAny _ _ (ite ((Value.ref d == Value.none) = true) _ _) _ _ s
  rw [if_neg noNone]
  refine wpAny_bind (wpAny_pure (wpAny_bind (wpAny_dictEntries ho hdat ?_)))
  rw [if_neg (by simp)]
  refine wpAny_bind (wpAny_pure (wpAny_bind (wpAny_dictEpoch ho hdat ?_)))
  rw [if_neg (by simp)]
  refine wpAny_pure ?_
  simp only [show ¬ ((i : Int) < 0) from by omega, if_false, Int.toNat_natCast, Array.getElem?_eq_getElem hi]
  refine wpAny_bind ?_
  first
  | refine wpAny_bind (wpAny_typeNameOfWhole_keyiter T0 (wpAny_pure (wpAny_bind (wpAny_isOneOf_keyiter T0 ?_))))
  | refine wpAny_bind (wpAny_typeNameOf_keyiter T0 (wpAny_pure (wpAny_bind (wpAny_isOneOf_keyiter T0 ?_))))
  change wpAny _ _ (setField (.ref it) 1 (rawInt ((i : Int) + 1)) >>= _) _ _ s
  refine wpAny_bind (wpAny_setField hoi hdi (by simp) ?_)
  have next : (s.heap.update it (Obj.mapFields (·.setIfInBounds 1 (rawInt ((i : Int) + 1))))).IsKeyIter it d (i + 1) es.size ep :=
    ⟨_, Heap.get?_update_self _ hoi (Obj.isFreed_of_fields (Obj.data_mapFields hdi _)), (Obj.cls_mapFields ..).trans hci, by simp [Obj.data_mapFields hdi, rawInt]⟩
  refine wpAny_bind (wpAny_holding (wpAny_bind (wpAny_isOneOf_keyiter (s := { s with heap := s.heap.update it (Obj.mapFields (·.setIfInBounds 1 (rawInt ((i : Int) + 1)))) }) next.typeIs ?_)))
  exact wpAny_pure (wpAny_pure ⟨_, rfl, wpAny_pure (hQ _ next (Heap.SameBut.update ..))⟩)
theorem nx_kend {Q : Option Value → Shared → Prop} (hh : A.handled = none) (hit : s.heap.IsKeyIter it d i es.size ep) (hd : DEs s.heap d es ep) (hi : es.size ≤ i)
    (hQ : ∀ h', Heap.ExtBut it s.heap h' → Q none { s with heap := h' }) :
    wpAny (model prog w) A (pyNext (Value.ref it)) Q E s := by
  obtain ⟨oi, hoi, hci, hdi⟩ := id hit
  obtain ⟨o, ho, _, hdat⟩ := hd
  have T0 := hit.typeIs
  have noNone : ¬ ((Value.ref d == Value.none) = true) := Bool.false_ne_true
  have own : Builtin.Dict_items.ownsTuple "dict_keyiterator" = false := by decide
  unfold pyNext
  refine wpAny_bind (wpAny_attempt (wpAny_callSpecial?_slot (name := Str.ofString "__next__") T0 F.slot_dict_keyiterator_next (wpAny_call_entry F.slot_dict_keyiterator_next T0 F.entry_dict_keyiterator_next ?_ (F.args_dict_keyiterator_next_1 _))))
  refine wpAny_bind (wpAny_pure (wpAny_bind (wpAny_bind ?_)))
  first
  | refine wpAny_bind (wpAny_typeNameOfWhole_keyiter T0 (wpAny_pure (wpAny_bind (wpAny_fieldsOf hoi hdi ?_))))
  | refine wpAny_bind (wpAny_typeNameOf_keyiter T0 (wpAny_pure (wpAny_bind (wpAny_fieldsOf hoi hdi ?_))))
  simp only [own, Bool.false_eq_true, if_false]; change wpAny _ _ (ite ((Value.ref d == Value.none) = true) _ _) _ _ s
  rw [if_neg noNone]
  refine wpAny_bind (wpAny_pure (wpAny_bind (wpAny_dictEntries ho hdat ?_)))
  rw [if_neg (by simp)]
  refine wpAny_bind (wpAny_pure (wpAny_bind (wpAny_dictEpoch ho hdat ?_)))
  rw [if_neg (by simp)]
  refine wpAny_pure ?_
  simp only [show ¬ ((i : Int) < 0) from by omega, if_false, Int.toNat_natCast, Array.getElem?_eq_none hi]
  refine wpAny_bind ?_
  first
  | refine wpAny_bind (wpAny_typeNameOfWhole_keyiter T0 (wpAny_pure ?_))
  | refine wpAny_bind (wpAny_typeNameOf_keyiter T0 (wpAny_pure ?_))
  change wpAny _ _ (setField (.ref it) 0 Value.none >>= _) _ _ s; refine wpAny_bind (wpAny_setField hoi hdi (by simp) ?_)
  change wpAny _ _ (newExc (.type "StopIteration") [] >>= _) _ _ _; refine wpAny_bind ?_
  simp only [newExc, newTuple]; refine wpAny_bind (wpAny_newObj_type ?_ (by size_fits))
  refine wpAny_bind (m := firstArgMember _ _) (wpAny_of_eq (a := Value.none) (by first | rfl | (simp only [firstArgMember]; rfl)) (wpAny_newObj_type ?_ (by size_fits)))
  have hin : A.in1.handled = none := hh
  simp only [raiseNew]; refine wpAny_bind (wpAny_handled ?_)
  rw [hin]; refine wpAny_bind (wpAny_pure (wpAny_throw ?_))
  refine wpAny_bind (wpAny_isInstance (b := true) (T := "StopIteration") ⟨_, Heap.get?_push_size _ rfl, rfl⟩ isSubtype_stop ?_)
  exact wpAny_pure (hQ _ (Heap.ExtBut.push (Heap.ExtBut.push (Heap.SameBut.extBut (Heap.SameBut.update ..)) _) _))
theorem it_keys {Q : Value → Shared → Prop} (hs : (d == sysModules) = false) (hd : DEs s.heap d es ep)
    (hQ : Q (.ref s.heap.objs.size) { s with heap := s.heap.push { cls := .type "dict_keyiterator", data := .fields #[.ref d, .int 0 0, .int es.size 0, .int ep 0] } }) : wpAny (model prog w) A (pyIter (.ref d)) Q E s := by
  obtain ⟨o, ho, hx, hdat⟩ := hd
  have T0 : s.TypeIs (.ref d) "dict" := ⟨o, ho, hx.1⟩
  refine wpAny_pyIter_slot T0 F.slot_dict_iter (wpAny_call_entry F.slot_dict_iter T0 F.entry_dict_iter ?_ (F.args_dict_iter_1 _))
  unfold Builtin.«dict.__iter__» Builtin.Dict.dictSlotNone; refine wpAny_bind (wpAny_bind (wpAny_notOrdered_dict T0 ?_))
  change wpAny _ _ (pure (Value.ref d)) _ _ s; refine wpAny_pure ?_
  change wpAny _ _ (Builtin.Dict.showsAll d >>= _) _ _ s; unfold Builtin.Dict.showsAll
  rw [if_neg (by rw [hs]; exact Bool.false_ne_true)]
  refine wpAny_bind (wpAny_pure (wpAny_bind (wpAny_dictEntries ho hdat (wpAny_bind (wpAny_dictEpoch ho hdat ?_)))))
  refine wpAny_bind (wpAny_newObj_type ?_)
  refine wpAny_pure ⟨_, rfl, "dict_keyiterator", _, ⟨_, Heap.get?_push_size _ rfl, rfl⟩, F.slot_dict_keyiterator_next.lookup, ?_⟩
  simpa [rawInt] using hQ
end
section
variable {X : Cx} {tg : Expr}
end
end L3
namespace L3
open PySem PySem.Spec PyProof.Rows L2
section
variable {prog : Program} {w : World} {K : Type} [DecidableEq K] {knd : HeapKind prog w K} {A : Around} {E : Value → Shared → Prop} {s : Shared}
end
section
variable {X : Cx} {o e f : Expr} {td ty tx : TE} {apos cpos : Pos}
end
end L3
set_option Elab.async false
set_option linter.all false
set_option maxRecDepth 100000
set_option maxHeartbeats 4000000
namespace L3
open PySem PySem.Spec PyProof.Rows L2
section
variable {prog : Program} {w : World} {K : Type} [DecidableEq K] {knd : HeapKind prog w K} {A : Around} {E : Value → Shared → Prop} {s : Shared}
theorem setDefault_heap {d a : Addr} {xs : List (K × Addr × Value)} {k : K} {v : Value} {Q : Value → Shared → Prop} (hu : knd.room A) (hkey : knd.is s.heap k a) (hm : s.heap.DictOfH knd d xs) (hz : xs.length ≤ sizeLine)
    (hold : ∀ p, atKey xs k = some p → Q p.2 { s with toks := s.toks + knd.draws k })
    (hnew : atKey xs k = none → ∀ h', h'.DictOfH knd d (storedH xs k a v) → Heap.SameBut d s.heap h' → Q v { s with heap := h', toks := s.toks + knd.draws k }) :
    wpAny (model prog w) A (dictSetDefault d (.ref a) v) Q E s := by
  obtain ⟨o, es, ep, ho, hc, hd, he, his, hn⟩ := hm
  unfold dictSetDefault
  try with_reducible refine wpAny_holding ?_
  refine wpAny_bind (knd.pyHash hu hkey ?_)
  refine wpAny_bind (wpAny_dictFind_heap (s := { s with toks := s.toks + knd.draws k }) hu hkey ho hd he his hn ?_ ?_)
  · intro hno
    have hnot : k ∉ xs.map (·.1) := not_mem_keys_of_get hno
    refine wpAny_bind (wpAny_rule (wpAny_bind (wpAny_updateDictKeys (hz := by have e := size_of_entries he; omega) (s := { s with toks := s.toks + knd.draws k }) ho hd (wpAny_pure (hnew (atKey_none_of_get hno) _ ⟨_, _, ep + 1, Heap.get?_update_self _ ho (Obj.isFreed_of_dict (Obj.data_mapDictKeys hd _)),
      hc.mapDictKeys _, Obj.data_mapDictKeys hd _, ?_, ?_, ?_⟩ (Heap.SameBut.update ..))))))
    · rw [storedH_new (atKey_none_of_get hno)]
      simp [he, entryOfKey]
    · rw [storedH_new (atKey_none_of_get hno)]
      intro x hx
      rcases List.mem_append.mp hx with hx | hx
      · exact knd.keeps (his x hx) ho hd (Heap.SameBut.update ..)
      · simp only [List.mem_singleton] at hx
        subst hx
        exact knd.keeps hkey ho hd (Heap.SameBut.update ..)
    · rw [storedH_new (atKey_none_of_get hno)]
      rw [List.map_append, List.nodup_append]
      refine ⟨hn, by simp, ?_⟩
      intro x hx y hy
      simp only [List.map_cons, List.map_nil, List.mem_singleton] at hy
      subst hy
      exact fun e => hnot (e ▸ hx)
  · intro j p hj
    refine wpAny_bind (wpAny_dictEntries (s := { s with toks := s.toks + knd.draws k }) ho hd ?_)
    rw [entry_at he j, hj]
    exact wpAny_bind (wpAny_rule (wpAny_pure (hold p (atKey_of_get hn hj))))
theorem sd_call {d a : Addr} {xs : List (K × Addr × Value)} {k : K} {v : Value} {Q : Value → Shared → Prop} (hs : (d == sysModules) = false) (hu : knd.room A.in1) (hkey : knd.is s.heap k a) (hm : s.heap.DictOfH knd d xs) (hz : xs.length ≤ sizeLine)
    (hold : ∀ p, atKey xs k = some p → ∀ t, Q p.2 { s with toks := t })
    (hnew : atKey xs k = none → ∀ h' t, h'.DictOfH knd d (storedH xs k a v) → Heap.SameBut d s.heap h' → Q v { s with heap := h', toks := t }) :
    wpAny (model prog w) A (call (.builtin "dict.setdefault") [.ref d, .ref a, v]) Q E s := by
  obtain ⟨o, es, ep, ho, hc, hd, he, his, hn⟩ := id hm
  have T0 : s.TypeIs (.ref d) "dict" := ⟨o, ho, hc.1⟩
  refine wpAny_call_entry F.slot_dict_setdefault T0 F.entry_dict_setdefault ?_ (F.args_dict_setdefault_3 _ _ _)
  unfold Builtin.«dict.setdefault» Builtin.Dict.keyAndDefault
  refine wpAny_bind (wpAny_bind (wpAny_notOrdered_dict T0 ?_))
  change wpAny _ _ (pure (d, Value.ref a, some v)) _ _ s; refine wpAny_pure ?_
  dsimp only
  rw [if_neg (by rw [hs]; exact Bool.false_ne_true)]
  refine wpAny_bind (setDefault_heap (v := v) hu hkey hm hz (fun p hp => wpAny_pure ⟨_, rfl, hold p hp _⟩) fun h0 h' dd hb => wpAny_pure ⟨_, rfl, hnew h0 h' _ dd hb⟩)
end
section
variable {X : Cx} {o e f : Expr} {td ty tx : TE} {apos cpos : Pos}
noncomputable def tSDefT (td ty tx : TE) : TE := fun σ H Q => td σ H fun x H1 => ∃ a, x = .ref a ∧ IsD H1 a ∧ ty σ H1 fun y H2 => tx σ H2 fun z H3 => ∃ kvs k b, y = .ref b ∧ H3 a = some (.dT kvs) ∧ kvs.length < sizeLine ∧ H3 b = some (.tup (k.map kV)) ∧
  (∀ v, valV kvs k = some v → Q v H3) ∧ (valV kvs k = none → Q z (upd H3 a (.dT (putK kvs k z))))
theorem pe_sdefT (hu : X.A.units + 1 < cLine) (ho : PE X o td) (he : PE X e ty) (hf : PE X f tx) (m : M2 X o "setdefault" apos e f cpos) : PE X (.Call (.Attribute o "setdefault" apos) [e, f] [] cpos) (tSDefT td ty tx) := by
  intro pins s σ H Q I h
  refine wpAny_Call_method m.base m.few m.line PySem.F.plainAttrs_dict PySem.F.slot_dict_setdefault PySem.F.type_dict_setdefault (thn (ho pins s σ H _ I h) fun u s1 ⟨x, H1, I1, rx, a, ex, d, q1⟩ => ?_)
  subst ex
  obtain rfl : u = Value.ref a := rx
  obtain ⟨t1, t2, _⟩ := isD_at I1 d
  refine ⟨t1, t2, ?_⟩
  rw [m.trees]
  refine Calls.callWith_builtin rfl (Calls.evalArgs_plain (Calls.spliced_cons (thn (he pins s1 σ H1 _ I1 q1) fun iv s2 ⟨y, H2, I2, ry, q2⟩ => Calls.spliced_cons (thn (hf pins s2 σ H2 _ I2 q2) fun fv s3 ⟨z, H3, I3, rz, kvs, k, b, ey, ea, lk, eb, q, q'⟩ => Calls.spliced_nil ?_))))
  subst ey
  obtain rfl : iv = Value.ref b := ry
  obtain ⟨zl, hs, xs, rel, dd⟩ := dt_of I3.hok ea
  have hzl : xs.length ≤ sizeLine := by rw [← Paired.length rel]; exact zl
  have r0 := KT.val rel k
  refine sd_call (knd := tupleKind (mixKind X.prog X.w)) hs (tupleKind_room_in1 hu) (key_of I3.hok eb) dd hzl (fun p hp t => ?_) fun h0 h' t dd' hsb => ?_
  · rw [hp] at r0
    cases ev : valV kvs k with
    | none => rw [ev] at r0; exact r0.elim
    | some v1 =>
      rw [ev] at r0
      exact ⟨v1, H3, I3.tok t, r0, q v1 ev⟩
  · have v0 : valV kvs k = none := by
      rw [h0] at r0
      cases ev : valV kvs k with
      | none => rfl
      | some v => rw [ev] at r0; exact r0.elim
    have hl : (putK kvs k z).length ≤ sizeLine := by have := length_putK kvs k z; omega
    obtain ⟨ob, es, ep, hq, h2, h3, h4, _, h5⟩ := dd'
    refine ⟨z, _, d_write (t' := t) (ob := .dT (putK kvs k z)) I3 (by rw [ea]; exact True.intro) hsb ⟨ob, hq⟩ ⟨hl, hs, _, (rel.put k eb rz).keeps fun c ys ec => ?_, ob, es, ep, hq, h2, h3, h4, h5⟩, rz, q' v0⟩
    rw [upd_ne (ne_of ec ea (fun z => nomatch z))]
    exact ec
end
end L3
set_option Elab.async false
set_option linter.all false
set_option maxRecDepth 100000
set_option maxHeartbeats 4000000
namespace L3
open PySem PySem.Spec PyProof.Rows L2 PySem.W
section
variable {prog : Program} {w : World} {A : Around} {E : Value → Shared → Prop} {s : Shared} {d : Addr} {ep : Nat} {es : Array DictEntry}
theorem DEs.lt {h : Heap} (x : DEs h d es ep) : d < h.objs.size := let ⟨_, ho, _⟩ := x; Heap.lt_size ho
theorem DEs.at' {h h' : Heap} (x : DEs h d es ep) (k : ∀ o, h.get? d = some o → h'.get? d = some o) : DEs h' d es ep := let ⟨o, ho, r⟩ := x; ⟨o, k o ho, r⟩
theorem walks_keys (hh : A.handled = none) (I : Addr) (hne : d ≠ I) : Walks prog w A I [I, d] [I] es.size (fun i v => ∃ e, es[i]? = some e ∧ v = e.key) (fun i h => h.IsKeyIter I d i es.size ep ∧ DEs h d es ep) where
  sub := fun b hb => by simp at hb; simp [hb]
  frame := fun _ _ _ st hk => ⟨st.1.at fun o e => hk I (by simp) o e, st.2.at' fun o e => hk d (by simp) o e⟩
  item := fun i s Q E hi st hQ => by
    refine nx_key st.1 st.2 hi fun h' st' sb => hQ _ h' s.toks ⟨es[i], by simp [hi], rfl⟩ ⟨st', st.2.at' fun o e => (sb.2 d hne).trans e⟩ fun b o hb e => (sb.2 b (fun z => hb (by simp [z]))).trans e
  done := fun s Q E st hQ => nx_kend hh st.1 st.2 (Nat.le_refl _) fun h' eb => hQ h' s.toks fun b o hb e => eb b o (fun z => hb (by simp [z])) e
  self := fun _ _ _ _ st hQ => wpAny_pyIter_keyiter st.1 hQ
theorem src_keys (lo : (d == sysModules) = false) : KdlSrc prog w "dict" d d es.size (fun i v => ∃ e, es[i]? = some e ∧ v = e.key) (fun h => DEs h d es ep) where
  type := fun _ hm => let ⟨o, ho, hx, _⟩ := hm; ⟨o, ho, hx.1⟩
  there := fun _ hm => ⟨hm.lt, hm.lt⟩
  keep := fun _ _ hm hk => hm.at' fun o e => hk d (.inl rfl) o e
  notList := by decide
  notTuple := by decide
  hint := fun _ _ _ _ hm hq => kdl_hint_dict (let ⟨o, ho, hx, _⟩ := hm; ⟨o, ho, hx.1⟩) hq
  iter := fun _ s hh hm => ⟨_, _, (fun _ _ hq => it_keys lo hm hq), walks_keys hh _ (Nat.ne_of_lt hm.lt), ⟨⟨_, Heap.get?_push_size _ rfl, rfl, rfl⟩, hm.at' fun o e => Heap.get?_push_of_some _ e⟩⟩
theorem sorted_src {vs : List Value} {κ : SortKind} {lt : Nat → Nat → Bool} {Q : Value → Shared → Prop} (lo : (d == sysModules) = false) (hh : A.handled = none) (hm : DEs s.heap d es ep) (hv : vs = es.toList.map (·.key)) (h64 : vs.length < 64)
    (hk : 2 ≤ vs.length → ∀ s1 : Shared, ExtA s.heap s1.heap → ∀ Q : SortKind → Shared → Prop, Q κ s1 → wpAny (model prog w) A.in1.in1 (keyKind' vs.toArray) Q (fun _ _ => False) s1)
    (ha : 2 ≤ vs.length → ∀ s1 : Shared, ExtA s.heap s1.heap → ∀ i j C, i < vs.length → j < vs.length → C (lt i j) s1 → kas_ask prog w A.in1.in1 κ vs i j C s1)
    (h : ∀ h1 D h' t c, ExtA s.heap h1 → h1.objs.size ≤ D → ExtA h1 h' → h'.get? D = some (seqObj "list" (List.toArray (srtL Value.none lt vs)) c) → Q (.ref D) { s with heap := h', toks := t }) :
    wpAny (model prog w) A (call (.builtin "sorted") ([.ref d] : List Value)) Q E s := by
  have big : vs.length ≤ sizeLine := by rw [sizeLine_eq]; omega
  have hes : es.size = vs.length := by rw [hv, List.length_map, Array.length_toList]
  refine Calls.call_function_entry kind_sorted plain_sorted entry_sorted (args_sorted1 (.ref d)) ?_; unfold Builtin.«sorted»
  refine wpAny_bind (m := checkCount "sorted" 1 1 _) (wpAny_pure ?_)
  refine wpAny_bind (kdu_collect (A := A.in1) (src_keys (ep := ep) (es := es) lo) hh hm (by rw [hes]; exact big) fun h1 tk acc x1 hacc => ?_)
  have ea : acc.toList = vs := by
    apply List.ext_getElem?
    intro j
    rw [hv, List.getElem?_map]
    by_cases hj : j < es.size
    · have hja : j < acc.size := by rw [hacc.1]; exact hj
      obtain ⟨e, e1, e2⟩ := hacc.2 j acc[j] (by simp [hja])
      rw [Array.getElem?_toList, Array.getElem?_toList, e1, Array.getElem?_eq_getElem hja]
      exact congrArg some e2
    · rw [Array.getElem?_toList, Array.getElem?_toList, Array.getElem?_eq_none (by rw [hacc.1]; omega), Array.getElem?_eq_none (by omega)]
      rfl
  rw [ea]
  refine wpAny_bind (wpAny_newList ?_ big)
  have hD : (h1.push (seqObj "list" vs.toArray 0)).get? h1.objs.size = some (seqObj "list" vs.toArray 0) := Heap.get?_push_size _ rfl
  have x2 : ExtA s.heap (h1.push (seqObj "list" vs.toArray 0)) := fun b o q => Heap.get?_push_of_some _ (x1 b o q)
  have x3 : ∀ h', ExtB h1.objs.size (h1.push (seqObj "list" vs.toArray 0)) h' → ExtA s.heap h' := fun h' x b o q => x b o (Nat.ne_of_lt (Heap.lt_size (x1 b o q))) (x2 b o q)
  have x4 : ∀ h', ExtB h1.objs.size (h1.push (seqObj "list" vs.toArray 0)) h' → ExtA h1 h' := fun h' x b o q => x b o (Nat.ne_of_lt (Heap.lt_size q)) (Heap.get?_push_of_some _ q)
  refine wpAny_bind (wpAny_holding (wpAny_call_entry slot_list_sort ⟨_, hD, rfl⟩ entry_list_sort ?_ (args_list_sort _)))
  refine sort_at (s := { s with heap := h1.push (seqObj "list" vs.toArray 0), toks := tk }) (κ := κ) (lt := lt) hD h64 (fun h2 s1 x => hk h2 s1 (x3 _ x)) (fun h2 s1 x => ha h2 s1 (x3 _ x)) fun h' c x hc => ?_
  exact ⟨_, rfl, wpAny_pure ⟨_, rfl, h h1 _ h' _ c x1 (Nat.le_refl _) (x4 _ x) hc⟩⟩
end
theorem vals_of_refs : ∀ ts : List Addr, Vals (ts.map V.ref) (ts.map Value.ref)
  | [] => .nil
  | _ :: ts => .cons rfl (vals_of_refs ts)
section
variable {X : Cx}
theorem call_sortedD (hc : X.calm = true) : CallR X (.builtin "sorted") (fun xs H Q => ∃ (p : Addr) (kvs : List (List Key × V)) (b : Bool) (sh : List Bool), xs = [.ref p] ∧ H p = some (.dT kvs) ∧ kvs.length < 64 ∧ (∀ q ∈ kvs, kSh q.1 = b :: sh) ∧
    ∀ (ts : List Addr) (l : Addr), H l = none → Paired (fun r k => H r = some (.tup (k.map kV))) ts (kvs.map (·.1)) → Q (.ref l) (upd H l (.lst (srtL .non (ltK (kvs.map (·.1))) (ts.map V.ref))))) := by
  intro pins s σ H xs us Q I r h
  obtain ⟨p, kvs, b, sh, rfl, hp, h64, hsh, q⟩ := h
  obtain ⟨u, rfl, ru⟩ := vals1 r
  cases ru
  have hh : X.A.handled = none := I.ok.hd hc
  obtain ⟨zl, lo, ys, rel, o, es, ep, ho, hx, hd, he, his, hn⟩ := dt_of I.hok hp
  have hl := Paired.length rel
  have tp : Paired (fun r k => H r = some (.tup (k.map kV))) (ys.map (·.2.1)) (kvs.map (·.1)) := by
    clear he his hn zl h64 hsh q hl hp
    induction rel with
    | nil => exact .nil
    | cons a t ih => exact .cons a.2.1 ih
  have ev : es.toList.map (·.key) = (ys.map (·.2.1)).map Value.ref := by
    rw [he, List.map_map, List.map_map]
    rfl
  generalize hts : ys.map (·.2.1) = ts at tp ev
  have tl : ts.length = kvs.length := by rw [← hts, List.length_map, hl]
  generalize hds : kvs.map (·.1) = ds at tp
  have hshd : ∀ d ∈ ds, kSh d = b :: sh := fun d hd => by
    rw [← hds] at hd
    obtain ⟨q, hq, rfl⟩ := List.mem_map.mp hd
    exact hsh q hq
  have dlen : ts.length = ds.length := Paired.length tp
  have h64t : ts.length < 64 := by rw [tl]; exact h64
  have at_ : ∀ i, i < ts.length → ∃ d its, (ts.map Value.ref).getD i Value.none = .ref ts[i]! ∧ ds.getD i [] = d ∧ kSh d = b :: sh ∧ Vals (d.map kV) its ∧ IsTup s.heap ts[i]! its.toArray := fun i hi => by
    have e1 : ts[i]? = some ts[i] := List.getElem?_eq_getElem hi
    have e3 : ts[i]! = ts[i] := by simp [hi]
    obtain ⟨d, e2, hp⟩ : ∃ d, ds[i]? = some d ∧ H ts[i] = some (.tup (d.map kV)) := by
      have : ∀ {l : List Addr} {m : List (List Key)} {k : Nat} {x : Addr}, Paired (fun r d => H r = some (.tup (d.map kV))) l m → l[k]? = some x → ∃ y, m[k]? = some y ∧ H x = some (.tup (y.map kV)) := fun {l m k x} P => by
        induction P generalizing k with
        | nil => intro h; simp at h
        | cons a t ih =>
          cases k with
          | zero => intro h1; simp at h1; subst h1; exact ⟨_, rfl, a⟩
          | succ k => intro h1; simp at h1; simpa using ih h1
      exact this tp e1
    obtain ⟨_, its, v1, t1⟩ := I.hok _ _ hp
    refine ⟨d, its, ?_, ?_, hshd _ (List.mem_of_getElem? e2), v1, ?_⟩
    · rw [List.getD, List.getElem?_map, e1, e3]; rfl
    · rw [List.getD, e2]; rfl
    · rw [e3]; exact t1
  refine sorted_src (κ := tuples' true) (lt := ltK ds) lo hh ⟨o, ho, hx, hd⟩ ev.symm (by rw [List.length_map]; exact h64t) (fun h2 s1 x Q' hQ => ?_) (fun h2 s1 x i j C hi hj hC => ?_) fun h1 D h' t c x1 hle x hc => ?_
  · obtain ⟨fs, k1, k2, k3⟩ := kat_of I.hok x tp fun d hd => ⟨sh, hshd d hd⟩
    rw [List.length_map] at h2
    refine kat_kind (T := tyK b) k1 (by omega) (fun v hv => ?_) (by cases b <;> decide +kernel) ?_
    · obtain ⟨k, ek, rk⟩ := k3 v hv
      subst ek
      cases k with
      | inl i => obtain ⟨t, rfl⟩ := rk; exact Looks.of_pure rfl
      | inr i => obtain ⟨t, rfl⟩ := rk; exact Looks.of_pure rfl
    · have e : (tyK b != Value.type "tuple") = true := by cases b <;> decide +kernel
      rw [e]
      exact hQ
  · rw [List.length_map] at hi hj
    obtain ⟨d, its, a1, a2, a3, a4, o, ho, _, n, hdat⟩ := at_ i hi
    obtain ⟨d', its', b1, b2, b3, b4, o', ho', _, n', hdat'⟩ := at_ j hj
    unfold kas_ask
    rw [a1, b1]
    have l1 := a4.length
    have l2 := b4.length
    rw [List.length_map] at l1 l2
    have l3 : d.length = d'.length := by
      have e := congrArg List.length (a3.trans b3.symm)
      simpa [kSh] using e
    refine kat_lt (b := true) (x _ _ ho) hdat (x _ _ ho') hdat' ?_
    rw [decide_eq_false (by rw [List.size_toArray, List.size_toArray]; omega)]
    refine lex_keys d d' its its' 0 a4 b4 (a3.trans b3.symm) ?_
    have : ltK ds i j = lexLt d d' := by unfold ltK; rw [a2, b2]
    rw [← this]
    exact hC
  · have I1 : Inv X pins σ H { s with heap := h1, toks := t } := I.kept (t' := t) fun b o e => x1 b o e
    refine ⟨.ref D, _, I1.laid (a := D) (o := .lst (srtL .non (ltK ds) (ts.map V.ref))) (t' := t) (fun b o q => x b o q) hle ?_, rfl, hds ▸ q ts D (I1.hok.fresh hle) (hds ▸ tp)⟩
    refine ⟨?_, _, c, srtL_vals (vals_of_refs ts), hc⟩
    rw [srtL_len, List.length_map, sizeLine_eq]
    omega
end
end L3
set_option Elab.async false
set_option linter.all false
set_option maxRecDepth 100000
set_option maxHeartbeats 4000000
namespace L3
open PySem PySem.Spec PyProof.Rows L2 PySem.W
section
variable {prog : Program} {w : World} {A : Around} {E : Value → Shared → Prop} {s : Shared}
theorem le_pair {a b : Addr} {i1 i2 j1 j2 : Int} {t1 t2 u1 u2 : Tok} {Q : Value → Shared → Prop} (hx : IsTup s.heap a #[.int i1 t1, .int i2 t2]) (hy : IsTup s.heap b #[.int j1 u1, .int j2 u2]) (hu : A.units < cLine)
    (h : Q (.bool (if i1 = j1 then decide (i2 ≤ j2) else decide (i1 ≤ j1))) s) : wpAny (model prog w) A (compareOp .LtE (.ref a) (.ref b)) Q E s := by
  obtain ⟨oa, hoa, hca, na, hda⟩ := hx
  obtain ⟨ob, hob, hcb, nb, hdb⟩ := hy
  have Ta : s.TypeIs (.ref a) "tuple" := ⟨oa, hoa, hca⟩
  have Tb : s.TypeIs (.ref b) "tuple" := ⟨ob, hob, hcb⟩
  show wpAny _ _ (richCompare .LtE (.ref a) (.ref b)) _ _ _
  refine wpAny_richCompare_same_room (op := .LtE) Ta Tb F.slot_tuple_le (wpAny_call_entry F.slot_tuple_le Ta F.entry_tuple_le ?_ (F.args_tuple_le_2 _ _)) hu
  show wpAny _ _ (isInstance (.ref b) (.type "tuple") >>= _) _ _ s
  refine wpAny_bind (wpAny_isInstance Tb isSubtype_tuple_tuple ?_)
  simp only [Bool.not_true, Bool.false_eq_true, if_false]
  refine wpAny_bind (wpAny_tupleItemsOf hoa hda ?_)
  refine wpAny_bind (wpAny_tupleItemsOf hob hdb ?_)
  refine wpAny_bind ?_
  simp only [List.zip_cons_cons, List.zip_nil_left, List.forIn_cons, List.forIn_nil]
  refine wpAny_bind (wpAny_bind (wpAny_eqBool_int ?_))
  by_cases e1 : i1 = j1
  · rw [if_pos e1] at h
    have b1 : (i1 == j1) = true := by simp [e1]
    rw [b1]
    simp only [Bool.not_true, Bool.false_eq_true, if_false]
    refine wpAny_pure (wpAny_bind (wpAny_bind (wpAny_eqBool_int ?_)))
    by_cases e2 : i2 = j2
    · have b2 : (i2 == j2) = true := by simp [e2]
      rw [b2]
      simp only [Bool.not_true, Bool.false_eq_true, if_false]
      refine wpAny_pure (wpAny_pure ?_)
      refine wpAny_pure ⟨_, rfl, (fun z => nomatch z), ?_⟩
      rw [decide_eq_true (by omega)] at h
      exact h
    · have b2 : (i2 == j2) = false := by simp [e2]
      rw [b2]
      simp only [Bool.not_false, if_true]
      refine wpAny_bind (wpAny_rule (wpAny_bind ?_))
      show wpAny _ _ (compareOp .LtE (Value.int i2 t2) (Value.int j2 u2)) _ _ _
      exact le_int (wpAny_bind (wpAny_pure (wpAny_pure (wpAny_pure (wpAny_pure ⟨_, rfl, (fun z => nomatch z), h⟩)))))
  · rw [if_neg e1] at h
    have b1 : (i1 == j1) = false := by simp [e1]
    rw [b1]
    simp only [Bool.not_false, if_true]
    refine wpAny_bind (wpAny_rule (wpAny_bind ?_))
    show wpAny _ _ (compareOp .LtE (Value.int i1 t1) (Value.int j1 u1)) _ _ _
    exact le_int (wpAny_bind (wpAny_pure (wpAny_pure (wpAny_pure (wpAny_pure ⟨_, rfl, (fun z => nomatch z), h⟩)))))
end
section
variable {X : Cx}
theorem op_leT (hu : X.A.units < cLine) : OpR X (compareOp .LtE) (fun x y H Q => ∃ a b i1 i2 j1 j2, x = .ref a ∧ y = .ref b ∧ SqT X.K H a [.int i1, .int i2] ∧ SqT X.K H b [.int j1, .int j2] ∧ Q (.bl (if i1 = j1 then decide (i2 ≤ j2) else decide (i1 ≤ j1))) H) := by
  intro pins s σ H x y v u Q I rx ry h
  obtain ⟨a, b, i1, i2, j1, j2, rfl, rfl, ha, hb, q⟩ := h
  cases rx
  cases ry
  obtain ⟨xs, r1, t1, _⟩ := I.tuple ha
  obtain ⟨ys, r2, t2, _⟩ := I.tuple hb
  cases r1 with
  | cons p1 r1 =>
    cases r1 with
    | cons p2 r1 =>
      cases r1
      cases r2 with
      | cons q1 r2 =>
        cases r2 with
        | cons q2 r2 =>
          cases r2
          obtain ⟨_, rfl⟩ := p1
          obtain ⟨_, rfl⟩ := p2
          obtain ⟨_, rfl⟩ := q1
          obtain ⟨_, rfl⟩ := q2
          exact le_pair t1 t2 hu (fin_bl I q rfl)
theorem call_tuple_ofK {K : PySem.W.Frag} (hK : X.K = K) : CallR X (.type "tuple") (fun xs H Q => ∃ p ys, xs = [.ref p] ∧ ((SqL K H p ys ∧ ∀ l, H l = none → Q (.ref l) (upd H l (.tup ys))) ∨ (SqT K H p ys ∧ Q (.ref p) H))) := by
  subst hK
  exact call_tuple_of
end
end L3
set_option Elab.async false
set_option linter.all false
set_option maxRecDepth 100000
set_option maxHeartbeats 4000000
namespace K1
open PySem L2 L3 M1
noncomputable abbrev Kt := Int × Nat
noncomputable def rd0 : M1.Rd := ⟨0, 0, 0, 0⟩
noncomputable def rBeg (hs : List (List Nat)) (ds : List M1.Rd) (r : Nat) : Str := S (hs.getD (ds.getD r rd0).a [])
noncomputable def rFin (hs : List (List Nat)) (ds : List M1.Rd) (r : Nat) : Str := S (hs.getD (ds.getD r rd0).b [])
noncomputable def rTn (ds : List M1.Rd) (r : Nat) : Int := (ds.getD r rd0).t
noncomputable def rRm (ds : List M1.Rd) (r : Nat) : Int := (ds.getD r rd0).m
noncomputable def stepK (hs : List (List Nat)) (ds : List M1.Rd) (k : Kt) : Step := ⟨k.1, some k.2, rFin hs ds k.2, k.1 + rTn ds k.2⟩
noncomputable def addAt (st : Step) (ns : List Nat) (sss : List (List Step)) : List (List Step) := sss.mapIdx fun i ss => if i ∈ ns then ss ++ [st] else ss
theorem addAt_len (st : Step) (ns : List Nat) (sss : List (List Step)) : (addAt st ns sss).length = sss.length := by
  unfold addAt
  rw [List.length_mapIdx]
theorem addAt_get (st : Step) (ns : List Nat) (sss : List (List Step)) (i : Nat) : (addAt st ns sss)[i]? = (sss[i]?).map fun ss => if i ∈ ns then ss ++ [st] else ss := by
  unfold addAt
  rw [List.getElem?_mapIdx]
theorem addAt_nil (st : Step) (sss : List (List Step)) : addAt st [] sss = sss := by
  apply List.ext_getElem?
  intro i
  rw [addAt_get]
  simp
theorem addAt_snoc (st : Step) {ns : List Nat} {n : Nat} (h : n ∉ ns) {sss : List (List Step)} {ss : List Step} (e : sss[n]? = some ss) : addAt st (ns ++ [n]) sss = (addAt st ns sss).set n (ss ++ [st]) := by
  apply List.ext_getElem?
  intro i
  rw [addAt_get, List.getElem?_set, addAt_get, addAt_len]
  by_cases hi : n = i
  · subst hi
    have hl := (List.getElem?_eq_some_iff.mp e).1
    rw [if_pos rfl, if_pos hl, e]
    simp
  · rw [if_neg hi]
    have : (i ∈ ns ++ [n]) ↔ i ∈ ns := by
      rw [List.mem_append, List.mem_singleton]
      exact ⟨fun z => z.elim id fun w => absurd w.symm hi, .inl⟩
    simp only [this]
noncomputable def mask (H : Hp) (ts : List Addr) : Hp := fun b => if b ∈ ts then none else H b
theorem mask_at {H : Hp} {ts : List Addr} {b : Addr} {o : HO} (e : H b = some o) (n : b ∉ ts) : mask H ts b = some o := by
  unfold mask
  rw [if_neg n]
  exact e
theorem mask_no {H : Hp} {ts : List Addr} {b : Addr} (h : b ∈ ts) : mask H ts b = none := if_pos h
theorem mask_same (H : Hp) (ts : List Addr) : Same (mask H ts) H := fun b o e => by
  unfold mask at e
  split at e
  · cases e
  · exact e
noncomputable def BagAt (H : Hp) (a : Addr) (b : Kt × List Nat) : Prop := ∃ c, H a = some (.tup [.int b.1.1, .int b.1.2, .ref c]) ∧ H c = some (.tup (b.2.map fun n : Nat => V.int n))
theorem BagAt.same {H H' : Hp} {a : Addr} {b : Kt × List Nat} (h : BagAt H a b) (sm : Same H H') : BagAt H' a b := let ⟨c, h1, h2⟩ := h; ⟨c, sm _ _ h1, sm _ _ h2⟩
structure WalkB (C : Addr) (H : Hp) (x n g st : Addr) (gs : List Str) (ls : List Addr) : Prop where
  ins : ∃ dx, H x = some (.ins C dx (walkFs n g st))
  goals : H g = some (.lst (gs.map V.str))
  steps : H st = some (.lst (refs ls))
theorem WalkB.same {C : Addr} {H H' : Hp} {x n g st : Addr} {gs : List Str} {ls : List Addr} (h : WalkB C H x n g st gs ls) (sm : Same H H') : WalkB C H' x n g st gs ls :=
  let ⟨dx, e⟩ := h.ins; ⟨⟨dx, sm _ _ e⟩, sm _ _ h.goals, sm _ _ h.steps⟩
theorem WalkB.at_ {C : Addr} {H : Hp} {x n g st : Addr} {gs : List Str} {ls : List Addr} {sss : List (List Step)} (h : WalkB C H x n g st gs ls) (e : Paired (StepsAt H) ls sss) : WalkAt C H x n g st gs ls sss := ⟨h.ins, h.goals, h.steps, e⟩
theorem StepsAt.same {H H' : Hp} {l : Addr} {ss : List Step} (h : StepsAt H l ss) (sm : Same H H') : StepsAt H' l ss := let ⟨ts, a, b⟩ := h; ⟨ts, sm _ _ a, b.same sm⟩
theorem each_same {H H' : Hp} {ls : List Addr} {sss : List (List Step)} (h : Paired (StepsAt H) ls sss) (sm : Same H H') : Paired (StepsAt H') ls sss := Paired.mapP h fun _ _ e => e.same sm
theorem WalkAt.same {C : Addr} {H H' : Hp} {x n g st : Addr} {gs : List Str} {ls : List Addr} {sss : List (List Step)} (h : WalkAt C H x n g st gs ls sss) (sm : Same H H') : WalkAt C H' x n g st gs ls sss :=
  let ⟨dx, e⟩ := h.ins; ⟨⟨dx, sm _ _ e⟩, sm _ _ h.goals, sm _ _ h.steps, each_same h.each sm⟩
theorem each_set {H H' : Hp} {l : Addr} {ss' : List Step} (new : StepsAt H' l ss') (old : ∀ l' ss, l' ≠ l → StepsAt H l' ss → StepsAt H' l' ss) : ∀ {ls : List Addr} {sss : List (List Step)} {n : Nat}, Paired (StepsAt H) ls sss → ls.Nodup → ls[n]? = some l → Paired (StepsAt H') ls (sss.set n ss')
  | _, _, n, .nil, _, e => by simp at e
  | a :: ls, s0 :: sss, 0, .cons r t, nd, e => by
    simp only [List.getElem?_cons_zero, Option.some.injEq] at e
    subst e
    rw [List.nodup_cons] at nd
    refine .cons new ?_
    have : ∀ {ms : List Addr} {tss : List (List Step)}, Paired (StepsAt H) ms tss → a ∉ ms → Paired (StepsAt H') ms tss := fun {ms tss} p => by
      induction p with
      | nil => exact fun _ => .nil
      | cons r t ih => exact fun h => .cons (old _ _ (fun z => h (by rw [z]; exact .head _)) r) (ih fun z => h (.tail _ z))
    exact this t nd.1
  | a :: ls, s0 :: sss, n + 1, .cons r t, nd, e => by
    rw [List.nodup_cons] at nd
    have e' : ls[n]? = some l := by simpa using e
    exact .cons (old _ _ (fun z => nd.1 (by rw [z]; exact List.mem_of_getElem? e')) r) (each_set new old t nd.2 e')
section
variable {P : Program} {w : World} {K : PySem.W.Frag} {mg : Str → Option Value} {base : Heap}
noncomputable def spRoad0 (C : Addr) : Sp := fun vs H Q _ => ∃ (x a' b' : Addr) (xs ys : List L2.V) (k : Int) (v : L2.V), vs = [.ref x, .int k] ∧ NetAt C H x a' b' xs ys ∧ 0 ≤ k ∧ k < ys.length ∧ L2.atI ys k = some v ∧ Q v H
theorem ok_road0 {C f : Addr} {fd : FuncData} (F : Fun K "road" "Net.road" sRoadM f fd) (B : Blt mg) (NC : NetC K C) : FnOk P w K mg base CX0 1 f fd ["self", "number"] (spRoad0 C) := by
  refine F.ok scRoadM (fun vs H Q E h => ?_) (fun cdv A outer s H vs Q E hr h => ?_)
  · obtain ⟨x, a', b', xs, ys, k, v, rfl, _⟩ := h
    rfl
  · obtain ⟨x, a', b', xs, ys, k, v, rfl, n, h0, h1, hv, q⟩ := h
    obtain ⟨dx, hx⟩ := n.ins
    refine ⟨_, (pss_cons (ps_if (pt_not (pt_chain op_le op_lt pe_int (pv 1) (pe_callB call_len_seq (by rfl) B.len bt_len (pa_cons (pe_fld (pv 0) (by rfl)) pa_nil)))) (pss_one ps_never) pss_nil)
      (pss_one (ps_ret (pe_ix ix_list (pe_fld (pv 0) (by rfl)) (pv 1) (fun _ _ => rfl))))), ?_⟩
    refine ⟨_, rfl, _, _, rfl, rfl, _, rfl, ?_⟩
    refine iteB (decide_eq_true h0) ⟨_, rfl, x, C, dx, _, _, rfl, hx, NC.cl, NC.nr, rfl, b', _, rfl, .inl (SqL.of n.roa), _, _, rfl, rfl, _, rfl, ?_⟩
    refine iteNS h1 ?_
    exact ⟨_, rfl, x, C, dx, _, _, rfl, hx, NC.cl, NC.nr, rfl, _, rfl, b', _, _, _, rfl, rfl, SqL.of n.roa, hv, q⟩
noncomputable def spSend (C CN : Addr) : Sp := fun vs H Q _ => ∃ (Hb : Hp) (x n g st a' b' bg : Addr) (gs : List Str) (ls rs : List Addr) (sss : List (List Step)) (hs : List (List Nat)) (ds : List M1.Rd) (b : Kt × List Nat), vs = [.ref x, .ref bg] ∧ Same Hb H ∧ WalkB C Hb x n g st gs ls ∧ Paired (StepsAt H) ls sss ∧ ls.Nodup ∧ (∀ l ∈ ls, Hb l = none) ∧
  NetAt CN Hb n a' b' (txs hs) (refs rs) ∧ RoadsAt Hb hs rs ds ∧ BagAt Hb bg b ∧ b.1.2 < ds.length ∧ b.2.Nodup ∧ (∀ i ∈ b.2, i < sss.length) ∧ (∀ ss ∈ sss, ss.length ≤ 100) ∧
  ∀ H', Same Hb H' → Paired (StepsAt H') ls (addAt (stepK hs ds b.1) b.2 sss) → Q .non H'
noncomputable abbrev sSend : Stmt := inClass (top 18) 2
theorem scSend : FnScope ["self", "bag", "road", "number"] ["self", "bag"] (defScope sSend) := ⟨rfl, rfl, rfl, by decide +kernel, rfl, by decide +kernel, by decide +kernel⟩
theorem ok_send {C CN f f1 : Addr} {fd fd1 : FuncData} (F : Fun K "send" "Walk.send" sSend f fd) (WC : WalkC K C) (Cl_Net : Cls K CN) (M_Net_road : Mn K CN "road" "Net.road" sRoadM ["self", "number"] f1 fd1) (G_Net_road : FnOk P w K mg base CX0 1 f1 fd1 ["self", "number"] (spRoad0 CN)) :
    FnOk P w K mg base CX0 2 f fd ["self", "bag"] (spSend C CN) := by
  refine F.ok scSend (fun vs H Q E h => ?_) (fun cdv A outer s H vs Q E hr h => ?_)
  · obtain ⟨Hb, x, n, g, st, a', b', bg, gs, ls, rs, sss, hs, ds, b, rfl, _⟩ := h
    rfl
  · obtain ⟨Hb, x, n, g, st, a', b', bg, gs, ls, rs, sss, hs, ds, b, rfl, sb, W, each, nd, fr, N, R, hbg, hr2, ndb, hlt, few, q⟩ := h
    obtain ⟨dx, hx⟩ := W.ins
    obtain ⟨dn, hn⟩ := N.ins
    obtain ⟨c, hb1, hb2⟩ := hbg
    have rl := R.len
    refine ⟨_, (pss_cons (ps_set (i := 2) scSend.nd rfl (Or.inl rfl) (pe_meth (pe_fld (pv 0) (by rfl)) Cl_Net M_Net_road.me G_Net_road (hr.mono (by decide)) M_Net_road.bd .nil pass0 (pa_cons (pe_ix ix_tup (pv 1) pe_int (fun _ _ => rfl)) pa_nil)))
      (pss_one (ps_for PassesOwn.never rfl (pi_tup (pe_ix ix_tup (pv 1) pe_int (fun _ _ => rfl))) (pg_name (i := 3) scSend.nd rfl (Or.inl rfl))
        (pss_one (ps_expr (pe_bm PySem.F.plainAttrs_list PySem.F.slot_list_append PySem.F.type_list_append mt_append (pe_ix ix_list (pe_fld (pv 0) (by rfl)) (pv 3) (fun _ _ => rfl)) (pa_cons (pe_tup (pa_cons (pe_ix ix_tup (pv 1) pe_int (fun _ _ => rfl)) (pa_cons (pe_ix ix_tup (pv 1) pe_int (fun _ _ => rfl)) (pa_cons (pe_ix ix_tup (pv 2) pe_int (fun _ _ => rfl)) (pa_cons (pe_op op_add (pe_ix ix_tup (pv 1) pe_int (fun _ _ => rfl)) (pe_ix ix_tup (pv 2) pe_int (fun _ _ => rfl))) pa_nil))))) pa_nil))))))), ?_⟩
    obtain ⟨r, er⟩ : ∃ r, rs[b.1.2]? = some r := ⟨_, List.getElem?_eq_getElem (by omega)⟩
    obtain ⟨d, ed, _, hd⟩ := R.get er
    have e0 : ds.getD b.1.2 rd0 = d := gd_of ed
    refine ⟨_, rfl, x, C, dx, _, _, rfl, sb _ _ hx, WC.cl, WC.nn, rfl, n, dn, _, rfl, sb _ _ hn, rfl, _, rfl, bg, _, _, _, rfl, rfl, SqT.of (sb _ _ hb1), rfl, n, a', b', _, _, _, _, rfl, N.same sb, (by omega), (by have := refs_len rs; omega), (atI_nat (by unfold refs; rw [List.getElem?_map, er]; rfl)), ?_⟩
    refine ⟨_, rfl, bg, _, _, _, rfl, rfl, SqT.of (sb _ _ hb1), rfl, c, rfl, ?_⟩
    refine ⟨⟨_, SqT.of (sb _ _ hb2)⟩, ?_⟩
    have eV : rdV hs d = [.str (rBeg hs ds b.1.2), .str (rFin hs ds b.1.2), .int (rTn ds b.1.2), .int (rRm ds b.1.2)] := by
      unfold rdV rBeg rFin rTn rRm
      rw [e0]
    rw [eV] at hd
    refine for_tup (K := K) (a := c) (xs := b.2.map fun n : Nat => V.int n) (fun j σ Hj => ∃ v3, σ = [some (.ref x), some (.ref bg), some (.ref r), v3] ∧ Same Hb Hj ∧ Paired (StepsAt Hj) ls (addAt (stepK hs ds b.1) (b.2.take j) sss))
      ⟨none, rfl, sb, by rw [List.take_zero, addAt_nil]; exact each⟩ (fun j σ Hj _ ⟨_, _, h, _⟩ => SqT.of (h _ _ hb2)) ?_ ?_
    · rintro j z σ Hj ez ⟨v3, rfl, sj, ej⟩
      rw [List.getElem?_map] at ez
      obtain ⟨i, ei, rfl⟩ := Option.map_eq_some_iff.mp ez
      have hi := hlt i (List.mem_of_getElem? ei)
      obtain ⟨ss, es⟩ : ∃ ss, sss[i]? = some ss := ⟨_, List.getElem?_eq_getElem hi⟩
      have ni : i ∉ b.2.take j := fun z => by
        have hj := (List.getElem?_eq_some_iff.mp ei).1
        have e2 := List.take_append_drop j b.2
        rw [List.drop_eq_getElem_cons hj] at e2
        rw [← e2, List.nodup_append] at ndb
        have e3 : b.2[j] = i := by
          rw [List.getElem?_eq_getElem hj] at ei
          exact Option.some.inj ei
        exact ndb.2.2 i z i (by rw [e3]; exact .head _) rfl
      have ga : (addAt (stepK hs ds b.1) (b.2.take j) sss)[i]? = some ss := by rw [addAt_get, es]; simp [ni]
      have ln := Paired.length ej
      obtain ⟨l, el⟩ : ∃ l, ls[i]? = some l := ⟨_, List.getElem?_eq_getElem (by rw [addAt_len] at ln; omega)⟩
      obtain ⟨ss2, es2, ts, hl, tp⟩ := Paired.get ej el
      rw [ga] at es2
      cases es2
      have hb1j := SqT.of (K := K) (sj _ _ hb1)
      have hdj := SqT.of (K := K) (sj _ _ hd)
      have tl := tp.len
      rw [List.length_map] at tl
      have fs := few ss (List.mem_of_getElem? es)
      have fl : (refs ts).length < sizeLine := small1000 (by rw [refs_len]; omega)
      refine ⟨_, rfl, x, C, dx, _, _, rfl, sj _ _ hx, WC.cl, WC.ns, rfl, _, rfl, st, _, _, _, rfl, rfl, SqL.of (sj _ _ W.steps), (show L2.atI (refs ls) (i : Int) = some (.ref l) from atI_nat (by unfold refs; rw [List.getElem?_map, el]; rfl)), .inl ⟨rfl, _, SqL.of hl⟩, ?_⟩
      refine ⟨_, rfl, bg, _, _, _, rfl, rfl, hb1j, rfl, _, rfl, bg, _, _, _, rfl, rfl, hb1j, rfl, _, rfl, r, _, _, _, rfl, rfl, hdj, rfl, _, rfl, bg, _, _, _, rfl, rfl, hb1j, rfl, _, rfl, r, _, _, _, rfl, rfl, hdj, rfl, _, _, rfl, rfl, (by show 4 ≤ sizeLine; decide), fun t nt => ?_⟩
      have sjt := upd_free (o := .tup [V.int b.1.1, V.int b.1.2, V.str (rFin hs ds b.1.2), V.int (b.1.1 + rTn ds b.1.2)]) nt
      have hl2 := sjt _ _ hl
      refine ⟨l, _, _, rfl, rfl, hl2, fl, _, rfl, ?_, ?_⟩
      · exact upd_other (fr l (List.mem_of_getElem? el)) (sj.trans sjt)
      · have tk : b.2.take (j + 1) = b.2.take j ++ [i] := by
          rw [List.take_add_one, ei]
          rfl
        rw [tk, addAt_snoc _ ni es]
        refine each_set ?_ (fun l' ss' nl h => ?_) ej nd el
        · refine ⟨ts ++ [t], by rw [upd_same]; unfold refs; rw [List.map_append]; rfl, ?_⟩
          rw [List.map_append]
          refine Paired.snoc ?_ ((tp.same sjt).upd hl2 (by intro d z; cases z))
          show upd _ l _ t = some (.tup (stV (stepK hs ds b.1)))
          rw [upd_ne (ne_of_none hl nt).symm, upd_same]
          rfl
        · obtain ⟨ts', h1, h2⟩ := h
          exact ⟨ts', by rw [upd_ne nl]; exact sjt _ _ h1, (h2.same sjt).upd hl2 (by intro d z; cases z)⟩
    · rintro σ Hj ⟨v3, rfl, sj, ej⟩
      refine q Hj sj ?_
      rw [List.length_map, List.take_length] at ej
      exact ej
end
end K1
set_option Elab.async false
set_option linter.all false
namespace M1
noncomputable def mnum (c : Int) : Int := c * 1099087573 % 10000000000037
noncomputable def mbeg (n : Nat) (c : Int) : Int := mnum c % n
noncomputable def mend (n : Nat) (c : Int) : Int := (mbeg n c + 1 + mnum c / n % ((n : Int) - 1)) % n
noncomputable def mroom (c : Int) : Int := if mnum c / 27000 % 5 = 0 then 1 + mnum c / 135000 % 10 ^ 9 else 1 + mnum c / 9000 % 3
noncomputable def mrd (n : Nat) (c : Int) : Rd := ⟨(mbeg n c).toNat, (mend n c).toNat, 1 + mnum c / 1000 % 9, mroom c⟩
theorem mrd_ok {n : Nat} (h : 1 < n) (c : Int) : (mrd n c).Ok n := by
  have b1 : 0 ≤ mbeg n c := Int.emod_nonneg _ (by omega)
  have b2 : mbeg n c < n := Int.emod_lt_of_pos _ (by omega)
  have e1 : 0 ≤ mend n c := Int.emod_nonneg _ (by omega)
  have e2 : mend n c < n := Int.emod_lt_of_pos _ (by omega)
  have d1 : 0 ≤ mnum c / n % ((n : Int) - 1) := Int.emod_nonneg _ (by omega)
  have d2 : mnum c / n % ((n : Int) - 1) < (n : Int) - 1 := Int.emod_lt_of_pos _ (by omega)
  have ne : mbeg n c ≠ mend n c := by
    intro z
    have e3 : mend n c = (mbeg n c + 1 + mnum c / n % ((n : Int) - 1)) % n := rfl
    generalize mnum c / n % ((n : Int) - 1) = x at d1 d2 e3
    by_cases hlt : mbeg n c + 1 + x < n
    · rw [Int.emod_eq_of_lt (by omega) hlt] at e3
      omega
    · have h5 : (mbeg n c + 1 + x) % (n : Int) = (mbeg n c + 1 + x - n) % (n : Int) := by rw [Int.sub_emod_right]
      rw [h5, Int.emod_eq_of_lt (by omega) (by omega)] at e3
      omega
  have t1 : 0 ≤ mnum c / 1000 % 9 := Int.emod_nonneg _ (by decide)
  have t2 : mnum c / 1000 % 9 < 9 := Int.emod_lt_of_pos _ (by decide)
  have m : 1 ≤ mroom c ∧ mroom c ≤ 1000000000 := by
    unfold mroom
    split
    · have p9 : (10 : Int) ^ 9 = 1000000000 := by decide
      rw [p9]
      omega
    · omega
  exact ⟨by show (mbeg n c).toNat < n; omega, by show (mend n c).toNat < n; omega, by show (mbeg n c).toNat ≠ (mend n c).toNat; omega, by show 1 ≤ 1 + _ ∧ 1 + _ ≤ 9; omega, m⟩
end M1
set_option Elab.async false
set_option linter.all false
set_option maxRecDepth 100000
set_option maxHeartbeats 4000000
namespace K1
open PySem L2 L3 M1
noncomputable def spRd1 : Sp := fun vs H Q _ => ∃ (c : Int) (a : Addr) (hs : List (List Nat)), vs = [.int c, .ref a] ∧ H a = some (.lst (txs hs)) ∧ 2 ≤ hs.length ∧ hs.length ≤ 12 ∧ ∀ r, H r = none → Q (.ref r) (upd H r (.tup (rdV hs (mrd hs.length c))))
theorem ends_of {t : TS} {D : Ends} {σ : L2.St} {H : Hp} (P : Ends → Prop) (h1 : P D) (h2 : ∀ D', P D' → t D' σ H) : t D σ H := h2 D h1
section
variable {P : Program} {w : World} {K : PySem.W.Frag} {mg : Str → Option Value} {base : Heap}
noncomputable abbrev sRd1 : Stmt := top 39
noncomputable abbrev nRd1 : List Str := ["_law_cell", "_law_names", "_law_n", "_law_many", "_law_first", "_law_last", "_law_room"]
theorem scRd1 : FnScope nRd1 ["_law_cell", "_law_names"] (defScope sRd1) := ⟨rfl, rfl, rfl, by decide +kernel, rfl, by decide +kernel, by decide +kernel⟩
theorem ok_rd1 {f : Addr} {fd : FuncData} (F : Fun K "_law_road" "_law_road" sRd1 f fd) (B : Blt mg) : FnOk P w K mg base CX0 1 f fd ["_law_cell", "_law_names"] spRd1 := by
  refine F.ok scRd1 (fun vs H Q E h => ?_) (fun cdv A outer s H vs Q E hr h => ?_)
  · obtain ⟨c, a, hs, rfl, _⟩ := h
    rfl
  · obtain ⟨c, a, hs, rfl, ha, h2, h12, q⟩ := h
    refine ⟨_, (pss_cons (ps_set (i := 2) scRd1.nd rfl (Or.inl rfl) (pe_op op_mod (pe_op op_mul (pv 0) pe_int) pe_int))
      (pss_cons (ps_set (i := 3) scRd1.nd rfl (Or.inl rfl) (pe_callB call_len_seq (by rfl) B.len bt_len (pa_cons (pv 1) pa_nil)))
      (pss_cons (ps_set (i := 4) scRd1.nd rfl (Or.inl rfl) (pe_op op_mod (pv 2) (pv 3)))
      (pss_cons (ps_set (i := 5) scRd1.nd rfl (Or.inl rfl) (pe_op op_mod (pe_op op_add (pe_op op_add (pv 4) pe_int) (pe_op op_mod (pe_op op_fdiv (pv 2) (pv 3)) (pe_op op_sub (pv 3) pe_int))) (pv 3)))
      (pss_cons (ps_set (i := 6) scRd1.nd rfl (Or.inl rfl) (pe_op op_add pe_int (pe_op op_mod (pe_op op_fdiv (pv 2) pe_int) pe_int)))
      (pss_cons (ps_if (pt_cmpR op_eq (pe_op op_mod (pe_op op_fdiv (pv 2) pe_int) pe_int) pe_int (nomark _)) (pss_one (ps_set (i := 6) scRd1.nd rfl (Or.inl rfl) (pe_op op_add pe_int (pe_op op_mod (pe_op op_fdiv (pv 2) pe_int) (pe_op op_pow pe_int pe_int))))) pss_nil)
      (pss_one (ps_ret (pe_tup (pa_cons (pe_ix ix_list (pv 1) (pv 4) (fun _ _ => rfl)) (pa_cons (pe_ix ix_list (pv 1) (pv 5) (fun _ _ => rfl)) (pa_cons (pe_op op_add pe_int (pe_op op_mod (pe_op op_fdiv (pv 2) pe_int) pe_int)) (pa_cons (pv 6) pa_nil))))))))))))), ?_⟩
    have hl := txs_len hs
    have b1 : 0 ≤ mbeg hs.length c := Int.emod_nonneg _ (by omega)
    have b2 : mbeg hs.length c < hs.length := Int.emod_lt_of_pos _ (by omega)
    have e1 : 0 ≤ mend hs.length c := Int.emod_nonneg _ (by omega)
    have e2 : mend hs.length c < hs.length := Int.emod_lt_of_pos _ (by omega)
    refine ⟨_, rfl, _, _, rfl, rfl, .inr ⟨by decide, by decide⟩, _, _, rfl, rfl, (by show (0 : Int) < 10000000000037; decide), ?_⟩
    refine ⟨_, rfl, a, _, rfl, .inl (SqL.of ha), ?_⟩
    rw [hl]
    refine ⟨_, rfl, _, rfl, _, _, rfl, rfl, (by show (0 : Int) < (hs.length : Int); omega), ?_⟩
    refine ⟨_, rfl, _, _, rfl, rfl, _, rfl, _, rfl, _, _, rfl, rfl, ⟨by show (0 : Int) < (hs.length : Int); omega, by show (hs.length : Int) < 1073741824; omega⟩, _, rfl, _, _, rfl, rfl, _, _, rfl, rfl, (by show (0 : Int) < (hs.length : Int) - 1; omega), _, _, rfl, rfl, _, rfl, _, _, rfl, rfl, (by show (0 : Int) < (hs.length : Int); omega), ?_⟩
    refine ⟨_, rfl, _, _, rfl, rfl, ⟨by decide, by decide⟩, _, _, rfl, rfl, (by show (0 : Int) < 3; decide), _, _, rfl, rfl, ?_⟩
    dsimp only [gName, tSeq]
    refine ends_of (t := tIfS _ _ _) (fun D' => D'.nx [some (.int c), some (.ref a), some (.int (mnum c)), some (.int hs.length), some (.int (mbeg hs.length c)), some (.int (mend hs.length c)), some (.int (mroom c))] H) ?_ fun D' rest => ?_
    · refine ⟨_, rfl, _, rfl, a, _, _, _, rfl, rfl, SqL.of ha, txs_at b1 b2, _, rfl, _, rfl, a, _, _, _, rfl, rfl, SqL.of ha, txs_at e1 e2, _, rfl, _, _, rfl, rfl, ⟨by decide, by decide⟩, _, _, rfl, rfl, (by show (0 : Int) < 9; decide), _, _, rfl, rfl, _, rfl, (by show 4 ≤ sizeLine; decide), q⟩
    · refine ⟨_, rfl, _, _, rfl, rfl, ⟨by decide, by decide⟩, _, _, rfl, rfl, (by show (0 : Int) < 5; decide), rfl, _, rfl, ?_⟩
      by_cases h5 : mnum c / 27000 % 5 = 0
      · refine iteB (by show decide (V.int (mnum c / 27000 % 5) = V.int 0) = true; rw [h5]; decide) ?_
        refine ⟨_, rfl, _, _, rfl, rfl, ⟨by decide, by decide⟩, _, _, rfl, rfl, ⟨by decide, by decide, by decide⟩, _, _, rfl, rfl, (by show (0 : Int) < 10 ^ (9 : Int).toNat; decide), _, _, rfl, rfl, ?_⟩
        have e6 : mroom c = 1 + mnum c / 135000 % 10 ^ (9 : Int).toNat := by unfold mroom; rw [if_pos h5]; rfl
        rw [e6] at rest
        exact rest
      · refine iteN (by show decide (V.int (mnum c / 27000 % 5) = V.int 0) = false; exact decide_eq_false fun z => h5 (V.int.inj z)) ?_
        have e6 : mroom c = 1 + mnum c / 9000 % 3 := by unfold mroom; rw [if_neg h5]
        rw [e6] at rest
        exact rest
end
end K1
set_option Elab.async false
set_option linter.all false
set_option maxRecDepth 100000
set_option maxHeartbeats 4000000
namespace K1
open PySem L2 L3 M1
section
variable {P : Program} {w : World} {K : PySem.W.Frag} {mg : Str → Option Value} {base : Heap}
noncomputable def canB (s : Step) (y h : Str) (t : Int) : Bool := decide (s.house ≠ y) && (decide (s.house = h) && decide (s.due ≤ t))
noncomputable def spCanL (C : Addr) : Sp := fun vs H Q _ => ∃ (x n g st : Addr) (gs : List Str) (ls : List Addr) (sss : List (List Step)) (k : Nat) (ss : List Step) (s : Step) (y h : Str) (t : Int), vs = [.ref x, .int k, .str h, .int t] ∧ WalkAt C H x n g st gs ls sss ∧ sss[k]? = some (ss ++ [s]) ∧ gs[k]? = some y ∧ Q (.bl (canB s y h t)) H
noncomputable abbrev sCanL : Stmt := inClass (top 18) 7
theorem scCanL : FnScope ["self", "number", "house", "turn"] ["self", "number", "house", "turn"] (defScope sCanL) := ⟨rfl, rfl, rfl, by decide +kernel, rfl, by decide +kernel, by decide +kernel⟩
theorem ok_canL {C f f1 f2 f3 : Addr} {fd fd1 fd2 fd3 : FuncData} (F : Fun K "can_leave" "Walk.can_leave" sCanL f fd) (WC : WalkC K C)
    (M_Walk_last_house : Mn K C "last_house" "Walk.last_house" sLastH ["self", "number"] f1 fd1) (G_Walk_last_house : FnOk P w K mg base CX0 1 f1 fd1 ["self", "number"] (spLastH C))
    (M_Walk_last_turn : Mn K C "last_turn" "Walk.last_turn" sLastT ["self", "number"] f2 fd2) (G_Walk_last_turn : FnOk P w K mg base CX0 1 f2 fd2 ["self", "number"] (spLastT C))
    (M_Walk_home_turn : Mn K C "home_turn" "Walk.home_turn" sHomeT ["self", "number"] f3 fd3) (G_Walk_home_turn : FnOk P w K mg base CX0 2 f3 fd3 ["self", "number"] (spHomeT C)) : FnOk P w K mg base CX0 3 f fd ["self", "number", "house", "turn"] (spCanL C) := by
  have Cl_Walk := WC.cl
  refine F.ok scCanL (fun vs H Q E h => ?_) (fun cdv A outer s H vs Q E hr h => ?_)
  · obtain ⟨x, n, g, st, gs, ls, sss, k, ss, s', y, h', t, rfl, _⟩ := h
    rfl
  · obtain ⟨x, n, g, st, gs, ls, sss, k, ss, s', y, h', t, rfl, W, es, ey, q⟩ := h
    obtain ⟨dx, hx⟩ := W.ins
    refine ⟨_, (pss_one (ps_ret (pe_and (pe_cmpR op_isN (pe_meth (pv 0) Cl_Walk M_Walk_home_turn.me G_Walk_home_turn (hr.mono (by decide)) M_Walk_home_turn.bd .nil pass0 (pa_cons (pv 1) pa_nil)) pe_non (nomark _)) (pe_and (pe_cmpR op_eq (pe_meth (pv 0) Cl_Walk M_Walk_last_house.me G_Walk_last_house (hr.mono (by decide)) M_Walk_last_house.bd .nil pass0 (pa_cons (pv 1) pa_nil)) (pv 2) (nomark _)) (pe_one (pe_cmpR op_le (pe_meth (pv 0) Cl_Walk M_Walk_last_turn.me G_Walk_last_turn (hr.mono (by decide)) M_Walk_last_turn.bd .nil pass0 (pa_cons (pv 1) pa_nil)) (pv 3) (nomark _))))))), ?_⟩
    refine ⟨_, rfl, x, dx, _, rfl, hx, rfl, _, rfl, x, n, g, st, gs, ls, sss, k, ss, s', y, rfl, W, es, ey, rfl, _, rfl, ?_⟩
    unfold canB at q
    by_cases h1 : s'.house = y
    · have e : decide (homeV s' y = L2.V.non) = false := by
        unfold homeV
        rw [if_pos h1]
        exact decide_eq_false (by intro z; cases z)
      rw [decide_eq_false (fun z => z h1), Bool.false_and] at q
      exact iteN e q
    · have e : decide (homeV s' y = L2.V.non) = true := by
        unfold homeV
        rw [if_neg h1]
        exact decide_eq_true rfl
      rw [decide_eq_true h1, Bool.true_and] at q
      refine iteB e ⟨_, rfl, x, dx, _, rfl, hx, rfl, _, rfl, x, n, g, st, gs, ls, sss, k, ss, s', rfl, W, es, _, rfl, rfl, _, rfl, ?_⟩
      by_cases h2 : s'.house = h'
      · rw [decide_eq_true h2, Bool.true_and] at q
        exact iteB (decide_eq_true (congrArg V.str h2)) ⟨_, rfl, x, dx, _, rfl, hx, rfl, _, rfl, x, n, g, st, gs, ls, sss, k, ss, s', rfl, W, es, _, rfl, _, _, rfl, rfl, q⟩
      · rw [decide_eq_false h2, Bool.false_and] at q
        exact iteN (decide_eq_false fun z => h2 (V.str.inj z)) q
noncomputable abbrev sIsBag : Stmt := top 19
theorem scIsBag : FnScope ["thing"] ["thing"] (defScope sIsBag) := ⟨rfl, rfl, rfl, by decide +kernel, rfl, by decide +kernel, by decide +kernel⟩
noncomputable def spIsBag : Sp := fun vs H Q _ => ∃ (a : Addr) (b : Kt × List Nat), vs = [.ref a] ∧ BagAt H a b ∧ b.2 ≠ [] ∧ b.2.length ≤ 100 ∧ ∀ H', Same H H' → Q (.bl true) H'
theorem ok_isBag {f f1 f2 : Addr} {fd fd1 fd2 : FuncData} (F : Fun K "is_bag" "is_bag" sIsBag f fd) (B : Blt mg) (D_is_whole : Dn K mg "is_whole" sWhole ["thing"] f1 fd1) (G_is_whole : FnOk P w K mg base CX0 1 f1 fd1 ["thing"] spWhole)
    (D_is_tuple_of : Dn K mg "is_tuple_of" sTupOf ["thing", "length"] f2 fd2) (G_is_tuple_of : FnOk P w K mg base CX0 1 f2 fd2 ["thing", "length"] spTupOf) : FnOk P w K mg base CX0 2 f fd ["thing"] spIsBag := by
  refine F.ok scIsBag (fun vs H Q E h => ?_) (fun cdv A outer s H vs Q E hr h => ?_)
  · obtain ⟨a, b, rfl, _⟩ := h
    rfl
  · obtain ⟨a, b, rfl, ⟨c, h1, h2⟩, ne, few, q⟩ := h
    refine ⟨_, (pss_one (ps_ret (pe_and (pe_call G_is_tuple_of (hr.mono (by decide)) (by rfl) D_is_tuple_of.at_ D_is_tuple_of.fn.kp D_is_tuple_of.bd .nil pass0 (pa_cons (pv 0) (pa_cons pe_int pa_nil))) (pe_and (pe_call G_is_whole (hr.mono (by decide)) (by rfl) D_is_whole.at_ D_is_whole.fn.kp D_is_whole.bd .nil pass0 (pa_cons (pe_ix ix_tup (pv 0) pe_int (fun _ _ => rfl)) pa_nil)) (pe_and (pe_call G_is_whole (hr.mono (by decide)) (by rfl) D_is_whole.at_ D_is_whole.fn.kp D_is_whole.bd .nil pass0 (pa_cons (pe_ix ix_tup (pv 0) pe_int (fun _ _ => rfl)) pa_nil)) (pe_and (pe_callB call_isi (by rfl) B.isinstance bt_isinstance (pa_cons (pe_ix ix_tup (pv 0) pe_int (fun _ _ => rfl)) (pa_cons (pe_bty (by rfl) B.tuple bt_tuple) pa_nil))) (pe_and (pe_cmpR op_gt (pe_callB call_len_seq (by rfl) B.len bt_len (pa_cons (pe_ix ix_tup (pv 0) pe_int (fun _ _ => rfl)) pa_nil)) pe_int (nomark _)) (pe_one (pe_callB (call_all rfl) (by rfl) B.all_ bt_all (pa_cons (pe_lc (N' := ["number"]) (cs := [none]) rfl (pi_tup (pe_ix ix_tup (pv 0) pe_int (fun _ _ => rfl))) rfl (by decide +kernel) rfl (by decide +kernel) (sub_of (fun p hp => absurd hp (List.not_mem_nil))) rfl
        (.own .nil)
        (fun C s3 H3 fp pn => ⟨(pg_name (i := 0) (by show (["number"] : List Str).Nodup; decide +kernel) rfl (.inl rfl)), pif_nil, (pe_call G_is_whole (hr.mono (by decide)) (by rfl) D_is_whole.at_ D_is_whole.fn.kp D_is_whole.bd .nil pass0 (pa_cons (pv 0) pa_nil))⟩)) pa_nil)))))))))), ?_⟩
    have t1 := SqT.of (K := K) h1
    have t2 := SqT.of (K := K) h2
    refine ⟨_, rfl, a, _, 3, rfl, h1, rfl, _, rfl, iteT ?_⟩
    refine ⟨_, rfl, a, _, _, _, rfl, rfl, t1, rfl, b.1.1, rfl, _, rfl, iteT ?_⟩
    refine ⟨_, rfl, a, _, _, _, rfl, rfl, t1, rfl, b.1.2, rfl, _, rfl, iteT ?_⟩
    refine ⟨_, rfl, a, _, _, _, rfl, rfl, t1, rfl, ?_⟩
    refine ⟨_, _, _, _, _, rfl, ⟨rfl, .tup h2, kit_eq _ _⟩, _, rfl, iteT ?_⟩
    have pos : 0 < b.2.length := List.length_pos_iff.mpr ne
    refine ⟨_, rfl, a, _, _, _, rfl, rfl, t1, rfl, c, _, rfl, .inr t2, _, _, rfl, rfl, _, rfl, iteB (decide_eq_true (by rw [List.length_map]; omega)) ?_⟩
    dsimp only [tCB, tCons]
    refine tlc_idx (J := Itt K c) (H1 := H) (xs := b.2.map fun n : Nat => V.int n) (rest := []) (fun R h => ⟨_, rfl, a, _, _, _, rfl, rfl, t1, rfl, c, rfl, ⟨_, t2⟩, h⟩) rfl (wk_tup t2 fun H' sm => SqT.of (sm _ _ h2)) (small1000 (by rw [List.length_map]; omega)) (fun _ => .bl true) (fun i v H2 R ev sm k => ?_) (fun D H2 nD hD sD => ?_)
    · rw [List.getElem?_map] at ev
      obtain ⟨j, ej, rfl⟩ := Option.map_eq_some_iff.mp ev
      exact ⟨_, rfl, j, rfl, k H2 (Same.refl _)⟩
    · refine ⟨D, (List.range (b.2.map fun n : Nat => V.int n).length).map (fun _ => true), rfl, SqL.of (by rw [hD, List.map_map]; rfl), ?_⟩
      refine bl_of ?_ (q _ sD)
      rw [List.all_eq_true]
      intro z hz
      obtain ⟨_, _, rfl⟩ := List.mem_map.mp hz
      rfl
noncomputable abbrev sRis : Stmt := top 20
theorem scRis : FnScope ["numbers", "bound", "ahead", "number"] ["numbers", "bound"] (defScope sRis) := ⟨rfl, rfl, rfl, by decide +kernel, rfl, by decide +kernel, by decide +kernel⟩
noncomputable def spRis : Sp := fun vs H Q _ => ∃ (c : Addr) (ns : List Nat) (m : Int), vs = [.ref c, .int m] ∧ H c = some (.tup (ns.map fun n : Nat => V.int n)) ∧ ns.Pairwise (· < ·) ∧ (∀ n ∈ ns, (n : Int) < m) ∧ Q (.bl true) H
theorem ok_ris {f : Addr} {fd : FuncData} (F : Fun K "are_rising_below" "are_rising_below" sRis f fd) : FnOk P w K mg base CX0 1 f fd ["numbers", "bound"] spRis := by
  refine F.ok scRis (fun vs H Q E h => ?_) (fun cdv A outer s H vs Q E hr h => ?_)
  · obtain ⟨c, ns, m, rfl, _⟩ := h
    rfl
  · obtain ⟨c, ns, m, rfl, hc, pw, hlt, q⟩ := h
    refine ⟨_, (pss_cons (ps_set (i := 2) scRis.nd rfl (Or.inl rfl) (pe_un un_neg pe_int))
      (pss_cons (ps_for PassesOwn.never rfl (pi_tup (pv 0)) (pg_name (i := 3) scRis.nd rfl (Or.inl rfl))
        (pss_cons (ps_if (pt_not (pt_chain op_lt op_lt (pv 2) (pv 3) (pv 1))) (pss_one (ps_ret pe_bl)) pss_nil)
      (pss_one (ps_set (i := 2) scRis.nd rfl (Or.inl rfl) (pv 3)))))
      (pss_one (ps_ret pe_bl)))), ?_⟩
    refine ⟨_, rfl, _, rfl, c, rfl, ⟨_, SqT.of hc⟩, ?_⟩
    refine for_tup (K := K) (a := c) (xs := ns.map fun n : Nat => V.int n) (fun j σ Hj => ∃ (ah : Int) (v : Option L2.V), σ = [some (.ref c), some (.int m), some (.int ah), v] ∧ Hj = H ∧ ∀ n, n ∈ ns.drop j → ah < n) ⟨-1, none, rfl, rfl, fun n _ => by omega⟩ (fun j σ Hj _ ⟨_, _, _, h, _⟩ => h ▸ SqT.of hc) ?_ ?_
    · rintro j z σ Hj ez ⟨ah, v, rfl, rfl, ha⟩
      rw [List.getElem?_map] at ez
      obtain ⟨n, en, rfl⟩ := Option.map_eq_some_iff.mp ez
      have hj := (List.getElem?_eq_some_iff.mp en).1
      have e3 : ns[j] = n := by
        rw [List.getElem?_eq_getElem hj] at en
        exact Option.some.inj en
      have dr : ns.drop j = n :: ns.drop (j + 1) := by rw [List.drop_eq_getElem_cons hj, e3]
      have h1 := ha n (by rw [dr]; exact .head _)
      have h2 := hlt n (List.mem_of_getElem? en)
      refine ⟨_, rfl, _, rfl, _, _, rfl, rfl, _, rfl, ?_⟩
      refine iteB (decide_eq_true h1) ⟨_, rfl, _, _, rfl, rfl, _, rfl, ?_⟩
      refine iteNS h2 ?_
      refine ⟨_, rfl, n, some (.int n), rfl, rfl, fun k hk => ?_⟩
      have pd : (ns.drop j).Pairwise (· < ·) := pw.sublist (List.drop_sublist _ _)
      rw [dr, List.pairwise_cons] at pd
      have := pd.1 k hk
      omega
    · rintro σ Hj ⟨ah, v, rfl, rfl, ha⟩
      exact q
noncomputable def okOrd : Option Kt → Kt → Prop
  | none, _ => True
  | some a, k => a.1 < k.1 ∨ (a.1 = k.1 ∧ a.2 < k.2)
noncomputable def AhV (H : Hp) (v : L2.V) : Option Kt → Prop
  | none => v = .non
  | some k => ∃ a ns, v = .ref a ∧ BagAt H a (k, ns)
theorem AhV.same {H H' : Hp} {v : L2.V} (sm : Same H H') : ∀ {o : Option Kt}, AhV H v o → AhV H' v o
  | none, h => h
  | some _, ⟨a, ns, e, h⟩ => ⟨a, ns, e, h.same sm⟩
structure OkBag (hs : List (List Nat)) (ds : List M1.Rd) (gs : List Str) (sss : List (List Step)) (ah : Option Kt) (b : Kt × List Nat) : Prop where
  ne : b.2 ≠ []
  few : b.2.length ≤ 100
  ord : okOrd ah b.1
  rd : b.1.2 < ds.length
  room : (b.2.length : Int) ≤ rRm ds b.1.2
  ris : b.2.Pairwise (· < ·)
  lt : ∀ i ∈ b.2, i < sss.length
  can : ∀ i ∈ b.2, ∃ ss s y, sss[i]? = some (ss ++ [s]) ∧ gs[i]? = some y ∧ canB s y (rBeg hs ds b.1.2) b.1.1 = true
noncomputable def spRea (C CN : Addr) : Sp := fun vs H Q _ => ∃ (x n g st a' b' bg lp : Addr) (gs : List Str) (ls rs : List Addr) (sss : List (List Step)) (hs : List (List Nat)) (ds : List M1.Rd) (b : Kt × List Nat) (va : L2.V) (ah : Option Kt) (ts : List L2.V), vs = [.ref x, .ref n, .ref lp, va, .ref bg] ∧ WalkAt C H x n g st gs ls sss ∧
  NetAt CN H n a' b' (txs hs) (refs rs) ∧ RoadsAt H hs rs ds ∧ rs.length ≤ 40 ∧ BagAt H bg b ∧ AhV H va ah ∧ H lp = some (.lst ts) ∧ ts.length = sss.length ∧ OkBag hs ds gs sss ah b ∧ ∀ H', Same H H' → Q .non H'
noncomputable abbrev sRea : Stmt := top 21
theorem scRea : FnScope ["walk", "net", "letters", "ahead", "thing", "roads", "road"] ["walk", "net", "letters", "ahead", "thing"] (defScope sRea) := ⟨rfl, rfl, rfl, by decide +kernel, rfl, by decide +kernel, by decide +kernel⟩
theorem ok_rea {C CN f f1 f2 f3 f4 : Addr} {fd fd1 fd2 fd3 fd4 : FuncData} (F : Fun K "reason_against" "reason_against" sRea f fd) (B : Blt mg) (Cl_Walk : Cls K C) (Cl_Net : Cls K CN)
    (D_is_bag : Dn K mg "is_bag" sIsBag ["thing"] f1 fd1) (G_is_bag : FnOk P w K mg base CX0 2 f1 fd1 ["thing"] spIsBag)
    (D_are_rising_below : Dn K mg "are_rising_below" sRis ["numbers", "bound"] f2 fd2) (G_are_rising_below : FnOk P w K mg base CX0 1 f2 fd2 ["numbers", "bound"] spRis)
    (M_Net_roads : Mn K CN "roads" "Net.roads" sRoadsM ["self"] f3 fd3) (G_Net_roads : FnOk P w K mg base CX0 1 f3 fd3 ["self"] (spRoadsM CN))
    (M_Walk_can_leave : Mn K C "can_leave" "Walk.can_leave" sCanL ["self", "number", "house", "turn"] f4 fd4) (G_Walk_can_leave : FnOk P w K mg base CX0 3 f4 fd4 ["self", "number", "house", "turn"] (spCanL C)) :
    FnOk P w K mg base CX0 4 f fd ["walk", "net", "letters", "ahead", "thing"] (spRea C CN) := by
  refine F.ok scRea (fun vs H Q E h => ?_) (fun cdv A outer s H vs Q E hr h => ?_)
  · obtain ⟨x, n, g, st, a', b', bg, lp, gs, ls, rs, sss, hs, ds, b, va, ah, ts, rfl, _⟩ := h
    rfl
  · obtain ⟨x, n, g, st, a', b', bg, lp, gs, ls, rs, sss, hs, ds, b, va, ah, ts, rfl, W, N, R, few, hbg, hav, hlp, tl, ok, q⟩ := h
    refine ⟨_, (pss_cons (ps_if (pt_not (pt_val (pe_call G_is_bag (hr.mono (by decide)) (by rfl) D_is_bag.at_ D_is_bag.fn.kp D_is_bag.bd .nil pass0 (pa_cons (pv 4) pa_nil)))) (pss_one (ps_ret pe_str)) pss_nil)
      (pss_cons (ps_if (PW.pt (pw_and (pt_cmpR op_notN (pv 3) pe_non (nomark _)) (pw_and1 (pt_cmpR (op_leT (Nat.lt_of_succ_lt (hu_of hr))) (pe_slice sl_tup (pv 4) po_none (po_some pe_int)) (pe_slice sl_tup (pv 3) po_none (po_some pe_int)) (nomark _))))) (pss_one (ps_ret pe_str)) pss_nil)
      (pss_cons (ps_set (i := 5) scRea.nd rfl (Or.inl rfl) (pe_meth0 (pv 1) Cl_Net M_Net_roads.me G_Net_roads (hr.mono (by decide)) M_Net_roads.bd .nil pass0))
      (pss_cons (ps_if (pt_not (pt_chain op_le op_lt pe_int (pe_ix ix_tup (pv 4) pe_int (fun _ _ => rfl)) (pe_callB call_len_seq (by rfl) B.len bt_len (pa_cons (pv 5) pa_nil)))) (pss_one (ps_ret pe_str)) pss_nil)
      (pss_cons (ps_set (i := 6) scRea.nd rfl (Or.inr rfl) (pe_ix ix_list (pv 5) (pe_ix ix_tup (pv 4) pe_int (fun _ _ => rfl)) (fun _ _ => rfl)))
      (pss_cons (ps_if (pt_cmpR op_gt (pe_callB call_len_seq (by rfl) B.len bt_len (pa_cons (pe_ix ix_tup (pv 4) pe_int (fun _ _ => rfl)) pa_nil)) (pe_ix ix_tup (pv 6) pe_int (fun _ _ => rfl)) (nomark _)) (pss_one (ps_ret pe_str)) pss_nil)
      (pss_cons (ps_if (pt_not (pt_val (pe_call G_are_rising_below (hr.mono (by decide)) (by rfl) D_are_rising_below.at_ D_are_rising_below.fn.kp D_are_rising_below.bd .nil pass0 (pa_cons (pe_ix ix_tup (pv 4) pe_int (fun _ _ => rfl)) (pa_cons (pe_callB call_len_seq (by rfl) B.len bt_len (pa_cons (pv 2) pa_nil)) pa_nil))))) (pss_one (ps_ret pe_str)) pss_nil)
      (pss_cons (ps_if (pt_not (pt_val (pe_callB (call_all rfl) (by rfl) B.all_ bt_all (pa_cons (pe_lc (N' := ["number", "walk", "road", "thing"]) (cs := [none, some 0, some 6, some 4]) rfl (pi_tup (pe_ix ix_tup (pv 4) pe_int (fun _ _ => rfl))) rfl (by decide +kernel) rfl (by decide +kernel) (sub_of (List.forall_mem_cons.mpr ⟨rfl, (List.forall_mem_cons.mpr ⟨rfl, (List.forall_mem_cons.mpr ⟨rfl, (fun p hp => absurd hp (List.not_mem_nil))⟩)⟩)⟩)) rfl
        (.own (.cap rfl (.inl rfl) (.inl rfl) rfl (.cap rfl (.inl rfl) (.inl rfl) rfl (.cap rfl (.inl rfl) (.inl rfl) rfl .nil))))
        (fun C s3 H3 fp pn => ⟨(pg_name (i := 0) (by show (["number", "walk", "road", "thing"] : List Str).Nodup; decide +kernel) rfl (.inl rfl)), pif_nil, (pe_meth (pv 1) Cl_Walk M_Walk_can_leave.me G_Walk_can_leave (hr.mono (by decide)) M_Walk_can_leave.bd .nil pass0 (pa_cons (pv 0) (pa_cons (pe_ix (ix_tupK (K := K) rfl) (pv 2) pe_int (fun _ _ => rfl)) (pa_cons (pe_ix (ix_tupK (K := K) rfl) (pv 3) pe_int (fun _ _ => rfl)) pa_nil))))⟩)) pa_nil)))) (pss_one (ps_ret pe_str)) pss_nil)
      (pss_one (ps_ret pe_non)))))))))), ?_⟩
    refine ⟨_, rfl, bg, b, rfl, hbg, ok.ne, ok.few, fun H1 s1 => ⟨_, rfl, iteF ?_⟩⟩
    obtain ⟨c, hb1, hb2⟩ := id hbg
    dsimp only [tNext, tSeq]
    refine ends_of (t := tIfS _ _ _) (fun D' => ∀ H2, Same H H2 → D'.nx [some (.ref x), some (.ref n), some (.ref lp), some va, some (.ref bg), none, none] H2) ?_ fun D' rest => ?_
    · intro H2 s2
      obtain ⟨dn, hn⟩ := N.ins
      refine ⟨_, rfl, n, dn, _, rfl, s2 _ _ hn, rfl, n, a', b', _, _, rfl, N.same s2, fun l nl => ?_⟩
      have s3 := s2.trans (upd_free (o := .lst (refs rs)) nl)
      have hl3 := upd_same (H := H2) (a := l) (o := .lst (refs rs))
      generalize upd H2 l (.lst (refs rs)) = H3 at s3 hl3 ⊢
      have t1 := SqT.of (K := K) (s3 _ _ hb1)
      have t2 := SqT.of (K := K) (s3 _ _ hb2)
      have rl := R.len
      have rfl' := refs_len rs
      have hr2 := ok.rd
      refine ⟨_, rfl, bg, _, _, _, rfl, rfl, t1, rfl, _, _, rfl, rfl, _, rfl, ?_⟩
      refine iteB (decide_eq_true (by omega)) ⟨_, rfl, l, _, rfl, .inl (SqL.of hl3), _, _, rfl, rfl, _, rfl, ?_⟩
      refine iteNS (by omega) ?_
      obtain ⟨r, er⟩ : ∃ r, rs[b.1.2]? = some r := ⟨_, List.getElem?_eq_getElem (by omega)⟩
      obtain ⟨d, ed, _, hd⟩ := R.get er
      have e0 : ds.getD b.1.2 rd0 = d := gd_of ed
      have eV : rdV hs d = [.str (rBeg hs ds b.1.2), .str (rFin hs ds b.1.2), .int (rTn ds b.1.2), .int (rRm ds b.1.2)] := by
        unfold rdV rBeg rFin rTn rRm
        rw [e0]
      rw [eV] at hd
      have td := SqT.of (K := K) (s3 _ _ hd)
      refine ⟨_, rfl, _, rfl, bg, _, _, _, rfl, rfl, t1, rfl, l, _, _, _, rfl, rfl, SqL.of hl3, (show L2.atI (refs rs) (b.1.2 : Int) = some (.ref r) from atI_nat (by unfold refs; rw [List.getElem?_map, er]; rfl)), ?_⟩
      refine ⟨_, rfl, bg, _, _, _, rfl, rfl, t1, rfl, c, _, rfl, .inr t2, _, rfl, r, _, _, _, rfl, rfl, td, rfl, _, _, rfl, rfl, _, rfl, ?_⟩
      refine iteN (decide_eq_false (by rw [List.length_map]; have := ok.room; omega)) ?_
      refine ⟨_, rfl, bg, _, _, _, rfl, rfl, t1, rfl, _, rfl, lp, _, rfl, .inl (SqL.of (s3 _ _ hlp)), c, b.2, _, rfl, s3 _ _ hb2, ok.ris, (fun i hi => by have := ok.lt i hi; omega), _, rfl, iteF ?_⟩
      dsimp only [tNext, tSeq, tIfS, tNot, tB, tCB, tCons]
      have W3 := W.same s3
      obtain ⟨dx, hx⟩ := W3.ins
      refine tlc_idx (J := Itt K c) (H1 := H3) (xs := b.2.map fun n : Nat => V.int n) (rest := [some (.ref x), some (.ref r), some (.ref bg)]) (fun R h => ⟨_, rfl, bg, _, _, _, rfl, rfl, t1, rfl, c, rfl, ⟨_, t2⟩, h⟩) rfl (wk_tup t2 fun H' sm => SqT.of (sm _ _ (s3 _ _ hb2))) (small1000 (by rw [List.length_map]; have := ok.few; omega)) (fun _ => .bl true) (fun i v H4 Rr ev sm k => ?_) (fun D H4 nD hD sD => ?_)
      · rw [List.getElem?_map] at ev
        obtain ⟨j, ej, rfl⟩ := Option.map_eq_some_iff.mp ev
        obtain ⟨ss, s', y, es, ey, hc⟩ := ok.can j (List.mem_of_getElem? ej)
        refine ⟨_, rfl, x, dx, _, rfl, sm _ _ hx, rfl, _, rfl, _, rfl, r, _, _, _, rfl, rfl, SqT.of (sm _ _ (s3 _ _ hd)), rfl, _, rfl, bg, _, _, _, rfl, rfl, SqT.of (sm _ _ (s3 _ _ hb1)), rfl, x, n, g, st, gs, ls, sss, j, ss, s', y, _, _, rfl, W3.same sm, es, ey, ?_⟩
        rw [hc]
        exact k H4 (Same.refl _)
      · refine ⟨D, (List.range (b.2.map fun n : Nat => V.int n).length).map (fun _ => true), rfl, SqL.of (by rw [hD, List.map_map]; rfl), _, rfl, ?_⟩
        have ea : ((List.range (b.2.map fun n : Nat => V.int n).length).map (fun _ => true)).all id = true := by
          rw [List.all_eq_true]
          intro z hz
          obtain ⟨_, _, rfl⟩ := List.mem_map.mp hz
          rfl
        rw [ea]
        exact iteF (q _ (s3.trans sD))
    · refine ⟨_, rfl, rfl, _, rfl, ?_⟩
      cases ah with
      | none =>
        obtain rfl : va = .non := hav
        exact iteN rfl (rest H1 s1)
      | some k0 =>
        obtain ⟨a0, ns0, rfl, c0, h01, h02⟩ := hav
        refine iteB rfl ⟨_, rfl, _, rfl, bg, _, rfl, SqT.of (s1 _ _ hb1), (by show ¬ ((0 : Nat) = 0 ∧ (2 : Nat) = 3); omega), fun p1 np1 => ?_⟩
        have s2 := s1.trans (upd_free (o := .tup [V.int b.1.1, V.int b.1.2]) np1)
        have hp1 := upd_same (H := H1) (a := p1) (o := .tup [V.int b.1.1, V.int b.1.2])
        refine ⟨_, rfl, _, rfl, a0, _, rfl, SqT.of (s2 _ _ h01), (by show ¬ ((0 : Nat) = 0 ∧ (2 : Nat) = 3); omega), fun p2 np2 => ?_⟩
        have s3 := s2.trans (upd_free (o := .tup [V.int k0.1, V.int k0.2]) np2)
        refine ⟨p1, p2, _, _, _, _, rfl, rfl, SqT.of (upd_free np2 _ _ hp1), SqT.of upd_same, _, rfl, ?_⟩
        have oo : k0.1 < b.1.1 ∨ (k0.1 = b.1.1 ∧ k0.2 < b.1.2) := ok.ord
        refine iteN ?_ (rest _ s3)
        show (if b.1.1 = k0.1 then decide ((b.1.2 : Int) ≤ (k0.2 : Int)) else decide (b.1.1 ≤ k0.1)) = false
        split
        · exact decide_eq_false (by omega)
        · exact decide_eq_false (by omega)
inductive Wks (hs : List (List Nat)) (ds : List M1.Rd) (gs : List Str) : List (List Step) → Option Kt → List (Kt × List Nat) → List (List Step) → Prop
  | nil {sss ah} : Wks hs ds gs sss ah [] sss
  | cons {sss ah b bs fin} (ok : OkBag hs ds gs sss ah b) (t : Wks hs ds gs (addAt (stepK hs ds b.1) b.2 sss) (some b.1) bs fin) : Wks hs ds gs sss ah (b :: bs) fin
noncomputable def spWkOf (C CN : Addr) : Sp := fun vs H Q _ => ∃ (n a' b' lp pp : Addr) (rs lr pa : List Addr) (lts : List (Str × Int × Str)) (hs : List (List Nat)) (ds : List M1.Rd) (bs : List (Kt × List Nat)) (fin : List (List Step)), vs = [.ref n, .ref lp, .ref pp] ∧ NetAt CN H n a' b' (txs hs) (refs rs) ∧ RoadsAt H hs rs ds ∧ rs.length ≤ 40 ∧
  H lp = some (.lst (refs lr)) ∧ Tups H lr (lts.map ltT) ∧ lr.length ≤ 100 ∧ H pp = some (.lst (refs pa)) ∧ Paired (BagAt H) pa bs ∧ pa.length ≤ 99 ∧ Wks hs ds (lts.map fun d => d.2.2) (lts.map firstS) none bs fin ∧
  ∀ (H' : Hp) (x g st : Addr) (ls : List Addr), Same H H' → WalkAt C H' x n g st (lts.map fun d => d.2.2) ls fin → Q (.ref x) H'
noncomputable abbrev sWkOf : Stmt := top 22
theorem scWkOf : FnScope ["net", "letters", "plan", "walk", "ahead", "place", "thing", "reason"] ["net", "letters", "plan"] (defScope sWkOf) := ⟨rfl, rfl, rfl, by decide +kernel, rfl, by decide +kernel, by decide +kernel⟩
theorem ok_wkOf {C CN f f1 f2 f3 : Addr} {fd fd1 fd2 fd3 : FuncData} (F : Fun K "walk_of" "walk_of" sWkOf f fd) (B : Blt mg) (WC : WalkC K C) (at_Walk : mg "Walk" = some (.ref C))
    (D_reason_against : Dn K mg "reason_against" sRea ["walk", "net", "letters", "ahead", "thing"] f1 fd1) (G_reason_against : FnOk P w K mg base CX0 4 f1 fd1 ["walk", "net", "letters", "ahead", "thing"] (spRea C CN))
    (Mk_Walk : Mk K C f2) (D_Walk_init : Inn K C "Walk.__init__" sWkI ["self", "net", "letters"] f2 fd2) (G_Walk_init : FnOk P w K mg base CX0 2 f2 fd2 ["self", "net", "letters"] (spWkI C))
    (M_Walk_send : Mn K C "send" "Walk.send" sSend ["self", "bag"] f3 fd3) (G_Walk_send : FnOk P w K mg base CX0 2 f3 fd3 ["self", "bag"] (spSend C CN)) :
    FnOk P w K mg base CX0 5 f fd ["net", "letters", "plan"] (spWkOf C CN) := by
  have Cl_Walk := WC.cl
  refine F.ok scWkOf (fun vs H Q E h => ?_) (fun cdv A outer s H vs Q E hr h => ?_)
  · obtain ⟨n, a', b', lp, pp, rs, lr, pa, lts, hs, ds, bs, fin, rfl, _⟩ := h
    rfl
  · obtain ⟨n, a', b', lp, pp, rs, lr, pa, lts, hs, ds, bs, fin, rfl, N, R, few, hlp, tpl, fewl, hpp, hbs, fewp, wk, q⟩ := h
    refine ⟨_, (pss_cons (ps_set (i := 3) scWkOf.nd rfl (Or.inl rfl) (pe_make Mk_Walk G_Walk_init (hr.mono (by decide)) (by rfl) at_Walk D_Walk_init.bd .nil pass0 (pa_cons (pv 0) (pa_cons (pv 1) pa_nil))))
      (pss_cons (ps_set (i := 4) scWkOf.nd rfl (Or.inl rfl) pe_non)
      (pss_cons (ps_for PassesOwn.never rfl (pi_enum rfl B.enumerate (pa_cons (pv 2) pa_nil)) (pg_tup rfl (pgs_cons (pg_name (i := 5) scWkOf.nd rfl (Or.inl rfl)) (pgs_cons (pg_name (i := 6) scWkOf.nd rfl (Or.inl rfl)) pgs_nil)))
        (pss_cons (ps_set (i := 7) scWkOf.nd rfl (Or.inl rfl) (pe_call G_reason_against (hr.mono (by decide)) (by rfl) D_reason_against.at_ D_reason_against.fn.kp D_reason_against.bd .nil pass0 (pa_cons (pv 3) (pa_cons (pv 0) (pa_cons (pv 1) (pa_cons (pv 4) (pa_cons (pv 6) pa_nil)))))))
      (pss_cons (ps_if (pt_cmpR op_notN (pv 7) pe_non (nomark _)) (pss_one ps_never) pss_nil)
      (pss_cons (ps_expr (pe_meth (pv 3) Cl_Walk M_Walk_send.me G_Walk_send (hr.mono (by decide)) M_Walk_send.bd .nil pass0 (pa_cons (pv 6) pa_nil)))
      (pss_one (ps_set (i := 4) scWkOf.nd rfl (Or.inl rfl) (pv 6)))))))
      (pss_one (ps_ret (pv 3)))))), ?_⟩
    refine ⟨_, rfl, _, rfl, fun x dx nx ndx nd => ?_⟩
    have mk : ∀ {b : Addr} {v : HO}, H b = some v → upd (upd H dx (.own x)) x (.ins C dx []) b = some v := fun {b v} e => by
      rw [upd_ne (ne_of_none e nx), upd_ne (ne_of_none e ndx)]
      exact e
    refine ⟨x, dx, n, lp, lr, lts, rfl, upd_same, mk hlp, tpl.same (fun b v e => mk e), fewl, fun H1 g st lls sb W ng nst ndl fr ngst => ⟨rfl, ?_⟩⟩
    have s1 : Same H H1 := make_same nx ndx sb
    have frH : ∀ l ∈ lls, H l = none := fun l hl => by
      cases e : H l with
      | none => rfl
      | some o => have := (fr l hl).1; rw [mk e] at this; cases this
    obtain ⟨Hb, eHb⟩ : ∃ Hb, Hb = mask H1 lls := ⟨_, rfl⟩
    have sb1 : Same Hb H1 := by rw [eHb]; exact mask_same _ _
    have sHb : Same H Hb := fun b o e => by
      rw [eHb]
      exact mask_at (s1 _ _ e) fun hb => by rw [frH b hb] at e; cases e
    have frb : ∀ l ∈ lls, Hb l = none := fun l hl => by rw [eHb]; exact mask_no hl
    have xn : x ∉ lls := fun hl => by have := (fr x hl).1; rw [upd_same] at this; cases this
    have gn : g ∉ lls := fun hl => (fr g hl).2.2 rfl
    have sn : st ∉ lls := fun hl => (fr st hl).2.1 rfl
    have WB : WalkB C Hb x n g st (lts.map fun d => d.2.2) lls := by
      obtain ⟨dx', e⟩ := W.ins
      rw [eHb]
      exact ⟨⟨dx', mask_at e xn⟩, mask_at W.goals gn, mask_at W.steps sn⟩
    have lrl : lr.length = lts.length := by have := tpl.len; rw [List.length_map] at this; exact this
    have pal := Paired.length hbs
    have eb := W.each
    clear W sb mk nx ndx nd ng nst fr ngst xn gn sn frH eHb
    refine ⟨_, rfl, pp, rfl, ⟨_, SqL.of (s1 _ _ hpp)⟩, ?_⟩
    refine for_enum (K := K) (a := pp) (xs := refs pa) (fun j σ Hj => ∃ (va : L2.V) (ah : Option Kt) (sss : List (List Step)) (v5 v6 v7 : Option L2.V), σ = [some (.ref n), some (.ref lp), some (.ref pp), some (.ref x), some va, v5, v6, v7] ∧ Same Hb Hj ∧ Paired (StepsAt Hj) lls sss ∧ AhV Hb va ah ∧ Wks hs ds (lts.map fun d => d.2.2) sss ah (bs.drop j) fin ∧ sss.length = lts.length ∧ ∀ ss ∈ sss, ss.length ≤ j + 1)
      ⟨.non, none, lts.map firstS, none, none, none, rfl, sb1, eb, rfl, wk, List.length_map _, fun ss hs => by obtain ⟨d, _, rfl⟩ := List.mem_map.mp hs; exact Nat.le_refl _⟩ (fun j σ Hj ⟨_, _, _, _, _, _, _, h, _⟩ => SqL.of (h _ _ (sHb _ _ hpp))) ?_ ?_
    · rintro j z σ Hj p ez ⟨va, ah, sss, v5, v6, v7, rfl, sj, ej, hav, wj, ln, fj⟩ np
      unfold refs at ez
      rw [List.getElem?_map] at ez
      obtain ⟨bg, ebg, rfl⟩ := Option.map_eq_some_iff.mp ez
      obtain ⟨b, ebs, hbg⟩ := Paired.get hbs ebg
      have jl := (List.getElem?_eq_some_iff.mp ebg).1
      have sjp := upd_free (o := .tup [V.int (j : Int), V.ref bg]) np
      refine ⟨p, _, rfl, SqT.of upd_same, rfl, ?_⟩
      have sb2 := sj.trans sjp
      have ej2 := each_same ej sjp
      generalize upd Hj p (.tup [V.int (j : Int), V.ref bg]) = Hk at sb2 ej2 ⊢
      have dr : bs.drop j = b :: bs.drop (j + 1) := by
        have hj := (List.getElem?_eq_some_iff.mp ebs).1
        rw [List.drop_eq_getElem_cons hj]
        rw [List.getElem?_eq_getElem hj] at ebs
        rw [Option.some.inj ebs]
      rw [dr] at wj
      cases wj with
      | cons ok tail =>
      have nb := sHb.trans sb2
      refine ⟨_, _, rfl, _, _, rfl, rfl, ?_⟩
      refine ⟨_, rfl, _, rfl, _, rfl, _, rfl, _, rfl, x, n, g, st, a', b', bg, lp, _, lls, rs, sss, hs, ds, b, va, ah, _, rfl, (WB.same sb2).at_ ej2, N.same nb, R.same nb, few, hbg.same nb, hav.same sb2, nb _ _ hlp, (by rw [refs_len, lrl, ln]), ok, fun Hl sl => ?_⟩
      refine ⟨_, rfl, rfl, _, rfl, iteN rfl ?_⟩
      have sb3 := sb2.trans sl
      obtain ⟨dx', hx'⟩ := WB.ins
      refine ⟨_, rfl, x, dx', _, rfl, sb3 _ _ hx', rfl, _, rfl, Hb, x, n, g, st, a', b', bg, _, lls, rs, sss, hs, ds, b, rfl, sb3, WB, each_same ej2 sl, ndl, frb, N.same sHb, R.same sHb, hbg.same sHb, ok.rd, (ok.ris.imp fun h => Nat.ne_of_lt h), ok.lt, (fun ss hss => by have := fj ss hss; omega), fun Hm sm em => ?_⟩
      refine ⟨_, rfl, _, some b.1, _, _, _, _, rfl, sm, em, ⟨bg, b.2, rfl, hbg.same sHb⟩, tail, by rw [addAt_len]; exact ln, fun ss hss => ?_⟩
      obtain ⟨i, hi, rfl⟩ := List.getElem_of_mem hss
      have e1 := addAt_get (stepK hs ds b.1) b.2 sss i
      rw [List.getElem?_eq_getElem hi] at e1
      obtain ⟨s0, e2, e3⟩ := Option.map_eq_some_iff.mp e1.symm
      have := fj s0 (List.mem_of_getElem? e2)
      rw [← e3]
      split
      · rw [List.length_append]
        simp only [List.length_cons, List.length_nil]
        omega
      · omega
    · rintro σ Hj ⟨va, ah, sss, v5, v6, v7, rfl, sj, ej, hav, wj, ln, fj⟩
      rw [refs_len, pal, List.drop_length] at wj
      cases wj
      exact ⟨_, rfl, q Hj x g st lls (sHb.trans sj) ((WB.same sj).at_ ej)⟩
end
end K1
set_option Elab.async false
set_option linter.all false
set_option maxRecDepth 100000
set_option maxHeartbeats 4000000
namespace K1
open PySem L2 L3 M1
noncomputable def kk (k : Kt) : List Key := [.inl k.1, .inl (k.2 : Int)]
theorem kk_inj {a b : Kt} (h : kk a = kk b) : a = b := by
  obtain ⟨a1, a2⟩ := a
  obtain ⟨b1, b2⟩ := b
  simp only [kk, List.cons.injEq, Sum.inl.injEq, and_true] at h
  rw [h.1, Int.ofNat.inj h.2]
noncomputable def legV (hs : List (List Nat)) (ds : List M1.Rd) (k : Kt) : List L2.V := [.int k.1, .int k.2, .int (k.1 + rTn ds k.2), .str (rFin hs ds k.2)]
noncomputable def endS (hs : List (List Nat)) (ds : List M1.Rd) (h : Str) (ks : List Kt) : Str := match ks.getLast? with
  | none => h
  | some k => rFin hs ds k.2
noncomputable def endT (ds : List M1.Rd) (t : Int) (ks : List Kt) : Int := match ks.getLast? with
  | none => t
  | some k => k.1 + rTn ds k.2
theorem endS_snoc (hs : List (List Nat)) (ds : List M1.Rd) (h : Str) (ks : List Kt) (k : Kt) : endS hs ds h (ks ++ [k]) = rFin hs ds k.2 := by
  unfold endS
  rw [List.getLast?_append, List.getLast?_singleton]
  rfl
theorem endT_snoc (ds : List M1.Rd) (t : Int) (ks : List Kt) (k : Kt) : endT ds t (ks ++ [k]) = k.1 + rTn ds k.2 := by
  unfold endT
  rw [List.getLast?_append, List.getLast?_singleton]
  rfl
noncomputable def ChainOk (hs : List (List Nat)) (ds : List M1.Rd) (h : Str) (t : Int) (g : Str) (ks : List Kt) : Prop :=
  ∀ j k, ks[j]? = some k → k.2 < ds.length ∧ rBeg hs ds k.2 = endS hs ds h (ks.take j) ∧ endS hs ds h (ks.take j) ≠ g ∧ endT ds t (ks.take j) ≤ k.1
theorem ChainOk.snoc {hs : List (List Nat)} {ds : List M1.Rd} {h : Str} {t : Int} {g : Str} {ks : List Kt} {k : Kt} (c : ChainOk hs ds h t g ks) (h1 : k.2 < ds.length) (h2 : rBeg hs ds k.2 = endS hs ds h ks) (h3 : endS hs ds h ks ≠ g) (h4 : endT ds t ks ≤ k.1) : ChainOk hs ds h t g (ks ++ [k]) := fun j k' e => by
  by_cases hj : j < ks.length
  · rw [List.getElem?_append_left hj] at e
    rw [List.take_append_of_le_length (by omega)]
    exact c j k' e
  · rw [List.getElem?_append_right (by omega)] at e
    have ej : j = ks.length := by
      by_cases hz : j - ks.length = 0
      · omega
      · rw [List.getElem?_eq_none (by simp; omega)] at e
        cases e
    subst ej
    rw [Nat.sub_self] at e
    cases e
    rw [List.take_append_of_le_length (Nat.le_refl _), List.take_length]
    exact ⟨h1, h2, h3, h4⟩
noncomputable def LoadOk (kvs : List (List Key × L2.V)) (ks : List Kt) : Prop := (∀ k : Kt, (valV kvs (kk k)).getD (.int 0) = .int (ks.count k)) ∧ kvs.length ≤ ks.length
theorem LoadOk.put {kvs : List (List Key × L2.V)} {ks : List Kt} (h : LoadOk kvs ks) (k : Kt) : LoadOk (putK kvs (kk k) (.int (ks.count k + 1))) (ks ++ [k]) := by
  refine ⟨fun k' => ?_, ?_⟩
  · rw [valV_put, List.count_append]
    by_cases e : k' = k
    · subst e
      rw [if_pos rfl, List.count_singleton_self]
      show V.int ((ks.count k' : Int) + 1) = _
      congr 1
    · rw [if_neg (fun z => e (kk_inj z)), h.1 k']
      rw [List.count_singleton, if_neg (by simp; exact fun z => e z.symm)]
      rfl
  · have := length_putK kvs (kk k) (V.int (ks.count k + 1))
    rw [List.length_append]
    have := h.2
    simp only [List.length_cons, List.length_nil]
    omega
noncomputable def LegsL (hs : List (List Nat)) (ds : List M1.Rd) (H : Hp) (m : Addr) (ks : List Kt) : Prop := ∃ ts, H m = some (.lst (refs ts)) ∧ Tups H ts (ks.map (legV hs ds))
theorem LegsL.same {hs : List (List Nat)} {ds : List M1.Rd} {H H' : Hp} {m : Addr} {ks : List Kt} (h : LegsL hs ds H m ks) (sm : Same H H') : LegsL hs ds H' m ks := let ⟨ts, a, b⟩ := h; ⟨ts, sm _ _ a, b.same sm⟩
theorem LegsL.upd {hs : List (List Nat)} {ds : List M1.Rd} {H : Hp} {m p : Addr} {ks : List Kt} {o u : HO} (h : LegsL hs ds H m ks) (e : H p = some u) (hu : ∀ d, u ≠ .tup d) (n : m ≠ p) : LegsL hs ds (upd H p o) m ks := by
  obtain ⟨ts, a, b⟩ := h
  exact ⟨ts, by rw [upd_ne n]; exact a, b.upd e hu⟩
structure LgSt (hs : List (List Nat)) (ds : List M1.Rd) (H Hc : Hp) (p4 p5 : Addr) (kvs : List (List Key × L2.V)) (ms : List Addr) (legs : List (List Kt)) (ks : List Kt) : Prop where
  sm : Same H Hc
  ld : Hc p4 = some (.dT kvs)
  lg : Hc p5 = some (.lst (refs ms))
  ea : Paired (LegsL hs ds Hc) ms legs
  lo : LoadOk kvs (legs.flatten ++ ks)
  cn : ∀ k, ((legs.flatten ++ ks).count k : Int) ≤ rRm ds k.2
  n5 : p5 ∉ ms
theorem LgSt.same {hs : List (List Nat)} {ds : List M1.Rd} {H Hc Hd : Hp} {p4 p5 : Addr} {kvs : List (List Key × L2.V)} {ms : List Addr} {legs : List (List Kt)} {ks : List Kt} (s : LgSt hs ds H Hc p4 p5 kvs ms legs ks) (sm : Same Hc Hd) : LgSt hs ds H Hd p4 p5 kvs ms legs ks :=
  ⟨s.sm.trans sm, sm _ _ s.ld, sm _ _ s.lg, Paired.mapP s.ea fun _ _ e => e.same sm, s.lo, s.cn, s.n5⟩
theorem LgSt.load {hs : List (List Nat)} {ds : List M1.Rd} {H Hc : Hp} {p4 p5 : Addr} {kvs : List (List Key × L2.V)} {ms : List Addr} {legs : List (List Kt)} {ks : List Kt} (s : LgSt hs ds H Hc p4 p5 kvs ms legs ks) (n4 : H p4 = none) (p45 : p4 ≠ p5) (k : Kt) (room : ((legs.flatten ++ ks).count k : Int) < rRm ds k.2) :
    LgSt hs ds H (upd Hc p4 (.dT (putK kvs (kk k) (.int ((legs.flatten ++ ks).count k + 1))))) p4 p5 (putK kvs (kk k) (.int ((legs.flatten ++ ks).count k + 1))) ms legs (ks ++ [k]) := by
  refine ⟨upd_other n4 s.sm, upd_same, by rw [upd_ne p45.symm]; exact s.lg, Paired.mapP s.ea fun m l e => ?_, ?_, fun k' => ?_, s.n5⟩
  · obtain ⟨ts, h1, h2⟩ := id e
    exact e.upd s.ld (by intro d z; cases z) (ne_of h1 s.ld (by intro z; cases z))
  · rw [← List.append_assoc]
    exact s.lo.put k
  · rw [← List.append_assoc, List.count_append, List.count_singleton]
    by_cases e : k = k'
    · subst e
      rw [if_pos (by simp)]
      omega
    · rw [if_neg (by simpa using e)]
      exact s.cn k'
theorem LgSt.mine {hs : List (List Nat)} {ds : List M1.Rd} {H Hc : Hp} {p4 p5 pm : Addr} {kvs : List (List Key × L2.V)} {ms : List Addr} {legs : List (List Kt)} {ks : List Kt} {us vs : List L2.V} (s : LgSt hs ds H Hc p4 p5 kvs ms legs ks) (nm : H pm = none) (e4 : p4 ≠ pm) (e5 : p5 ≠ pm) (em : pm ∉ ms) (hp : Hc pm = some (.lst us)) : LgSt hs ds H (upd Hc pm (.lst vs)) p4 p5 kvs ms legs ks := by
  refine ⟨upd_other nm s.sm, by rw [upd_ne e4]; exact s.ld, by rw [upd_ne e5]; exact s.lg, ?_, s.lo, s.cn, s.n5⟩
  have : ∀ {ls : List Addr} {gs : List (List Kt)}, Paired (LegsL hs ds Hc) ls gs → pm ∉ ls → Paired (LegsL hs ds (upd Hc pm (.lst vs))) ls gs := fun {ls gs} p => by
    induction p with
    | nil => exact fun _ => .nil
    | cons r t ih => exact fun h => .cons (r.upd hp (by intro d z; cases z) (fun z => h (by rw [z]; exact .head _))) (ih fun z => h (.tail _ z))
  exact this s.ea em
noncomputable def ahead (ks : List Kt) (r : Nat) (t : Int) : Nat := (ks.filter fun k => decide (k.2 = r ∧ t ≤ k.1)).length
theorem ahead_lt {ks : List Kt} {r : Nat} {t : Int} (h : (t, r) ∈ ks) : ahead ks r (t + 1) < ahead ks r t := by
  unfold ahead
  induction ks with
  | nil => exact absurd h List.not_mem_nil
  | cons k ks ih =>
    have le : ∀ l : List Kt, (l.filter fun k => decide (k.2 = r ∧ t + 1 ≤ k.1)).length ≤ (l.filter fun k => decide (k.2 = r ∧ t ≤ k.1)).length := fun l => by
      induction l with
      | nil => exact Nat.le_refl _
      | cons k l ih2 =>
        rw [List.filter_cons, List.filter_cons]
        by_cases a : k.2 = r ∧ t + 1 ≤ k.1
        · rw [if_pos (decide_eq_true a), if_pos (decide_eq_true ⟨a.1, by omega⟩)]
          exact Nat.succ_le_succ ih2
        · rw [if_neg (by simpa using a)]
          split
          · exact Nat.le_succ_of_le ih2
          · exact ih2
    rw [List.filter_cons, List.filter_cons]
    rcases List.mem_cons.mp h with e | e
    · subst e
      rw [if_neg (by simp; omega), if_pos (by simp)]
      exact Nat.lt_succ_of_le (le ks)
    · have := ih e
      by_cases a : k.2 = r ∧ t + 1 ≤ k.1
      · rw [if_pos (decide_eq_true a), if_pos (decide_eq_true ⟨a.1, by omega⟩)]
        exact Nat.succ_lt_succ this
      · rw [if_neg (by simpa using a)]
        split
        · exact Nat.lt_succ_of_lt this
        · exact this
theorem ahead_le (ks : List Kt) (r : Nat) (t : Int) : ahead ks r t ≤ ks.length := List.length_filter_le _ _
section
variable {P : Program} {w : World} {K : PySem.W.Frag} {mg : Str → Option Value} {base : Heap}
structure LegsOk (hs : List (List Nat)) (ds : List M1.Rd) (lts : List (Str × Int × Str)) (legs : List (List Kt)) : Prop where
  len : legs.length = lts.length
  ch : ∀ (i : Nat) d ks, lts[i]? = some d → legs[i]? = some ks → ChainOk hs ds d.1 d.2.1 d.2.2 ks ∧ ks.length ≤ 3 ∧ endT ds d.2.1 ks ≤ d.2.1 + 200 * ks.length
  cn : ∀ k, (legs.flatten.count k : Int) ≤ rRm ds k.2
noncomputable def spLegs (K : PySem.W.Frag) : Sp := fun vs H Q _ => ∃ (b lp a : Addr) (rs lr : List Addr) (hs : List (List Nat)) (ds : List M1.Rd) (lts : List (Str × Int × Str)) (ns : List Int) (hp : Int), vs = [.ref b, .ref lp, .ref a, .int hp] ∧ H b = some (.lst (refs rs)) ∧ RoadsAt H hs rs ds ∧ rs.length ≤ 40 ∧
  H lp = some (.lst (refs lr)) ∧ Tups H lr (lts.map ltT) ∧ lr.length ≤ 40 ∧ SqL K H a (ns.map V.int) ∧ (lr = [] ∨ 0 < ns.length) ∧ 0 ≤ hp ∧ hp ≤ 3 ∧
  ∀ (H' : Hp) (l : Addr) (ms : List Addr) (legs : List (List Kt)), H l = none → Same H H' → H' l = some (.lst (refs ms)) → Paired (LegsL hs ds H') ms legs → LegsOk hs ds lts legs → Q (.ref l) H'
noncomputable abbrev sLegs : Stmt := top 41
noncomputable abbrev nLegs : List Str := ["_law_lines", "_law_letters", "_law_cells", "_law_hops", "_law_load", "_law_legs_here", "_law_number", "_law_letter_here", "_law_cell", "_law_at", "_law_ready", "_law_mine", "_law_k", "_law_outs", "_law_road_here"]
noncomputable abbrev pLegs : List Str := ["_law_lines", "_law_letters", "_law_cells", "_law_hops"]
theorem scLegs : FnScope nLegs pLegs (defScope sLegs) := ⟨rfl, rfl, rfl, by decide +kernel, rfl, by decide +kernel, by decide +kernel⟩
theorem ok_legs {f : Addr} {fd : FuncData} (F : Fun K "_law_legs" "_law_legs" sLegs f fd) (B : Blt mg) : FnOk P w K mg base CX0 1 f fd pLegs (spLegs K) := by
  refine F.ok scLegs (fun vs H Q E h => ?_) (fun cdv A outer s H vs Q E hr h => ?_)
  · obtain ⟨b, lp, a, rs, lr, hs, ds, lts, ns, hp, rfl, _⟩ := h
    rfl
  · obtain ⟨b, lp, a, rs, lr, hs, ds, lts, ns, hp, rfl, hb, R, few, hlp, tpl, fewl, ha, hne, hp0, hp3, q⟩ := h
    refine ⟨_, (pss_cons (ps_set (i := 4) scLegs.nd rfl (Or.inl rfl) pe_dnewT)
      (pss_cons (ps_set (i := 5) scLegs.nd rfl (Or.inl rfl) (pe_lst pa_nil))
      (pss_cons (ps_for PassesOwn.never rfl (pi_enum rfl B.enumerate (pa_cons (pv 1) pa_nil)) (pg_tup rfl (pgs_cons (pg_name (i := 6) scLegs.nd rfl (Or.inl rfl)) (pgs_cons (pg_name (i := 7) scLegs.nd rfl (Or.inl rfl)) pgs_nil)))
        (pss_cons (ps_set (i := 8) scLegs.nd rfl (Or.inl rfl) (pe_op op_add (pe_op op_mod (pe_op op_mul (pe_ix ix_list (pv 2) (pe_op op_mod (pv 6) (pe_callB call_len_seq (by rfl) B.len bt_len (pa_cons (pv 2) pa_nil))) (fun _ _ => rfl)) pe_int) pe_int) (pv 6)))
      (pss_cons (ps_set (i := 9) scLegs.nd rfl (Or.inr rfl) (pe_ix ix_tup (pv 7) pe_int (fun _ _ => rfl)))
      (pss_cons (ps_set (i := 10) scLegs.nd rfl (Or.inl rfl) (pe_ix ix_tup (pv 7) pe_int (fun _ _ => rfl)))
      (pss_cons (ps_set (i := 11) scLegs.nd rfl (Or.inl rfl) (pe_lst pa_nil))
      (pss_cons (ps_for PassesOwn.never rfl (pi_range1 rfl B.range (pa_cons (pe_op op_mod (pv 8) (pe_op op_add (pv 3) pe_int)) pa_nil)) (pg_name (i := 12) scLegs.nd rfl (Or.inl rfl))
        (pss_cons (ps_set (i := 8) scLegs.nd rfl (Or.inl rfl) (pe_op op_mod (pe_op op_mul (pv 8) pe_int) pe_int))
      (pss_cons (ps_setLC (i := 13) scLegs.nd rfl rfl rfl (N' := ["_law_n", "_law_at", "_law_lines"]) (cs := [none, some 9, some 0]) rfl (pi_range1 rfl B.range (pa_cons (pe_callB call_len_seq (by rfl) B.len bt_len (pa_cons (pv 0) pa_nil)) pa_nil)) rfl (by decide +kernel) rfl (by decide +kernel) (sub_of (List.forall_mem_cons.mpr ⟨rfl, (List.forall_mem_cons.mpr ⟨rfl, (fun p hp => absurd hp (List.not_mem_nil))⟩)⟩)) rfl
        (.own (.cap rfl (.inl rfl) (.inl rfl) rfl (.cap rfl (.inl rfl) (.inl rfl) rfl .nil)))
        (fun C s3 H3 fp pn => ⟨(pg_name (i := 0) (by show (["_law_n", "_law_at", "_law_lines"] : List Str).Nodup; decide +kernel) rfl (.inl rfl)), (pif_one (pt_cmpR op_eq (pe_ix (ix_tupK (K := K) rfl) (pe_ix (ix_listK (K := K) rfl) (pv 2) (pv 0) (fun _ _ => rfl)) pe_int (fun _ _ => rfl)) (pv 1) (nomark _))), (pv 0)⟩))
      (pss_one (ps_if (PW.pt (pw_and (pt_cmpR (op_neD hr.units) (pv 13) (pe_lst pa_nil) (nomark _)) (pw_and1 (pt_cmpR op_ne (pv 9) (pe_ix ix_tup (pv 7) pe_int (fun _ _ => rfl)) (nomark _))))) (pss_cons (ps_set (i := 14) scLegs.nd rfl (Or.inl rfl) (pe_ix ix_list (pv 13) (pe_op op_mod (pv 8) (pe_callB call_len_seq (by rfl) B.len bt_len (pa_cons (pv 13) pa_nil))) (fun _ _ => rfl)))
      (pss_cons (ps_set (i := 10) scLegs.nd rfl (Or.inl rfl) (pe_op op_add (pv 10) (pe_op op_mod (pe_op op_fdiv (pv 8) pe_int) pe_int)))
      (pss_cons (ps_while PassesOwn.never (pt_cmpR op_ge (pe_dget2 (hu_of hr) (pv 4) (pe_tup (pa_cons (pv 10) (pa_cons (pv 14) pa_nil))) pe_int ⟨rfl, rfl, rfl, rfl⟩) (pe_ix ix_tup (pe_ix ix_list (pv 0) (pv 14) (fun _ _ => rfl)) pe_int (fun _ _ => rfl)) (nomark _))
        (pss_one (ps_set (i := 10) scLegs.nd rfl (Or.inl rfl) (pe_op op_add (pv 10) pe_int))))
      (pss_cons (ps_dput (hu_of hr) (pv 4) (pe_tup (pa_cons (pv 10) (pa_cons (pv 14) pa_nil))) (pe_op op_add (pe_dget2 (hu_of hr) (pv 4) (pe_tup (pa_cons (pv 10) (pa_cons (pv 14) pa_nil))) pe_int ⟨rfl, rfl, rfl, rfl⟩) pe_int) rfl)
      (pss_cons (ps_expr (pe_bm PySem.F.plainAttrs_list PySem.F.slot_list_append PySem.F.type_list_append mt_append (pv 11) (pa_cons (pe_tup (pa_cons (pv 10) (pa_cons (pv 14) (pa_cons (pe_op op_add (pv 10) (pe_ix ix_tup (pe_ix ix_list (pv 0) (pv 14) (fun _ _ => rfl)) pe_int (fun _ _ => rfl))) (pa_cons (pe_ix ix_tup (pe_ix ix_list (pv 0) (pv 14) (fun _ _ => rfl)) pe_int (fun _ _ => rfl)) pa_nil))))) pa_nil)))
      (pss_cons (ps_set (i := 9) scLegs.nd rfl (Or.inr rfl) (pe_ix ix_tup (pe_ix ix_list (pv 0) (pv 14) (fun _ _ => rfl)) pe_int (fun _ _ => rfl)))
      (pss_one (ps_set (i := 10) scLegs.nd rfl (Or.inl rfl) (pe_op op_add (pv 10) (pe_ix ix_tup (pe_ix ix_list (pv 0) (pv 14) (fun _ _ => rfl)) pe_int (fun _ _ => rfl))))))))))) pss_nil)))))
      (pss_one (ps_expr (pe_bm PySem.F.plainAttrs_list PySem.F.slot_list_append PySem.F.type_list_append mt_append (pv 5) (pa_cons (pv 11) pa_nil))))))))))
      (pss_one (ps_ret (pv 5)))))), ?_⟩
    have lrl : lr.length = lts.length := by have := tpl.len; rw [List.length_map] at this; exact this
    have rl := refs_len rs
    have rlen := R.len
    intro p4 n4
    have s4 := upd_free (o := .dT []) n4
    have h4 := upd_same (H := H) (a := p4) (o := .dT [])
    generalize upd H p4 (.dT []) = H4 at s4 h4 ⊢
    refine ⟨Nat.zero_le _, fun p5 n5 => ?_⟩
    have s45 := upd_free (o := .lst []) n5
    have h5 := upd_same (H := H4) (a := p5) (o := .lst [])
    have h45 := s45 _ _ h4
    have p45 : p4 ≠ p5 := ne_of_none h4 n5
    have n5' : H p5 = none := by
      cases e : H p5 with
      | none => rfl
      | some o => rw [s4 _ _ e] at n5; cases n5
    have s05 := s4.trans s45
    generalize upd H4 p5 (.lst []) = H5 at s45 h5 h45 s05 ⊢
    clear s4 s45 h4
    refine ⟨_, rfl, lp, rfl, ⟨_, SqL.of (s05 _ _ hlp)⟩, ?_⟩
    refine for_enum (K := K) (a := lp) (xs := refs lr) (fun i σ Hc => ∃ (kvs : List (List Key × L2.V)) (ms : List Addr) (legs : List (List Kt)) (v6 v7 v8 v9 v10 v11 v12 v13 v14 : Option L2.V), σ = [some (.ref b), some (.ref lp), some (.ref a), some (.int hp), some (.ref p4), some (.ref p5), v6, v7, v8, v9, v10, v11, v12, v13, v14] ∧ LgSt hs ds H Hc p4 p5 kvs ms legs [] ∧ legs.length = i ∧ legs.flatten.length ≤ 3 * i ∧
      ∀ (j : Nat) d ks, lts[j]? = some d → legs[j]? = some ks → ChainOk hs ds d.1 d.2.1 d.2.2 ks ∧ ks.length ≤ 3 ∧ endT ds d.2.1 ks ≤ d.2.1 + 200 * ks.length)
      ⟨[], [], [], none, none, none, none, none, none, none, none, none, rfl, ⟨s05, h45, h5, .nil, ⟨fun k => rfl, Nat.le_refl _⟩, ?_, List.not_mem_nil⟩, rfl, Nat.le_refl _, fun j d ks _ e => by simp at e⟩ (fun i σ Hc ⟨_, _, _, _, _, _, _, _, _, _, _, _, _, h, _⟩ => SqL.of (h.sm _ _ hlp)) ?_ ?_
    · intro k
      show (([] : List Kt).count k : Int) ≤ _
      rw [List.count_nil]
      unfold rRm
      by_cases hk : k.2 < ds.length
      · rw [List.getD, List.getElem?_eq_getElem hk]
        have := (R.ok _ (List.getElem_mem hk)).m
        show (0 : Int) ≤ ds[k.2].m
        omega
      · rw [List.getD, List.getElem?_eq_none (by omega)]
        exact Int.le_refl _
    · rintro i z σ Hc pt ez ⟨kvs, ms, legs, v6, v7, v8, v9, v10, v11, v12, v13, v14, rfl, J, ll, fl, ch⟩ npt
      unfold refs at ez
      rw [List.getElem?_map] at ez
      obtain ⟨r, er, rfl⟩ := Option.map_eq_some_iff.mp ez
      have il := (List.getElem?_eq_some_iff.mp er).1
      obtain ⟨dv, edv, hr1⟩ := Paired.get tpl er
      rw [List.getElem?_map] at edv
      obtain ⟨d, ed, rfl⟩ := Option.map_eq_some_iff.mp edv
      have nsl : 0 < ns.length := by
        rcases hne with z | z
        · rw [z] at il; simp at il
        · exact z
      have spt := upd_free (o := .tup [V.int (i : Int), V.ref r]) npt
      refine ⟨pt, _, rfl, SqT.of upd_same, rfl, ?_⟩
      have J := J.same spt
      generalize upd Hc pt (.tup [V.int (i : Int), V.ref r]) = Hd at spt J ⊢
      clear spt npt
      refine ⟨_, _, rfl, _, _, rfl, rfl, ?_⟩
      have aD := J.sm.seq ha
      have nm : 0 < (ns.map V.int).length := by rw [List.length_map]; exact nsl
      have k0 : 0 ≤ (i : Int) % ((ns.map V.int).length : Int) := Int.emod_nonneg _ (by omega)
      have k1 : (i : Int) % ((ns.map V.int).length : Int) < ((ns.map V.int).length : Int) := Int.emod_lt_of_pos _ (by omega)
      refine ⟨_, rfl, _, rfl, _, rfl, a, _, rfl, .inl aD, _, _, rfl, rfl, (by show (0 : Int) < ((ns.map V.int).length : Int); omega), a, _, _, _, rfl, rfl, aD, atI_int k0 k1, _, _, rfl, rfl, .inr ⟨by decide, by decide⟩, _, _, rfl, rfl, (by show (0 : Int) < 2147483647; decide), _, rfl, _, _, rfl, rfl, ?_⟩
      dsimp only
      generalize ns.getD ((i : Int) % ((ns.map V.int).length : Int)).toNat 0 * 48271 % 2147483647 + (i : Int) = c0
      have hrD := SqT.of (K := K) (J.sm _ _ hr1)
      refine ⟨_, rfl, r, _, _, _, rfl, rfl, hrD, rfl, _, rfl, r, _, _, _, rfl, rfl, hrD, rfl, Nat.zero_le _, fun pm nm2 => ?_⟩
      have spm := upd_free (o := .lst []) nm2
      have hpm := upd_same (H := Hd) (a := pm) (o := .lst [])
      have pm4 : p4 ≠ pm := ne_of_none J.ld nm2
      have pm5 : p5 ≠ pm := ne_of_none J.lg nm2
      have pmm : pm ∉ ms := fun hm => by
        obtain ⟨j, hj, e⟩ := List.getElem_of_mem hm
        obtain ⟨ks', _, ts', h1, _⟩ := Paired.get J.ea (List.getElem?_eq_getElem hj)
        rw [e, nm2] at h1
        cases h1
      have pmH : H pm = none := by
        cases e : H pm with
        | none => rfl
        | some o => rw [J.sm _ _ e] at nm2; cases nm2
      have J := J.same spm
      generalize upd Hd pm (.lst []) = He at spm hpm J ⊢
      clear spm nm2 aD hrD
      have m0 : 0 ≤ c0 % (hp + 1) := Int.emod_nonneg _ (by omega)
      have m1 : c0 % (hp + 1) < hp + 1 := Int.emod_lt_of_pos _ (by omega)
      refine ⟨_, rfl, _, rfl, _, _, rfl, rfl, _, _, rfl, rfl, (by show (0 : Int) < hp + 1; omega), _, rfl, (by show -(2 ^ 62) ≤ c0 % (hp + 1); omega), (by show c0 % (hp + 1) < 2 ^ 62; omega), ?_⟩
      refine for_range (lo := 0) (n := (c0 % (hp + 1)).toNat) (fun j σ Hf => ∃ (kvs : List (List Key × L2.V)) (ks : List Kt) (cc : Int) (ts : List Addr) (v12 v13 v14 : Option L2.V), σ = [some (.ref b), some (.ref lp), some (.ref a), some (.int hp), some (.ref p4), some (.ref p5), some (.int (i : Int)), some (.ref r), some (.int cc), some (.str (endS hs ds d.1 ks)), some (.int (endT ds d.2.1 ks)), some (.ref pm), v12, v13, v14] ∧
        LgSt hs ds H Hf p4 p5 kvs ms legs ks ∧ Hf pm = some (.lst (refs ts)) ∧ Tups Hf ts (ks.map (legV hs ds)) ∧ ChainOk hs ds d.1 d.2.1 d.2.2 ks ∧ ks.length ≤ j ∧ endT ds d.2.1 ks ≤ d.2.1 + 200 * ks.length)
        ⟨kvs, [], c0, [], v12, v13, v14, rfl, J, hpm, .nil, fun j k e => by simp at e, Nat.le_refl _, by show d.2.1 ≤ d.2.1 + 200 * (0 : Int); omega⟩ ?_ ?_
      · rintro j σ Hf hj ⟨kvs, ks, cc, ts, v12, v13, v14, rfl, J, hpm, tp, cok, kl, et⟩
        refine ⟨_, rfl, _, _, rfl, rfl, .inr ⟨by decide, by decide⟩, _, _, rfl, rfl, (by show (0 : Int) < 2147483647; decide), ?_⟩
        have hbf := SqL.of (K := K) (J.sm _ _ hb)
        have Rf := R.same J.sm
        dsimp only [tSeq, tAsg, gName]
        generalize cc * 48271 % 2147483647 = c2
        refine tlc_fi (J := Itr 0 (refs rs).length) (H1 := Hf) (xs := (List.range (refs rs).length).map fun i : Nat => V.int ((0 : Int) + (i : Int))) (rest := [some (.str (endS hs ds d.1 ks)), some (.ref b)]) (fun R h => ⟨_, rfl, b, _, rfl, .inl hbf, _, rfl, (by show -(2 ^ 62) ≤ ((refs rs).length : Int); omega), (by show ((refs rs).length : Int) < 2 ^ 62; omega), h⟩) rfl (wk_range 0 _) (small1000 (by rw [List.length_map, List.length_range]; omega))
          (fun n => decide (rBeg hs ds n = endS hs ds d.1 ks)) (fun n => V.int n) (fun n v H2 R2 ev sm k2 => ?_) (fun n v H2 R2 ev hp2 sm k2 => ?_) (fun D Hg nD hD sD => ?_)
        · rw [List.getElem?_map] at ev
          obtain ⟨n', en, rfl⟩ := Option.map_eq_some_iff.mp ev
          obtain ⟨hn, e⟩ := List.getElem?_eq_some_iff.mp en
          rw [List.length_range] at hn
          rw [List.getElem_range] at e
          subst e
          have err : rs[n]? = some rs[n] := List.getElem?_eq_getElem (by omega)
          obtain ⟨d1, ed1, _, hd1⟩ := Rf.get err
          have e0 : ds.getD n rd0 = d1 := gd_of ed1
          have eb : decide (V.str (S (hs.getD d1.a [])) = V.str (endS hs ds d.1 ks)) = decide (rBeg hs ds n = endS hs ds d.1 ks) := by
            unfold rBeg
            rw [e0]
            exact decide_eq_decide.mpr ⟨fun z => V.str.inj z, fun z => congrArg V.str z⟩
          refine ⟨_, rfl, _, rfl, b, _, _, _, rfl, rfl, SqL.of (sm _ _ (J.sm _ _ hb)), refs_at err, rs[n], _, _, _, rfl, rfl, SqT.of (sm _ _ hd1), rfl, _, rfl, rfl, _, rfl, ?_⟩
          show R2 (decide (V.str (S (hs.getD d1.a [])) = V.str (endS hs ds d.1 ks))) H2
          rw [eb]
          exact k2 H2 (Same.refl _)
        · rw [List.getElem?_map] at ev
          obtain ⟨n', en, rfl⟩ := Option.map_eq_some_iff.mp ev
          obtain ⟨hn, e⟩ := List.getElem?_eq_some_iff.mp en
          rw [List.getElem_range] at e
          subst e
          refine ⟨_, rfl, ?_⟩
          rw [Int.zero_add]
          exact k2 H2 (Same.refl _)
        obtain ⟨O, eO⟩ : ∃ O, O = (List.range (refs rs).length).filter fun n => decide (rBeg hs ds n = endS hs ds d.1 ks) := ⟨_, rfl⟩
        have hO : ∀ n ∈ O, n < ds.length ∧ rBeg hs ds n = endS hs ds d.1 ks := fun n hn => by
          rw [eO] at hn
          have h1 := List.mem_filter.mp hn
          have h2 := List.mem_range.mp h1.1
          exact ⟨by omega, of_decide_eq_true h1.2⟩
        have lO : O.length ≤ 40 := by
          rw [eO]
          have := List.length_filter_le (fun n => decide (rBeg hs ds n = endS hs ds d.1 ks)) (List.range (refs rs).length)
          rw [List.length_range] at this
          omega
        rw [List.length_map, List.length_range, ← eO] at hD
        have hD' : Hg D = some (.lst ((O.map fun n : Nat => (n : Int)).map V.int)) := by rw [hD, List.map_map]; rfl
        have J := J.same sD
        have hpm := sD _ _ hpm
        have tp := tp.same sD
        refine ⟨_, rfl, Nat.zero_le _, fun le nle => ?_⟩
        have sle := upd_free (o := .lst []) nle
        have can1 : (PyData.list ((O.map fun n : Nat => (n : Int)).map PyData.int)).canLay0 = true := can_all fun d hd => by
          obtain ⟨z, _, rfl⟩ := List.mem_map.mp hd
          rfl
        have sh1 := shaped_of can1 (dlist (n := 0) fun d hd => by obtain ⟨z, _, rfl⟩ := List.mem_map.mp hd; exact Nat.le_refl _) (by decide)
        refine ⟨.list ((O.map fun n : Nat => (n : Int)).map PyData.int), .list [], .lst (SqL.of (sle _ _ hD')) (dts_ints _), .lst (SqL.of upd_same) .nil, sh1, rfl, _, rfl, ?_⟩
        have J := J.same sle
        have hpm := sle _ _ hpm
        have tp := tp.same sle
        have hD' := sle _ _ hD'
        generalize upd Hg le (.lst []) = Hh at sle J hpm tp hD' ⊢
        refine ite2 (fun hne2 => ?_) (fun _ => ⟨kvs, ks, c2, ts, _, _, _, rfl, J, hpm, tp, cok, Nat.le_succ_of_le kl, et⟩)
        have hrh := SqT.of (K := K) (J.sm _ _ hr1)
        refine ⟨_, rfl, _, rfl, r, _, _, _, rfl, rfl, hrh, rfl, rfl, _, rfl, ?_⟩
        by_cases hg : endS hs ds d.1 ks = d.2.2
        · refine iteN (by rw [hg]; simp) ?_
          exact ⟨kvs, ks, c2, ts, _, _, _, rfl, J, hpm, tp, cok, Nat.le_succ_of_le kl, et⟩
        refine iteB (by simp [hg]) ?_
        have Ol : 0 < ((O.map fun n : Nat => (n : Int)).map V.int).length := by
          rw [List.length_map, List.length_map]
          refine List.length_pos_iff.mpr fun z => ?_
          have e := eqv_self (.list []) rfl
          rw [z, List.map_nil, List.map_nil, e] at hne2
          cases hne2
        have q0 : 0 ≤ c2 % (((O.map fun n : Nat => (n : Int)).map V.int).length : Int) := Int.emod_nonneg _ (by omega)
        have q1 : c2 % (((O.map fun n : Nat => (n : Int)).map V.int).length : Int) < (((O.map fun n : Nat => (n : Int)).map V.int).length : Int) := Int.emod_lt_of_pos _ (by omega)
        obtain ⟨n0, hn0, en0⟩ : ∃ n0 ∈ O, (O.map fun n : Nat => (n : Int)).getD (c2 % (((O.map fun n : Nat => (n : Int)).map V.int).length : Int)).toNat 0 = (n0 : Int) := by
          have lt : (c2 % (((O.map fun n : Nat => (n : Int)).map V.int).length : Int)).toNat < O.length := by
            rw [List.length_map, List.length_map] at q1
            rw [List.length_map, List.length_map] at q0
            rw [List.length_map, List.length_map]
            omega
          refine ⟨O[(c2 % (((O.map fun n : Nat => (n : Int)).map V.int).length : Int)).toNat], List.getElem_mem lt, ?_⟩
          rw [List.getD, List.getElem?_map, List.getElem?_eq_getElem lt]
          rfl
        have at0 := atI_int q0 q1
        rw [en0] at at0
        refine ⟨_, rfl, _, rfl, _, rfl, D, _, rfl, .inl (SqL.of hD'), _, _, rfl, rfl, (by show (0 : Int) < (((O.map fun n : Nat => (n : Int)).map V.int).length : Int); omega), D, _, _, _, rfl, rfl, SqL.of hD', at0, ?_⟩
        refine ⟨_, rfl, _, rfl, _, _, rfl, rfl, ⟨by decide, by decide⟩, _, _, rfl, rfl, (by show (0 : Int) < 4; decide), _, _, rfl, rfl, ?_⟩
        have w0 : 0 ≤ c2 / 64 % 4 := Int.emod_nonneg _ (by decide)
        have w1 : c2 / 64 % 4 < 4 := Int.emod_lt_of_pos _ (by decide)
        dsimp only
        generalize c2 / 64 % 4 = wt at w0 w1 ⊢
        obtain ⟨n0l, n0b⟩ := hO n0 hn0
        obtain ⟨r0, er0⟩ : ∃ r0, rs[n0]? = some r0 := ⟨_, List.getElem?_eq_getElem (by omega)⟩
        obtain ⟨d0, ed0, ok0, hd0⟩ := R.get er0
        have e0 : ds.getD n0 rd0 = d0 := gd_of ed0
        have eV : rdV hs d0 = [.str (rBeg hs ds n0), .str (rFin hs ds n0), .int (rTn ds n0), .int (rRm ds n0)] := by
          unfold rdV rBeg rFin rTn rRm
          rw [e0]
        rw [eV] at hd0
        have hm1 : 1 ≤ rRm ds n0 := by unfold rRm; rw [e0]; exact ok0.m.1
        have ht9 : 1 ≤ rTn ds n0 ∧ rTn ds n0 ≤ 9 := by unfold rTn; rw [e0]; exact ok0.t
        have ar0 : L2.atI (refs rs) (n0 : Int) = some (.ref r0) := atI_nat (by unfold refs; rw [List.getElem?_map, er0]; rfl)
        refine ⟨fun m σ Hx => ∃ (t : Int), σ = [some (.ref b), some (.ref lp), some (.ref a), some (.int hp), some (.ref p4), some (.ref p5), some (.int (i : Int)), some (.ref r), some (.int c2), some (.str (endS hs ds d.1 ks)), some (.int t), some (.ref pm), some (.int (0 + (j : Int))), some (.ref D), some (.int (n0 : Int))] ∧ Same Hh Hx ∧ endT ds d.2.1 ks + wt ≤ t ∧ m = ahead (legs.flatten ++ ks) n0 t ∧ t + (m : Int) ≤ endT ds d.2.1 ks + wt + ((legs.flatten ++ ks).length : Int),
          ⟨_, _, rfl, Same.refl _, Int.le_refl _, rfl, by have := ahead_le (legs.flatten ++ ks) n0 (endT ds d.2.1 ks + wt); omega⟩, ?_⟩
        rintro m σ Hx ⟨t, rfl, sx, t1, rfl, t2⟩
        have J := J.same sx
        have hpm := sx _ _ hpm
        have tp := tp.same sx
        have cnt := J.lo.1 (t, n0)
        refine ⟨_, rfl, p4, rfl, .inr ⟨_, .inl J.ld⟩, _, rfl, _, rfl, (by show 2 ≤ sizeLine; decide), fun q1' nq1 => ?_⟩
        have sq1 := upd_free (o := .tup [V.int t, V.int (n0 : Int)]) nq1
        have J := J.same sq1
        have hpm := sq1 _ _ hpm
        have tp := tp.same sq1
        have hq1 : upd Hx q1' (.tup [V.int t, V.int (n0 : Int)]) q1' = some (.tup ((kk (t, n0)).map kV)) := upd_same
        have sx2 := sx.trans sq1
        generalize upd Hx q1' (.tup [V.int t, V.int (n0 : Int)]) = Hy at J hpm tp hq1 sx2 ⊢
        clear sq1 nq1
        refine ⟨_, DGet.t J.ld hq1, _, rfl, _, rfl, b, _, _, _, rfl, rfl, SqL.of (J.sm _ _ hb), ar0, r0, _, _, _, rfl, rfl, SqT.of (J.sm _ _ hd0), rfl, _, _, cnt, rfl, _, rfl, ?_⟩
        refine ite2 (fun full => ?_) (fun room => ?_)
        · have full := of_decide_eq_true full
          have mem : (t, n0) ∈ legs.flatten ++ ks := List.count_pos_iff.mp (by omega)
          have al := ahead_lt mem
          refine ⟨_, fun σ' H' h => ⟨ahead (legs.flatten ++ ks) n0 (t + 1), al, h⟩, _, rfl, _, _, rfl, rfl, t + 1, rfl, sx2, by omega, rfl, by omega⟩
        have room : ((legs.flatten ++ ks).count (t, n0) : Int) < rRm ds n0 := Int.not_le.mp fun z => room (decide_eq_true z)
        have kvl : kvs.length ≤ 1000 := by
          have h1 := J.lo.2
          rw [List.length_append] at h1
          have : ks.length ≤ 3 := by omega
          omega
        refine ⟨_, rfl, p4, rfl, .inr ⟨_, .inl J.ld⟩, _, rfl, _, rfl, (by show 2 ≤ sizeLine; decide), fun q2 nq2 => ?_⟩
        have sq2 := upd_free (o := .tup [V.int t, V.int (n0 : Int)]) nq2
        have J := J.same sq2
        have hpm := sq2 _ _ hpm
        have tp := tp.same sq2
        have hq2 : upd Hy q2 (.tup [V.int t, V.int (n0 : Int)]) q2 = some (.tup ((kk (t, n0)).map kV)) := upd_same
        generalize upd Hy q2 (.tup [V.int t, V.int (n0 : Int)]) = Hz at J hpm tp hq2 ⊢
        refine ⟨_, DGet.t J.ld hq2, _, _, cnt, rfl, _, rfl, _, rfl, _, rfl, (by show 2 ≤ sizeLine; decide), fun q3 nq3 => ?_⟩
        have sq3 := upd_free (o := .tup [V.int t, V.int (n0 : Int)]) nq3
        have J := J.same sq3
        have hpm := sq3 _ _ hpm
        have tp := tp.same sq3
        have hq3 : upd Hz q3 (.tup [V.int t, V.int (n0 : Int)]) q3 = some (.tup ((kk (t, n0)).map kV)) := upd_same
        generalize upd Hz q3 (.tup [V.int t, V.int (n0 : Int)]) = Hu at J hpm tp hq3 ⊢
        refine ⟨p4, _, rfl, DPut.t J.ld hq3 (small1000 kvl), ?_⟩
        have hpm : upd Hu p4 (.dT (putK kvs (kk (t, n0)) (.int ((legs.flatten ++ ks).count (t, n0) + 1)))) pm = some (.lst (refs ts)) := by rw [upd_ne pm4.symm]; exact hpm
        have tp : Tups (upd Hu p4 (.dT (putK kvs (kk (t, n0)) (.int ((legs.flatten ++ ks).count (t, n0) + 1))))) ts (ks.map (legV hs ds)) := tp.upd J.ld (by intro d z; cases z)
        have J := J.load n4 p45 (t, n0) room
        show tSeq _ _ _ _ (upd Hu p4 (.dT (putK kvs (kk (t, n0)) (.int ((legs.flatten ++ ks).count (t, n0) + 1)))))
        generalize upd Hu p4 (.dT (putK kvs (kk (t, n0)) (.int ((legs.flatten ++ ks).count (t, n0) + 1)))) = Hv at J hpm tp ⊢
        have tsl : ts.length = ks.length := by have := tp.len; rw [List.length_map] at this; exact this
        have rfl2 := refs_len ts
        have hbv := SqL.of (K := K) (J.sm _ _ hb)
        have hdv := SqT.of (K := K) (J.sm _ _ hd0)
        refine ⟨_, rfl, .inl ⟨rfl, _, SqL.of hpm⟩, _, rfl, _, rfl, _, rfl, _, rfl, _, rfl, b, _, _, _, rfl, rfl, hbv, ar0, r0, _, _, _, rfl, rfl, hdv, rfl, _, _, rfl, rfl, _, rfl, _, rfl, b, _, _, _, rfl, rfl, hbv, ar0, r0, _, _, _, rfl, rfl, hdv, rfl, (by show 4 ≤ sizeLine; decide), fun q4 nq4 => ?_⟩
        have sq4 := upd_free (o := .tup [V.int t, V.int (n0 : Int), V.int (t + rTn ds n0), V.str (rFin hs ds n0)]) nq4
        have npm : q4 ≠ pm := (ne_of_none hpm nq4).symm
        have J := J.same sq4
        have hpm := sq4 _ _ hpm
        have tp := tp.same sq4
        have hq4 := upd_same (H := Hv) (a := q4) (o := .tup [V.int t, V.int (n0 : Int), V.int (t + rTn ds n0), V.str (rFin hs ds n0)])
        refine ⟨pm, _, _, rfl, rfl, hpm, small1000 (by omega), ?_⟩
        show tSeq _ _ _ _ (upd (upd Hv q4 (.tup [V.int t, V.int (n0 : Int), V.int (t + rTn ds n0), V.str (rFin hs ds n0)])) pm (.lst (refs ts ++ [V.ref q4])))
        generalize upd Hv q4 (.tup [V.int t, V.int (n0 : Int), V.int (t + rTn ds n0), V.str (rFin hs ds n0)]) = Hw at J hpm tp hq4 ⊢
        have tp : Tups (upd Hw pm (.lst (refs ts ++ [V.ref q4]))) (ts ++ [q4]) ((ks ++ [(t, n0)]).map (legV hs ds)) := by
          rw [List.map_append]
          refine Paired.snoc ?_ (tp.upd hpm (by intro d z; cases z))
          show upd Hw pm _ q4 = some (.tup (legV hs ds (t, n0)))
          rw [upd_ne npm]
          exact hq4
        have J := J.mine (vs := refs ts ++ [V.ref q4]) pmH pm4 pm5 pmm hpm
        have hpm : upd Hw pm (.lst (refs ts ++ [V.ref q4])) pm = some (.lst (refs (ts ++ [q4]))) := by rw [upd_same]; unfold refs; rw [List.map_append]; rfl
        generalize upd Hw pm (.lst (refs ts ++ [V.ref q4])) = Hr at J hpm tp ⊢
        have hbr := SqL.of (K := K) (J.sm _ _ hb)
        have hdr := SqT.of (K := K) (J.sm _ _ hd0)
        refine ⟨_, rfl, _, rfl, b, _, _, _, rfl, rfl, hbr, ar0, r0, _, _, _, rfl, rfl, hdr, rfl, ?_⟩
        refine ⟨_, rfl, _, rfl, _, rfl, b, _, _, _, rfl, rfl, hbr, ar0, r0, _, _, _, rfl, rfl, hdr, rfl, _, _, rfl, rfl, ?_⟩
        refine ⟨_, ks ++ [(t, n0)], c2, ts ++ [q4], some (.int (0 + (j : Int))), some (.ref D), some (.int (n0 : Int)), ?_, J, hpm, tp, cok.snoc n0l n0b hg (by show endT ds d.2.1 ks ≤ t; omega), ?_, ?_⟩
        · rw [endS_snoc, endT_snoc]
          rfl
        · rw [List.length_append]
          exact Nat.succ_le_succ kl
        · rw [endT_snoc, List.length_append]
          show t + rTn ds n0 ≤ d.2.1 + 200 * ((ks.length + 1 : Nat) : Int)
          have h1 : (legs.flatten ++ ks).length ≤ 140 := by
            rw [List.length_append]
            have : ks.length ≤ 3 := by omega
            omega
          omega
      · rintro σ Hf ⟨kvs, ks, cc, ts, v12, v13, v14, rfl, J, hpm, tp, cok, kl, et⟩
        have k3 : ks.length ≤ 3 := by omega
        have ml := Paired.length J.ea
        refine ⟨_, rfl, .inl ⟨rfl, _, SqL.of J.lg⟩, _, rfl, p5, _, _, rfl, rfl, J.lg, small1000 (by rw [refs_len]; omega), ?_⟩
        refine ⟨kvs, ms ++ [pm], legs ++ [ks], _, _, _, _, _, _, _, _, _, rfl, ⟨upd_other n5' J.sm, by rw [upd_ne p45]; exact J.ld, by rw [upd_same]; unfold refs; rw [List.map_append]; rfl, ?_, ?_, ?_, ?_⟩, by rw [List.length_append, ll]; rfl, ?_, ?_⟩
        · have : ∀ {ls : List Addr} {gs : List (List Kt)}, Paired (LegsL hs ds Hf) ls gs → p5 ∉ ls → Paired (LegsL hs ds (upd Hf p5 (.lst (refs ms ++ [V.ref pm])))) ls gs := fun {ls gs} p => by
            induction p with
            | nil => exact fun _ => .nil
            | cons r t ih => exact fun h => .cons (r.upd J.lg (by intro d z; cases z) (fun z => h (by rw [z]; exact .head _))) (ih fun z => h (.tail _ z))
          refine Paired.snoc ?_ (this J.ea J.n5)
          exact LegsL.upd ⟨ts, hpm, tp⟩ J.lg (by intro d z; cases z) pm5.symm
        · rw [List.flatten_append, List.append_nil]
          simpa using J.lo
        · rw [List.flatten_append, List.append_nil]
          simpa using J.cn
        · rw [List.mem_append]
          exact fun z => z.elim J.n5 fun y => pm5 (List.mem_singleton.mp y)
        · rw [List.flatten_append, List.length_append]
          have : [ks].flatten.length = ks.length := by simp
          omega
        · intro j' d' ks' e1 e2
          by_cases hj : j' < legs.length
          · rw [List.getElem?_append_left hj] at e2
            exact ch j' d' ks' e1 e2
          · rw [List.getElem?_append_right (by omega)] at e2
            have ej : j' = i := by
              by_cases hz : j' - legs.length = 0
              · omega
              · rw [List.getElem?_eq_none (by simp; omega)] at e2
                cases e2
            subst ej
            rw [ll, Nat.sub_self] at e2
            cases e2
            rw [ed] at e1
            cases e1
            exact ⟨cok, k3, et⟩
    · rintro σ Hc ⟨kvs, ms, legs, v6, v7, v8, v9, v10, v11, v12, v13, v14, rfl, J, ll, fl, ch⟩
      refine ⟨_, rfl, q Hc p5 ms legs n5' J.sm J.lg J.ea ⟨?_, ch, ?_⟩⟩
      · rw [ll, refs_len, lrl]
      · have := J.cn
        rw [List.append_nil] at this
        exact this
end
end K1
set_option Elab.async false
set_option linter.all false
set_option maxRecDepth 100000
set_option maxHeartbeats 4000000
namespace K1
open PySem L2 L3 M1
theorem tlc_any {wi : TI} {cs : List (Option Nat)} {te : TE} {σ rest : L2.St} {H H1 : Hp} {Q : VK} {J : It} {xs : List L2.V} (hw : ∀ R : It → Hp → Prop, R J H1 → wi σ H R) (hcs : caps cs σ = none :: rest) (wk : Wk J H1 xs) (hl : xs.length < sizeLine) (F : Nat → L2.V → Hp → Prop)
    (st : ∀ i v H2 H3, Same H2 H3 → F i v H2 → F i v H3) (sl : ∀ i v H2 D ys zs, H2 D = some (.lst ys) → F i v H2 → F i v (upd H2 D (.lst zs)))
    (elt : ∀ (i : Nat) (x : L2.V) (H2 : Hp) (R : VK), xs[i]? = some x → Same H1 H2 → (∀ v H5, Same H2 H5 → F i v H5 → R v H5) → te (some x :: rest) H2 R)
    (fin : ∀ (D : Addr) (H' : Hp) (vs : List L2.V), H1 D = none → H' D = some (.lst vs) → vs.length = xs.length → (∀ i v, vs[i]? = some v → F i v H') → Same H1 H' → Q (.ref D) H') : tLC wi cs (gName 0) tAll te σ H Q := by
  refine hw _ fun D hD => ?_
  refine ⟨fun i m ys σ' H' => m = xs.length - i ∧ i ≤ xs.length ∧ (ys.length = i ∧ ∀ j v, ys[j]? = some v → F j v H') ∧ (∃ o, σ' = o :: rest) ∧ Same H1 H' ∧ H' D = some (.lst ys), ⟨xs.length, by simp, Nat.zero_le _, ⟨rfl, fun j v e => by simp at e⟩, ⟨none, by rw [hcs]⟩, fun b o e => ?_, upd_same⟩, ?_⟩
  · rw [upd_ne (ne_of_none e hD)]
    exact e
  · rintro i m ys σ' H' ⟨rfl, hi, ⟨yl, hy⟩, ⟨o, rfl⟩, sm, hHD⟩
    obtain ⟨w1, w2, w3⟩ := wk H' sm
    refine ⟨hHD, Nat.lt_of_le_of_lt (by omega) hl, ?_⟩
    by_cases hlt : i < xs.length
    · refine .inr ⟨w2 i hlt, fun x H2 y => ?_⟩
      obtain ⟨rfl, ex⟩ := w3 i x H2 hlt y
      show te (some x :: rest) H2 _
      refine elt i x H2 _ ex sm fun v H5 s5 hv => ⟨s5 _ _ hHD, xs.length - (i + 1), by omega, rfl, hlt, ⟨by rw [List.length_append, yl]; rfl, fun j u e => ?_⟩, ⟨_, rfl⟩, fun b ob e => ?_, upd_same⟩
      · refine sl j u H5 D ys _ (s5 _ _ hHD) ?_
        by_cases hj : j < ys.length
        · rw [List.getElem?_append_left hj] at e
          exact st j u _ _ s5 (hy j u e)
        · rw [List.getElem?_append_right (by omega)] at e
          have ej : j = i := by
            by_cases hz : j - ys.length = 0
            · omega
            · rw [List.getElem?_eq_none (by simp; omega)] at e
              cases e
          subst ej
          rw [yl, Nat.sub_self] at e
          cases e
          exact hv
      · rw [upd_ne (ne_of_none e hD)]
        exact s5 _ _ (sm _ _ e)
    · have e : i = xs.length := by omega
      subst e
      exact .inl ⟨w1, fin D H' ys hD hHD yl hy sm⟩
end K1
set_option Elab.async false
set_option linter.all false
set_option maxRecDepth 100000
set_option maxHeartbeats 4000000
namespace L3
open PySem PySem.Spec PyProof.Rows L2 PySem.W
structure LtOk (n : Nat) (lt : Nat → Nat → Bool) : Prop where
  tr : ∀ i j k, lt i j = true → lt j k = true → lt i k = true
  to : ∀ i j, i < n → j < n → i ≠ j → lt i j = true ∨ lt j i = true
  ir : ∀ i, lt i i = false
noncomputable abbrev gx (p : Array Nat) (a : Nat) : Nat := p.getD a 0
noncomputable def SrtTo (lt : Nat → Nat → Bool) (p : Array Nat) (k : Nat) : Prop := ∀ a b, a < b → b < k → lt (gx p a) (gx p b) = true
theorem kRun_bind {α β : Type} (lt : Nat → Nat → Bool) (f : α → KasT β) : ∀ t : KasT α, kRun lt (t.bind f) = kRun lt (f (kRun lt t))
  | .ret _ => rfl
  | .ask i j k => kRun_bind lt f (k (lt i j))
theorem kRun_if {α : Type} (lt : Nat → Nat → Bool) {c : Prop} [Decidable c] (s t : KasT α) : kRun lt (if c then s else t) = if c then kRun lt s else kRun lt t := by split <;> rfl
theorem AB.size {n : Nat} {p : Array Nat} (h : AB n p) : p.size = n := by
  have := h.list.length_eq
  simpa using this
theorem AB.inj {n : Nat} {p : Array Nat} (h : AB n p) {a b : Nat} (ha : a < n) (hb : b < n) (e : gx p a = gx p b) : a = b := by
  have nd : p.toList.Nodup := h.list.nodup_iff.mpr List.nodup_range
  have sz := h.size
  have e1 : gx p a = p.toList[a]'(by simp; omega) := by simp [gx, Array.getD, show a < p.size by omega]
  have e2 : gx p b = p.toList[b]'(by simp; omega) := by simp [gx, Array.getD, show b < p.size by omega]
  rw [e1, e2] at e
  exact (List.getElem_inj nd).mp e
section
variable {n : Nat} {lt : Nat → Nat → Bool}
theorem LtOk.or (o : LtOk n lt) {p : Array Nat} (h : AB n p) {a b : Nat} (ha : a < n) (hb : b < n) (ne : a ≠ b) (f : lt (gx p a) (gx p b) = false) : lt (gx p b) (gx p a) = true := by
  have h0 : 0 < n := by omega
  rcases o.to (gx p a) (gx p b) (h.at h0 a) (h.at h0 b) (fun e => ne (h.inj ha hb e)) with z | z
  · rw [z] at f; cases f
  · exact z
theorem SrtTo.succ (o : LtOk n lt) {p : Array Nat} {k : Nat} (s : SrtTo lt p k) (h1 : 1 ≤ k) (h : lt (gx p (k - 1)) (gx p k) = true) : SrtTo lt p (k + 1) := fun a b hab hb => by
  by_cases e : b = k
  · subst e
    by_cases e2 : a = b - 1
    · rw [e2]; exact h
    · exact o.tr _ _ _ (s a (b - 1) (by omega) (by omega)) h
  · exact s a b hab (by omega)
theorem asc_ok (o : LtOk n lt) {p : Array Nat} (h : AB n p) : ∀ f k, 1 ≤ k → k + f ≤ n → SrtTo lt p k → ∃ m, kRun lt (kas_asc p f k) = m ∧ k ≤ m ∧ m ≤ k + f ∧ SrtTo lt p m ∧ (m < k + f → lt (gx p m) (gx p (m - 1)) = true)
  | 0, k, h1, h2, s => ⟨k, rfl, Nat.le_refl _, Nat.le_refl _, s, fun z => absurd z (by omega)⟩
  | f + 1, k, h1, h2, s => by
    show ∃ m, kRun lt (if lt (gx p k) (gx p (k - 1)) = true then .ret k else kas_asc p f (k + 1)) = m ∧ _
    cases e : lt (gx p k) (gx p (k - 1)) with
    | true =>
      rw [if_pos rfl]
      exact ⟨k, rfl, Nat.le_refl _, by omega, s, fun _ => e⟩
    | false =>
      rw [if_neg (by decide)]
      have up := o.or h (a := k) (b := k - 1) (by omega) (by omega) (by omega) e
      obtain ⟨m, e1, e2, e3, e4, e5⟩ := asc_ok o h f (k + 1) (by omega) (by omega) (s.succ o h1 up)
      exact ⟨m, e1, by omega, by omega, e4, fun z => e5 (by omega)⟩
noncomputable def DscTo (lt : Nat → Nat → Bool) (p : Array Nat) (k : Nat) : Prop := ∀ a b, a < b → b < k → lt (gx p b) (gx p a) = true
theorem desc_ok (o : LtOk n lt) {p : Array Nat} (h : AB n p) : ∀ f k, 1 ≤ k → k + f ≤ n → DscTo lt p k → ∃ m, kRun lt (kas_desc f p k 0) = (p, m, 0) ∧ k ≤ m ∧ m ≤ k + f ∧ DscTo lt p m
  | 0, k, h1, h2, s => ⟨k, rfl, Nat.le_refl _, Nat.le_refl _, s⟩
  | f + 1, k, h1, h2, s => by
    show ∃ m, kRun lt (if lt (gx p k) (gx p (k - 1)) = true then (if 0 > 0 then kas_desc f (kas_rev p (k - (0 + 1)) k) (k + 1) 0 else kas_desc f p (k + 1) 0) else .ask (gx p (k - 1)) (gx p k) fun d => if d = true then .ret (p, k, 0) else kas_desc f p (k + 1) (0 + 1)) = (p, m, 0) ∧ _
    cases e : lt (gx p k) (gx p (k - 1)) with
    | true =>
      rw [if_pos rfl, if_neg (by omega)]
      have s2 : DscTo lt p (k + 1) := fun a b hab hb => by
        by_cases eb : b = k
        · subst eb
          by_cases e2 : a = b - 1
          · rw [e2]; exact e
          · exact o.tr _ _ _ e (s a (b - 1) (by omega) (by omega))
        · exact s a b hab (by omega)
      obtain ⟨m, e1, e2, e3, e4⟩ := desc_ok o h f (k + 1) (by omega) (by omega) s2
      exact ⟨m, e1, by omega, by omega, e4⟩
    | false =>
      rw [if_neg (by decide)]
      have up := o.or h (a := k) (b := k - 1) (by omega) (by omega) (by omega) e
      show ∃ m, kRun lt (if lt (gx p (k - 1)) (gx p k) = true then .ret (p, k, 0) else kas_desc f p (k + 1) (0 + 1)) = (p, m, 0) ∧ _
      rw [if_pos up]
      exact ⟨k, rfl, Nat.le_refl _, by omega, s⟩
theorem gx_of {p q : Array Nat} {a b : Nat} (e : p[a]? = q[b]?) : gx p a = gx q b := by
  have f : ∀ (r : Array Nat) (c : Nat), gx r c = (r[c]?).getD 0 := fun r c => by
    show r.getD c 0 = _
    by_cases hc : c < r.size
    · rw [Array.getElem?_eq_getElem hc]
      simp [Array.getD, hc]
    · rw [Array.getElem?_eq_none (by omega)]
      simp [Array.getD, hc]
  rw [f, f, e]
theorem rev_at {p : Array Nat} {r i : Nat} (hr : r ≤ p.size) (hi : i < r) : gx (kas_rev p 0 r) i = gx p (r - 1 - i) := by
  have h := getElem?_mirror_all (xs := p) (i := 0) (j := r) hr i
  rw [if_pos ⟨Nat.zero_le _, hi⟩, show 0 + r - 1 - i = r - 1 - i by omega] at h
  exact gx_of h
theorem tail3_ok (o : LtOk n lt) {p : Array Nat} (h : AB n p) {k : Nat} (h1 : 1 ≤ k) (h2 : k ≤ n) (s : DscTo lt p k) : ∃ m q, kRun lt (kas_tail3 k n p) = (m, q) ∧ 1 ≤ m ∧ m ≤ n ∧ SrtTo lt q m ∧ AB n q := by
  unfold kas_tail3
  rw [kRun_bind]
  have hr := h.rev 0 k
  have sr : SrtTo lt (kas_rev p 0 k) k := fun a b hab hb => by
    rw [rev_at (by rw [h.size]; exact h2) (by omega), rev_at (by rw [h.size]; exact h2) hb]
    exact s _ _ (by omega) (by omega)
  obtain ⟨m, e1, e2, e3, e4, _⟩ := asc_ok o hr (n - k) k h1 (by omega) sr
  rw [e1]
  exact ⟨m, _, rfl, by omega, by omega, e4, hr⟩
theorem count_ok (o : LtOk n lt) {p : Array Nat} (h : AB n p) (h0 : 2 ≤ n) : ∃ m q, kRun lt (kas_count n p) = (m, q) ∧ 1 ≤ m ∧ m ≤ n ∧ SrtTo lt q m ∧ AB n q := by
  unfold kas_count
  rw [kRun_bind]
  obtain ⟨m, e1, e2, e3, e4, e5⟩ := asc_ok o h (n - 1) 1 (Nat.le_refl _) (by omega) (fun a b hab hb => by omega)
  rw [e1, kRun_if]
  by_cases c1 : m = n
  · rw [if_pos (by simpa using c1)]
    exact ⟨m, p, rfl, e2, by omega, e4, h⟩
  · rw [if_neg (by simpa using c1), kRun_if]
    have lt1 := e5 (by omega)
    by_cases c2 : m > 1
    · rw [if_pos c2]
      show ∃ m' q, kRun lt (if lt (gx p 0) (gx p (m - 1)) = true then .ret (m, p) else kas_descPart m n (kas_rev p 0 m)) = (m', q) ∧ _
      rw [if_pos (e4 0 (m - 1) (by omega) (by omega))]
      exact ⟨m, p, rfl, e2, by omega, e4, h⟩
    · rw [if_neg c2]
      have m1 : m = 1 := by omega
      subst m1
      unfold kas_descPart
      rw [kRun_bind]
      obtain ⟨k, d1, d2, d3, d4⟩ := desc_ok o h (n - (1 + 1)) (1 + 1) (by omega) (by omega) (fun a b hab hb => by
        have : a = 0 ∧ b = 1 := by omega
        rw [this.1, this.2]
        exact lt1)
      rw [d1]
      show ∃ m' q, kRun lt (if 0 > 0 then kas_tail3 k n (kas_rev p (k - (0 + 1)) k) else kas_tail3 k n p) = (m', q) ∧ _
      rw [if_neg (by omega)]
      exact tail3_ok o h (by omega) (by omega) d4
theorem place_ok (o : LtOk n lt) {p : Array Nat} (h : AB n p) {k : Nat} (hk : k < n) (s : SrtTo lt p k) : ∀ f l r, l ≤ r → r ≤ k → r - l ≤ f → (∀ a, a < l → lt (gx p a) (gx p k) = true) → (∀ a, r ≤ a → a < k → lt (gx p k) (gx p a) = true) →
    ∃ m, kRun lt (kas_place p k f l r) = m ∧ m ≤ k ∧ (∀ a, a < m → lt (gx p a) (gx p k) = true) ∧ ∀ a, m ≤ a → a < k → lt (gx p k) (gx p a) = true
  | 0, l, r, h1, h2, h3, hl, hr => ⟨l, rfl, by omega, hl, fun a ha => hr a (by omega)⟩
  | f + 1, l, r, h1, h2, h3, hl, hr => by
    show ∃ m, kRun lt (if l ≥ r then .ret l else .ask (gx p k) (gx p ((l + r) / 2)) fun c => if c = true then kas_place p k f l ((l + r) / 2) else kas_place p k f ((l + r) / 2 + 1) r) = m ∧ _
    by_cases c : l ≥ r
    · rw [if_pos c]
      exact ⟨l, rfl, by omega, hl, fun a ha => hr a (by omega)⟩
    · rw [if_neg c]
      show ∃ m, kRun lt (if lt (gx p k) (gx p ((l + r) / 2)) = true then kas_place p k f l ((l + r) / 2) else kas_place p k f ((l + r) / 2 + 1) r) = m ∧ _
      have md : l ≤ (l + r) / 2 ∧ (l + r) / 2 < r := by omega
      cases e : lt (gx p k) (gx p ((l + r) / 2)) with
      | true =>
        rw [if_pos rfl]
        refine place_ok o h hk s f l ((l + r) / 2) md.1 (by omega) (by omega) hl fun a ha hak => ?_
        by_cases ea : a = (l + r) / 2
        · rw [ea]; exact e
        · exact o.tr _ _ _ e (s _ _ (by omega) hak)
      | false =>
        rw [if_neg (by decide)]
        have up := o.or h (a := k) (b := (l + r) / 2) hk (by omega) (by omega) e
        refine place_ok o h hk s f ((l + r) / 2 + 1) r (by omega) h2 (by omega) (fun a ha => ?_) hr
        by_cases ea : a = (l + r) / 2
        · rw [ea]; exact up
        · exact o.tr _ _ _ (s a _ (by omega) (by omega)) up
theorem bub_at {p : Array Nat} {k l i : Nat} (hk : k < p.size) (hl : l ≤ k) : gx (bubble p k (k - l)) i = if i = l then gx p k else if l < i ∧ i ≤ k then gx p (i - 1) else gx p i := by
  have h := getElem?_bubble (xs := p) hk (k - l) (by omega) i
  rw [show k - (k - l) = l by omega] at h
  by_cases c : i = l
  · rw [if_pos c] at h ⊢
    exact gx_of h
  · rw [if_neg c] at h ⊢
    by_cases c2 : l < i ∧ i ≤ k
    · rw [if_pos c2] at h ⊢
      exact gx_of h
    · rw [if_neg c2] at h ⊢
      exact gx_of h
theorem bin_ok (o : LtOk n lt) : ∀ (f : Nat) (p : Array Nat) (k : Nat), AB n p → SrtTo lt p k → k + f = n → SrtTo lt (kRun lt (kas_bin f p k)) n
  | 0, p, k, h, s, e => by
    have : k = n := by omega
    subst this
    exact s
  | f + 1, p, k, h, s, e => by
    show SrtTo lt (kRun lt ((kas_place p k k 0 k).bind fun l => kas_bin f (bubble p k (k - l)) (k + 1))) n
    rw [kRun_bind]
    obtain ⟨m, e1, e2, e3, e4⟩ := place_ok o h (k := k) (by omega) s k 0 k (Nat.zero_le _) (Nat.le_refl _) (by omega) (fun a ha => absurd ha (by omega)) (fun a h1 h2 => absurd h2 (by omega))
    rw [e1]
    refine bin_ok o f _ _ (h.bub _ _) (fun a b hab hb => ?_) (by omega)
    have hk : k < p.size := by rw [h.size]; omega
    rw [bub_at hk e2, bub_at hk e2]
    by_cases a1 : a = m
    · rw [if_pos a1, if_neg (by omega), if_pos ⟨by omega, by omega⟩]
      exact e4 (b - 1) (by omega) (by omega)
    · rw [if_neg a1]
      by_cases b1 : b = m
      · rw [if_pos b1, if_neg (by omega)]
        exact e3 a (by omega)
      · rw [if_neg b1]
        by_cases a2 : m < a ∧ a ≤ k
        · rw [if_pos a2, if_pos ⟨by omega, by omega⟩]
          exact s _ _ (by omega) (by omega)
        · rw [if_neg a2]
          by_cases b2 : m < b ∧ b ≤ k
          · rw [if_pos b2]
            exact s _ _ (by omega) (by omega)
          · rw [if_neg b2]
            exact s _ _ hab (by omega)
theorem srtIx_sorted (o : LtOk n lt) : (srtIx lt n).Pairwise fun i j => lt i j = true := by
  unfold srtIx
  by_cases h2 : n < 2
  · rw [if_pos h2]
    have : n = 0 ∨ n = 1 := by omega
    rcases this with e | e <;> subst e <;> simp [List.range_succ]
  · rw [if_neg h2]
    have hr : AB n (List.toArray (List.range n)) := Array.Perm.refl _
    unfold kas_sort
    rw [kRun_bind]
    obtain ⟨m, q, e1, e2, e3, e4, e5⟩ := count_ok o hr (by omega)
    rw [e1]
    show ((kRun lt (if m < n then kas_bin (n - max m 1) q (max m 1) else .ret q)).toList).Pairwise _
    have mx : max m 1 = m := by omega
    rw [mx]
    have fin : ∀ q' : Array Nat, AB n q' → SrtTo lt q' n → q'.toList.Pairwise fun i j => lt i j = true := fun q' a s => by
      rw [List.pairwise_iff_getElem]
      intro i j hi hj hij
      have hj' : j < n := by rw [← a.size]; simpa using hj
      have := s i j hij hj'
      have si : i < q'.size := by rw [a.size]; omega
      have sj : j < q'.size := by rw [a.size]; omega
      have f1 : gx q' i = q'[i] := by simp [gx, Array.getD, si]
      have f2 : gx q' j = q'[j] := by simp [gx, Array.getD, sj]
      rw [f1, f2] at this
      simpa using this
    by_cases c : m < n
    · rw [if_pos c]
      refine fin _ ?_ (bin_ok o _ _ _ e5 e4 (by omega))
      exact kRun_has (lt := lt) _ (bin_b (by omega) _ _ _ e5)
    · rw [if_neg c]
      have : m = n := by omega
      subst this
      exact fin q e5 e4
end
end L3
set_option Elab.async false
set_option linter.all false
set_option maxRecDepth 100000
set_option maxHeartbeats 4000000
namespace BS
open PySem PySem.Spec PyProof.Rows L3 PySem.W
structure Ctx where
  prog : Program
  w : World
  A : Around
  E : Value → Shared → Prop
  κ : SortKind
  it : Array Keyed
  s : Shared
  n : Nat
  lt : Nat → Nat → Bool
  hc : ∀ i j C, i < n → j < n → C (lt i j) s → kas_cmp prog w A κ it i j C s
  ok : LtOk n lt
variable (X : Ctx)
noncomputable def W {α : Type} (m : StateT SortSt Sem α) (Q : α → SortSt → Prop) (st : SortSt) : Prop := kasC (model X.prog X.w) X.A X.E m (fun a st' s' => s' = X.s ∧ Q a st') st X.s
variable {X}
end BS
set_option Elab.async false
set_option linter.all false
set_option maxRecDepth 100000
set_option maxHeartbeats 4000000
namespace BS
open PySem PySem.Spec PyProof.Rows L3 PySem.W
variable {X : Ctx}
section
variable {la lb o : List Nat} {ia ib : Nat}
end
end BS
set_option Elab.async false
set_option linter.all false
set_option maxRecDepth 100000
set_option maxHeartbeats 4000000
namespace BS
open PySem PySem.Spec PyProof.Rows L3 PySem.W
variable {X : Ctx}
section
variable {la lb q : List Nat} {na nb : Nat}
end
end BS
set_option Elab.async false
set_option linter.all false
set_option maxRecDepth 100000
set_option maxHeartbeats 4000000
namespace BS
open PySem PySem.Spec PyProof.Rows L3 PySem.W
variable {X : Ctx}
section
variable {p : Array Nat} {pd : Array (Nat × Nat × Nat)} {g : Nat}
end
end BS
set_option Elab.async false
set_option linter.all false
set_option maxRecDepth 100000
set_option maxHeartbeats 4000000
namespace BS
open PySem PySem.Spec PyProof.Rows L3 PySem.W
variable {X : Ctx}
end BS
set_option Elab.async false
set_option linter.all false
set_option maxRecDepth 100000
set_option maxHeartbeats 4000000
namespace BS
open PySem PySem.Spec PyProof.Rows L3 PySem.W
variable {X : Ctx}
end BS
set_option Elab.async false
set_option linter.all false
set_option maxRecDepth 100000
set_option maxHeartbeats 4000000
namespace BS
open PySem PySem.Spec PyProof.Rows L3 PySem.W
end BS
namespace L3
open PySem PySem.Spec PyProof.Rows L2 PySem.W
section
variable {prog : Program} {w : World} {A : Around} {E : Value → Shared → Prop} {s : Shared} {vs : List Value} {κ : SortKind} {lt : Nat → Nat → Bool}
end
section
variable {prog : Program} {w : World} {A : Around} {E : Value → Shared → Prop} {s : Shared} {d : Addr} {ep : Nat} {es : Array DictEntry}
end
section
variable {X : Cx}
end
end L3
set_option Elab.async false
set_option linter.all false
set_option maxRecDepth 100000
set_option maxHeartbeats 4000000
namespace K1
open PySem L2 L3 M1
noncomputable def evsF : Nat → List (List Kt) → List (Kt × Nat)
  | _, [] => []
  | n, ks :: r => (ks.map fun k => (k, n)) ++ evsF (n + 1) r
noncomputable def evs (legs : List (List Kt)) : List (Kt × Nat) := evsF 0 legs
theorem evsF_snoc : ∀ (l : List (List Kt)) (n : Nat) (ks : List Kt), evsF n (l ++ [ks]) = evsF n l ++ ks.map fun k => (k, n + l.length)
  | [], n, ks => by simp [evsF]
  | a :: l, n, ks => by
    show (a.map fun k => (k, n)) ++ evsF (n + 1) (l ++ [ks]) = ((a.map fun k => (k, n)) ++ evsF (n + 1) l) ++ _
    rw [evsF_snoc l (n + 1) ks, List.append_assoc]
    have e : n + 1 + l.length = n + (a :: l).length := by rw [List.length_cons]; omega
    rw [e]
theorem evs_take {legs : List (List Kt)} {i : Nat} {ks : List Kt} (e : legs[i]? = some ks) : evs (legs.take (i + 1)) = evs (legs.take i) ++ ks.map fun k => (k, i) := by
  have hi := (List.getElem?_eq_some_iff.mp e).1
  rw [List.take_add_one, e]
  show evs (legs.take i ++ [ks]) = _
  unfold evs
  rw [evsF_snoc, List.length_take, Nat.zero_add, Nat.min_eq_left (by omega)]
theorem evsF_fst : ∀ (l : List (List Kt)) (n : Nat), (evsF n l).map (·.1) = l.flatten
  | [], _ => rfl
  | a :: l, n => by
    show ((a.map fun k => (k, n)) ++ evsF (n + 1) l).map (·.1) = a ++ l.flatten
    rw [List.map_append, evsF_fst l (n + 1), List.map_map]
    congr 1
    exact List.map_id' a
noncomputable def numsOf (es : List (Kt × Nat)) (k : Kt) : List Nat := (es.filter fun e => decide (e.1 = k)).map (·.2)
theorem numsOf_append (a b : List (Kt × Nat)) (k : Kt) : numsOf (a ++ b) k = numsOf a k ++ numsOf b k := by
  unfold numsOf
  rw [List.filter_append, List.map_append]
theorem mem_evsF : ∀ {l : List (List Kt)} {n : Nat} {k : Kt} {i : Nat}, (k, i) ∈ evsF n l ↔ ∃ j ks, i = n + j ∧ l[j]? = some ks ∧ k ∈ ks
  | [], n, k, i => ⟨fun h => absurd h List.not_mem_nil, fun ⟨j, ks, _, e, _⟩ => by simp at e⟩
  | a :: l, n, k, i => by
    show (k, i) ∈ (a.map fun k => (k, n)) ++ evsF (n + 1) l ↔ _
    rw [List.mem_append, mem_evsF (l := l)]
    constructor
    · rintro (h | ⟨j, ks, e1, e2, e3⟩)
      · obtain ⟨x, hx, e⟩ := List.mem_map.mp h
        cases e
        exact ⟨0, a, rfl, rfl, hx⟩
      · exact ⟨j + 1, ks, by omega, by simpa using e2, e3⟩
    · rintro ⟨j, ks, e1, e2, e3⟩
      cases j with
      | zero =>
        simp only [List.getElem?_cons_zero, Option.some.injEq] at e2
        subst e2
        exact .inl (List.mem_map.mpr ⟨k, e3, by rw [e1]; rfl⟩)
      | succ j => exact .inr ⟨j, ks, by omega, by simpa using e2, e3⟩
theorem mem_nums {legs : List (List Kt)} {k : Kt} {i : Nat} : i ∈ numsOf (evs legs) k ↔ ∃ ks, legs[i]? = some ks ∧ k ∈ ks := by
  unfold numsOf evs
  rw [List.mem_map]
  constructor
  · rintro ⟨⟨k', i'⟩, h, rfl⟩
    obtain ⟨h1, h2⟩ := List.mem_filter.mp h
    have e : k' = k := of_decide_eq_true h2
    subst e
    obtain ⟨j, ks, e1, e2, e3⟩ := mem_evsF.mp h1
    rw [Nat.zero_add] at e1
    exact ⟨ks, by rw [← e2, ← e1], e3⟩
  · rintro ⟨ks, e1, e2⟩
    exact ⟨(k, i), List.mem_filter.mpr ⟨mem_evsF.mpr ⟨i, ks, by omega, e1, e2⟩, decide_eq_true rfl⟩, rfl⟩
theorem nums_len (legs : List (List Kt)) (k : Kt) : (numsOf (evs legs) k).length = legs.flatten.count k := by
  unfold numsOf evs
  rw [List.length_map, ← evsF_fst legs 0, List.count_eq_countP, List.countP_map, List.countP_eq_length_filter]
  congr 1
  refine List.filter_congr fun e _ => ?_
  show decide (e.1 = k) = (e.1 == k)
  by_cases h : e.1 = k
  · rw [decide_eq_true h]
    exact (beq_iff_eq.mpr h).symm
  · rw [decide_eq_false h]
    exact (beq_eq_false_iff_ne.mpr h).symm
theorem nums_ris {k : Kt} : ∀ {legs : List (List Kt)} {n : Nat}, (∀ ks ∈ legs, ks.Nodup) → (numsOf (evsF n legs) k).Pairwise (· < ·) ∧ ∀ i ∈ numsOf (evsF n legs) k, n ≤ i
  | [], n, _ => ⟨List.Pairwise.nil, fun i h => absurd h List.not_mem_nil⟩
  | a :: l, n, h => by
    obtain ⟨h1, h2⟩ := nums_ris (k := k) (legs := l) (n := n + 1) fun ks hk => h ks (.tail _ hk)
    show (numsOf ((a.map fun k => (k, n)) ++ evsF (n + 1) l) k).Pairwise _ ∧ ∀ i ∈ numsOf ((a.map fun k => (k, n)) ++ evsF (n + 1) l) k, n ≤ i
    rw [numsOf_append]
    have nd := h a (.head _)
    have one : numsOf (a.map fun k => (k, n)) k = [] ∨ numsOf (a.map fun k => (k, n)) k = [n] := by
      clear h h1 h2
      induction a with
      | nil => exact .inl rfl
      | cons x a ih =>
        rw [List.nodup_cons] at nd
        by_cases e : x = k
        · refine .inr ?_
          have z : numsOf (a.map fun k => (k, n)) k = [] := by
            unfold numsOf
            rw [List.map_eq_nil_iff, List.filter_eq_nil_iff]
            intro y hy
            obtain ⟨y', hy', rfl⟩ := List.mem_map.mp hy
            exact fun z => nd.1 (by rw [e, ← of_decide_eq_true z]; exact hy')
          show ((((x, n) :: a.map fun k => (k, n)).filter fun e => decide (e.1 = k)).map (·.2)) = _
          rw [List.filter_cons, if_pos (decide_eq_true e)]
          show n :: numsOf (a.map fun k => (k, n)) k = _
          rw [z]
        · have z : numsOf ((x :: a).map fun k => (k, n)) k = numsOf (a.map fun k => (k, n)) k := by
            show ((((x, n) :: a.map fun k => (k, n)).filter fun e => decide (e.1 = k)).map (·.2)) = _
            rw [List.filter_cons, if_neg (fun z => e (of_decide_eq_true z))]
            rfl
          rw [z]
          exact ih nd.2
    refine ⟨?_, fun i hi => ?_⟩
    · rw [List.pairwise_append]
      refine ⟨?_, h1, fun x hx y hy => ?_⟩
      · rcases one with e | e <;> rw [e] <;> simp
      · have := h2 y hy
        rcases one with e | e <;> rw [e] at hx
        · exact absurd hx List.not_mem_nil
        · have := List.mem_singleton.mp hx
          omega
    · rcases List.mem_append.mp hi with hi | hi
      · rcases one with e | e <;> rw [e] at hi
        · exact absurd hi List.not_mem_nil
        · have := List.mem_singleton.mp hi
          omega
      · have := h2 i hi
        omega
noncomputable def klt (a b : Kt) : Prop := a.1 < b.1 ∨ (a.1 = b.1 ∧ a.2 < b.2)
theorem klt_ir {a b : Kt} (h : klt a b) (h2 : klt b a) : False := by unfold klt at h h2; omega
theorem klt_ne {a b : Kt} (h : klt a b) : a ≠ b := fun e => by subst e; exact klt_ir h h
structure PlanOk (legs : List (List Kt)) (bs : List (Kt × List Nat)) : Prop where
  pw : bs.Pairwise fun x y => klt x.1 y.1
  mem : ∀ b ∈ bs, b.2 = numsOf (evs legs) b.1 ∧ b.2 ≠ []
  all : ∀ e ∈ evs legs, e.1 ∈ bs.map (·.1)
noncomputable abbrev PRow := Kt × Addr × List Nat
noncomputable def natV (ns : List Nat) : List L2.V := ns.map fun n : Nat => V.int n
noncomputable def prV (r : PRow) : List Key × L2.V := (kk r.1, .ref r.2.1)
theorem val_rows : ∀ {rows : List PRow}, (rows.map (·.1)).Nodup → ∀ {r : PRow}, r ∈ rows → valV (rows.map prV) (kk r.1) = some (.ref r.2.1)
  | [], _, r, h => absurd h List.not_mem_nil
  | x :: rows, nd, r, h => by
    rw [List.map_cons, List.nodup_cons] at nd
    rcases List.mem_cons.mp h with e | e
    · subst e
      exact valV_pos rfl
    · rw [List.map_cons, valV_neg]
      · exact val_rows nd.2 e
      · intro z
        have : x.1 = r.1 := kk_inj z
        exact nd.1 (this ▸ List.mem_map.mpr ⟨r, e, rfl⟩)
theorem val_none : ∀ {rows : List PRow} {k : Kt}, k ∉ rows.map (·.1) → valV (rows.map prV) (kk k) = none
  | [], _, _ => rfl
  | x :: rows, k, h => by
    rw [List.map_cons, valV_neg]
    · exact val_none fun z => h (.tail _ z)
    · intro z
      have : x.1 = k := kk_inj z
      exact h (this ▸ .head _)
theorem map_nd_inj {α β : Type} {f : α → β} : ∀ {l : List α}, (l.map f).Nodup → ∀ {x y : α}, x ∈ l → y ∈ l → f x = f y → x = y
  | [], _, x, _, h, _, _ => absurd h List.not_mem_nil
  | a :: l, nd, x, y, hx, hy, e => by
    rw [List.map_cons, List.nodup_cons] at nd
    rcases List.mem_cons.mp hx with e1 | e1 <;> rcases List.mem_cons.mp hy with e2 | e2
    · rw [e1, e2]
    · subst e1
      exact (nd.1 (e ▸ List.mem_map.mpr ⟨y, e2, rfl⟩)).elim
    · subst e2
      exact (nd.1 (e ▸ List.mem_map.mpr ⟨x, e1, rfl⟩)).elim
    · exact map_nd_inj nd.2 e1 e2 e
theorem nums_snoc (es : List (Kt × Nat)) (k k' : Kt) (i : Nat) : numsOf (es ++ [(k, i)]) k' = if k' = k then numsOf es k' ++ [i] else numsOf es k' := by
  rw [numsOf_append]
  by_cases e : k' = k
  · subst e
    rw [if_pos rfl]
    congr 1
    unfold numsOf
    rw [List.filter_cons, if_pos (decide_eq_true rfl)]
    rfl
  · rw [if_neg e]
    have : numsOf [(k, i)] k' = [] := by
      unfold numsOf
      rw [List.filter_cons, if_neg (fun z => e (of_decide_eq_true z : k = k').symm)]
      rfl
    rw [this, List.append_nil]
theorem nums_le (es : List (Kt × Nat)) (k : Kt) : (numsOf es k).length ≤ es.length := by
  unfold numsOf
  rw [List.length_map]
  exact List.length_filter_le _ _
structure RowsEs (rows : List PRow) (es : List (Kt × Nat)) : Prop where
  nd : (rows.map (·.1)).Nodup
  ns : ∀ r ∈ rows, r.2.2 = numsOf es r.1 ∧ r.2.2 ≠ []
  all : ∀ e ∈ es, e.1 ∈ rows.map (·.1)
  len : rows.length ≤ es.length
noncomputable def bump (k : Kt) (i : Nat) (r : PRow) : PRow := if r.1 = k then (r.1, r.2.1, r.2.2 ++ [i]) else r
theorem bump_1 (k : Kt) (i : Nat) (r : PRow) : (bump k i r).1 = r.1 := by unfold bump; split <;> rfl
theorem bump_2 (k : Kt) (i : Nat) (r : PRow) : (bump k i r).2.1 = r.2.1 := by unfold bump; split <;> rfl
theorem bump_pr (k : Kt) (i : Nat) (rows : List PRow) : (rows.map (bump k i)).map prV = rows.map prV := by
  rw [List.map_map]
  refine List.map_congr_left fun r _ => ?_
  show (kk (bump k i r).1, V.ref (bump k i r).2.1) = (kk r.1, V.ref r.2.1)
  rw [bump_1, bump_2]
theorem RowsEs.old {rows : List PRow} {es : List (Kt × Nat)} (h : RowsEs rows es) {k : Kt} (hk : k ∈ rows.map (·.1)) (i : Nat) : RowsEs (rows.map (bump k i)) (es ++ [(k, i)]) := by
  have e1 : (rows.map (bump k i)).map (·.1) = rows.map (·.1) := by
    rw [List.map_map]
    exact List.map_congr_left fun r _ => bump_1 k i r
  refine ⟨by rw [e1]; exact h.nd, fun r hr => ?_, fun e he => ?_, by rw [List.length_map, List.length_append]; have := h.len; omega⟩
  · obtain ⟨x, hx, rfl⟩ := List.mem_map.mp hr
    obtain ⟨n1, n2⟩ := h.ns x hx
    rw [nums_snoc, bump_1]
    unfold bump
    by_cases e : x.1 = k
    · rw [if_pos e, if_pos e]
      exact ⟨by rw [← n1], by simp⟩
    · rw [if_neg e, if_neg e]
      exact ⟨n1, n2⟩
  · rw [e1]
    rcases List.mem_append.mp he with z | z
    · exact h.all e z
    · rw [List.mem_singleton.mp z]
      exact hk
theorem RowsEs.new {rows : List PRow} {es : List (Kt × Nat)} (h : RowsEs rows es) {k : Kt} (hk : k ∉ rows.map (·.1)) (i : Nat) (a : Addr) : RowsEs (rows ++ [(k, a, [i])]) (es ++ [(k, i)]) := by
  have n0 : numsOf es k = [] := by
    unfold numsOf
    rw [List.map_eq_nil_iff, List.filter_eq_nil_iff]
    intro e he z
    exact hk ((of_decide_eq_true z : e.1 = k) ▸ h.all e he)
  refine ⟨?_, fun r hr => ?_, fun e he => ?_, by rw [List.length_append, List.length_append]; have := h.len; simp only [List.length_cons, List.length_nil]; omega⟩
  · rw [List.map_append, List.nodup_append]
    refine ⟨h.nd, by simp, fun x hx y hy => ?_⟩
    have := List.mem_singleton.mp hy
    subst this
    exact fun z => hk (z ▸ hx)
  · rw [nums_snoc]
    rcases List.mem_append.mp hr with z | z
    · have : r.1 ≠ k := fun w => hk (w ▸ List.mem_map.mpr ⟨r, z, rfl⟩)
      rw [if_neg this]
      exact h.ns r z
    · rw [List.mem_singleton.mp z]
      rw [if_pos rfl, n0]
      exact ⟨rfl, by simp⟩
  · rw [List.map_append, List.mem_append]
    rcases List.mem_append.mp he with z | z
    · exact .inl (h.all e z)
    · rw [List.mem_singleton.mp z]
      exact .inr (.head _)
structure BagsSt (H Hc : Hp) (p1 : Addr) (rows : List PRow) (es : List (Kt × Nat)) : Prop where
  sm : Same H Hc
  di : Hc p1 = some (.dT (rows.map prV))
  ea : ∀ r ∈ rows, Hc r.2.1 = some (.lst (natV r.2.2))
  fr : ∀ r ∈ rows, H r.2.1 = none
  na : (rows.map fun r => r.2.1).Nodup
  re : RowsEs rows es
theorem BagsSt.same {H Hc Hd : Hp} {p1 : Addr} {rows : List PRow} {es : List (Kt × Nat)} (h : BagsSt H Hc p1 rows es) (sm : Same Hc Hd) : BagsSt H Hd p1 rows es := ⟨h.sm.trans sm, sm _ _ h.di, fun r hr => sm _ _ (h.ea r hr), h.fr, h.na, h.re⟩
theorem BagsSt.old {H Hc : Hp} {p1 : Addr} {rows : List PRow} {es : List (Kt × Nat)} (h : BagsSt H Hc p1 rows es) {r : PRow} (hr : r ∈ rows) (i : Nat) : BagsSt H (upd Hc r.2.1 (.lst (natV r.2.2 ++ [V.int i]))) p1 (rows.map (bump r.1 i)) (es ++ [(r.1, i)]) := by
  have e2 : (rows.map (bump r.1 i)).map (fun r => r.2.1) = rows.map fun r => r.2.1 := by
    rw [List.map_map]
    exact List.map_congr_left fun x _ => bump_2 r.1 i x
  refine ⟨upd_other (h.fr r hr) h.sm, ?_, fun x hx => ?_, fun x hx => ?_, by rw [e2]; exact h.na, h.re.old (List.mem_map.mpr ⟨r, hr, rfl⟩) i⟩
  · rw [upd_ne (ne_of h.di (h.ea r hr) (by intro z; cases z)), bump_pr]
    exact h.di
  · obtain ⟨y, hy, rfl⟩ := List.mem_map.mp hx
    rw [bump_2]
    by_cases e : y.1 = r.1
    · have : y = r := map_nd_inj h.re.nd hy hr e
      subst this
      rw [upd_same]
      unfold bump natV
      rw [if_pos rfl, List.map_append]
      rfl
    · have ne : y.2.1 ≠ r.2.1 := fun z => e (by rw [map_nd_inj h.na hy hr z])
      rw [upd_ne ne]
      unfold bump
      rw [if_neg e]
      exact h.ea y hy
  · obtain ⟨y, hy, rfl⟩ := List.mem_map.mp hx
    rw [bump_2]
    exact h.fr y hy
theorem BagsSt.new {H Hc : Hp} {p1 a : Addr} {rows : List PRow} {es : List (Kt × Nat)} (h : BagsSt H Hc p1 rows es) (n1 : H p1 = none) {k : Kt} (hk : k ∉ rows.map (·.1)) (i : Nat) (ha : H a = none) (hc : Hc a = some (.lst [])) (hn : ∀ r ∈ rows, r.2.1 ≠ a) :
    BagsSt H (upd (upd Hc p1 (.dT ((rows ++ [(k, a, [i])]).map prV))) a (.lst [V.int i])) p1 (rows ++ [(k, a, [i])]) (es ++ [(k, i)]) := by
  have pa : p1 ≠ a := ne_of h.di hc (by intro z; cases z)
  refine ⟨upd_other ha (upd_other n1 h.sm), ?_, fun x hx => ?_, fun x hx => ?_, ?_, h.re.new hk i a⟩
  · rw [upd_ne pa, upd_same]
  · rcases List.mem_append.mp hx with z | z
    · rw [upd_ne (hn x z), upd_ne (ne_of h.di (h.ea x z) (by intro z; cases z)).symm]
      exact h.ea x z
    · rw [List.mem_singleton.mp z]
      exact upd_same
  · rcases List.mem_append.mp hx with z | z
    · exact h.fr x z
    · rw [List.mem_singleton.mp z]
      exact ha
  · rw [List.map_append, List.nodup_append]
    refine ⟨h.na, by simp, fun x hx y hy => ?_⟩
    obtain ⟨r, hr, rfl⟩ := List.mem_map.mp hx
    have := List.mem_singleton.mp hy
    subst this
    exact hn r hr
theorem refs_paired {β : Type} {R : Addr → β → Prop} : ∀ {vs : List L2.V} {bs : List β}, vs.length = bs.length → (∀ (i : Nat) (v : L2.V) (b : β), vs[i]? = some v → bs[i]? = some b → ∃ a, v = V.ref a ∧ R a b) → ∃ pa, vs = refs pa ∧ Paired R pa bs
  | [], [], _, _ => ⟨[], rfl, .nil⟩
  | [], _ :: _, h, _ => by cases h
  | _ :: _, [], h, _ => by cases h
  | v :: vs, b :: bs, h, f => by
    obtain ⟨a, rfl, r⟩ := f 0 v b rfl rfl
    obtain ⟨pa, rfl, p⟩ := refs_paired (R := R) (vs := vs) (bs := bs) (Nat.succ.inj h) fun i v b e1 e2 => f (i + 1) v b e1 e2
    exact ⟨a :: pa, rfl, .cons r p⟩
theorem lex_kk (a b : Kt) : L3.lexLt (kk a) (kk b) = true ↔ klt a b := by
  unfold kk klt
  show (if a.1 = b.1 then (if (a.2 : Int) = (b.2 : Int) then false else decide ((a.2 : Int) < (b.2 : Int))) else decide (a.1 < b.1)) = true ↔ _
  by_cases e1 : a.1 = b.1
  · rw [if_pos e1]
    by_cases e2 : (a.2 : Int) = (b.2 : Int)
    · rw [if_pos e2]
      constructor
      · intro z; cases z
      · intro z; omega
    · rw [if_neg e2, decide_eq_true_iff]
      omega
  · rw [if_neg e1, decide_eq_true_iff]
    omega
noncomputable def row0 : PRow := ((0, 0), 0, [])
theorem keys_at {rows : List PRow} {i : Nat} (hi : i < rows.length) : (rows.map fun r => kk r.1).getD i [] = kk (rows.getD i row0).1 := by
  rw [List.getD, List.getElem?_map, List.getD, List.getElem?_eq_getElem hi]
  rfl
theorem keys_no {rows : List PRow} {i : Nat} (hi : rows.length ≤ i) : (rows.map fun r => kk r.1).getD i [] = [] := by
  rw [List.getD, List.getElem?_map, List.getElem?_eq_none hi]
  rfl
theorem ltK_in {rows : List PRow} {i j : Nat} (h : ltK (rows.map fun r => kk r.1) i j = true) : i < rows.length ∧ j < rows.length ∧ klt (rows.getD i row0).1 (rows.getD j row0).1 := by
  unfold ltK at h
  have hi : i < rows.length := Nat.lt_of_not_le fun z => by
    rw [keys_no z] at h
    cases h
  have hj : j < rows.length := Nat.lt_of_not_le fun z => by
    rw [keys_no z] at h
    generalize (rows.map fun r => kk r.1).getD i [] = x at h
    rcases x with _ | ⟨_ | _, _⟩ <;> cases h
  rw [keys_at hi, keys_at hj] at h
  exact ⟨hi, hj, (lex_kk _ _).mp h⟩
theorem ltK_ok {rows : List PRow} (nd : (rows.map (·.1)).Nodup) : LtOk rows.length (ltK (rows.map fun r => kk r.1)) where
  tr := fun i j k h1 h2 => by
    obtain ⟨a1, a2, a3⟩ := ltK_in h1
    obtain ⟨b1, b2, b3⟩ := ltK_in h2
    unfold ltK
    rw [keys_at a1, keys_at b2, lex_kk]
    unfold klt at *
    omega
  to := fun i j hi hj ne => by
    have dn : (rows.getD i row0).1 ≠ (rows.getD j row0).1 := fun z => by
      have e1 : (rows.map (·.1))[i]? = some (rows.getD i row0).1 := by rw [List.getElem?_map, List.getD, List.getElem?_eq_getElem hi]; rfl
      have e2 : (rows.map (·.1))[j]? = some (rows.getD j row0).1 := by rw [List.getElem?_map, List.getD, List.getElem?_eq_getElem hj]; rfl
      rw [← z] at e2
      exact ne ((List.getElem?_inj (by rw [List.length_map]; exact hi) nd).mp (e1.trans e2.symm))
    unfold ltK
    rw [keys_at hi, keys_at hj, lex_kk, lex_kk]
    unfold klt
    by_cases e : (rows.getD i row0).1.1 = (rows.getD j row0).1.1
    · have : (rows.getD i row0).1.2 ≠ (rows.getD j row0).1.2 := fun z => dn (Prod.ext e z)
      omega
    · omega
  ir := fun i => by
    cases h : ltK (rows.map fun r => kk r.1) i i with
    | false => rfl
    | true => exact (klt_ir (ltK_in h).2.2 (ltK_in h).2.2).elim
theorem tlc_anyS {wi : TI} {cs : List (Option Nat)} {te : TE} {σ : L2.St} {H : Hp} {Q : VK} {α : Type} {A : α → Prop} (J : α → It) (H1 : α → Hp) (hw : ∀ R : It → Hp → Prop, (∀ i, A i → R (J i) (H1 i)) → wi σ H R)
    (body : ∀ i, A i → tLC (fun _ _ R => R (J i) (H1 i)) cs (gName 0) tAll te σ H Q) : tLC wi cs (gName 0) tAll te σ H Q := hw _ fun i ai => body i ai
noncomputable def srt (rows : List PRow) : List PRow := (srtIx (ltK (rows.map fun r => kk r.1)) rows.length).map fun i => rows.getD i row0
theorem srt_len (rows : List PRow) : (srt rows).length = rows.length := by
  unfold srt
  rw [List.length_map, (srtIx_perm _ _).length_eq, List.length_range]
theorem srt_mem {rows : List PRow} {r : PRow} : r ∈ srt rows ↔ r ∈ rows := by
  unfold srt
  rw [List.mem_map]
  constructor
  · rintro ⟨i, hi, rfl⟩
    have := srtIx_lt hi
    rw [List.getD, List.getElem?_eq_getElem this]
    exact List.getElem_mem this
  · intro h
    obtain ⟨i, hi, rfl⟩ := List.getElem_of_mem h
    exact ⟨i, (srtIx_perm _ _).mem_iff.mpr (List.mem_range.mpr hi), by rw [List.getD, List.getElem?_eq_getElem hi]; rfl⟩
theorem RowsEs.plan {rows : List PRow} {legs : List (List Kt)} (h : RowsEs rows (evs legs)) : PlanOk legs ((srt rows).map fun r => (r.1, r.2.2)) := by
  refine ⟨?_, fun b hb => ?_, fun e he => ?_⟩
  · rw [List.pairwise_map]
    unfold srt
    rw [List.pairwise_map]
    exact (srtIx_sorted (ltK_ok h.nd)).imp fun z => (ltK_in z).2.2
  · obtain ⟨r, hr, rfl⟩ := List.mem_map.mp hb
    exact h.ns r (srt_mem.mp hr)
  · obtain ⟨r, hr, e1⟩ := List.mem_map.mp (h.all e he)
    rw [List.map_map]
    exact List.mem_map.mpr ⟨r, srt_mem.mpr hr, e1⟩
section
variable {P : Program} {w : World} {K : PySem.W.Frag} {mg : Str → Option Value} {base : Heap}
noncomputable def spPlan : Sp := fun vs H Q _ => ∃ (l : Addr) (ms : List Addr) (hs : List (List Nat)) (ds : List M1.Rd) (legs : List (List Kt)), vs = [.ref l] ∧ H l = some (.lst (refs ms)) ∧ Paired (LegsL hs ds H) ms legs ∧ legs.length ≤ 20 ∧ (∀ ks ∈ legs, ks.length ≤ 3) ∧
  ∀ (H' : Hp) (D : Addr) (pa : List Addr) (bs : List (Kt × List Nat)), H D = none → Same H H' → H' D = some (.lst (refs pa)) → Paired (BagAt H') pa bs → PlanOk legs bs → bs.length ≤ 99 → Q (.ref D) H'
noncomputable abbrev sPlan : Stmt := top 42
theorem scPlan : FnScope ["_law_legs_here", "_law_bags", "_law_number", "_law_mine", "_law_leg"] ["_law_legs_here"] (defScope sPlan) := ⟨rfl, rfl, rfl, by decide +kernel, rfl, by decide +kernel, by decide +kernel⟩
theorem ok_plan {f : Addr} {fd : FuncData} (F : Fun K "_law_plan" "_law_plan" sPlan f fd) (B : Blt mg) : FnOk P w K mg base CX0 1 f fd ["_law_legs_here"] spPlan := by
  refine F.ok scPlan (fun vs H Q E h => ?_) (fun cdv A outer s H vs Q E hr h => ?_)
  · obtain ⟨l, ms, hs, ds, legs, rfl, _⟩ := h
    rfl
  · obtain ⟨l, ms, hs, ds, legs, rfl, hl, lg, few, few3, q⟩ := h
    refine ⟨_, (pss_cons (ps_set (i := 1) scPlan.nd rfl (Or.inr rfl) pe_dnewT)
      (pss_cons (ps_for PassesOwn.never rfl (pi_enum rfl B.enumerate (pa_cons (pv 0) pa_nil)) (pg_tup rfl (pgs_cons (pg_name (i := 2) scPlan.nd rfl (Or.inl rfl)) (pgs_cons (pg_name (i := 3) scPlan.nd rfl (Or.inl rfl)) pgs_nil)))
        (pss_one (ps_for PassesOwn.never rfl (pi_list (pv 3)) (pg_name (i := 4) scPlan.nd rfl (Or.inl rfl))
        (pss_one (ps_expr (pe_bm PySem.F.plainAttrs_list PySem.F.slot_list_append PySem.F.type_list_append mt_append (pe_sdefT (hu_of hr) (pv 1) (pe_tup (pa_cons (pe_ix ix_tup (pv 4) pe_int (fun _ _ => rfl)) (pa_cons (pe_ix ix_tup (pv 4) pe_int (fun _ _ => rfl)) pa_nil))) (pe_lst pa_nil) ⟨rfl, rfl, rfl, rfl⟩) (pa_cons (pv 2) pa_nil)))))))
      (pss_one (ps_ret (pe_lc (N' := ["_law_key", "_law_bags"]) (cs := [none, some 1]) rfl (pi_list (pe_callB (call_sortedD rfl) (by rfl) B.sorted bt_sorted (pa_cons (pv 1) pa_nil))) rfl (by decide +kernel) rfl (by decide +kernel) (sub_of (List.forall_mem_cons.mpr ⟨rfl, (fun p hp => absurd hp (List.not_mem_nil))⟩)) rfl
        (.own (.cap rfl (.inl rfl) (.inl rfl) rfl .nil))
        (fun C s3 H3 fp pn => ⟨(pg_name (i := 0) (by show (["_law_key", "_law_bags"] : List Str).Nodup; decide +kernel) rfl (.inl rfl)), pif_nil, (pe_tup (pa_cons (pe_ix (ix_tupK (K := K) rfl) (pv 0) pe_int (fun _ _ => rfl)) (pa_cons (pe_ix (ix_tupK (K := K) rfl) (pv 0) pe_int (fun _ _ => rfl)) (pa_cons (pe_callTy (call_tuple_ofK (K := K) rfl) (by rfl) B.tuple bt_tuple (pa_cons (pe_dget (hu_of hr) (pv 1) (pv 0) (fun _ _ => rfl)) pa_nil)) pa_nil))))⟩)))))), ?_⟩
    have ml := Paired.length lg
    intro p1 n1
    have s1 := upd_free (o := .dT []) n1
    have h1 := upd_same (H := H) (a := p1) (o := .dT [])
    generalize upd H p1 (.dT []) = H1 at s1 h1 ⊢
    refine ⟨_, rfl, l, rfl, ⟨_, SqL.of (s1 _ _ hl)⟩, ?_⟩
    refine for_enum (K := K) (a := l) (xs := refs ms) (fun i σ Hc => ∃ (rows : List PRow) (v2 v3 v4 : Option L2.V), σ = [some (.ref l), some (.ref p1), v2, v3, v4] ∧ BagsSt H Hc p1 rows (evs (legs.take i)) ∧ (evs (legs.take i)).length ≤ 3 * i)
      ⟨[], none, none, none, rfl, ⟨s1, h1, fun r h => absurd h List.not_mem_nil, fun r h => absurd h List.not_mem_nil, List.nodup_nil, ⟨List.nodup_nil, fun r h => absurd h List.not_mem_nil, fun e h => absurd h List.not_mem_nil, Nat.le_refl _⟩⟩, Nat.le_refl _⟩ (fun i σ Hc ⟨_, _, _, _, _, h, _⟩ => SqL.of (h.sm _ _ hl)) ?_ ?_
    · rintro i z σ Hc pt ez ⟨rows, v2, v3, v4, rfl, J, fe⟩ npt
      unfold refs at ez
      rw [List.getElem?_map] at ez
      obtain ⟨m, em, rfl⟩ := Option.map_eq_some_iff.mp ez
      obtain ⟨ks, eks, ts, hm, tp⟩ := Paired.get lg em
      have il := (List.getElem?_eq_some_iff.mp em).1
      have k3 := few3 ks (List.mem_of_getElem? eks)
      have tl := tp.len
      rw [List.length_map] at tl
      have spt := upd_free (o := .tup [V.int (i : Int), V.ref m]) npt
      refine ⟨pt, _, rfl, SqT.of upd_same, rfl, ?_⟩
      have J := J.same spt
      generalize upd Hc pt (.tup [V.int (i : Int), V.ref m]) = Hd at spt J ⊢
      clear spt npt
      refine ⟨_, _, rfl, _, _, rfl, rfl, ?_⟩
      refine ⟨_, rfl, m, rfl, ⟨_, SqL.of (J.sm _ _ hm)⟩, ?_⟩
      refine for_list (K := K) (a := m) (xs := refs ts) (fun j σ He => ∃ (rows : List PRow) (v4 : Option L2.V), σ = [some (.ref l), some (.ref p1), some (.int (i : Int)), some (.ref m), v4] ∧ BagsSt H He p1 rows (evs (legs.take i) ++ (ks.take j).map fun k => (k, i)))
        ⟨rows, v4, rfl, by rw [List.take_zero, List.map_nil, List.append_nil]; exact J⟩ (fun j σ He _ ⟨_, _, _, h⟩ => SqL.of (h.sm _ _ hm)) ?_ ?_
      · rintro j z σ He ez ⟨rows, v4, rfl, J⟩
        unfold refs at ez
        rw [List.getElem?_map] at ez
        obtain ⟨t, et, rfl⟩ := Option.map_eq_some_iff.mp ez
        obtain ⟨kv, ekv, ht⟩ := Paired.get tp et
        rw [List.getElem?_map] at ekv
        obtain ⟨k, ek, rfl⟩ := Option.map_eq_some_iff.mp ekv
        have tk : ks.take (j + 1) = ks.take j ++ [k] := by rw [List.take_add_one, ek]; rfl
        have jl := (List.getElem?_eq_some_iff.mp ek).1
        have lene : (evs (legs.take i) ++ (ks.take j).map fun k => (k, i)).length ≤ 63 := by
          rw [List.length_append, List.length_map, List.length_take]
          omega
        have hte := SqT.of (K := K) (J.sm _ _ ht)
        refine ⟨_, rfl, p1, rfl, .inr ⟨_, .inl J.di⟩, _, rfl, t, _, _, _, rfl, rfl, hte, rfl, _, rfl, t, _, _, _, rfl, rfl, hte, rfl, (by show 2 ≤ sizeLine; decide), fun q1 nq1 => ?_⟩
        have sq1 := upd_free (o := .tup [V.int k.1, V.int (k.2 : Int)]) nq1
        have hq1 : upd He q1 (.tup [V.int k.1, V.int (k.2 : Int)]) q1 = some (.tup ((kk k).map kV)) := upd_same
        have J := J.same sq1
        generalize upd He q1 (.tup [V.int k.1, V.int (k.2 : Int)]) = Hf at sq1 hq1 J ⊢
        refine ⟨Nat.zero_le _, fun le nle => ?_⟩
        have sle := upd_free (o := .lst []) nle
        have hle := upd_same (H := Hf) (a := le) (o := .lst [])
        have leH : H le = none := by
          cases e : H le with
          | none => rfl
          | some o => rw [J.sm _ _ e] at nle; cases nle
        have nler : ∀ r ∈ rows, r.2.1 ≠ le := fun r hr => ne_of_none (J.ea r hr) nle
        have J := J.same sle
        have hq1 := sle _ _ hq1
        generalize upd Hf le (.lst []) = Hg at sle hle hq1 J ⊢
        have rl := J.re.len
        refine ⟨_, kk k, q1, rfl, J.di, small1000 (by rw [List.length_map]; omega), hq1, fun v hv => ?_, fun hn => ?_⟩
        · have hk : k ∈ rows.map (·.1) := by
            refine Classical.byContradiction fun z => ?_
            rw [val_none z] at hv
            cases hv
          obtain ⟨r, hr, rfl⟩ := List.mem_map.mp hk
          rw [val_rows J.re.nd hr] at hv
          cases hv
          have nl : r.2.2.length ≤ 900 := by
            rw [(J.re.ns r hr).1]
            have := nums_le (evs (legs.take i) ++ (ks.take j).map fun k => (k, i)) r.1
            omega
          refine ⟨.inl ⟨rfl, _, SqL.of (J.ea r hr)⟩, _, rfl, r.2.1, _, _, rfl, rfl, J.ea r hr, small1000 (by unfold natV; rw [List.length_map]; omega), ?_⟩
          refine ⟨rows.map (bump r.1 i), _, rfl, ?_⟩
          rw [tk, List.map_append, ← List.append_assoc]
          exact J.old hr i
        · have hk : k ∉ rows.map (·.1) := fun z => by
            obtain ⟨r, hr, rfl⟩ := List.mem_map.mp z
            rw [val_rows J.re.nd hr] at hn
            cases hn
          have pl : p1 ≠ le := ne_of J.di hle (by intro z; cases z)
          have pk : putK (rows.map prV) (kk k) (.ref le) = (rows ++ [(k, le, [i])]).map prV := by
            rw [putK_new _ hn, List.map_append]
            rfl
          have hle2 : upd Hg p1 (.dT (putK (rows.map prV) (kk k) (.ref le))) le = some (.lst []) := by rw [upd_ne pl.symm]; exact hle
          refine ⟨.inl ⟨rfl, _, SqL.of hle2⟩, _, rfl, le, _, _, rfl, rfl, hle2, small1000 (Nat.zero_le _), ?_⟩
          refine ⟨rows ++ [(k, le, [i])], _, rfl, ?_⟩
          rw [tk, List.map_append, ← List.append_assoc, pk]
          exact J.new n1 hk i leH hle nler
      · rintro σ He ⟨rows, v4, rfl, J⟩
        refine ⟨rows, _, _, _, rfl, ?_, ?_⟩
        · rw [evs_take eks]
          rw [refs_len, tl, List.take_length] at J
          exact J
        · rw [evs_take eks, List.length_append, List.length_map]
          omega
    · rintro σ Hc ⟨rows, v2, v3, v4, rfl, J, fe⟩
      rw [refs_len, ml, List.take_length] at J fe
      have rl := J.re.len
      have kl : (rows.map prV).map (·.1) = rows.map fun r => kk r.1 := by rw [List.map_map]; rfl
      dsimp only [tRet]
      refine tlc_anyS (α := Addr × List Addr) (A := fun z => Hc z.1 = none ∧ Paired (fun r k => Hc r = some (.tup (k.map kV))) z.2 ((rows.map prV).map fun x : List Key × L2.V => x.1)) (fun z => Itl K z.1) (fun z : Addr × List Addr => upd Hc z.1 (.lst (srtL .non (ltK ((rows.map prV).map fun x : List Key × L2.V => x.1)) (z.2.map V.ref)))) (fun R h => ⟨_, rfl, p1, _, true, [true], rfl, J.di, (by rw [List.length_map]; omega), (fun q hq => by obtain ⟨r, _, rfl⟩ := List.mem_map.mp hq; rfl), fun ts l2 nl2 tp => ⟨l2, rfl, ⟨_, SqL.of upd_same⟩, h (l2, ts) ⟨nl2, tp⟩⟩⟩) fun z hz => ?_
      obtain ⟨l2, ts⟩ := z
      obtain ⟨nl2, tp⟩ := hz
      dsimp only at nl2 tp ⊢
      rw [kl] at tp ⊢
      have tl : ts.length = rows.length := by have := Paired.length tp; rw [List.length_map] at this; exact this
      have s2 := upd_free (o := .lst (srtL V.non (ltK (rows.map fun r => kk r.1)) (ts.map V.ref))) nl2
      have h2 := upd_same (H := Hc) (a := l2) (o := .lst (srtL V.non (ltK (rows.map fun r => kk r.1)) (ts.map V.ref)))
      have J2 := J.same s2
      have sl := srtL_len V.non (ltK (rows.map fun r => kk r.1)) (ts.map V.ref)
      rw [List.length_map] at sl
      have at_ : ∀ (i : Nat) (x : L2.V), (srtL V.non (ltK (rows.map fun r => kk r.1)) (ts.map V.ref))[i]? = some x → ∃ u r, x = .ref u ∧ (srt rows)[i]? = some r ∧ r ∈ rows ∧ Hc u = some (.tup ((kk r.1).map kV)) := fun i x ex => by
        unfold srtL at ex
        rw [List.length_map, tl, List.getElem?_map] at ex
        obtain ⟨j, ej, rfl⟩ := Option.map_eq_some_iff.mp ex
        have hj := srtIx_lt (List.mem_of_getElem? ej)
        have eu : ts[j]? = some (ts[j]'(by omega)) := List.getElem?_eq_getElem (by omega)
        obtain ⟨k, ek, hu⟩ := Paired.get tp eu
        rw [List.getElem?_map, List.getElem?_eq_getElem hj] at ek
        cases ek
        refine ⟨ts[j]'(by omega), rows[j], ?_, ?_, List.getElem_mem hj, hu⟩
        · rw [List.getD, List.getElem?_map, eu]
          rfl
        · unfold srt
          rw [List.getElem?_map, ej]
          show some (rows.getD j row0) = _
          rw [List.getD, List.getElem?_eq_getElem hj]
          rfl
      generalize upd Hc l2 (.lst (srtL V.non (ltK (rows.map fun r => kk r.1)) (ts.map V.ref))) = Hd at s2 h2 J2 ⊢
      refine tlc_any (J := Itl K l2) (H1 := Hd) (xs := srtL V.non (ltK (rows.map fun r => kk r.1)) (ts.map V.ref)) (rest := [some (.ref p1)]) (fun R h => h) rfl (wk_list (SqL.of h2)) (small1000 (by omega))
        (fun i v H5 => ∃ a r, v = .ref a ∧ (srt rows)[i]? = some r ∧ BagAt H5 a (r.1, r.2.2)) (fun i v H2 H3 sm h => ?_) (fun i v H2 D ys zs hD h => ?_) (fun i x H2 R ex sm k => ?_) (fun D H2 vs nD hD vl hv sD => ?_)
      · obtain ⟨a, r, e1, e2, b1⟩ := h
        exact ⟨a, r, e1, e2, b1.same sm⟩
      · obtain ⟨a, r, e1, e2, c, b1, b2⟩ := h
        exact ⟨a, r, e1, e2, c, by rw [upd_ne (ne_of b1 hD (by intro z; cases z))]; exact b1, by rw [upd_ne (ne_of b2 hD (by intro z; cases z))]; exact b2⟩
      · obtain ⟨u, r, rfl, er, hr, hu⟩ := at_ i x ex
        have hu2 := SqT.of (K := K) (sm _ _ (s2 _ _ hu))
        have hb2 := sm _ _ (J2.ea r hr)
        have vr := val_rows J.re.nd hr
        refine ⟨_, rfl, u, _, _, _, rfl, rfl, hu2, rfl, _, rfl, u, _, _, _, rfl, rfl, hu2, rfl, ?_⟩
        refine ⟨_, rfl, _, rfl, p1, _, rfl, (by rw [← vr]; exact DGet.t (sm _ _ J2.di) (sm _ _ (s2 _ _ hu))), r.2.1, _, rfl, .inl ⟨SqL.of hb2, fun l5 nl5 => ?_⟩⟩
        have s5 := upd_free (o := .tup (natV r.2.2)) nl5
        have h5 := upd_same (H := H2) (a := l5) (o := .tup (natV r.2.2))
        generalize upd H2 l5 (.tup (natV r.2.2)) = H5 at s5 h5 ⊢
        refine ⟨(by show 3 ≤ sizeLine; decide), fun p6 np6 => k _ _ (s5.trans (upd_free np6)) ⟨p6, r, rfl, er, l5, upd_same, upd_free np6 _ _ h5⟩⟩
      · obtain ⟨pa, rfl, hp⟩ := refs_paired (R := BagAt H2) (vs := vs) (bs := (srt rows).map fun r => (r.1, r.2.2)) (by rw [vl, sl, List.length_map, srt_len, tl]) fun i v b e1 e2 => by
          obtain ⟨a, r, e3, e4, e5⟩ := hv i v e1
          rw [List.getElem?_map, e4] at e2
          cases e2
          exact ⟨a, e3, e5⟩
        refine q H2 D pa _ ?_ (J.sm.trans (s2.trans sD)) hD hp J.re.plan (by rw [List.length_map, srt_len]; omega)
        cases e : H D with
        | none => rfl
        | some o => rw [(J.sm.trans s2) _ _ e] at nD; cases nD
end
end K1
set_option Elab.async false
set_option linter.all false
set_option maxRecDepth 100000
set_option maxHeartbeats 4000000
namespace K1
open PySem L2 L3 M1
theorem ChainOk.init {hs : List (List Nat)} {ds : List M1.Rd} {h : Str} {t : Int} {g : Str} {ks : List Kt} {k : Kt} (c : ChainOk hs ds h t g (ks ++ [k])) : ChainOk hs ds h t g ks := fun j k' e => by
  have hj := (List.getElem?_eq_some_iff.mp e).1
  have := c j k' (by rw [List.getElem?_append_left hj]; exact e)
  rw [List.take_append_of_le_length (by omega)] at this
  exact this
theorem chain_up {hs : List (List Nat)} {ds : List M1.Rd} {h : Str} {t : Int} {g : Str} (ht : ∀ r, r < ds.length → 1 ≤ rTn ds r) : ∀ n, ∀ {ks : List Kt}, ks.length = n → ChainOk hs ds h t g ks → (ks.Pairwise fun a b => a.1 < b.1) ∧ (∀ k ∈ ks, t ≤ k.1) ∧ (∀ k ∈ ks, k.1 < endT ds t ks) ∧ t ≤ endT ds t ks := by
  intro n
  induction n with
  | zero =>
    intro ks hn c
    have e := List.length_eq_zero_iff.mp hn
    subst e
    exact ⟨List.Pairwise.nil, fun k h => absurd h List.not_mem_nil, fun k h => absurd h List.not_mem_nil, Int.le_refl _⟩
  | succ n ih =>
    intro ks hn c
    rcases List.eq_nil_or_concat ks with e | ⟨pre, k, e⟩
    · subst e; cases hn
    · rw [List.concat_eq_append] at e
      subst e
      rw [List.length_append] at hn
      obtain ⟨p1, p2, p3, p4⟩ := ih (ks := pre) (by simpa using hn) c.init
      obtain ⟨q1, q2, q3, q4⟩ := c pre.length k (by simp)
      rw [List.take_append_of_le_length (Nat.le_refl _), List.take_length] at q4
      have := ht _ q1
      rw [endT_snoc]
      refine ⟨?_, fun x hx => ?_, fun x hx => ?_, by omega⟩
      · rw [List.pairwise_append]
        refine ⟨p1, by simp, fun x hx y hy => ?_⟩
        have := List.mem_singleton.mp hy
        subst this
        have := p3 x hx
        omega
      · rcases List.mem_append.mp hx with hx | hx
        · exact p2 x hx
        · have := List.mem_singleton.mp hx
          subst this
          omega
      · rcases List.mem_append.mp hx with hx | hx
        · have := p3 x hx
          omega
        · have := List.mem_singleton.mp hx
          subst this
          omega
noncomputable def stt (hs : List (List Nat)) (ds : List M1.Rd) (lts : List (Str × Int × Str)) (legs : List (List Kt)) (P : Kt → Bool) : List (List Step) := lts.mapIdx fun i d => firstS d ++ ((legs.getD i []).filter P).map (stepK hs ds)
theorem stt_get (hs : List (List Nat)) (ds : List M1.Rd) (lts : List (Str × Int × Str)) (legs : List (List Kt)) (P : Kt → Bool) (i : Nat) : (stt hs ds lts legs P)[i]? = (lts[i]?).map fun d => firstS d ++ ((legs.getD i []).filter P).map (stepK hs ds) := by
  unfold stt
  rw [List.getElem?_mapIdx]
theorem stt_len (hs : List (List Nat)) (ds : List M1.Rd) (lts : List (Str × Int × Str)) (legs : List (List Kt)) (P : Kt → Bool) : (stt hs ds lts legs P).length = lts.length := by
  unfold stt
  rw [List.length_mapIdx]
theorem cut_at {ks : List Kt} {k : Kt} (pw : ks.Pairwise klt) (h : k ∈ ks) : ∃ a c, ks = a ++ k :: c ∧ (∀ x ∈ a, klt x k) ∧ ∀ x ∈ c, klt k x := by
  obtain ⟨a, c, rfl⟩ := List.append_of_mem h
  rw [List.pairwise_append] at pw
  exact ⟨a, c, rfl, fun x hx => pw.2.2 x hx k (.head _), fun x hx => (List.pairwise_cons.mp pw.2.1).1 x hx⟩
noncomputable def inK (pre : List (Kt × List Nat)) (k : Kt) : Bool := decide (k ∈ pre.map (·.1))
theorem Wks.of_plan {hs : List (List Nat)} {ds : List M1.Rd} {lts : List (Str × Int × Str)} {legs : List (List Kt)} {bs : List (Kt × List Nat)} (L : LegsOk hs ds lts legs) (P : PlanOk legs bs) (ht : ∀ r, r < ds.length → 1 ≤ rTn ds r) (few : lts.length ≤ 100) :
    ∀ (post pre : List (Kt × List Nat)) (ah : Option Kt), bs = pre ++ post → (∀ k, ah = some k → k ∈ pre.map (·.1)) → Wks hs ds (lts.map fun d => d.2.2) (stt hs ds lts legs (inK pre)) ah post (stt hs ds lts legs fun _ => true)
  | [], pre, ah, e, _ => by
    have e2 : stt hs ds lts legs (inK pre) = stt hs ds lts legs fun _ => true := by
      rw [List.append_nil] at e
      subst e
      apply List.ext_getElem?
      intro i
      rw [stt_get, stt_get]
      cases ei : lts[i]? with
      | none => rfl
      | some d =>
        have hi : i < legs.length := by rw [L.len]; exact (List.getElem?_eq_some_iff.mp ei).1
        have : ((legs.getD i []).filter (inK bs)) = (legs.getD i []).filter fun _ => true := List.filter_congr fun k hk => by
          rw [List.getD, List.getElem?_eq_getElem hi] at hk
          exact decide_eq_true (P.all (k, i) (mem_evsF.mpr ⟨i, _, by omega, List.getElem?_eq_getElem hi, hk⟩))
        show some _ = some _
        rw [this]
    rw [e2]
    exact .nil
  | b :: post, pre, ah, e, hah => by
    have bm : b ∈ bs := by rw [e]; exact List.mem_append.mpr (.inr (.head _))
    obtain ⟨b2, bne⟩ := P.mem b bm
    have pw := P.pw
    rw [e, List.pairwise_append] at pw
    obtain ⟨pw1, pw2, pw3⟩ := pw
    have pw4 := (List.pairwise_cons.mp pw2).1
    have up : ∀ (i : Nat) ks, legs[i]? = some ks → ks.Pairwise klt ∧ ∀ x ∈ ks, x ∈ bs.map (·.1) := fun i ks ei => by
      have hi : i < lts.length := by rw [← L.len]; exact (List.getElem?_eq_some_iff.mp ei).1
      obtain ⟨c, _, _⟩ := L.ch i lts[i] ks (List.getElem?_eq_getElem hi) ei
      exact ⟨(chain_up ht _ rfl c).1.imp fun z => .inl z, fun x hx => P.all (x, i) (mem_evsF.mpr ⟨i, ks, by omega, ei, hx⟩)⟩
    have nd : ∀ ks ∈ legs, ks.Nodup := fun ks hk => by
      obtain ⟨i, hi, rfl⟩ := List.getElem_of_mem hk
      exact (up i _ (List.getElem?_eq_getElem hi)).1.imp fun z => klt_ne z
    have inPre : ∀ x, x ∈ bs.map (·.1) → klt x b.1 → inK pre x = true := fun x hx hl => by
      rw [e, List.map_append, List.mem_append] at hx
      rcases hx with hx | hx
      · exact decide_eq_true hx
      · obtain ⟨y, hy, rfl⟩ := List.mem_map.mp hx
        rcases List.mem_cons.mp hy with z | z
        · subst z; exact (klt_ir hl hl).elim
        · exact (klt_ir hl (pw4 y z)).elim
    have preLt : ∀ x, inK pre x = true → klt x b.1 := fun x hx => by
      obtain ⟨y, hy, rfl⟩ := List.mem_map.mp (of_decide_eq_true hx)
      exact pw3 y hy b (.head _)
    have snoc : ∀ x, inK (pre ++ [b]) x = true ↔ inK pre x = true ∨ x = b.1 := fun x => by
      unfold inK
      rw [decide_eq_true_iff, decide_eq_true_iff, List.map_append, List.mem_append]
      simp
    have cut : ∀ (i : Nat) ks, legs[i]? = some ks → b.1 ∈ ks → ∃ a c, ks = a ++ b.1 :: c ∧ ks.filter (inK pre) = a ∧ ks.filter (inK (pre ++ [b])) = a ++ [b.1] := fun i ks ei hk => by
      obtain ⟨u1, u2⟩ := up i ks ei
      obtain ⟨a, c, rfl, h1, h2⟩ := cut_at u1 hk
      have fa : a.filter (inK pre) = a := List.filter_eq_self.mpr fun x hx => inPre x (u2 x (List.mem_append.mpr (.inl hx))) (h1 x hx)
      have fc : (b.1 :: c).filter (inK pre) = [] := List.filter_eq_nil_iff.mpr fun x hx z => by
        have := preLt x z
        rcases List.mem_cons.mp hx with w | w
        · subst w; exact klt_ir this this
        · exact klt_ir this (h2 x w)
      have fa2 : a.filter (inK (pre ++ [b])) = a := List.filter_eq_self.mpr fun x hx => (snoc x).mpr (.inl (inPre x (u2 x (List.mem_append.mpr (.inl hx))) (h1 x hx)))
      have fc2 : c.filter (inK (pre ++ [b])) = [] := List.filter_eq_nil_iff.mpr fun x hx z => by
        rcases (snoc x).mp z with w | w
        · exact klt_ir (preLt x w) (h2 x hx)
        · exact klt_ne (h2 x hx) w.symm
      refine ⟨a, c, rfl, ?_, ?_⟩
      · rw [List.filter_append, fa, fc, List.append_nil]
      · rw [List.filter_append, fa2, List.filter_cons, if_pos ((snoc b.1).mpr (.inr rfl)), fc2]
    have nxt : addAt (stepK hs ds b.1) b.2 (stt hs ds lts legs (inK pre)) = stt hs ds lts legs (inK (pre ++ [b])) := by
      apply List.ext_getElem?
      intro i
      rw [addAt_get, stt_get, stt_get, Option.map_map]
      cases ei : lts[i]? with
      | none => rfl
      | some d =>
        have hi : i < legs.length := by rw [L.len]; exact (List.getElem?_eq_some_iff.mp ei).1
        have el : legs[i]? = some legs[i] := List.getElem?_eq_getElem hi
        have eg : legs.getD i [] = legs[i] := by rw [List.getD, el]; rfl
        show some (if i ∈ b.2 then (firstS d ++ ((legs.getD i []).filter (inK pre)).map (stepK hs ds)) ++ [stepK hs ds b.1] else firstS d ++ ((legs.getD i []).filter (inK pre)).map (stepK hs ds)) = some _
        rw [eg]
        by_cases hm : i ∈ b.2
        · rw [if_pos hm]
          rw [b2] at hm
          obtain ⟨ks, e1, e2⟩ := mem_nums.mp hm
          rw [el] at e1
          cases e1
          obtain ⟨a, c, _, f1, f2⟩ := cut i _ el e2
          rw [f1, f2, List.map_append, List.append_assoc]
          rfl
        · rw [if_neg hm]
          have : legs[i].filter (inK (pre ++ [b])) = legs[i].filter (inK pre) := List.filter_congr fun x hx => by
            have ne : x ≠ b.1 := fun z => hm (by rw [b2]; exact mem_nums.mpr ⟨_, el, by rw [← z]; exact hx⟩)
            have := snoc x
            cases h1 : inK (pre ++ [b]) x with
            | true =>
              rcases this.mp h1 with w | w
              · exact w.symm
              · exact absurd w ne
            | false =>
              cases h2 : inK pre x with
              | true => rw [this.mpr (.inl h2)] at h1; cases h1
              | false => rfl
          rw [this]
    have one : ∀ i ∈ b.2, ∃ d a c, lts[i]? = some d ∧ legs[i]? = some (a ++ b.1 :: c) ∧ (a ++ b.1 :: c).filter (inK pre) = a ∧ ChainOk hs ds d.1 d.2.1 d.2.2 (a ++ b.1 :: c) := fun i hi => by
      rw [b2] at hi
      obtain ⟨ks, e1, e2⟩ := mem_nums.mp hi
      have hl : i < lts.length := by rw [← L.len]; exact (List.getElem?_eq_some_iff.mp e1).1
      have el : lts[i]? = some lts[i] := List.getElem?_eq_getElem hl
      obtain ⟨a, c, rfl, f1, _⟩ := cut i _ e1 e2
      exact ⟨lts[i], a, c, el, e1, f1, (L.ch i _ _ el e1).1⟩
    have lt : ∀ i ∈ b.2, i < lts.length := fun i hi => by
      obtain ⟨d, a, c, e1, _⟩ := one i hi
      exact (List.getElem?_eq_some_iff.mp e1).1
    have ris : b.2.Pairwise (· < ·) := by rw [b2]; exact (nums_ris (k := b.1) (n := 0) nd).1
    have lenF : ∀ (l : List Nat) (n : Nat), l.Pairwise (· < ·) → (∀ x ∈ l, x < n) → l.length ≤ n := fun l => by
      intro n p h
      have : ∀ (l : List Nat) (m : Nat), l.Pairwise (· < ·) → (∀ x ∈ l, m ≤ x ∧ x < n) → l.length + m ≤ n ∨ l = [] := fun l => by
        induction l with
        | nil => exact fun m _ _ => .inr rfl
        | cons x l ih =>
          intro m p h
          rw [List.pairwise_cons] at p
          obtain ⟨h1, h2⟩ := h x (.head _)
          refine .inl ?_
          rcases ih (x + 1) p.2 (fun y hy => ⟨p.1 y hy, (h y (.tail _ hy)).2⟩) with z | z
          · rw [List.length_cons]; omega
          · subst z; simp; omega
      rcases this l 0 p (fun x hx => ⟨Nat.zero_le _, h x hx⟩) with z | z
      · omega
      · subst z; exact Nat.zero_le _
    refine .cons ⟨bne, ?_, ?_, ?_, ?_, ris, ?_, ?_⟩ ?_
    · have := lenF b.2 lts.length ris lt
      omega
    · cases ah with
      | none => trivial
      | some k =>
        obtain ⟨y, hy, rfl⟩ := List.mem_map.mp (hah k rfl)
        exact pw3 y hy b (.head _)
    · cases eb : b.2 with
      | nil => exact absurd eb bne
      | cons i r =>
        obtain ⟨d, a, c, e1, e2, _, ch⟩ := one i (by rw [eb]; exact .head _)
        exact (ch a.length b.1 (by simp)).1
    · rw [b2, nums_len]
      exact L.cn b.1
    · rw [stt_len]
      exact lt
    · intro i hi
      obtain ⟨d, a, c, e1, e2, f1, ch⟩ := one i hi
      obtain ⟨_, c2, c3, c4⟩ := ch a.length b.1 (by simp)
      rw [List.take_append_of_le_length (Nat.le_refl _), List.take_length] at c2 c3 c4
      have ey : (lts.map fun d => d.2.2)[i]? = some d.2.2 := by rw [List.getElem?_map, e1]; rfl
      have es : (stt hs ds lts legs (inK pre))[i]? = some (firstS d ++ a.map (stepK hs ds)) := by
        rw [stt_get, e1]
        show some (firstS d ++ ((legs.getD i []).filter (inK pre)).map (stepK hs ds)) = _
        rw [List.getD, e2]
        show some (firstS d ++ ((a ++ b.1 :: c).filter (inK pre)).map (stepK hs ds)) = _
        rw [f1]
      rcases List.eq_nil_or_concat a with z | ⟨a', k', z⟩
      · subst z
        exact ⟨[], ⟨d.2.1, none, d.1, d.2.1⟩, d.2.2, es, ey, by
          unfold canB
          rw [Bool.and_eq_true, Bool.and_eq_true, decide_eq_true_iff, decide_eq_true_iff, decide_eq_true_iff]
          exact ⟨c3, c2.symm, c4⟩⟩
      · rw [List.concat_eq_append] at z
        subst z
        rw [endS_snoc] at c2 c3
        rw [endT_snoc] at c4
        exact ⟨firstS d ++ a'.map (stepK hs ds), stepK hs ds k', d.2.2, by rw [es, List.map_append, List.append_assoc]; rfl, ey, by
          unfold canB
          rw [Bool.and_eq_true, Bool.and_eq_true, decide_eq_true_iff, decide_eq_true_iff, decide_eq_true_iff]
          exact ⟨c3, c2.symm, c4⟩⟩
    · rw [nxt]
      exact Wks.of_plan L P ht few post (pre ++ [b]) (some b.1) (by rw [e, List.append_assoc]; rfl) fun k hk => by
        cases hk
        rw [List.map_append, List.mem_append]
        exact .inr (by simp)
theorem stt_first (hs : List (List Nat)) (ds : List M1.Rd) (lts : List (Str × Int × Str)) (legs : List (List Kt)) : stt hs ds lts legs (inK []) = lts.map firstS := by
  apply List.ext_getElem?
  intro i
  rw [stt_get, List.getElem?_map]
  cases lts[i]? with
  | none => rfl
  | some d =>
    have : (legs.getD i []).filter (inK []) = [] := List.filter_eq_nil_iff.mpr fun x _ z => by
      have := of_decide_eq_true z
      exact absurd this List.not_mem_nil
    show some (firstS d ++ ((legs.getD i []).filter (inK [])).map (stepK hs ds)) = some (firstS d)
    rw [this, List.map_nil, List.append_nil]
theorem Wks.whole {hs : List (List Nat)} {ds : List M1.Rd} {lts : List (Str × Int × Str)} {legs : List (List Kt)} {bs : List (Kt × List Nat)} (L : LegsOk hs ds lts legs) (P : PlanOk legs bs) (ht : ∀ r, r < ds.length → 1 ≤ rTn ds r) (few : lts.length ≤ 100) :
    Wks hs ds (lts.map fun d => d.2.2) (lts.map firstS) none bs (stt hs ds lts legs fun _ => true) := by
  have := Wks.of_plan L P ht few bs [] none rfl (fun k h => nomatch h)
  rw [stt_first] at this
  exact this
end K1
set_option Elab.async false
set_option linter.all false
set_option maxRecDepth 100000
set_option maxHeartbeats 4000000
namespace L3
open PySem PySem.Spec PyProof.Rows L2
section
variable {X : Cx}
theorem call_isiO : CallR X (.builtin "isinstance") (fun xs H Q => ∃ x C t b, xs = [x, .ref C] ∧ TyOf X.K H x t ∧ PySem.W.kitOne X.K t (.ref C) = some b ∧ Q (.bl b) H) := by
  intro pins s σ H xs us Q I r h
  obtain ⟨x, C, t, b, rfl, ty, e, q⟩ := h
  obtain ⟨u, w', rfl, ru, rw'⟩ := vals2 r
  cases rw'
  exact isinst_ok I ru ty e fun tk => ⟨.bl b, H, I.tok tk, rfl, q⟩
theorem kit_sub {K : PySem.W.Frag} {C D : Addr} {b : Bool} (hc : PySem.W.isClsIn K D = true) (ht : PySem.W.typeIn K (.ref D) = some (.type "type")) (hs : PySem.W.subIn K (.ref C) (.ref D) = some b) (hn : (Value.ref C == Value.ref D) = true → b = true) :
    PySem.W.kitOne K (.ref C) (.ref D) = some b := by
  unfold PySem.W.kitOne
  by_cases h : (Value.ref C == Value.ref D) = true
  · rw [if_pos h, hn h]
  · rw [if_neg h]
    unfold PySem.W.kitCls
    have h1 : (PySem.W.clsIn K D).isSome = true := hc
    have h2 : (PySem.W.typeIn K (.ref D) == some (.type "type")) = true := by rw [ht]; decide
    show (if ((PySem.W.clsIn K D).isSome && PySem.W.typeIn K (.ref D) == some (.type "type")) = true then _ else _) = _
    rw [h1, h2]
    exact (if_pos rfl).trans hs
structure Isi (K : PySem.W.Frag) (C : Addr) : Prop where
  cl : Cls K C
  ha : PySem.W.findIn K (.ref C) "__class__" = some (some (.builtin "object.__class__"))
  hn : PySem.W.specialIn K (.builtin "object.__class__") "__get__" = some (some (.builtin "getset_descriptor.__get__"))
  ht : PySem.W.takesIn K (.builtin "object.__class__") = some true
  hm : PySem.W.mroIn K C (.type "object") = some true
theorem Isi.ty {K : PySem.W.Frag} {C : Addr} (i : Isi K C) {H : Hp} {a dx : Addr} {fs : List (Str × V)} (e : H a = some (.ins C dx fs)) : TyOf K H (.ref a) (.ref C) := .ins e i.cl i.ha i.hn i.ht i.hm
structure Mk0 (K : PySem.W.Frag) (C : Addr) : Prop where
  makes : PySem.W.makesIn K C = true
  init : PySem.W.findIn K (.ref C) "__init__" = some (some (.builtin "object.__init__"))
  kp : PySem.W.keepIn K (.ref C) = true
noncomputable def tMake0 (C : Addr) : TE := fun _ H Q => ∀ x dx, H x = none → H dx = none → dx ≠ x → Q (.ref x) (upd (upd H dx (.own x)) x (.ins C dx []))
theorem run_make0N {C : Addr} {pins : List (Addr × Obj)} {σ : L2.St} {H : Hp} {s : Shared} {Q : VK} (M : Mk0 X.K C) (I : Inv X pins σ H s)
    (h : ∀ x dx, H x = none → H dx = none → dx ≠ x → Q (.ref x) (upd (upd H dx (.own x)) x (.ins C dx []))) :
    wpAny (model X.prog X.w) X.A (call (.ref C) []) (EP X pins σ Q) X.xe s := by
  have I2 := Inv.made (C := C) I
  have Y := PySem.W.makes_of (M := model X.prog X.w) I.kIn M.makes
  obtain ⟨_, _, _, hx, _⟩ := (show ObjOk X.prog X.w _ _ _ (.ins C s.heap.objs.size []) from I2.hok (s.heap.objs.size + 1) _ upd_same)
  refine wpAny_call (make_map0 I.kIn M.makes M.init (fun self => PySem.W.Looks.of_pure (PySem.W.oi_bind self)) ?_)
  have t1 : PySem.W.Looks (model X.prog X.w) ((s.heap.push PySem.W.emptyDict).push (PySem.W.instObj C s.heap.objs.size)) (typeOf (.ref (s.heap.objs.size + 1))) (.ref C) := (PySem.W.Looks.ld hx).andThen .now
  have t2 : PySem.W.Looks (model X.prog X.w) ((s.heap.push PySem.W.emptyDict).push (PySem.W.instObj C s.heap.objs.size)) (isInstance (.ref (s.heap.objs.size + 1)) (.type "object")) true := t1.andThen (Y.top.keeps fun b o e => Heap.get?_push_of_some _ (Heap.get?_push_of_some _ e))
  refine codeAny_call_builtin PySem.W.oi_plain PySem.W.entry_oi (@PySem.W.check_slot (model X.prog X.w) _ _ _ "object.__init__" "object" "__init__" (.ref (s.heap.objs.size + 1)) [] [] _ PySem.W.oi_kind PySem.W.oi_split t2 (PySem.W.oi_args (.ref (s.heap.objs.size + 1))) ?_)
  rw [PySem.W.oi_run]
  exact wpAny_pure (And.intro rfl ⟨V.ref (s.heap.objs.size + 1), _, I2, rfl, h _ _ (I.hok.fresh (Nat.le_succ _)) (I.hok.fresh (Nat.le_refl _)) (Nat.ne_of_lt (Nat.lt_succ_self _))⟩)
theorem pe_makeN {C : Addr} {x : Str} {p pos : Pos} (M : Mk0 X.K C) (hg : Gl X x) (hm : X.mg x = some (.ref C)) (hdb : (x == ("__debug__" : Str)) = false := by decide) : PE X (.Call (.Name x p) [] [] pos) (tMake0 C) := by
  intro pins s σ H Q I h
  refine wpAny_Call_Name_kw (ld_glob I hg hm ?_ hdb)
  exact PySem.W.callWith_K0 I.kIn M.kp (run_make0N M I h)
end
end L3
set_option Elab.async false
set_option linter.all false
set_option maxRecDepth 100000
set_option maxHeartbeats 4000000
namespace K1
open PySem L2 L3 M1
noncomputable def Sm (i : Int) : Prop := 0 ≤ i ∧ i < 10 ^ 12
noncomputable def lnN : Str := Str.ofString "not yet"
noncomputable def spI1 (C : Addr) (a : Str) : Sp := fun vs H Q _ => ∃ (x dx : Addr) (u : L2.V), vs = [.ref x, u] ∧ H x = some (.ins C dx []) ∧ Q .non (upd H x (.ins C dx [(a, u)]))
noncomputable def spI2 (C : Addr) (a b : Str) : Sp := fun vs H Q _ => ∃ (x dx : Addr) (u v : L2.V), vs = [.ref x, u, v] ∧ H x = some (.ins C dx []) ∧ Q .non (upd H x (.ins C dx [(a, u), (b, v)]))
structure Kin (K : PySem.W.Frag) (S N A R H : Addr) (C : Addr) (b0 b1 b2 b3 : Bool) : Prop where
  isi : Isi K C
  s : PySem.W.kitOne K (.ref C) (.ref S) = some true
  n : PySem.W.kitOne K (.ref C) (.ref N) = some b0
  a : PySem.W.kitOne K (.ref C) (.ref A) = some b1
  r : PySem.W.kitOne K (.ref C) (.ref R) = some b2
  h : PySem.W.kitOne K (.ref C) (.ref H) = some b3
section
variable {P : Program} {w : World} {K : PySem.W.Frag} {mg : Str → Option Value} {base : Heap}
noncomputable abbrev sIH : Stmt := inClass (top 14) 0
noncomputable abbrev sIR : Stmt := inClass (top 15) 0
noncomputable abbrev sIA : Stmt := inClass (top 16) 0
theorem scIH : FnScope ["self", "at", "since"] ["self", "at", "since"] (defScope sIH) := ⟨rfl, rfl, rfl, by decide +kernel, rfl, by decide +kernel, by decide +kernel⟩
theorem ok_iH {C f : Addr} {fd : FuncData} (F : Fun K "__init__" "AtHouse.__init__" sIH f fd) (cl : Cls K C) (n1 : PySem.W.findIn K (.ref C) "at" = some none) (n2 : PySem.W.findIn K (.ref C) "since" = some none) : FnOk P w K mg base CX0 1 f fd ["self", "at", "since"] (spI2 C "at" "since") := by
  refine F.ok scIH (fun vs H Q E h => ?_) (fun cdv A outer s H vs Q E hr h => ?_)
  · obtain ⟨x, dx, u, v, rfl, _⟩ := h
    rfl
  · obtain ⟨x, dx, u, v, rfl, hx, q⟩ := h
    refine ⟨_, (pss_cons (ps_fld (pv 0) (pv 1) rfl)
      (pss_one (ps_fld (pv 0) (pv 2) rfl))), ?_⟩
    refine ⟨_, rfl, _, rfl, x, C, dx, _, rfl, hx, cl, n1, (by show 0 < 1000; decide), ?_⟩
    refine ⟨_, rfl, _, rfl, x, C, dx, _, rfl, upd_same, cl, n2, (by show 1 < 1000; decide), ?_⟩
    show Q .non (upd (upd H x (.ins C dx [("at", u)])) x (.ins C dx [("at", u), ("since", v)]))
    rw [upd_upd]
    exact q
theorem scIR : FnScope ["self", "by", "due"] ["self", "by", "due"] (defScope sIR) := ⟨rfl, rfl, rfl, by decide +kernel, rfl, by decide +kernel, by decide +kernel⟩
theorem ok_iR {C f : Addr} {fd : FuncData} (F : Fun K "__init__" "OnRoad.__init__" sIR f fd) (cl : Cls K C) (n1 : PySem.W.findIn K (.ref C) "by" = some none) (n2 : PySem.W.findIn K (.ref C) "due" = some none) : FnOk P w K mg base CX0 1 f fd ["self", "by", "due"] (spI2 C "by" "due") := by
  refine F.ok scIR (fun vs H Q E h => ?_) (fun cdv A outer s H vs Q E hr h => ?_)
  · obtain ⟨x, dx, u, v, rfl, _⟩ := h
    rfl
  · obtain ⟨x, dx, u, v, rfl, hx, q⟩ := h
    refine ⟨_, (pss_cons (ps_fld (pv 0) (pv 1) rfl)
      (pss_one (ps_fld (pv 0) (pv 2) rfl))), ?_⟩
    refine ⟨_, rfl, _, rfl, x, C, dx, _, rfl, hx, cl, n1, (by show 0 < 1000; decide), ?_⟩
    refine ⟨_, rfl, _, rfl, x, C, dx, _, rfl, upd_same, cl, n2, (by show 1 < 1000; decide), ?_⟩
    show Q .non (upd (upd H x (.ins C dx [("by", u)])) x (.ins C dx [("by", u), ("due", v)]))
    rw [upd_upd]
    exact q
theorem scIA : FnScope ["self", "since"] ["self", "since"] (defScope sIA) := ⟨rfl, rfl, rfl, by decide +kernel, rfl, by decide +kernel, by decide +kernel⟩
theorem ok_iA {C f : Addr} {fd : FuncData} (F : Fun K "__init__" "AtHome.__init__" sIA f fd) (cl : Cls K C) (n1 : PySem.W.findIn K (.ref C) "since" = some none) : FnOk P w K mg base CX0 1 f fd ["self", "since"] (spI1 C "since") := by
  refine F.ok scIA (fun vs H Q E h => ?_) (fun cdv A outer s H vs Q E hr h => ?_)
  · obtain ⟨x, dx, u, rfl, _⟩ := h
    rfl
  · obtain ⟨x, dx, u, rfl, hx, q⟩ := h
    refine ⟨_, (pss_one (ps_fld (pv 0) (pv 1) rfl)), ?_⟩
    exact ⟨_, rfl, _, rfl, x, C, dx, _, rfl, hx, cl, n1, (by show 0 < 1000; decide), q⟩
end
end K1
set_option Elab.async false
set_option linter.all false
set_option maxRecDepth 100000
set_option maxHeartbeats 4000000
namespace K1
open PySem L2 L3 M1
inductive Spt where
  | ny
  | at_ (h : Str) (t : Int)
  | on (r : Option Int) (t : Int)
  | home (t : Int)
structure SpA where
  ny : Addr
  at_ : Addr
  on : Addr
  home : Addr
noncomputable def SpotAt (S : SpA) (H : Hp) (v : L2.V) : Spt → Prop
  | .ny => ∃ x dx, v = .ref x ∧ H x = some (.ins S.ny dx [])
  | .at_ h t => ∃ x dx, v = .ref x ∧ H x = some (.ins S.at_ dx [("at", .str h), ("since", .int t)])
  | .on r t => ∃ x dx, v = .ref x ∧ H x = some (.ins S.on dx [("by", byV r), ("due", .int t)])
  | .home t => ∃ x dx, v = .ref x ∧ H x = some (.ins S.home dx [("since", .int t)])
theorem SpotAt.same {S : SpA} {H H' : Hp} {v : L2.V} (sm : Same H H') : ∀ {s : Spt}, SpotAt S H v s → SpotAt S H' v s
  | .ny, ⟨x, dx, e, h⟩ => ⟨x, dx, e, sm _ _ h⟩
  | .at_ _ _, ⟨x, dx, e, h⟩ => ⟨x, dx, e, sm _ _ h⟩
  | .on _ _, ⟨x, dx, e, h⟩ => ⟨x, dx, e, sm _ _ h⟩
  | .home _, ⟨x, dx, e, h⟩ => ⟨x, dx, e, sm _ _ h⟩
noncomputable def spotS (s : Step) (y : Str) (t : Int) : Spt := if t < s.due then .on s.by_ s.due else if s.house = y then .home s.due else .at_ s.house s.due
noncomputable def spotOf (ss : List Step) (y : Str) (t : Int) : Spt := match (ss.filter fun s => decide (s.left ≤ t)).getLast? with
  | none => .ny
  | some s => spotS s y t
theorem SpotAt.upd {S : SpA} {H : Hp} {v : L2.V} {D : Addr} {ys zs : List L2.V} (hD : H D = some (.lst ys)) : ∀ {s : Spt}, SpotAt S H v s → SpotAt S (upd H D (.lst zs)) v s
  | .ny, ⟨x, dx, e, h⟩ => ⟨x, dx, e, by rw [upd_ne (ne_of h hD (by intro z; cases z))]; exact h⟩
  | .at_ _ _, ⟨x, dx, e, h⟩ => ⟨x, dx, e, by rw [upd_ne (ne_of h hD (by intro z; cases z))]; exact h⟩
  | .on _ _, ⟨x, dx, e, h⟩ => ⟨x, dx, e, by rw [upd_ne (ne_of h hD (by intro z; cases z))]; exact h⟩
  | .home _, ⟨x, dx, e, h⟩ => ⟨x, dx, e, by rw [upd_ne (ne_of h hD (by intro z; cases z))]; exact h⟩
theorem picked {H : Hp} {ts : List Addr} {ss : List Step} (tp : Tups H ts (ss.map stV)) (s0 : Step) (q : Step → Bool) :
    ∃ us, ((List.range (refs ts).length).filter fun i => q (ss.getD i s0)).map (fun i => (refs ts).getD i .non) = refs us ∧ Tups H us ((ss.filter q).map stV) := by
  have tl := tp.len
  rw [List.length_map] at tl
  have rl := refs_len ts
  have e1 : ss.filter q = ((List.range (refs ts).length).filter fun i => q (ss.getD i s0)).map fun i => ss.getD i s0 := by
    have := filter_range_map q id s0 ss
    rw [List.map_id] at this
    rw [rl, tl, ← this]
    rfl
  refine ⟨((List.range (refs ts).length).filter fun i => q (ss.getD i s0)).map fun i => ts.getD i 0, ?_, ?_⟩
  · unfold refs
    rw [List.map_map]
    refine List.map_congr_left fun i hi => ?_
    have hi2 := List.mem_range.mp (List.mem_filter.mp hi).1
    rw [List.length_map] at hi2
    show ((ts.map V.ref)[i]?).getD _ = V.ref ((ts[i]?).getD 0)
    rw [List.getElem?_map, List.getElem?_eq_getElem hi2]
    rfl
  · rw [e1, List.map_map]
    generalize hx : (List.range (refs ts).length).filter (fun i => q (ss.getD i s0)) = idx
    have all : ∀ i ∈ idx, i < ts.length := fun i hi => by
      rw [← hx] at hi
      have := List.mem_range.mp (List.mem_filter.mp hi).1
      omega
    clear hx e1
    induction idx with
    | nil => exact .nil
    | cons i r ih =>
      refine .cons ?_ (ih fun j hj => all j (.tail _ hj))
      have hi := all i (.head _)
      obtain ⟨d, ed, hd⟩ := Paired.get tp (List.getElem?_eq_getElem hi)
      rw [List.getElem?_map] at ed
      obtain ⟨s', e', rfl⟩ := Option.map_eq_some_iff.mp ed
      show H ((ts[i]?).getD 0) = some (.tup (stV (ss.getD i s0)))
      rw [gd_of e', List.getElem?_eq_getElem hi]
      exact hd
theorem tups_snoc {H : Hp} {us : List Addr} {pre : List Step} {s : Step} (tp : Tups H us ((pre ++ [s]).map stV)) : ∃ ps u, us = ps ++ [u] ∧ H u = some (.tup (stV s)) := by
  rcases List.eq_nil_or_concat us with rfl | ⟨ps, u, rfl⟩
  · have := tp.len
    simp at this
  · have l := tp.len
    rw [List.concat_eq_append] at *
    refine ⟨ps, u, rfl, ?_⟩
    obtain ⟨d, ed, hd⟩ := Paired.get tp (i := ps.length) (x := u) (by simp)
    have pl : ps.length = pre.length := by simpa using l
    rw [pl, List.map_append, List.getElem?_append_right (by rw [List.length_map]; omega)] at ed
    simp at ed
    rw [← ed] at hd
    exact hd
section
variable {P : Program} {w : World} {K : PySem.W.Frag} {mg : Str → Option Value} {base : Heap}
noncomputable def spSpAt (C : Addr) (S : SpA) : Sp := fun vs H Q _ => ∃ (x n g st : Addr) (gs : List Str) (ls : List Addr) (sss : List (List Step)) (k : Nat) (ss : List Step) (y : Str) (t : Int), vs = [.ref x, .int k, .int t] ∧ WalkAt C H x n g st gs ls sss ∧ sss[k]? = some ss ∧ ss.length ≤ 100 ∧ gs[k]? = some y ∧ ∀ v H', Same H H' → SpotAt S H' v (spotOf ss y t) → Q v H'
noncomputable abbrev sSpAt : Stmt := inClass (top 18) 8
theorem scSpAt : FnScope ["self", "number", "turn", "begun", "last"] ["self", "number", "turn"] (defScope sSpAt) := ⟨rfl, rfl, rfl, by decide +kernel, rfl, by decide +kernel, by decide +kernel⟩
theorem ok_spAt {C f f1 f2 f3 : Addr} {fd fd1 fd2 fd3 : FuncData} {S : SpA} (F : Fun K "spot_at" "Walk.spot_at" sSpAt f fd) (WC : WalkC K C) (at_NotYet : mg "NotYet" = some (.ref S.ny)) (at_AtHouse : mg "AtHouse" = some (.ref S.at_)) (at_OnRoad : mg "OnRoad" = some (.ref S.on)) (at_AtHome : mg "AtHome" = some (.ref S.home))
    (Mk0_NotYet : Mk0 K S.ny) (Mk_AtHouse : Mk K S.at_ f1) (D_AtHouse_init : Inn K S.at_ "AtHouse.__init__" sIH ["self", "at", "since"] f1 fd1) (G_AtHouse_init : FnOk P w K mg base CX0 1 f1 fd1 ["self", "at", "since"] (spI2 S.at_ "at" "since"))
    (Mk_OnRoad : Mk K S.on f2) (D_OnRoad_init : Inn K S.on "OnRoad.__init__" sIR ["self", "by", "due"] f2 fd2) (G_OnRoad_init : FnOk P w K mg base CX0 1 f2 fd2 ["self", "by", "due"] (spI2 S.on "by" "due"))
    (Mk_AtHome : Mk K S.home f3) (D_AtHome_init : Inn K S.home "AtHome.__init__" sIA ["self", "since"] f3 fd3) (G_AtHome_init : FnOk P w K mg base CX0 1 f3 fd3 ["self", "since"] (spI1 S.home "since")) :
    FnOk P w K mg base CX0 3 f fd ["self", "number", "turn"] (spSpAt C S) := by
  refine F.ok scSpAt (fun vs H Q E h => ?_) (fun cdv A outer s H vs Q E hr h => ?_)
  · obtain ⟨x, n, g, st, gs, ls, sss, k, ss, y, t, rfl, _⟩ := h
    rfl
  · obtain ⟨x, n, g, st, gs, ls, sss, k, ss, y, t, rfl, W, es, few, ey, q⟩ := h
    obtain ⟨dx, hx⟩ := W.ins
    refine ⟨_, (pss_cons (ps_setLC (i := 3) scSpAt.nd rfl rfl rfl (N' := ["step", "turn"]) (cs := [none, some 2]) rfl (pi_list (pe_ix ix_list (pe_fld (pv 0) (by rfl)) (pv 1) (fun _ _ => rfl))) rfl (by decide +kernel) rfl (by decide +kernel) (sub_of (List.forall_mem_cons.mpr ⟨rfl, (fun p hp => absurd hp (List.not_mem_nil))⟩)) rfl
        (.own (.cap rfl (.inl rfl) (.inl rfl) rfl .nil))
        (fun C s3 H3 fp pn => ⟨(pg_name (i := 0) (by show (["step", "turn"] : List Str).Nodup; decide +kernel) rfl (.inl rfl)), (pif_one (pt_cmpR op_le (pe_ix (ix_tupK (K := K) rfl) (pv 0) pe_int (fun _ _ => rfl)) (pv 1) (nomark _))), (pv 0)⟩))
      (pss_cons (ps_if (pt_not (pt_truth (pv 3) (fun _ => rfl))) (pss_one (ps_ret (pe_makeN Mk0_NotYet (by rfl) at_NotYet))) pss_nil)
      (pss_cons (ps_set (i := 4) scSpAt.nd rfl (Or.inl rfl) (pe_ix ix_list (pv 3) (pe_un un_neg pe_int) (fun _ _ => rfl)))
      (pss_cons (ps_if (pt_cmpR op_gt (pe_ix ix_tup (pv 4) pe_int (fun _ _ => rfl)) (pv 2) (nomark _)) (pss_one (ps_ret (pe_make Mk_OnRoad G_OnRoad_init (hr.mono (by decide)) (by rfl) at_OnRoad D_OnRoad_init.bd .nil pass0 (pa_cons (pe_ix ix_tup (pv 4) pe_int (fun _ _ => rfl)) (pa_cons (pe_ix ix_tup (pv 4) pe_int (fun _ _ => rfl)) pa_nil))))) pss_nil)
      (pss_cons (ps_if (pt_cmpR op_eq (pe_ix ix_tup (pv 4) pe_int (fun _ _ => rfl)) (pe_ix ix_list (pe_fld (pv 0) (by rfl)) (pv 1) (fun _ _ => rfl)) (nomark _)) (pss_one (ps_ret (pe_make Mk_AtHome G_AtHome_init (hr.mono (by decide)) (by rfl) at_AtHome D_AtHome_init.bd .nil pass0 (pa_cons (pe_ix ix_tup (pv 4) pe_int (fun _ _ => rfl)) pa_nil)))) pss_nil)
      (pss_one (ps_ret (pe_make Mk_AtHouse G_AtHouse_init (hr.mono (by decide)) (by rfl) at_AtHouse D_AtHouse_init.bd .nil pass0 (pa_cons (pe_ix ix_tup (pv 4) pe_int (fun _ _ => rfl)) (pa_cons (pe_ix ix_tup (pv 4) pe_int (fun _ _ => rfl)) pa_nil)))))))))), ?_⟩
    have ln := Paired.length W.each
    have hk := (List.getElem?_eq_some_iff.mp es).1
    obtain ⟨l, el⟩ : ∃ l, ls[k]? = some l := ⟨_, List.getElem?_eq_getElem (by omega)⟩
    obtain ⟨ss2, es2, ts, hl, tp⟩ := Paired.get W.each el
    rw [es] at es2
    cases es2
    have tl := tp.len
    rw [List.length_map] at tl
    have al : L2.atI (refs ls) (k : Int) = some (.ref l) := atI_nat (by unfold refs; rw [List.getElem?_map, el]; rfl)
    have hl2 := refs_len ts
    let s0 : Step := ⟨0, none, Str.ofString "", 0⟩
    dsimp only [tSeq, tAsg]
    refine tlc_fi (J := Itl K l) (H1 := H) (xs := refs ts) (rest := [some (.int t)]) (fun R h => ⟨_, rfl, x, C, dx, _, _, rfl, hx, WC.cl, WC.ns, rfl, _, rfl, st, _, _, _, rfl, rfl, SqL.of W.steps, al, l, rfl, ⟨_, SqL.of hl⟩, h⟩) rfl (wk_list (SqL.of hl)) (small1000 (by omega)) (fun i => decide ((ss.getD i s0).left ≤ t)) (fun i => (refs ts).getD i .non) (fun i v H2 R ev sm k2 => ?_) (fun i v H2 R ev hp sm k2 => ?_) (fun D H2 nD hD sD => ?_)
    · unfold refs at ev
      rw [List.getElem?_map] at ev
      obtain ⟨r, er, rfl⟩ := Option.map_eq_some_iff.mp ev
      obtain ⟨d, ed, hd⟩ := Paired.get tp er
      rw [List.getElem?_map] at ed
      obtain ⟨s', e', rfl⟩ := Option.map_eq_some_iff.mp ed
      have e0 : ss.getD i s0 = s' := gd_of e'
      rw [e0] at k2
      exact ⟨_, rfl, r, _, _, _, rfl, rfl, SqT.of (sm _ _ hd), rfl, _, rfl, _, _, rfl, rfl, _, rfl, k2 H2 (Same.refl _)⟩
    · refine ⟨_, rfl, ?_⟩
      rw [gd_of ev] at k2
      exact k2 H2 (Same.refl _)
    · obtain ⟨us, eu, tu⟩ := picked tp s0 (fun s' => decide (s'.left ≤ t))
      rw [eu] at hD
      unfold spotOf at q
      have mkd : ∀ {x' dx' : Addr} {o : HO}, H2 x' = none → H2 dx' = none → Same H (upd (upd H2 dx' (.own x')) x' o) := fun {x' dx' o} n1 n2 b v e => by
        have e2 := sD _ _ e
        rw [upd_ne (ne_of_none e2 n1), upd_ne (ne_of_none e2 n2)]
        exact e2
      have mk2 : ∀ {x' dx' : Addr} {o o2 : HO}, H2 x' = none → H2 dx' = none → Same H (upd (upd (upd H2 dx' (.own x')) x' o) x' o2) := fun {x' dx' o o2} n1 n2 => by
        rw [upd_upd]
        exact mkd n1 n2
      rcases List.eq_nil_or_concat (ss.filter fun s' => decide (s'.left ≤ t)) with e | ⟨pre, s', e⟩
      · rw [e] at tu q
        have u0 : us = [] := by
          have := tu.len
          exact List.length_eq_zero_iff.mp this
        subst u0
        exact ⟨_, rfl, false, .inl ⟨_, SqL.of hD, rfl⟩, iteT fun x' dx' n1 n2 _ => q _ _ (mkd n1 n2) ⟨x', dx', rfl, upd_same⟩⟩
      · rw [List.concat_eq_append] at e
        rw [e] at tu q
        rw [List.getLast?_append, List.getLast?_singleton] at q
        obtain ⟨ps, u, rfl, hu⟩ := tups_snoc tu
        have hu2 := sD _ _ hu
        have tu2 := SqT.of (K := K) hu2
        have nz : (refs (ps ++ [u])).isEmpty = false := by unfold refs; rw [List.map_append]; cases ps <;> rfl
        have la : L2.atI (refs (ps ++ [u])) (-1) = some (.ref u) := by unfold refs; rw [List.map_append]; exact atI_last'
        refine ⟨_, rfl, true, .inl ⟨_, SqL.of hD, by rw [nz]; rfl⟩, iteF ?_⟩
        refine ⟨_, rfl, _, rfl, D, _, _, _, rfl, rfl, SqL.of hD, la, ?_⟩
        refine ⟨_, rfl, u, _, _, _, rfl, rfl, tu2, rfl, _, rfl, _, _, rfl, rfl, _, rfl, ?_⟩
        show (if decide (t < s'.due) = true then _ else _)
        change ∀ v H', Same H H' → SpotAt S H' v (spotS s' y t) → Q v H' at q
        unfold spotS at q
        by_cases h1 : t < s'.due
        · rw [if_pos h1] at q
          refine iteB (decide_eq_true h1) ⟨_, rfl, u, _, _, _, rfl, rfl, tu2, rfl, _, rfl, u, _, _, _, rfl, rfl, tu2, rfl, fun x' dx' n1 n2 _ => ⟨x', dx', _, _, rfl, upd_same, rfl, ?_⟩⟩
          exact q _ _ (mk2 n1 n2) ⟨x', dx', rfl, upd_same⟩
        · rw [if_neg h1] at q
          refine iteN (decide_eq_false h1) ?_
          have ag : L2.atI (gs.map V.str) (k : Int) = some (.str y) := atI_nat (by rw [List.getElem?_map, ey]; rfl)
          refine ⟨_, rfl, u, _, _, _, rfl, rfl, tu2, rfl, _, rfl, x, C, dx, _, _, rfl, sD _ _ hx, WC.cl, WC.ng, rfl, _, rfl, g, _, _, _, rfl, rfl, SqL.of (sD _ _ W.goals), ag, rfl, _, rfl, ?_⟩
          by_cases h2 : s'.house = y
          · rw [if_pos h2] at q
            refine iteB (decide_eq_true (congrArg V.str h2)) ⟨_, rfl, u, _, _, _, rfl, rfl, tu2, rfl, fun x' dx' n1 n2 _ => ⟨x', dx', _, rfl, upd_same, rfl, ?_⟩⟩
            exact q _ _ (mk2 n1 n2) ⟨x', dx', rfl, upd_same⟩
          · rw [if_neg h2] at q
            refine iteN (decide_eq_false fun z => h2 (V.str.inj z)) ⟨_, rfl, u, _, _, _, rfl, rfl, tu2, rfl, _, rfl, u, _, _, _, rfl, rfl, tu2, rfl, fun x' dx' n1 n2 _ => ⟨x', dx', _, _, rfl, upd_same, rfl, ?_⟩⟩
            exact q _ _ (mk2 n1 n2) ⟨x', dx', rfl, upd_same⟩
noncomputable def spSpots (C CN : Addr) (S : SpA) : Sp := fun vs H Q _ => ∃ (n a' b' lp pp : Addr) (rs lr pa : List Addr) (lts : List (Str × Int × Str)) (hs : List (List Nat)) (ds : List M1.Rd) (bs : List (Kt × List Nat)) (fin : List (List Step)) (t : Int), vs = [.ref n, .ref lp, .ref pp, .int t] ∧ NetAt CN H n a' b' (txs hs) (refs rs) ∧ RoadsAt H hs rs ds ∧ rs.length ≤ 40 ∧
  H lp = some (.lst (refs lr)) ∧ Tups H lr (lts.map ltT) ∧ lr.length ≤ 100 ∧ H pp = some (.lst (refs pa)) ∧ Paired (BagAt H) pa bs ∧ pa.length ≤ 99 ∧ Wks hs ds (lts.map fun d => d.2.2) (lts.map firstS) none bs fin ∧ fin.length = lts.length ∧ (∀ ss ∈ fin, ss.length ≤ 100) ∧
  ∀ (H' : Hp) (D : Addr) (vs : List L2.V), H D = none → Same H H' → H' D = some (.lst vs) → vs.length = lts.length → (∀ i v, vs[i]? = some v → SpotAt S H' v (spotOf (fin.getD i []) ((lts.map fun d => d.2.2).getD i (Str.ofString "")) t)) → Q (.ref D) H'
noncomputable abbrev sSpots : Stmt := top 24
theorem scSpots : FnScope ["net", "letters", "plan", "turn", "walk"] ["net", "letters", "plan", "turn"] (defScope sSpots) := ⟨rfl, rfl, rfl, by decide +kernel, rfl, by decide +kernel, by decide +kernel⟩
theorem ok_spots {C CN f f1 f2 : Addr} {fd fd1 fd2 : FuncData} {S : SpA} (F : Fun K "spots_at" "spots_at" sSpots f fd) (B : Blt mg) (Cl_Walk : Cls K C)
    (D_walk_of : Dn K mg "walk_of" sWkOf ["net", "letters", "plan"] f1 fd1) (G_walk_of : FnOk P w K mg base CX0 5 f1 fd1 ["net", "letters", "plan"] (spWkOf C CN))
    (M_Walk_spot_at : Mn K C "spot_at" "Walk.spot_at" sSpAt ["self", "number", "turn"] f2 fd2) (G_Walk_spot_at : FnOk P w K mg base CX0 3 f2 fd2 ["self", "number", "turn"] (spSpAt C S)) :
    FnOk P w K mg base CX0 6 f fd ["net", "letters", "plan", "turn"] (spSpots C CN S) := by
  refine F.ok scSpots (fun vs H Q E h => ?_) (fun cdv A outer s H vs Q E hr h => ?_)
  · obtain ⟨n, a', b', lp, pp, rs, lr, pa, lts, hs, ds, bs, fin, t, rfl, _⟩ := h
    rfl
  · obtain ⟨n, a', b', lp, pp, rs, lr, pa, lts, hs, ds, bs, fin, t, rfl, N, R, few, hlp, tpl, fewl, hpp, hbs, fewp, wk, fl, ff, q⟩ := h
    refine ⟨_, (pss_cons (ps_set (i := 4) scSpots.nd rfl (Or.inr rfl) (pe_call G_walk_of (hr.mono (by decide)) (by rfl) D_walk_of.at_ D_walk_of.fn.kp D_walk_of.bd .nil pass0 (pa_cons (pv 0) (pa_cons (pv 1) (pa_cons (pv 2) pa_nil)))))
      (pss_one (ps_ret (pe_lc (N' := ["number", "turn", "walk"]) (cs := [none, some 3, some 4]) rfl (pi_range1 rfl B.range (pa_cons (pe_callB call_len_seq (by rfl) B.len bt_len (pa_cons (pv 1) pa_nil)) pa_nil)) rfl (by decide +kernel) rfl (by decide +kernel) (sub_of (List.forall_mem_cons.mpr ⟨rfl, (List.forall_mem_cons.mpr ⟨rfl, (fun p hp => absurd hp (List.not_mem_nil))⟩)⟩)) rfl
        (.own (.cap rfl (.inl rfl) (.inl rfl) rfl (.cap rfl (.inl rfl) (.inl rfl) rfl .nil)))
        (fun C s3 H3 fp pn => ⟨(pg_name (i := 0) (by show (["number", "turn", "walk"] : List Str).Nodup; decide +kernel) rfl (.inl rfl)), pif_nil, (pe_meth (pv 2) Cl_Walk M_Walk_spot_at.me G_Walk_spot_at (hr.mono (by decide)) M_Walk_spot_at.bd .nil pass0 (pa_cons (pv 0) (pa_cons (pv 1) pa_nil)))⟩))))), ?_⟩
    have ll : lr.length = lts.length := by have := tpl.len; rw [List.length_map] at this; exact this
    have rl := refs_len lr
    refine ⟨_, rfl, _, rfl, _, rfl, n, a', b', lp, pp, rs, lr, pa, lts, hs, ds, bs, fin, rfl, N, R, few, hlp, tpl, fewl, hpp, hbs, fewp, wk, fun H1 x g st ls s1 W => ?_⟩
    obtain ⟨dx, hx⟩ := W.ins
    have hlp1 := s1 _ _ hlp
    dsimp only [tRet]
    refine tlc_any (J := Itr 0 (refs lr).length) (H1 := H1) (xs := (List.range (refs lr).length).map fun i : Nat => V.int ((0 : Int) + (i : Int))) (rest := [some (.int t), some (.ref x)]) (fun R h => ⟨_, rfl, lp, _, rfl, .inl (SqL.of hlp1), _, rfl, (by show -(2 ^ 62) ≤ ((refs lr).length : Int); omega), (by show ((refs lr).length : Int) < 2 ^ 62; omega), h⟩) rfl (wk_range 0 _) (small1000 (by rw [List.length_map, List.length_range]; omega))
      (fun i v H5 => SpotAt S H5 v (spotOf (fin.getD i []) ((lts.map fun d : Str × Int × Str => d.2.2).getD i (Str.ofString "")) t)) (fun i v H2 H3 sm h => h.same sm) (fun i v H2 D ys zs hD h => h.upd hD) (fun i v H2 R ev sm k => ?_) (fun D H2 vs nD hD vl hv sD => ?_)
    · rw [List.getElem?_map] at ev
      obtain ⟨j, ej, rfl⟩ := Option.map_eq_some_iff.mp ev
      obtain ⟨hi, e⟩ := List.getElem?_eq_some_iff.mp ej
      rw [List.length_range] at hi
      rw [List.getElem_range] at e
      subst e
      obtain ⟨ss, es⟩ : ∃ ss, fin[i]? = some ss := ⟨_, List.getElem?_eq_getElem (by omega)⟩
      obtain ⟨y, ey⟩ : ∃ y, (lts.map fun d => d.2.2)[i]? = some y := ⟨_, List.getElem?_eq_getElem (by rw [List.length_map]; omega)⟩
      rw [gd_of es, gd_of ey] at k
      refine ⟨_, rfl, x, dx, _, rfl, sm _ _ hx, rfl, _, rfl, _, rfl, x, n, g, st, _, ls, fin, i, ss, y, t, ?_, W.same sm, es, ff ss (List.mem_of_getElem? es), ey, fun v H5 s5 hv => k v H5 s5 hv⟩
      rw [Int.zero_add]
      rfl
    · refine q H2 D vs ?_ (s1.trans sD) hD (by rw [vl, List.length_map, List.length_range, rl, ll]) hv
      cases e : H D with
      | none => rfl
      | some o => rw [s1 _ _ e] at nD; cases nD
end
end K1
set_option Elab.async false
set_option linter.all false
set_option maxRecDepth 100000
set_option maxHeartbeats 4000000
namespace K1
open PySem L2 L3 M1
noncomputable def dueK (hs : List (List Nat)) (ds : List M1.Rd) (g : Str) (t : Int) (f : Spt) (k : Kt) : Spt := if k.1 ≤ t then (if t < k.1 + rTn ds k.2 then .on (some k.2) (k.1 + rTn ds k.2) else if rFin hs ds k.2 = g then .home (k.1 + rTn ds k.2) else .at_ (rFin hs ds k.2) (k.1 + rTn ds k.2)) else f
noncomputable def dueF (hs : List (List Nat)) (ds : List M1.Rd) (d : Str × Int × Str) (t : Int) (ks : List Kt) : Spt := ks.foldl (dueK hs ds d.2.2 t) (.at_ d.1 d.2.1)
noncomputable def dueS (hs : List (List Nat)) (ds : List M1.Rd) (d : Str × Int × Str) (ks : List Kt) (t : Int) : Spt := if t < d.2.1 then .ny else dueF hs ds d t ks
theorem spot_due {hs : List (List Nat)} {ds : List M1.Rd} {d : Str × Int × Str} {ks : List Kt} {t : Int} (h : ∀ k ∈ ks, d.2.1 ≤ k.1) (ne : d.1 ≠ d.2.2) : spotOf (firstS d ++ ks.map (stepK hs ds)) d.2.2 t = dueS hs ds d ks t := by
  unfold spotOf dueS
  by_cases ht : t < d.2.1
  · rw [if_pos ht]
    have : (firstS d ++ ks.map (stepK hs ds)).filter (fun s => decide (s.left ≤ t)) = [] := List.filter_eq_nil_iff.mpr fun s hs' z => by
      have z := of_decide_eq_true z
      rcases List.mem_append.mp hs' with w | w
      · have := List.mem_singleton.mp w
        subst this
        have z : d.2.1 ≤ t := z
        omega
      · obtain ⟨k, hk, rfl⟩ := List.mem_map.mp w
        have := h k hk
        have z : k.1 ≤ t := z
        omega
    rw [this]
    rfl
  · rw [if_neg ht]
    have gen : ∀ n, ∀ ks : List Kt, ks.length = n → ∃ s, ((firstS d ++ ks.map (stepK hs ds)).filter fun s => decide (s.left ≤ t)).getLast? = some s ∧ spotS s d.2.2 t = dueF hs ds d t ks := by
      intro n
      induction n with
      | zero =>
        intro ks hn
        have e := List.length_eq_zero_iff.mp hn
        subst e
        refine ⟨⟨d.2.1, none, d.1, d.2.1⟩, ?_, ?_⟩
        · show ([(⟨d.2.1, none, d.1, d.2.1⟩ : Step)].filter _).getLast? = _
          rw [List.filter_cons, if_pos (decide_eq_true (show d.2.1 ≤ t by omega))]
          rfl
        · show (if t < d.2.1 then _ else if d.1 = d.2.2 then _ else _) = Spt.at_ d.1 d.2.1
          rw [if_neg ht, if_neg ne]
      | succ n ih =>
        intro ks hn
        rcases List.eq_nil_or_concat ks with e | ⟨pre, k, e⟩
        · subst e; cases hn
        · rw [List.concat_eq_append] at e
          subst e
          rw [List.length_append] at hn
          obtain ⟨s, e1, e2⟩ := ih pre (by simpa using hn)
          have fd : dueF hs ds d t (pre ++ [k]) = dueK hs ds d.2.2 t (dueF hs ds d t pre) k := by
            unfold dueF
            rw [List.foldl_append]
            rfl
          rw [fd, List.map_append, ← List.append_assoc, List.filter_append]
          by_cases hk : k.1 ≤ t
          · refine ⟨stepK hs ds k, ?_, ?_⟩
            · have : ([k].map (stepK hs ds)).filter (fun s => decide (s.left ≤ t)) = [stepK hs ds k] := by
                show ([stepK hs ds k].filter _) = _
                rw [List.filter_cons, if_pos (decide_eq_true (show (stepK hs ds k).left ≤ t from hk))]
                rfl
              rw [this, List.getLast?_append, List.getLast?_singleton]
              rfl
            · unfold dueK
              rw [if_pos hk]
              rfl
          · refine ⟨s, ?_, ?_⟩
            · have : ([k].map (stepK hs ds)).filter (fun s => decide (s.left ≤ t)) = [] := by
                show ([stepK hs ds k].filter _) = _
                rw [List.filter_cons, if_neg (fun z => hk (show (stepK hs ds k).left ≤ t from of_decide_eq_true z))]
                rfl
              rw [this, List.append_nil]
              exact e1
            · unfold dueK
              rw [if_neg hk]
              exact e2
    obtain ⟨s, e1, e2⟩ := gen _ ks rfl
    rw [e1]
    exact e2
end K1
set_option Elab.async false
set_option linter.all false
set_option maxRecDepth 100000
set_option maxHeartbeats 4000000
namespace L3
open PySem PySem.Spec PyProof.Rows
section
variable {prog : Program} {w : World} {A : Around} {E : Value → Shared → Prop} {s : Shared}
end
section
variable {prog : Program} {w : World} {A : Around} {E : Value → Shared → Prop} {s : Shared}
end
open L2
section
variable {X : Cx} {elts : List Expr} {k : Nat} {tpos : Pos}
end
end L3
set_option Elab.async false
set_option linter.all false
set_option maxRecDepth 100000
set_option maxHeartbeats 4000000
namespace L3
open PySem L2
end L3
namespace K1
open PySem L2 L3 M1
noncomputable def spV : Spt → List L2.V
  | .ny => [.str lnN]
  | .at_ h t => [.str (Str.ofString "at"), .str h, .int t]
  | .on r t => [.str (Str.ofString "on"), byV r, .int t]
  | .home t => [.str (Str.ofString "home"), .int t]
noncomputable def byD : Option Int → PyData
  | none => .none
  | some i => .int i
noncomputable def spD : Spt → List PyData
  | .ny => [.str lnN]
  | .at_ h t => [.str (Str.ofString "at"), .str h, .int t]
  | .on r t => [.str (Str.ofString "on"), byD r, .int t]
  | .home t => [.str (Str.ofString "home"), .int t]
noncomputable def SpOk : Spt → Prop
  | .ny => True
  | .at_ h t => (h.length ≤ 8 ∧ PyData.canLay0 (.str h) = true) ∧ Sm t
  | .on r t => ∃ i, r = some i ∧ Sm i ∧ Sm t
  | .home t => Sm t
theorem spV_dts {K : PySem.W.Frag} {H : Hp} : ∀ s : Spt, Dts K H (spV s) (spD s)
  | .ny => .cons (.str _) .nil
  | .at_ _ _ => .cons (.str _) (.cons (.str _) (.cons (.int _) .nil))
  | .on (some _) _ => .cons (.str _) (.cons (.int _) (.cons (.int _) .nil))
  | .on none _ => .cons (.str _) (.cons .non (.cons (.int _) .nil))
  | .home _ => .cons (.str _) (.cons (.int _) .nil)
theorem spD_can : ∀ {s : Spt}, SpOk s → (PyData.list (spD s)).canLay0 = true
  | .ny, _ => by decide +kernel
  | .at_ _ _, h => can_all fun d hd => by
    simp only [spD, List.mem_cons, List.not_mem_nil, or_false] at hd
    rcases hd with rfl | rfl | rfl
    · decide +kernel
    · exact h.1.2
    · rfl
  | .on (some _) _, _ => can_all fun d hd => by
    simp only [spD, byD, List.mem_cons, List.not_mem_nil, or_false] at hd
    rcases hd with rfl | rfl | rfl
    · decide +kernel
    · rfl
    · rfl
  | .on none _, h => nomatch h
  | .home _, _ => can_all fun d hd => by
    simp only [spD, List.mem_cons, List.not_mem_nil, or_false] at hd
    rcases hd with rfl | rfl
    · decide +kernel
    · rfl
theorem spD_depth : ∀ s : Spt, (PyData.list (spD s)).depth ≤ 1
  | .ny => Nat.le_refl _
  | .at_ _ _ => Nat.le_refl _
  | .on (some _) _ => Nat.le_refl _
  | .on none _ => Nat.le_refl _
  | .home _ => Nat.le_refl _
theorem spD_shaped {s : Spt} (h : SpOk s) : SeqAt.shaped (.list (spD s)) = true := shaped_of (spD_can h) (spD_depth s) (by decide)
theorem none_ofS {H H' : Hp} {p : Addr} (s : Same H H') (e : H' p = none) : H p = none := by
  cases e2 : H p with
  | none => rfl
  | some o => rw [s _ _ e2] at e; cases e
noncomputable def boolI : L2.V → L2.V
  | .bl b => .int (if b = true then 1 else 0)
  | v => v
theorem bool_in {b0 b1 b2 b3 : Bool} {i : Nat} {y : L2.V} (e : [V.bl b0, V.bl b1, V.bl b2, V.bl b3][i]? = some y) : ∃ b, y = V.bl b := by
  have h := List.mem_of_getElem? e
  simp only [List.mem_cons, List.not_mem_nil, or_false] at h
  rcases h with h | h | h | h <;> exact ⟨_, h⟩
structure Kins (K : PySem.W.Frag) (CS : Addr) (S : SpA) : Prop where
  n : Kin K CS S.ny S.at_ S.on S.home S.ny true false false false
  a : Kin K CS S.ny S.at_ S.on S.home S.at_ false true false false
  r : Kin K CS S.ny S.at_ S.on S.home S.on false false true false
  h : Kin K CS S.ny S.at_ S.on S.home S.home false false false true
section
variable {P : Program} {w : World} {K : PySem.W.Frag} {mg : Str → Option Value} {base : Heap}
noncomputable def spTld (S : SpA) : Sp := fun vs H Q _ => ∃ (v : L2.V) (s : Spt), vs = [v] ∧ SpotAt S H v s ∧ ∀ l H', H l = none → Same H H' → H' l = some (.lst (spV s)) → Q (.ref l) H'
noncomputable abbrev sTold : Stmt := top 43
theorem scTold : FnScope ["_law_spot", "_law_kinds"] ["_law_spot"] (defScope sTold) := ⟨rfl, rfl, rfl, by decide +kernel, rfl, by decide +kernel, by decide +kernel⟩
theorem ok_told {CS f : Addr} {fd : FuncData} {S : SpA} (F : Fun K "_law_told" "_law_told" sTold f fd) (B : Blt mg) (at_Spot : mg "Spot" = some (.ref CS)) (at_NotYet : mg "NotYet" = some (.ref S.ny)) (at_AtHouse : mg "AtHouse" = some (.ref S.at_)) (at_OnRoad : mg "OnRoad" = some (.ref S.on)) (at_AtHome : mg "AtHome" = some (.ref S.home)) (kn : Kins K CS S)
    (clH : Cls K S.at_) (clR : Cls K S.on) (clA : Cls K S.home) (na : PySem.W.findIn K (.ref S.at_) "at" = some none) (nsH : PySem.W.findIn K (.ref S.at_) "since" = some none) (nb : PySem.W.findIn K (.ref S.on) "by" = some none) (nd : PySem.W.findIn K (.ref S.on) "due" = some none) (nsA : PySem.W.findIn K (.ref S.home) "since" = some none) :
    FnOk P w K mg base CX0 1 f fd ["_law_spot"] (spTld S) := by
  refine F.ok scTold (fun vs H Q E h => ?_) (fun cdv A outer s H vs Q E hr h => ?_)
  · obtain ⟨v, s', rfl, _⟩ := h
    rfl
  · obtain ⟨v, s', rfl, hv, q⟩ := h
    refine ⟨_, (pss_cons (ps_set (i := 1) scTold.nd rfl (Or.inl rfl) (pe_lst (pa_cons (pe_callB call_isiO (by rfl) B.isinstance bt_isinstance (pa_cons (pv 0) (pa_cons (pe_cls (by rfl) at_NotYet) pa_nil))) (pa_cons (pe_callB call_isiO (by rfl) B.isinstance bt_isinstance (pa_cons (pv 0) (pa_cons (pe_cls (by rfl) at_AtHouse) pa_nil))) (pa_cons (pe_callB call_isiO (by rfl) B.isinstance bt_isinstance (pa_cons (pv 0) (pa_cons (pe_cls (by rfl) at_OnRoad) pa_nil))) (pa_cons (pe_callB call_isiO (by rfl) B.isinstance bt_isinstance (pa_cons (pv 0) (pa_cons (pe_cls (by rfl) at_AtHome) pa_nil))) pa_nil))))))
      (pss_cons (ps_if (PW.pt (pw_or (pt_not (pt_val (pe_callB call_isiO (by rfl) B.isinstance bt_isinstance (pa_cons (pv 0) (pa_cons (pe_cls (by rfl) at_Spot) pa_nil))))) (pw_or1 (pt_cmpR op_ne (pe_callB (call_sum rfl) (by rfl) B.sum bt_sum (pa_cons (pe_lc (N' := ["_law_kind"]) (cs := [none]) rfl (pi_list (pv 1)) rfl (by decide +kernel) rfl (by decide +kernel) (sub_of (fun p hp => absurd hp (List.not_mem_nil))) rfl
        (.own .nil)
        (fun C s3 H3 fp pn => ⟨(pg_name (i := 0) (by show (["_law_kind"] : List Str).Nodup; decide +kernel) rfl (.inl rfl)), pif_nil, (pe_callTy call_int1 (by rfl) B.int bt_int (pa_cons (pv 0) pa_nil))⟩)) pa_nil)) pe_int (nomark _))))) (pss_one (ps_ret pe_non)) pss_nil)
      (pss_cons (ps_if (pt_val (pe_ix ix_list (pv 1) pe_int (fun _ _ => rfl))) (pss_one (ps_ret (pe_lst (pa_cons pe_str pa_nil)))) pss_nil)
      (pss_cons (ps_if (pt_val (pe_ix ix_list (pv 1) pe_int (fun _ _ => rfl))) (pss_one (ps_ret (pe_lst (pa_cons pe_str (pa_cons (pe_fld (pv 0) (by rfl)) (pa_cons (pe_fld (pv 0) (by rfl)) pa_nil)))))) pss_nil)
      (pss_cons (ps_if (pt_val (pe_ix ix_list (pv 1) pe_int (fun _ _ => rfl))) (pss_one (ps_ret (pe_lst (pa_cons pe_str (pa_cons (pe_fld (pv 0) (by rfl)) (pa_cons (pe_fld (pv 0) (by rfl)) pa_nil)))))) pss_nil)
      (pss_one (ps_ret (pe_lst (pa_cons pe_str (pa_cons (pe_fld (pv 0) (by rfl)) pa_nil)))))))))), ?_⟩
    rcases s' with _ | ⟨h', t'⟩ | ⟨r', t'⟩ | t'
    · obtain ⟨x, dx, rfl, hx⟩ := hv
      have ty := kn.n.isi.ty hx
      refine ⟨_, rfl, _, _, _, _, rfl, ty, kn.n.n, _, rfl, _, _, _, _, rfl, ty, kn.n.a, _, rfl, _, _, _, _, rfl, ty, kn.n.r, _, rfl, _, _, _, _, rfl, ty, kn.n.h, (by show 4 ≤ sizeLine; decide), fun l nl => ?_⟩
      have s1 := upd_free (o := .lst [V.bl true, V.bl false, V.bl false, V.bl false]) nl
      have h1 := upd_same (H := H) (a := l) (o := .lst [V.bl true, V.bl false, V.bl false, V.bl false])
      generalize upd H l (.lst [V.bl true, V.bl false, V.bl false, V.bl false]) = H1 at s1 h1 ⊢
      have ty1 := kn.n.isi.ty (s1 _ _ hx)
      refine ⟨_, rfl, _, _, _, _, rfl, ty1, kn.n.s, _, rfl, iteF ?_⟩
      dsimp only [tTest, tOp, tCB, tCons]
      refine tlc_map (J := Itl K l) (H1 := H1) (xs := [V.bl true, V.bl false, V.bl false, V.bl false]) (rest := []) (fun R h => ⟨_, rfl, l, rfl, ⟨_, SqL.of h1⟩, h⟩) rfl (wk_list (SqL.of h1)) (by decide) boolI (fun i y H2 R ey sm hR => ?_) (fun D H3 nD hD s3 => ?_)
      · obtain ⟨b, rfl⟩ : ∃ b, y = V.bl b := bool_in ey
        exact ⟨_, rfl, .inr ⟨b, rfl, hR _ (Same.refl _)⟩⟩
      have h3 := s3 _ _ h1
      have hx3 := s3 _ _ (s1 _ _ hx)
      refine ⟨D, [1, 0, 0, 0], rfl, SqL.of hD, (by decide), (by decide), rfl, _, rfl, iteN (by decide) ?_⟩
      refine ⟨_, rfl, l, _, _, _, rfl, rfl, SqL.of h3, rfl, _, rfl, iteB rfl ?_⟩
      exact ⟨(by show 1 ≤ sizeLine; decide), fun l4 nl4 => q l4 _ (none_ofS (s1.trans s3) nl4) ((s1.trans s3).trans (upd_free nl4)) upd_same⟩
    · obtain ⟨x, dx, rfl, hx⟩ := hv
      have ty := kn.a.isi.ty hx
      refine ⟨_, rfl, _, _, _, _, rfl, ty, kn.a.n, _, rfl, _, _, _, _, rfl, ty, kn.a.a, _, rfl, _, _, _, _, rfl, ty, kn.a.r, _, rfl, _, _, _, _, rfl, ty, kn.a.h, (by show 4 ≤ sizeLine; decide), fun l nl => ?_⟩
      have s1 := upd_free (o := .lst [V.bl false, V.bl true, V.bl false, V.bl false]) nl
      have h1 := upd_same (H := H) (a := l) (o := .lst [V.bl false, V.bl true, V.bl false, V.bl false])
      generalize upd H l (.lst [V.bl false, V.bl true, V.bl false, V.bl false]) = H1 at s1 h1 ⊢
      have ty1 := kn.a.isi.ty (s1 _ _ hx)
      refine ⟨_, rfl, _, _, _, _, rfl, ty1, kn.a.s, _, rfl, iteF ?_⟩
      dsimp only [tTest, tOp, tCB, tCons]
      refine tlc_map (J := Itl K l) (H1 := H1) (xs := [V.bl false, V.bl true, V.bl false, V.bl false]) (rest := []) (fun R h => ⟨_, rfl, l, rfl, ⟨_, SqL.of h1⟩, h⟩) rfl (wk_list (SqL.of h1)) (by decide) boolI (fun i y H2 R ey sm hR => ?_) (fun D H3 nD hD s3 => ?_)
      · obtain ⟨b, rfl⟩ : ∃ b, y = V.bl b := bool_in ey
        exact ⟨_, rfl, .inr ⟨b, rfl, hR _ (Same.refl _)⟩⟩
      have h3 := s3 _ _ h1
      have hx3 := s3 _ _ (s1 _ _ hx)
      refine ⟨D, [0, 1, 0, 0], rfl, SqL.of hD, (by decide), (by decide), rfl, _, rfl, iteN (by decide) ?_⟩
      refine ⟨_, rfl, l, _, _, _, rfl, rfl, SqL.of h3, rfl, _, rfl, iteN rfl ?_⟩
      refine ⟨_, rfl, l, _, _, _, rfl, rfl, SqL.of h3, rfl, _, rfl, iteB rfl ?_⟩
      exact ⟨_, rfl, x, S.at_, dx, _, _, rfl, hx3, clH, na, rfl, _, rfl, x, S.at_, dx, _, _, rfl, hx3, clH, nsH, rfl, (by show 3 ≤ sizeLine; decide), fun l4 nl4 => q l4 _ (none_ofS (s1.trans s3) nl4) ((s1.trans s3).trans (upd_free nl4)) upd_same⟩
    · obtain ⟨x, dx, rfl, hx⟩ := hv
      have ty := kn.r.isi.ty hx
      refine ⟨_, rfl, _, _, _, _, rfl, ty, kn.r.n, _, rfl, _, _, _, _, rfl, ty, kn.r.a, _, rfl, _, _, _, _, rfl, ty, kn.r.r, _, rfl, _, _, _, _, rfl, ty, kn.r.h, (by show 4 ≤ sizeLine; decide), fun l nl => ?_⟩
      have s1 := upd_free (o := .lst [V.bl false, V.bl false, V.bl true, V.bl false]) nl
      have h1 := upd_same (H := H) (a := l) (o := .lst [V.bl false, V.bl false, V.bl true, V.bl false])
      generalize upd H l (.lst [V.bl false, V.bl false, V.bl true, V.bl false]) = H1 at s1 h1 ⊢
      have ty1 := kn.r.isi.ty (s1 _ _ hx)
      refine ⟨_, rfl, _, _, _, _, rfl, ty1, kn.r.s, _, rfl, iteF ?_⟩
      dsimp only [tTest, tOp, tCB, tCons]
      refine tlc_map (J := Itl K l) (H1 := H1) (xs := [V.bl false, V.bl false, V.bl true, V.bl false]) (rest := []) (fun R h => ⟨_, rfl, l, rfl, ⟨_, SqL.of h1⟩, h⟩) rfl (wk_list (SqL.of h1)) (by decide) boolI (fun i y H2 R ey sm hR => ?_) (fun D H3 nD hD s3 => ?_)
      · obtain ⟨b, rfl⟩ : ∃ b, y = V.bl b := bool_in ey
        exact ⟨_, rfl, .inr ⟨b, rfl, hR _ (Same.refl _)⟩⟩
      have h3 := s3 _ _ h1
      have hx3 := s3 _ _ (s1 _ _ hx)
      refine ⟨D, [0, 0, 1, 0], rfl, SqL.of hD, (by decide), (by decide), rfl, _, rfl, iteN (by decide) ?_⟩
      refine ⟨_, rfl, l, _, _, _, rfl, rfl, SqL.of h3, rfl, _, rfl, iteN rfl ?_⟩
      refine ⟨_, rfl, l, _, _, _, rfl, rfl, SqL.of h3, rfl, _, rfl, iteN rfl ?_⟩
      refine ⟨_, rfl, l, _, _, _, rfl, rfl, SqL.of h3, rfl, _, rfl, iteB rfl ?_⟩
      exact ⟨_, rfl, x, S.on, dx, _, _, rfl, hx3, clR, nb, rfl, _, rfl, x, S.on, dx, _, _, rfl, hx3, clR, nd, rfl, (by show 3 ≤ sizeLine; decide), fun l4 nl4 => q l4 _ (none_ofS (s1.trans s3) nl4) ((s1.trans s3).trans (upd_free nl4)) upd_same⟩
    · obtain ⟨x, dx, rfl, hx⟩ := hv
      have ty := kn.h.isi.ty hx
      refine ⟨_, rfl, _, _, _, _, rfl, ty, kn.h.n, _, rfl, _, _, _, _, rfl, ty, kn.h.a, _, rfl, _, _, _, _, rfl, ty, kn.h.r, _, rfl, _, _, _, _, rfl, ty, kn.h.h, (by show 4 ≤ sizeLine; decide), fun l nl => ?_⟩
      have s1 := upd_free (o := .lst [V.bl false, V.bl false, V.bl false, V.bl true]) nl
      have h1 := upd_same (H := H) (a := l) (o := .lst [V.bl false, V.bl false, V.bl false, V.bl true])
      generalize upd H l (.lst [V.bl false, V.bl false, V.bl false, V.bl true]) = H1 at s1 h1 ⊢
      have ty1 := kn.h.isi.ty (s1 _ _ hx)
      refine ⟨_, rfl, _, _, _, _, rfl, ty1, kn.h.s, _, rfl, iteF ?_⟩
      dsimp only [tTest, tOp, tCB, tCons]
      refine tlc_map (J := Itl K l) (H1 := H1) (xs := [V.bl false, V.bl false, V.bl false, V.bl true]) (rest := []) (fun R h => ⟨_, rfl, l, rfl, ⟨_, SqL.of h1⟩, h⟩) rfl (wk_list (SqL.of h1)) (by decide) boolI (fun i y H2 R ey sm hR => ?_) (fun D H3 nD hD s3 => ?_)
      · obtain ⟨b, rfl⟩ : ∃ b, y = V.bl b := bool_in ey
        exact ⟨_, rfl, .inr ⟨b, rfl, hR _ (Same.refl _)⟩⟩
      have h3 := s3 _ _ h1
      have hx3 := s3 _ _ (s1 _ _ hx)
      refine ⟨D, [0, 0, 0, 1], rfl, SqL.of hD, (by decide), (by decide), rfl, _, rfl, iteN (by decide) ?_⟩
      refine ⟨_, rfl, l, _, _, _, rfl, rfl, SqL.of h3, rfl, _, rfl, iteN rfl ?_⟩
      refine ⟨_, rfl, l, _, _, _, rfl, rfl, SqL.of h3, rfl, _, rfl, iteN rfl ?_⟩
      refine ⟨_, rfl, l, _, _, _, rfl, rfl, SqL.of h3, rfl, _, rfl, iteN rfl ?_⟩
      exact ⟨_, rfl, x, S.home, dx, _, _, rfl, hx3, clA, nsA, rfl, (by show 2 ≤ sizeLine; decide), fun l4 nl4 => q l4 _ (none_ofS (s1.trans s3) nl4) ((s1.trans s3).trans (upd_free nl4)) upd_same⟩
end
end K1
set_option Elab.async false
set_option linter.all false
set_option maxRecDepth 100000
set_option maxHeartbeats 4000000
namespace K1
open PySem L2 L3 M1
noncomputable def legS (hs : List (List Nat)) (ds : List M1.Rd) (g : Str) (t : Int) (k : Kt) : Spt := if t < k.1 + rTn ds k.2 then .on (some k.2) (k.1 + rTn ds k.2) else if rFin hs ds k.2 = g then .home (k.1 + rTn ds k.2) else .at_ (rFin hs ds k.2) (k.1 + rTn ds k.2)
noncomputable def lastS (hs : List (List Nat)) (ds : List M1.Rd) (d : Str × Int × Str) (t : Int) (o : Option Kt) : Spt := match o with
  | none => .at_ d.1 d.2.1
  | some k => legS hs ds d.2.2 t k
noncomputable abbrev gone (t : Int) (ks : List Kt) : List Kt := ks.filter fun k => decide (k.1 ≤ t)
theorem dueF_last (hs : List (List Nat)) (ds : List M1.Rd) (d : Str × Int × Str) (t : Int) : ∀ n, ∀ ks : List Kt, ks.length = n → dueF hs ds d t ks = lastS hs ds d t (gone t ks).getLast? := by
  intro n
  induction n with
  | zero =>
    intro ks hn
    have e := List.length_eq_zero_iff.mp hn
    subst e
    rfl
  | succ n ih =>
    intro ks hn
    rcases List.eq_nil_or_concat ks with e | ⟨pre, k, e⟩
    · subst e; cases hn
    · rw [List.concat_eq_append] at e
      subst e
      rw [List.length_append] at hn
      have h := ih pre (by simpa using hn)
      have fd : dueF hs ds d t (pre ++ [k]) = dueK hs ds d.2.2 t (dueF hs ds d t pre) k := by
        unfold dueF
        rw [List.foldl_append]
        rfl
      rw [fd]
      unfold gone
      rw [List.filter_append]
      unfold dueK
      by_cases hk : k.1 ≤ t
      · have : ([k].filter fun k => decide (k.1 ≤ t)) = [k] := by rw [List.filter_cons, if_pos (decide_eq_true hk)]; rfl
        rw [if_pos hk, this, List.getLast?_append, List.getLast?_singleton]
        rfl
      · have : ([k].filter fun k => decide (k.1 ≤ t)) = [] := by rw [List.filter_cons, if_neg (fun z => hk (of_decide_eq_true z))]; rfl
        rw [if_neg hk, this, List.append_nil]
        exact h
theorem dueS_last {hs : List (List Nat)} {ds : List M1.Rd} {d : Str × Int × Str} {t : Int} {ks : List Kt} (h : d.2.1 ≤ t) : dueS hs ds d ks t = lastS hs ds d t (gone t ks).getLast? := by
  unfold dueS
  rw [if_neg (by omega)]
  exact dueF_last hs ds d t _ ks rfl
noncomputable def aheadS (hs : List (List Nat)) (ds : List M1.Rd) (d : Str × Int × Str) (t : Int) : Spt → Spt
  | .ny => if d.2.1 ≤ t then .at_ d.1 d.2.1 else .ny
  | .on r u => if u ≤ t then (if rFin hs ds (r.getD 0).toNat = d.2.2 then .home u else .at_ (rFin hs ds (r.getD 0).toNat) u) else .on r u
  | s => s
theorem gone_mem {t : Int} {ks : List Kt} {k : Kt} (h : (gone t ks).getLast? = some k) : k ∈ ks ∧ k.1 ≤ t := by
  have h := List.mem_of_getLast? h
  have := List.mem_filter.mp h
  exact ⟨this.1, of_decide_eq_true this.2⟩
theorem go_sent {hs : List (List Nat)} {ds : List M1.Rd} {d : Str × Int × Str} {ks : List Kt} (ht : ∀ r, r < ds.length → 1 ≤ rTn ds r) (c : ChainOk hs ds d.1 d.2.1 d.2.2 ks) {t : Int} {r : Nat} (h : (t + 1, r) ∈ ks) :
    dueS hs ds d ks (t + 1) = .on (some r) (t + 1 + rTn ds r) ∧ ∃ u, aheadS hs ds d (t + 1) (dueS hs ds d ks t) = .at_ (rBeg hs ds r) u := by
  obtain ⟨u1, u2, u3, u4⟩ := chain_up ht _ rfl c
  obtain ⟨a, b, e⟩ := List.append_of_mem h
  subst e
  obtain ⟨c1, c2, c3, c4⟩ := c a.length (t + 1, r) (by simp)
  rw [List.take_append_of_le_length (Nat.le_refl _), List.take_length] at c2 c3 c4
  have hr := ht r c1
  rw [List.pairwise_append] at u1
  obtain ⟨p1, p2, p3⟩ := u1
  have p4 := (List.pairwise_cons.mp p2).1
  have d1 : d.2.1 ≤ t + 1 := u2 (t + 1, r) (List.mem_append.mpr (.inr (.head _)))
  have ga : ∀ x, t ≤ x → gone x a = a := fun x hx => List.filter_eq_self.mpr fun k hk => decide_eq_true (by have : k.1 < t + 1 := p3 k hk (t + 1, r) (.head _); omega)
  have gb : ∀ x, x ≤ t + 1 → gone x b = [] := fun x hx => List.filter_eq_nil_iff.mpr fun k hk z => by
    have z := of_decide_eq_true z
    have : t + 1 < k.1 := p4 k hk
    omega
  have g1 : gone (t + 1) (a ++ (t + 1, r) :: b) = a ++ [(t + 1, r)] := by
    unfold gone at ga gb ⊢
    rw [List.filter_append, ga (t + 1) (by omega), List.filter_cons, if_pos (decide_eq_true (Int.le_refl _)), gb (t + 1) (Int.le_refl _)]
  have g0 : gone t (a ++ (t + 1, r) :: b) = a := by
    unfold gone at ga gb ⊢
    rw [List.filter_append, ga t (Int.le_refl _), List.filter_cons, if_neg (fun z => by have z : t + 1 ≤ t := of_decide_eq_true z; omega), gb t (by omega), List.append_nil]
  refine ⟨?_, ?_⟩
  · rw [dueS_last d1, g1, List.getLast?_append, List.getLast?_singleton]
    show legS hs ds d.2.2 (t + 1) (t + 1, r) = _
    unfold legS
    rw [if_pos (by show t + 1 < t + 1 + rTn ds r; omega)]
  · by_cases hd : t < d.2.1
    · have ea : a = [] := by
        cases a with
        | nil => rfl
        | cons k a' =>
          have h1 : k.1 < t + 1 := p3 k (.head _) (t + 1, r) (.head _)
          have h2 := u2 k (.head _)
          omega
      subst ea
      unfold dueS
      rw [if_pos hd]
      show ∃ u, (if d.2.1 ≤ t + 1 then Spt.at_ d.1 d.2.1 else .ny) = _
      rw [if_pos d1]
      exact ⟨_, by rw [show rBeg hs ds r = d.1 from c2]⟩
    · rw [dueS_last (by omega), g0]
      rcases List.eq_nil_or_concat a with z | ⟨a', k', z⟩
      · subst z
        exact ⟨d.2.1, by rw [show rBeg hs ds r = d.1 from c2]; rfl⟩
      · rw [List.concat_eq_append] at z
        subst z
        rw [endS_snoc] at c2 c3
        rw [endT_snoc] at c4
        rw [List.getLast?_append, List.getLast?_singleton]
        show ∃ u, aheadS hs ds d (t + 1) (legS hs ds d.2.2 t k') = _
        have c2 : rBeg hs ds r = rFin hs ds k'.2 := c2
        have c4 : k'.1 + rTn ds k'.2 ≤ t + 1 := c4
        unfold legS
        by_cases h1 : t < k'.1 + rTn ds k'.2
        · rw [if_pos h1]
          show ∃ u, (if k'.1 + rTn ds k'.2 ≤ t + 1 then (if rFin hs ds k'.2 = d.2.2 then Spt.home _ else .at_ (rFin hs ds k'.2) _) else _) = _
          rw [if_pos c4, if_neg c3, c2]
          exact ⟨_, rfl⟩
        · rw [if_neg h1, if_neg c3, c2]
          exact ⟨_, rfl⟩
theorem go_stay {hs : List (List Nat)} {ds : List M1.Rd} {d : Str × Int × Str} {ks : List Kt} (ht : ∀ r, r < ds.length → 1 ≤ rTn ds r) (c : ChainOk hs ds d.1 d.2.1 d.2.2 ks) {t : Int} (h : ∀ k ∈ ks, k.1 ≠ t + 1) : dueS hs ds d ks (t + 1) = aheadS hs ds d (t + 1) (dueS hs ds d ks t) := by
  obtain ⟨u1, u2, u3, u4⟩ := chain_up ht _ rfl c
  have g1 : gone (t + 1) ks = gone t ks := List.filter_congr fun k hk => decide_eq_decide.mpr ⟨fun z => by have := h k hk; omega, fun z => by omega⟩
  by_cases h1 : t + 1 < d.2.1
  · unfold dueS
    rw [if_pos h1, if_pos (by omega)]
    show _ = (if d.2.1 ≤ t + 1 then Spt.at_ d.1 d.2.1 else .ny)
    rw [if_neg (by omega)]
  · rw [dueS_last (show d.2.1 ≤ t + 1 by omega), g1]
    by_cases h2 : t < d.2.1
    · have g0 : gone t ks = [] := List.filter_eq_nil_iff.mpr fun k hk z => by
        have z := of_decide_eq_true z
        have := u2 k hk
        omega
      rw [g0]
      unfold dueS
      rw [if_pos h2]
      show Spt.at_ d.1 d.2.1 = (if d.2.1 ≤ t + 1 then Spt.at_ d.1 d.2.1 else .ny)
      rw [if_pos (by omega)]
    · rw [dueS_last (show d.2.1 ≤ t by omega)]
      cases (gone t ks).getLast? with
      | none => rfl
      | some k =>
        show legS hs ds d.2.2 (t + 1) k = aheadS hs ds d (t + 1) (legS hs ds d.2.2 t k)
        unfold legS
        by_cases a1 : t < k.1 + rTn ds k.2
        · rw [if_pos a1]
          show _ = (if k.1 + rTn ds k.2 ≤ t + 1 then (if rFin hs ds k.2 = d.2.2 then Spt.home _ else .at_ (rFin hs ds k.2) _) else .on (some (k.2 : Int)) _)
          by_cases a2 : k.1 + rTn ds k.2 ≤ t + 1
          · rw [if_pos a2, if_neg (by omega)]
          · rw [if_neg a2, if_pos (by omega)]
        · rw [if_neg a1, if_neg (by omega)]
          by_cases a3 : rFin hs ds k.2 = d.2.2
          · rw [if_pos a3]
            rfl
          · rw [if_neg a3]
            rfl
theorem on_key {hs : List (List Nat)} {ds : List M1.Rd} {d : Str × Int × Str} {ks : List Kt} {t : Int} {r : Option Int} {u : Int} (h : dueS hs ds d ks t = .on r u) : ∃ k ∈ ks, r = some (k.2 : Int) ∧ u = k.1 + rTn ds k.2 := by
  by_cases hd : t < d.2.1
  · unfold dueS at h
    rw [if_pos hd] at h
    cases h
  · rw [dueS_last (by omega)] at h
    cases e : (gone t ks).getLast? with
    | none => rw [e] at h; cases h
    | some k =>
      rw [e] at h
      have h : legS hs ds d.2.2 t k = .on r u := h
      unfold legS at h
      split at h
      · cases h
        exact ⟨k, (gone_mem e).1, rfl, rfl⟩
      · split at h <;> cases h
theorem home_iff {hs : List (List Nat)} {ds : List M1.Rd} {d : Str × Int × Str} {ks : List Kt} (ht : ∀ r, r < ds.length → 1 ≤ rTn ds r) (c : ChainOk hs ds d.1 d.2.1 d.2.2 ks) (ne : d.1 ≠ d.2.2) {t u : Int} :
    dueS hs ds d ks t = .home u ↔ (endS hs ds d.1 ks = d.2.2 ∧ endT ds d.2.1 ks ≤ t ∧ u = endT ds d.2.1 ks) := by
  obtain ⟨u1, u2, u3, u4⟩ := chain_up ht _ rfl c
  constructor
  · intro h
    by_cases hd : t < d.2.1
    · unfold dueS at h
      rw [if_pos hd] at h
      cases h
    · rw [dueS_last (by omega)] at h
      cases e : (gone t ks).getLast? with
      | none => rw [e] at h; cases h
      | some k =>
        rw [e] at h
        have h : legS hs ds d.2.2 t k = .home u := h
        unfold legS at h
        split at h
        · cases h
        · rename_i h1
          split at h
          · rename_i h2
            cases h
            obtain ⟨a, b, e2⟩ := List.append_of_mem (gone_mem e).1
            have eb : b = [] := by
              cases b with
              | nil => rfl
              | cons k2 b' =>
                subst e2
                have := (c (a.length + 1) k2 (by simp)).2.2.1
                have tk : (a ++ k :: k2 :: b').take (a.length + 1) = a ++ [k] := by
                  rw [List.take_append, List.take_of_length_le (by omega), show a.length + 1 - a.length = 1 by omega]
                  rfl
                rw [tk, endS_snoc] at this
                exact absurd h2 this
            subst eb
            subst e2
            rw [endS_snoc, endT_snoc]
            exact ⟨h2, by omega, rfl⟩
          · cases h
  · rintro ⟨h1, h2, rfl⟩
    rcases List.eq_nil_or_concat ks with z | ⟨a, k, z⟩
    · subst z
      exact absurd h1 ne
    · rw [List.concat_eq_append] at z
      subst z
      rw [endS_snoc] at h1
      rw [endT_snoc] at h2 ⊢
      have kd := u2 k (List.mem_append.mpr (.inr (.head _)))
      have kr := ht k.2 (c a.length k (by simp)).1
      rw [dueS_last (by omega)]
      have : gone t (a ++ [k]) = gone t a ++ [k] := by
        unfold gone
        rw [List.filter_append]
        congr 1
        rw [List.filter_cons, if_pos (decide_eq_true (by omega))]
        rfl
      rw [this, List.getLast?_append, List.getLast?_singleton]
      show legS hs ds d.2.2 t k = _
      unfold legS
      rw [if_neg (by omega), if_pos h1]
noncomputable def spotsL (hs : List (List Nat)) (ds : List M1.Rd) (lts : List (Str × Int × Str)) (legs : List (List Kt)) (t : Int) : List Spt := List.zipWith (fun d ks => dueS hs ds d ks t) lts legs
noncomputable def isOn (r : Int) : Spt → Bool
  | .on (some i) _ => decide (i = r)
  | _ => false
noncomputable def dueOf : Spt → Int
  | .on _ u => u
  | _ => 0
theorem fits_len {hs : List (List Nat)} {ds : List M1.Rd} {t : Int} {r : Nat} {u : Int} : ∀ {lts : List (Str × Int × Str)} {legs : List (List Kt)}, (((spotsL hs ds lts legs t).filter (isOn r)).map dueOf).count u ≤ legs.flatten.count (u - rTn ds r, r)
  | [], _ => by simp [spotsL]
  | _ :: _, [] => by simp [spotsL]
  | d :: lts, ks :: legs => by
    have ih := fits_len (hs := hs) (ds := ds) (t := t) (r := r) (u := u) (lts := lts) (legs := legs)
    show (((dueS hs ds d ks t :: spotsL hs ds lts legs t).filter (isOn r)).map dueOf).count u ≤ (ks ++ legs.flatten).count (u - rTn ds r, r)
    rw [List.count_append, List.filter_cons]
    by_cases h : isOn r (dueS hs ds d ks t) = true
    · rw [if_pos h, List.map_cons, List.count_cons]
      by_cases h2 : dueOf (dueS hs ds d ks t) = u
      · rw [if_pos (by simpa using h2)]
        have : 0 < ks.count (u - rTn ds r, r) := by
          rw [List.count_pos_iff]
          cases e : dueS hs ds d ks t with
          | on r' u' =>
            rw [e] at h h2
            obtain ⟨k, hk, e1, e2⟩ := on_key e
            subst e1
            have e3 : (k.2 : Int) = (r : Int) := of_decide_eq_true h
            have e4 : k.2 = r := by omega
            have h2 : u' = u := h2
            subst h2
            subst e4
            subst e2
            have : k = (k.1 + rTn ds k.2 - rTn ds k.2, k.2) := by
              rw [Int.add_sub_cancel]
            rw [← this]
            exact hk
          | ny => rw [e] at h; cases h
          | at_ _ _ => rw [e] at h; cases h
          | home _ => rw [e] at h; cases h
        omega
      · rw [if_neg (by simpa using h2)]
        omega
    · rw [if_neg h]
      omega
end K1
set_option Elab.async false
set_option linter.all false
set_option maxRecDepth 100000
set_option maxHeartbeats 4000000
namespace L3
open PySem PySem.Spec PyProof.Rows L2
structure Z2 (n l1 l2 : Nat) (i : Nat) (f0 : Value) (h : Heap) : Prop where
  hz : IsZip h (n + 4) (n + 2) (n + 3) f0
  hTI : IsPair h (n + 2) (.ref n) (.ref (n + 1))
  hTO : ∃ a b, IsPair h (n + 3) a b
  h1 : h.IsListIter n l1 i
  h2 : h.IsListIter (n + 1) l2 i
noncomputable abbrev z2F (n : Nat) : List Addr := [n + 4, n + 2, n + 3, n, n + 1]
theorem z2_mem {n b : Nat} : b ∈ z2F n ↔ b = n + 4 ∨ b = n + 2 ∨ b = n + 3 ∨ b = n ∨ b = n + 1 := by simp [z2F]
theorem Z2.keep {n l1 l2 : Nat} {i : Nat} {f0 : Value} {h h' : Heap} (z : Z2 n l1 l2 i f0 h) (k : ∀ b ∈ z2F n, ∀ o, h.get? b = some o → h'.get? b = some o) : Z2 n l1 l2 i f0 h' := by
  obtain ⟨hz, hTI, ⟨a, b, hTO⟩, h1, h2⟩ := z
  exact ⟨k _ (by simp) _ hz, k _ (by simp) _ hTI, ⟨a, b, k _ (by simp) _ hTO⟩, h1.at fun o e => k _ (by simp) o e, h2.at fun o e => k _ (by simp) o e⟩
theorem bt_zip2 : bootBuiltins "zip" = some (.type "zip") := by decide +kernel
noncomputable def It2 (K : PySem.W.Frag) (a b : Nat) : It :=
  ⟨fun i H => ∃ xs ys x y, SqL K H a xs ∧ SqL K H b ys ∧ xs[i]? = some x ∧ ys[i]? = some y,
   fun i H u H' => ∃ p x y, H p = none ∧ u = .ref p ∧ (∀ xs, SqL K H a xs → xs[i]? = some x) ∧ (∀ ys, SqL K H b ys → ys[i]? = some y) ∧ H' = upd H p (.tup [x, y]),
   fun i H => ∃ xs ys, SqL K H a xs ∧ SqL K H b ys ∧ xs.length ≤ i⟩
theorem turn_zip2 {P : Program} {w : World} {K : PySem.W.Frag} {elts : List Expr} {k : Nat} {pos : Pos} (n a b : Nat) (a1 : a < n) (a2 : b < n) :
    Turn P w K (.Tuple elts k pos) (It2 K a b) (z2F n) (n + 4) (fun i h => Z2 n a b i .none h) where
  mem := by simp
  obj := fun i h st d hd => by
    obtain ⟨hz, hTI, ⟨ta, tb, hTO⟩, ⟨o1, e1, c1, d1⟩, ⟨o2, e2, c2, d2⟩⟩ := st
    rcases z2_mem.mp hd with rfl | rfl | rfl | rfl | rfl
    · exact ⟨_, hz, fun v z => by
        have z' : Data.fields _ = Data.cell v := z
        cases z'⟩
    · exact ⟨_, hTI, fun v z => by
        have z' : Data.seq _ = Data.cell v := z
        cases z'⟩
    · exact ⟨_, hTO, fun v z => by
        have z' : Data.seq _ = Data.cell v := z
        cases z'⟩
    · exact ⟨o1, e1, fun v z => by rw [d1] at z; cases z⟩
    · exact ⟨o2, e2, fun v z => by rw [d2] at z; cases z⟩
  keep := fun i h h' st kk => st.keep kk
  item := by
    intro X hP hw hK hc i pins s σ H E I hf st hg
    subst hP hw hK
    obtain ⟨xs, ys, x, y, hq1, hq2, hx, hy⟩ := hg
    obtain ⟨its1, rv1, p1, _⟩ := I.list hq1
    obtain ⟨its2, rv2, p2, _⟩ := I.list hq2
    obtain ⟨u1, hu1, ru1⟩ := rv1.get hx
    obtain ⟨u2, hu2, ru2⟩ := rv2.get hy
    obtain ⟨hz, hTI, ⟨ta, tb, hTO⟩, g1, g2⟩ := id st
    refine wpAny_pyNext_zip_item (zipApart_new a1 a2) hz hTI hTO g1 g2 p1.isList p2.isList (x := u1) (y := u2) (by simpa using hu1) (by simpa using hu2) fun h1 b1 b2 b3 b4 hT hsz hk => ⟨_, rfl, ?_⟩
    refine wpAny_letOwnedTupleGo_zip (s := { s with heap := h1 }) b1 fun h2 hz2 hs2 => ?_
    have hs2 : Heap.SameBut (n + 4) h1 h2 := hs2
    have hn : H s.heap.objs.size = none := I.fresh
    have old2 : ∀ d o, d ∉ z2F n → s.heap.get? d = some o → h2.get? d = some o := fun d o hd q => by
      have hd := fun z => hd (z2_mem.mpr z)
      exact (hs2.2 d (fun z => hd (.inl z))).trans (hk d o (fun z => hd (.inl z)) (fun z => hd (.inr (.inr (.inl z)))) (fun z => hd (.inr (.inr (.inr (.inl z))))) (fun z => hd (.inr (.inr (.inr (.inr z))))) q)
    have zlt : n + 4 < s.heap.objs.size := Heap.lt_size hz
    have hT2 : h2.get? s.heap.objs.size = some { cls := .type "tuple", data := .seq #[u1, u2] } := (hs2.2 _ (Nat.ne_of_gt zlt)).trans hT
    have st2 : Z2 n a b (i + 1) .none h2 := ⟨hz2, (hs2.2 _ (by show @Ne Nat _ _; omega)).trans (hk _ _ (by show @Ne Nat _ _; omega) (by show @Ne Nat _ _; omega) (by show @Ne Nat _ _; omega) (by show @Ne Nat _ _; omega) hTI), ⟨_, _, (hs2.2 _ (by show @Ne Nat _ _; omega)).trans b2⟩, b3.at fun o q => (hs2.2 _ (by show @Ne Nat _ _; omega)).trans q, b4.at fun o q => (hs2.2 _ (by show @Ne Nat _ _; omega)).trans q⟩
    have nch : ∀ d q, H d = some q → d ∉ z2F n := fun d q hd z => by
      have := (hf d z).1
      rw [this] at hd
      cases hd
    refine ⟨.ref s.heap.objs.size, upd H s.heap.objs.size (.tup [x, y]), ?_, rfl, ⟨s.heap.objs.size, x, y, hn, rfl, (fun ys hy => by rw [I.list_inj hy hq1]; exact hx), (fun ys' hy' => by rw [I.list_inj hy' hq2]; exact hy), rfl⟩, st2, fun d hd => ?_⟩
    · show Inv X pins σ (upd H s.heap.objs.size (.tup [x, y])) { s with heap := h2, gens := s.gens, drawn := s.drawn, toks := s.toks }
      refine I.step (g' := s.gens) (d' := s.drawn) (t' := s.toks) (h' := h2) (ch := z2F n) (fun d hd => ?_) (fun d o _ _ hc q _ => old2 d o hc q) (fun d o _ _ hc q _ => ⟨o.slots, old2 d o hc q⟩) (fun d o hc q nn => ?_)
        (fun d o hc q => ⟨o, old2 d o hc q⟩) (fun d ys q => ?_) (fun d o v q => ?_) (fun d ps q => ⟨#[], ?_⟩) (fun m hm => ?_) (fun d v q => ?_) I.bare
      · obtain ⟨f0, f1, f2, f3, f4, f5⟩ := hf d hd
        exact ⟨f3, f1, f4, f5⟩
      · rw [upd_ne (Nat.ne_of_lt (Heap.lt_size q))]
        exact nn
      · rw [upd_ne (ne_of_none q hn)]
        exact q
      · rw [upd_ne (ne_of_none q hn)]
        exact q
      · rw [upd_ne (ne_of_none q hn), q]
        simp
      · obtain ⟨o, es, ep, ho', r⟩ := hm
        exact ⟨o, es, ep, old2 _ o (fun z => (hf _ z).2.1 rfl) ho', r⟩
      · by_cases hb : d = s.heap.objs.size
        · subst hb
          rw [upd_same] at q
          cases q
          exact ⟨(by show 2 ≤ sizeLine; decide), [u1, u2], .cons ru1 (.cons ru2 .nil), _, hT2, rfl, _, rfl⟩
        · rw [upd_ne hb] at q
          refine (I.hok d v q).stay (fun c y hc z => old2 c y ?_ z) (fun c z => by rw [upd_ne (ne_of_none z hn)]; exact z) fun c ys z => by rw [upd_ne (ne_of_none z hn)]; exact z
          rcases hc with rfl | hc
          · exact nch _ _ q
          · exact nch _ _ hc
    · have dl : d ≠ s.heap.objs.size := fun z => by
        have dlt : d < s.heap.objs.size := by
          rcases z2_mem.mp hd with rfl | rfl | rfl | rfl | rfl
          · exact zlt
          · exact Heap.lt_size hTI
          · exact Heap.lt_size hTO
          · obtain ⟨_, q, _⟩ := g1
            exact Heap.lt_size q
          · obtain ⟨_, q, _⟩ := g2
            exact Heap.lt_size q
        exact absurd z (Nat.ne_of_lt dlt)
      rw [upd_ne dl]
      exact (hf d hd).1
  done := by
    intro X hP hw hK hc i pins s σ H E I hf st hg
    subst hP hw hK
    obtain ⟨xs, ys, hq, hq2, hx⟩ := hg
    obtain ⟨its, rv, p, hz⟩ := I.list hq
    obtain ⟨its2, rv2, p2, _⟩ := I.list hq2
    have hl := rv.length
    obtain ⟨hz', hTI, ⟨ta, tb, hTO⟩, g1, g2⟩ := id st
    refine wpAny_pyNext_zip_end (I.ok.hd hc) (zipApart_new a1 a2) hz' hTI hTO g1 g2 p.isList p2.isList (.inl (by simp; omega)) fun h' eb0 => ⟨rfl, ?_⟩
    have eb : ∀ c o, c ∉ z2F n → s.heap.get? c = some o → h'.get? c = some o := fun c o hc e => by
      have hc := fun z => hc (z2_mem.mpr z)
      exact eb0 c o (fun z => hc (.inl z)) (fun z => hc (.inr (.inr (.inl z)))) (fun z => hc (.inr (.inr (.inr (.inl z))))) (fun z => hc (.inr (.inr (.inr (.inr z))))) e
    show Inv X pins σ H { s with heap := h', gens := s.gens, drawn := s.drawn, toks := s.toks }
    refine I.step (g' := s.gens) (d' := s.drawn) (t' := s.toks) (h' := h') (ch := z2F n) (fun d hd => ?_) (fun d o _ _ hc q _ => eb d o hc q) (fun d o _ _ hc q _ => ⟨o.slots, eb d o hc q⟩) (fun d o hc q nn => nn)
        (fun d o hc q => ⟨o, eb d o hc q⟩) (fun d ys q => q) (fun d o v q => q) (fun d ps q => ⟨#[], ?_⟩) (fun m hm => ?_) (fun d v q => ?_) I.bare
    · obtain ⟨f0, f1, f2, f3, f4, f5⟩ := hf d hd
      exact ⟨f3, f1, f4, f5⟩
    · rw [q]
      simp
    · obtain ⟨o, es, ep, ho', r⟩ := hm
      exact ⟨o, es, ep, eb _ o (fun z => (hf _ z).2.1 rfl) ho', r⟩
    · refine (I.hok d v q).stay (fun c y hc z => eb c y (fun w => ?_) z) (fun c z => z) fun c ys z => z
      have := (hf c w).1
      rcases hc with rfl | hc
      · rw [this] at q; cases q
      · rw [this] at hc; cases hc
  self := fun _ _ _ _ _ st h => wpAny_pyIter_zip st.hz h
section
variable {X : Cx} {elts : List Expr} {k : Nat} {tpos : Pos}
noncomputable def iZip2 (K : PySem.W.Frag) (ta : TA) : TI := fun σ H R => ta σ H fun vs H1 => ∃ a b, vs = [.ref a, .ref b] ∧ (∃ xs, SqL K H1 a xs) ∧ (∃ xs, SqL K H1 b xs) ∧ R (It2 K a b) H1
theorem pi_zip2 {e1 e2 : Expr} {ta : TA} {p pos : Pos} (hg : Gl X "zip") (hm : X.mg "zip" = none) (ha : PA X [e1, e2] ta) (he : starEach [e1, e2] X.env = (false, eval e1 X.env) :: starEach [e2] X.env := by rfl) (hpl : (backTo pos (starEach [e2] X.env)).any (·.1) = false := by rfl) :
    PI X (.Tuple elts k tpos) (.Call (.Name "zip" p) [e1, e2] [] pos) (iZip2 X.K ta) := by
  intro pins s σ H R I h
  refine Call_ (ld_blt I hg hm bt_zip2 (PyProof.Rows.callWith_type1 (thn (ha pos pins s σ H _ I h) fun us s1 ⟨vs, H1, I1, r1, q1⟩ => ?_) he hpl))
  obtain ⟨a, b, e, ⟨xs, hq1⟩, ⟨ys, hq2⟩, q⟩ := q1
  subst e
  cases r1 with
  | cons r rr =>
    cases rr with
    | cons r' rr =>
      cases rr
      cases r
      cases r'
      obtain ⟨its1, rv1, p1, hz1⟩ := I1.list hq1
      obtain ⟨its2, rv2, p2, hz2⟩ := I1.list hq2
      have a1 : a < s1.heap.objs.size := by obtain ⟨_, e, _⟩ := p1.isList; exact Heap.lt_size e
      have a2 : b < s1.heap.objs.size := by obtain ⟨_, e, _⟩ := p2.isList; exact Heap.lt_size e
      refine call_zip_2 p1.isList p2.isList fun h' b1 b2 b3 b4 b5 hsz kk => ?_
      refine wpAny_pyIter_zip b1 ?_
      refine ⟨s1.heap.objs.size + 4, z2F s1.heap.objs.size, _, _, H1, rfl, I1.kept (t' := s1.toks) fun b o e => kk b o e, turn_zip2 _ a b a1 a2, ⟨b1, b2, ⟨_, _, b3⟩, b4, b5⟩, fun d hd => ?_, q⟩
      have le : s1.heap.objs.size ≤ d := by
        rcases z2_mem.mp hd with rfl | rfl | rfl | rfl | rfl <;> first | exact Nat.le_refl _ | exact Nat.le_add_right _ _
      exact I1.fpOk le (I1.hok.fresh le)
theorem ints_are : ∀ {ns : List Int} {us : List Value}, Vals (ns.map V.int) us → IntsAre us ns
  | [], _, .nil => .nil
  | _ :: ns, _, .cons ⟨_, e⟩ t => by subst e; exact .cons _ _ (ints_are t)
noncomputable def rCount (K : PySem.W.Frag) : V → List V → Hp → VK → Prop := fun x vs H Q => ∃ (l : Addr) (ns : List Int) (k : Int), x = .ref l ∧ vs = [.int k] ∧ SqL K H l (ns.map V.int) ∧ Q (.int (ns.count k : Nat)) H
theorem mt_count : MtR X "list.count" (rCount X.K) := by
  intro pins s σ H x vs v us Q I rx rv h
  obtain ⟨l, ns, k, rfl, rfl, hl, q⟩ := h
  cases rx
  obtain ⟨u, rfl, t, rfl⟩ := rv.one
  obtain ⟨its, r, p, _⟩ := I.list hl
  exact count_list_ints p.isList (ints_are r) ⟨.int (ns.count k : Nat), H, I.tok _, ⟨_, rfl⟩, q⟩
end
theorem for_zip2 {K : PySem.W.Frag} {a b : Nat} {xs ys : List V} {g : TG} {tb : TS} {D : Ends} {σ : L2.St} {H : Hp} (l2 : ys.length = xs.length) (Pv : Nat → L2.St → Hp → Prop) (h0 : Pv 0 σ H) (hl : ∀ i σ H, Pv i σ H → SqL K H a xs ∧ SqL K H b ys)
    (hs : ∀ i x y σ H p, xs[i]? = some x → ys[i]? = some y → Pv i σ H → H p = none → g (.ref p) σ (upd H p (.tup [x, y])) fun σ2 H2 => tb { D with nx := Pv (i + 1), ct := Pv (i + 1), bk := D.nx } σ2 H2) (hd : ∀ σ H, Pv xs.length σ H → D.nx σ H) :
    ∃ W : Nat → Nat → L2.St → Hp → Prop, (∃ m, W 0 m σ H) ∧ ∀ i m σ H, W i m σ H →
      ((It2 K a b).stop i H ∧ D.nx σ H) ∨ ((It2 K a b).go i H ∧ ∃ N : L2.St → Hp → Prop, (∀ σ' H', N σ' H' → ∃ m', m' < m ∧ W (i + 1) m' σ' H') ∧ ∀ x H', (It2 K a b).yld i H x H' → g x σ H' fun σ2 H2 => tb { D with nx := N, ct := N, bk := D.nx } σ2 H2) := by
  refine ⟨fun i m σ H => m = xs.length - i ∧ i ≤ xs.length ∧ Pv i σ H, ⟨xs.length, by simp, Nat.zero_le _, h0⟩, ?_⟩
  rintro i m σ H ⟨rfl, hi, p⟩
  obtain ⟨q1, q2⟩ := hl i σ H p
  by_cases hlt : i < xs.length
  · refine .inr ⟨⟨xs, ys, xs[i], ys[i], q1, q2, by simp [hlt], List.getElem?_eq_getElem (by omega)⟩, Pv (i + 1), fun σ' H' p' => ⟨xs.length - (i + 1), by omega, rfl, hlt, p'⟩, fun u H' y => ?_⟩
    obtain ⟨r, x, y, hr, rfl, hx, hy, rfl⟩ := y
    exact hs i x y σ H r (hx xs q1) (hy ys q2) p hr
  · have e : i = xs.length := by omega
    subst e
    exact .inl ⟨⟨xs, ys, q1, q2, Nat.le_refl _⟩, hd σ H p⟩
end L3
set_option Elab.async false
set_option linter.all false
set_option maxRecDepth 100000
set_option maxHeartbeats 4000000
namespace K1
open PySem L2 L3 M1
theorem tlc_anyD {wi : TI} {cs : List (Option Nat)} {te : TE} {σ rest : L2.St} {H H1 : Hp} {Q : VK} {J : It} {xs : List L2.V} (hw : ∀ R : It → Hp → Prop, R J H1 → wi σ H R) (hcs : caps cs σ = none :: rest) (wk : Wk J H1 xs) (hl : xs.length < sizeLine) (F : Addr → Nat → L2.V → Hp → Prop)
    (st : ∀ D i v H2 H3, Same H2 H3 → F D i v H2 → F D i v H3) (sl : ∀ D i v H2 ys zs, H2 D = some (.lst ys) → F D i v H2 → F D i v (upd H2 D (.lst zs)))
    (elt : ∀ (D : Addr) (ys : List L2.V) (i : Nat) (x : L2.V) (H2 : Hp) (R : VK), H2 D = some (.lst ys) → xs[i]? = some x → Same H1 H2 → (∀ v H5, Same H2 H5 → F D i v H5 → R v H5) → te (some x :: rest) H2 R)
    (fin : ∀ (D : Addr) (H' : Hp) (vs : List L2.V), H1 D = none → H' D = some (.lst vs) → vs.length = xs.length → (∀ i v, vs[i]? = some v → F D i v H') → Same H1 H' → Q (.ref D) H') : tLC wi cs (gName 0) tAll te σ H Q := by
  refine hw _ fun D hD => ?_
  refine ⟨fun i m ys σ' H' => m = xs.length - i ∧ i ≤ xs.length ∧ (ys.length = i ∧ ∀ j v, ys[j]? = some v → F D j v H') ∧ (∃ o, σ' = o :: rest) ∧ Same H1 H' ∧ H' D = some (.lst ys), ⟨xs.length, by simp, Nat.zero_le _, ⟨rfl, fun j v e => by simp at e⟩, ⟨none, by rw [hcs]⟩, fun b o e => ?_, upd_same⟩, ?_⟩
  · rw [upd_ne (ne_of_none e hD)]
    exact e
  · rintro i m ys σ' H' ⟨rfl, hi, ⟨yl, hy⟩, ⟨o, rfl⟩, sm, hHD⟩
    obtain ⟨w1, w2, w3⟩ := wk H' sm
    refine ⟨hHD, Nat.lt_of_le_of_lt (by omega) hl, ?_⟩
    by_cases hlt : i < xs.length
    · refine .inr ⟨w2 i hlt, fun x H2 y => ?_⟩
      obtain ⟨rfl, ex⟩ := w3 i x H2 hlt y
      show te (some x :: rest) H2 _
      refine elt D ys i x H2 _ hHD ex sm fun v H5 s5 hv => ⟨s5 _ _ hHD, xs.length - (i + 1), by omega, rfl, hlt, ⟨by rw [List.length_append, yl]; rfl, fun j u e => ?_⟩, ⟨_, rfl⟩, fun b ob e => ?_, upd_same⟩
      · refine sl D j u H5 ys _ (s5 _ _ hHD) ?_
        by_cases hj : j < ys.length
        · rw [List.getElem?_append_left hj] at e
          exact st D j u _ _ s5 (hy j u e)
        · rw [List.getElem?_append_right (by omega)] at e
          have ej : j = i := by
            by_cases hz : j - ys.length = 0
            · omega
            · rw [List.getElem?_eq_none (by simp; omega)] at e
              cases e
          subst ej
          rw [yl, Nat.sub_self] at e
          cases e
          exact hv
      · rw [upd_ne (ne_of_none e hD)]
        exact s5 _ _ (sm _ _ e)
    · have e : i = xs.length := by omega
      subst e
      exact .inl ⟨w1, fin D H' ys hD hHD yl hy sm⟩
noncomputable def SpAt (H : Hp) (l : Addr) (s : Spt) : Prop := H l = some (.lst (spV s))
noncomputable def SpL (H : Hp) (D : Addr) (ss : List Spt) : Prop := ∃ ls, H D = some (.lst (refs ls)) ∧ Paired (SpAt H) ls ss
theorem SpL.same {H H' : Hp} {D : Addr} {ss : List Spt} (h : SpL H D ss) (sm : Same H H') : SpL H' D ss := let ⟨ls, a, b⟩ := h; ⟨ls, sm _ _ a, Paired.mapP b fun _ _ e => sm _ _ e⟩
theorem SpL.get {H : Hp} {D : Addr} {ss : List Spt} (h : SpL H D ss) {i : Nat} {s : Spt} (e : ss[i]? = some s) : ∃ ls l, H D = some (.lst (refs ls)) ∧ ls[i]? = some l ∧ H l = some (.lst (spV s)) := by
  obtain ⟨ls, a, b⟩ := h
  have hl := Paired.length b
  have hi := (List.getElem?_eq_some_iff.mp e).1
  have el : ls[i]? = some (ls[i]'(by omega)) := List.getElem?_eq_getElem (by omega)
  obtain ⟨s', e', q⟩ := Paired.get b el
  rw [e] at e'
  cases e'
  exact ⟨ls, _, a, el, q⟩
theorem spotsL_len {hs : List (List Nat)} {ds : List M1.Rd} {lts : List (Str × Int × Str)} {legs : List (List Kt)} {t : Int} (h : legs.length = lts.length) : (spotsL hs ds lts legs t).length = lts.length := by
  unfold spotsL
  rw [List.length_zipWith]
  omega
theorem spotsL_get {hs : List (List Nat)} {ds : List M1.Rd} {lts : List (Str × Int × Str)} {legs : List (List Kt)} {t : Int} {i : Nat} {d : Str × Int × Str} {ks : List Kt} (e1 : lts[i]? = some d) (e2 : legs[i]? = some ks) : (spotsL hs ds lts legs t)[i]? = some (dueS hs ds d ks t) := by
  unfold spotsL
  rw [List.getElem?_zipWith, e1, e2]
noncomputable def onRd (n : Nat) : Spt → Prop
  | .on r _ => ∃ i : Nat, r = some (i : Int) ∧ i < n
  | _ => True
section
variable {P : Program} {w : World} {K : PySem.W.Frag} {mg : Str → Option Value} {base : Heap}
noncomputable def spAhd : Sp := fun vs H Q _ => ∃ (b lt l : Addr) (rs : List Addr) (hs : List (List Nat)) (ds : List M1.Rd) (d : Str × Int × Str) (s : Spt) (t : Int), vs = [.ref b, .ref lt, .ref l, .int t] ∧ H b = some (.lst (refs rs)) ∧ RoadsAt H hs rs ds ∧ H lt = some (.tup (ltT d)) ∧ H l = some (.lst (spV s)) ∧ SpOk s ∧ onRd ds.length s ∧
  ∀ l' H', Same H H' → H' l' = some (.lst (spV (aheadS hs ds d t s))) → Q (.ref l') H'
noncomputable abbrev sAhd : Stmt := top 44
theorem scAhd : FnScope ["_law_lines", "_law_letter_here", "_law_spot", "_law_turn"] ["_law_lines", "_law_letter_here", "_law_spot", "_law_turn"] (defScope sAhd) := ⟨rfl, rfl, rfl, by decide +kernel, rfl, by decide +kernel, by decide +kernel⟩
theorem ok_ahd {f : Addr} {fd : FuncData} (F : Fun K "_law_ahead" "_law_ahead" sAhd f fd) (B : Blt mg) : FnOk P w K mg base CX0 1 f fd ["_law_lines", "_law_letter_here", "_law_spot", "_law_turn"] spAhd := by
  refine F.ok scAhd (fun vs H Q E h => ?_) (fun cdv A outer s H vs Q E hr h => ?_)
  · obtain ⟨b, lt, l, rs, hs, ds, d, s', t, rfl, _⟩ := h
    rfl
  · obtain ⟨b, lt, l, rs, hs, ds, d, s', t, rfl, hb, R, hlt, hl, ok, rd, q⟩ := h
    refine ⟨_, (pss_cons (ps_if (PW.pt (pw_and (pt_cmpR (op_eqD hr.units) (pv 2) (pe_lst (pa_cons pe_str pa_nil)) (nomark _)) (pw_and1 (pt_cmpR op_le (pe_ix ix_tup (pv 1) pe_int (fun _ _ => rfl)) (pv 3) (nomark _))))) (pss_one (ps_ret (pe_lst (pa_cons pe_str (pa_cons (pe_ix ix_tup (pv 1) pe_int (fun _ _ => rfl)) (pa_cons (pe_ix ix_tup (pv 1) pe_int (fun _ _ => rfl)) pa_nil)))))) pss_nil)
      (pss_cons (ps_if (PW.pt (pw_and (pt_cmpR op_eq (pe_ix ix_list (pv 2) pe_int (fun _ _ => rfl)) pe_str (nomark _)) (pw_and1 (pt_cmpR op_le (pe_ix ix_list (pv 2) pe_int (fun _ _ => rfl)) (pv 3) (nomark _))))) (pss_cons (ps_if (pt_cmpR op_eq (pe_ix ix_tup (pe_ix ix_list (pv 0) (pe_ix ix_list (pv 2) pe_int (fun _ _ => rfl)) (fun _ _ => rfl)) pe_int (fun _ _ => rfl)) (pe_ix ix_tup (pv 1) pe_int (fun _ _ => rfl)) (nomark _)) (pss_one (ps_ret (pe_lst (pa_cons pe_str (pa_cons (pe_ix ix_list (pv 2) pe_int (fun _ _ => rfl)) pa_nil))))) pss_nil)
      (pss_one (ps_ret (pe_lst (pa_cons pe_str (pa_cons (pe_ix ix_tup (pe_ix ix_list (pv 0) (pe_ix ix_list (pv 2) pe_int (fun _ _ => rfl)) (fun _ _ => rfl)) pe_int (fun _ _ => rfl)) (pa_cons (pe_ix ix_list (pv 2) pe_int (fun _ _ => rfl)) pa_nil))))))) pss_nil)
      (pss_one (ps_ret (pv 2))))), ?_⟩
    refine ⟨_, rfl, (by show 1 ≤ sizeLine; decide), fun p np => ?_⟩
    have s1 := upd_free (o := .lst [V.str (Str.ofString "not yet")]) np
    have h1 := upd_same (H := H) (a := p) (o := .lst [V.str (Str.ofString "not yet")])
    generalize upd H p (.lst [V.str (Str.ofString "not yet")]) = H1 at s1 h1 ⊢
    have hl1 := SqL.of (K := K) (s1 _ _ hl)
    have tl := SqT.of (K := K) (s1 _ _ hlt)
    refine ⟨.list (spD s'), .list (spD .ny), .lst hl1 (spV_dts s'), .lst (SqL.of h1) (spV_dts .ny), spD_shaped ok, spD_shaped (s := .ny) trivial, _, rfl, ?_⟩
    rcases s' with _ | ⟨h', t'⟩ | ⟨r', t'⟩ | t'
    · have e := eqv_self (.list (spD .ny)) (spD_can (s := .ny) trivial)
      rw [e]
      refine iteB rfl ⟨_, rfl, lt, _, _, _, rfl, rfl, tl, rfl, _, rfl, _, _, rfl, rfl, _, rfl, ?_⟩
      show (if decide (d.2.1 ≤ t) = true then _ else _)
      by_cases hd : d.2.1 ≤ t
      · refine iteB (decide_eq_true hd) ⟨_, rfl, lt, _, _, _, rfl, rfl, tl, rfl, _, rfl, lt, _, _, _, rfl, rfl, tl, rfl, (by show 3 ≤ sizeLine; decide), fun l2 nl2 => q l2 _ (s1.trans (upd_free nl2)) ?_⟩
        show _ = some (HO.lst (spV (if d.2.1 ≤ t then Spt.at_ d.1 d.2.1 else .ny)))
        rw [if_pos hd]
        exact upd_same
      · refine iteN (decide_eq_false hd) ⟨_, rfl, l, _, _, _, rfl, rfl, hl1, rfl, rfl, _, rfl, iteN (by decide +kernel) (iteN rfl ⟨_, rfl, q l H1 s1 ?_⟩)⟩
        show _ = some (HO.lst (spV (if d.2.1 ≤ t then Spt.at_ d.1 d.2.1 else .ny)))
        rw [if_neg hd]
        exact s1 _ _ hl
    · have e : PyData.eqv (.list (spD (.at_ h' t'))) (.list (spD .ny)) = false := by simp [PyData.eqv, PyData.eqvAll, spD]
      rw [e]
      refine iteN rfl (iteN rfl ⟨_, rfl, l, _, _, _, rfl, rfl, hl1, rfl, rfl, _, rfl, iteN (by decide +kernel) (iteN rfl ⟨_, rfl, q l H1 s1 (s1 _ _ hl)⟩)⟩)
    · have e : PyData.eqv (.list (spD (.on r' t'))) (.list (spD .ny)) = false := by simp [PyData.eqv, PyData.eqvAll, spD]
      rw [e]
      obtain ⟨i, rfl, hi⟩ := rd
      have rl := R.len
      obtain ⟨r0, er0⟩ : ∃ r0, rs[i]? = some r0 := ⟨_, List.getElem?_eq_getElem (by omega)⟩
      obtain ⟨d0, ed0, ok0, hd0⟩ := R.get er0
      have e0 : ds.getD i rd0 = d0 := gd_of ed0
      have eV : rdV hs d0 = [.str (rBeg hs ds i), .str (rFin hs ds i), .int (rTn ds i), .int (rRm ds i)] := by
        unfold rdV rBeg rFin rTn rRm
        rw [e0]
      rw [eV] at hd0
      have hd1 := SqT.of (K := K) (s1 _ _ hd0)
      have hb1 := SqL.of (K := K) (s1 _ _ hb)
      have ar0 : L2.atI (refs rs) (i : Int) = some (.ref r0) := atI_nat (by unfold refs; rw [List.getElem?_map, er0]; rfl)
      change ∀ l' H', Same H H' → H' l' = some (.lst (spV (if t' ≤ t then (if rFin hs ds i = d.2.2 then .home t' else .at_ (rFin hs ds i) t') else .on (some (i : Int)) t'))) → Q (.ref l') H' at q
      refine iteN rfl (iteN rfl ⟨_, rfl, l, _, _, _, rfl, rfl, hl1, rfl, rfl, _, rfl, iteB (by decide +kernel) ⟨_, rfl, l, _, _, _, rfl, rfl, hl1, rfl, _, rfl, _, _, rfl, rfl, _, rfl, ?_⟩⟩)
      show (if decide (t' ≤ t) = true then _ else _)
      by_cases ht : t' ≤ t
      · rw [if_pos ht] at q
        refine iteB (decide_eq_true ht) ⟨_, rfl, _, rfl, l, _, _, _, rfl, rfl, hl1, rfl, b, _, _, _, rfl, rfl, hb1, ar0, r0, _, _, _, rfl, rfl, hd1, rfl, _, rfl, lt, _, _, _, rfl, rfl, tl, rfl, rfl, _, rfl, ?_⟩
        by_cases hg : rFin hs ds i = d.2.2
        · rw [if_pos hg] at q
          refine iteB (decide_eq_true (congrArg V.str hg)) ⟨_, rfl, l, _, _, _, rfl, rfl, hl1, rfl, (by show 2 ≤ sizeLine; decide), fun l2 nl2 => q l2 _ (s1.trans (upd_free nl2)) upd_same⟩
        · rw [if_neg hg] at q
          refine iteN (decide_eq_false fun z => hg (V.str.inj z)) ⟨_, rfl, _, rfl, l, _, _, _, rfl, rfl, hl1, rfl, b, _, _, _, rfl, rfl, hb1, ar0, r0, _, _, _, rfl, rfl, hd1, rfl, _, rfl, l, _, _, _, rfl, rfl, hl1, rfl, (by show 3 ≤ sizeLine; decide), fun l2 nl2 => q l2 _ (s1.trans (upd_free nl2)) upd_same⟩
      · rw [if_neg ht] at q
        exact iteN (decide_eq_false ht) ⟨_, rfl, q l H1 s1 (s1 _ _ hl)⟩
    · have e : PyData.eqv (.list (spD (.home t'))) (.list (spD .ny)) = false := by simp [PyData.eqv, PyData.eqvAll, spD]
      rw [e]
      refine iteN rfl (iteN rfl ⟨_, rfl, l, _, _, _, rfl, rfl, hl1, rfl, rfl, _, rfl, iteN (by decide +kernel) (iteN rfl ⟨_, rfl, q l H1 s1 (s1 _ _ hl)⟩)⟩)
noncomputable def sentE (bs : List (Kt × List Nat)) (t : Int) : List (Nat × Nat) := bs.flatMap fun b => if b.1.1 = t then b.2.map fun n => (n, b.1.2) else []
theorem mem_sentE {bs : List (Kt × List Nat)} {t : Int} {n r : Nat} : (n, r) ∈ sentE bs t ↔ ∃ b ∈ bs, b.1 = (t, r) ∧ n ∈ b.2 := by
  unfold sentE
  rw [List.mem_flatMap]
  constructor
  · rintro ⟨b, hb, h⟩
    by_cases e : b.1.1 = t
    · rw [if_pos e] at h
      obtain ⟨m, hm, e2⟩ := List.mem_map.mp h
      cases e2
      exact ⟨b, hb, Prod.ext e rfl, hm⟩
    · rw [if_neg e] at h
      exact absurd h List.not_mem_nil
  · rintro ⟨b, hb, e, hn⟩
    refine ⟨b, hb, ?_⟩
    rw [if_pos (by rw [e]), e]
    exact List.mem_map.mpr ⟨n, hn, rfl⟩
structure EvOk (es : List (Nat × Nat)) (kvs : List (Key × L2.V)) : Prop where
  so : ∀ (n : Nat) v, valV kvs (.inl (n : Int)) = some v → ∃ r : Nat, (n, r) ∈ es ∧ v = .int r
  all : ∀ e ∈ es, (valV kvs (.inl (e.1 : Int))).isSome = true
theorem EvOk.put {es : List (Nat × Nat)} {kvs : List (Key × L2.V)} (h : EvOk es kvs) (n r : Nat) : EvOk (es ++ [(n, r)]) (putK kvs (.inl (n : Int)) (.int r)) := by
  refine ⟨fun m v e => ?_, fun e he => ?_⟩
  · rw [valV_put] at e
    by_cases z : (Sum.inl (m : Int) : Key) = .inl (n : Int)
    · rw [if_pos z] at e
      cases e
      have : m = n := Int.ofNat.inj (Sum.inl.inj z)
      subst this
      exact ⟨r, List.mem_append.mpr (.inr (.head _)), rfl⟩
    · rw [if_neg z] at e
      obtain ⟨r', h1, h2⟩ := h.so m v e
      exact ⟨r', List.mem_append.mpr (.inl h1), h2⟩
  · rw [valV_put]
    split
    · rfl
    · rename_i z
      rcases List.mem_append.mp he with w | w
      · exact h.all e w
      · rw [List.mem_singleton.mp w] at z
        exact absurd rfl z
noncomputable def spSent : Sp := fun vs H Q _ => ∃ (pp : Addr) (pa : List Addr) (bs : List (Kt × List Nat)) (t : Int), vs = [.ref pp, .int t] ∧ H pp = some (.lst (refs pa)) ∧ Paired (BagAt H) pa bs ∧ pa.length ≤ 99 ∧ (∀ b ∈ bs, b.2.length ≤ 100) ∧
  ∀ D H' kvs, H D = none → Same H H' → H' D = some (.dK kvs) → EvOk (sentE bs t) kvs → Q (.ref D) H'
noncomputable abbrev sSent : Stmt := top 45
theorem scSent : FnScope ["_law_plan_here", "_law_turn", "_law_found", "_law_bag", "_law_number"] ["_law_plan_here", "_law_turn"] (defScope sSent) := ⟨rfl, rfl, rfl, by decide +kernel, rfl, by decide +kernel, by decide +kernel⟩
theorem ok_sent {f : Addr} {fd : FuncData} (F : Fun K "_law_sent" "_law_sent" sSent f fd) (B : Blt mg) : FnOk P w K mg base CX0 1 f fd ["_law_plan_here", "_law_turn"] spSent := by
  refine F.ok scSent (fun vs H Q E h => ?_) (fun cdv A outer s H vs Q E hr h => ?_)
  · obtain ⟨pp, pa, bs, t, rfl, _⟩ := h
    rfl
  · obtain ⟨pp, pa, bs, t, rfl, hpp, hbs, few, few2, q⟩ := h
    refine ⟨_, (pss_cons (ps_set (i := 2) scSent.nd rfl (Or.inl rfl) pe_dnewK)
      (pss_cons (ps_for PassesOwn.never rfl (pi_list (pv 0)) (pg_name (i := 3) scSent.nd rfl (Or.inl rfl))
        (pss_one (ps_if (pt_cmpR op_eq (pe_ix ix_tup (pv 3) pe_int (fun _ _ => rfl)) (pv 1) (nomark _)) (pss_one (ps_for PassesOwn.never rfl (pi_tup (pe_ix ix_tup (pv 3) pe_int (fun _ _ => rfl))) (pg_name (i := 4) scSent.nd rfl (Or.inl rfl))
        (pss_one (ps_dput (hu_of hr) (pv 2) (pv 4) (pe_ix ix_tup (pv 3) pe_int (fun _ _ => rfl)) rfl)))) pss_nil)))
      (pss_one (ps_ret (pv 2))))), ?_⟩
    have pal := Paired.length hbs
    intro p2 n2
    have s2 := upd_free (o := .dK []) n2
    have h2 := upd_same (H := H) (a := p2) (o := .dK [])
    generalize upd H p2 (.dK []) = H2 at s2 h2 ⊢
    refine ⟨_, rfl, pp, rfl, ⟨_, SqL.of (s2 _ _ hpp)⟩, ?_⟩
    refine for_list (K := K) (a := pp) (xs := refs pa) (fun j σ Hc => ∃ (kvs : List (Key × L2.V)) (v3 v4 : Option L2.V), σ = [some (.ref pp), some (.int t), some (.ref p2), v3, v4] ∧ Same H Hc ∧ Hc p2 = some (.dK kvs) ∧ EvOk (sentE (bs.take j) t) kvs ∧ kvs.length ≤ 100 * j)
      ⟨[], none, none, rfl, s2, h2, ⟨(fun n v e => by rw [valV_nil] at e; cases e), fun e he => absurd he List.not_mem_nil⟩, Nat.le_refl _⟩ (fun j σ Hc _ ⟨_, _, _, _, h, _⟩ => SqL.of (h _ _ hpp)) ?_ ?_
    · rintro j z σ Hc ez ⟨kvs, v3, v4, rfl, sc, hd, ev, kl⟩
      unfold refs at ez
      rw [List.getElem?_map] at ez
      obtain ⟨bg, ebg, rfl⟩ := Option.map_eq_some_iff.mp ez
      obtain ⟨b, eb, c, hb1, hb2⟩ := Paired.get hbs ebg
      have jl := (List.getElem?_eq_some_iff.mp ebg).1
      have fb := few2 b (List.mem_of_getElem? eb)
      have tk : sentE (bs.take (j + 1)) t = sentE (bs.take j) t ++ (if b.1.1 = t then b.2.map fun n => (n, b.1.2) else []) := by
        rw [List.take_add_one, eb]
        unfold sentE
        rw [List.flatMap_append]
        congr 1
        show List.flatMap _ [b] = _
        rw [List.flatMap_cons, List.flatMap_nil, List.append_nil]
      have t1 := SqT.of (K := K) (sc _ _ hb1)
      refine ⟨_, rfl, bg, _, _, _, rfl, rfl, t1, rfl, _, rfl, rfl, _, rfl, ?_⟩
      by_cases ht : b.1.1 = t
      · rw [if_pos ht] at tk
        refine iteB (decide_eq_true (congrArg V.int ht)) ⟨_, rfl, bg, _, _, _, rfl, rfl, t1, rfl, c, rfl, ⟨_, SqT.of (sc _ _ hb2)⟩, ?_⟩
        refine for_tup (K := K) (a := c) (xs := b.2.map fun n : Nat => V.int n) (fun i σ Hd => ∃ (kvs : List (Key × L2.V)) (v4 : Option L2.V), σ = [some (.ref pp), some (.int t), some (.ref p2), some (.ref bg), v4] ∧ Same H Hd ∧ Hd p2 = some (.dK kvs) ∧ EvOk (sentE (bs.take j) t ++ (b.2.take i).map fun n => (n, b.1.2)) kvs ∧ kvs.length ≤ 100 * j + i)
          ⟨kvs, v4, rfl, sc, hd, by rw [List.take_zero, List.map_nil, List.append_nil]; exact ev, kl⟩ (fun i σ Hd _ ⟨_, _, _, h, _⟩ => SqT.of (h _ _ hb2)) ?_ ?_
        · rintro i z σ Hd ez ⟨kvs, v4, rfl, sd, hd, ev, kl⟩
          rw [List.getElem?_map] at ez
          obtain ⟨n, en, rfl⟩ := Option.map_eq_some_iff.mp ez
          have il := (List.getElem?_eq_some_iff.mp en).1
          have tk2 : b.2.take (i + 1) = b.2.take i ++ [n] := by rw [List.take_add_one, en]; rfl
          refine ⟨_, rfl, bg, _, _, _, rfl, rfl, SqT.of (sd _ _ hb1), rfl, _, rfl, _, rfl, p2, _, rfl, DPut.k (k := .inl (n : Int)) hd (Nat.lt_of_le_of_lt (Nat.le_trans kl (by omega : 100 * j + i ≤ 10000)) (by show 10000 < sizeLine; decide)), ?_⟩
          refine ⟨_, _, rfl, upd_other n2 sd, upd_same, ?_, ?_⟩
          · rw [tk2, List.map_append, ← List.append_assoc]
            exact ev.put n b.1.2
          · have := length_putK kvs (.inl (n : Int)) (V.int b.1.2)
            omega
        · rintro σ Hd ⟨kvs, v4, rfl, sd, hd, ev, kl⟩
          rw [List.length_map, List.take_length] at ev
          rw [List.length_map] at kl
          exact ⟨kvs, _, _, rfl, sd, hd, by rw [tk]; exact ev, by omega⟩
      · rw [if_neg ht, List.append_nil] at tk
        refine iteN (decide_eq_false fun z => ht (V.int.inj z)) ?_
        exact ⟨kvs, _, _, rfl, sc, hd, by rw [tk]; exact ev, by omega⟩
    · rintro σ Hc ⟨kvs, v3, v4, rfl, sc, hd, ev, kl⟩
      rw [refs_len, pal, List.take_length] at ev
      exact ⟨_, rfl, q p2 Hc kvs n2 sc hd ev⟩
end
end K1
set_option Elab.async false
set_option linter.all false
set_option maxRecDepth 100000
set_option maxHeartbeats 4000000
namespace K1
open PySem L2 L3 M1
noncomputable def LtOkB (d : Str × Int × Str) : Prop := (d.1.length ≤ 8 ∧ PyData.canLay0 (.str d.1) = true) ∧ d.1 ≠ d.2.2 ∧ 0 ≤ d.2.1 ∧ d.2.1 ≤ 2000000000
theorem road_up {H : Hp} {rs : List Addr} {hs : List (List Nat)} {ds : List M1.Rd} (R : RoadsAt H hs rs ds) : ∀ r, r < ds.length → 1 ≤ rTn ds r := fun r hr => by
  unfold rTn
  rw [List.getD, List.getElem?_eq_getElem hr]
  exact (R.ok _ (List.getElem_mem hr)).t.1
theorem stt_at {hs : List (List Nat)} {ds : List M1.Rd} {lts : List (Str × Int × Str)} {legs : List (List Kt)} {i : Nat} {d : Str × Int × Str} {ks : List Kt} (e1 : lts[i]? = some d) (e2 : legs[i]? = some ks) : (stt hs ds lts legs fun _ => true)[i]? = some (firstS d ++ ks.map (stepK hs ds)) := by
  rw [stt_get, e1]
  show some (firstS d ++ ((legs.getD i []).filter fun _ => true).map (stepK hs ds)) = _
  rw [List.getD, e2]
  show some (firstS d ++ (ks.filter fun _ => true).map (stepK hs ds)) = _
  rw [List.filter_eq_self.mpr fun _ _ => rfl]
theorem stt_few {hs : List (List Nat)} {ds : List M1.Rd} {lts : List (Str × Int × Str)} {legs : List (List Kt)} (L : LegsOk hs ds lts legs) : ∀ ss ∈ (stt hs ds lts legs fun _ => true), ss.length ≤ 100 ∧ ss ≠ [] := fun ss hss => by
  have fl := stt_len hs ds lts legs fun _ => true
  have lel := L.len
  obtain ⟨i, hi, rfl⟩ := List.getElem_of_mem hss
  rw [fl] at hi
  have e1 : lts[i]? = some lts[i] := List.getElem?_eq_getElem hi
  have e2 : legs[i]? = some legs[i] := List.getElem?_eq_getElem (by omega)
  have e3 := stt_at (hs := hs) (ds := ds) e1 e2
  rw [List.getElem?_eq_getElem (by rw [fl]; exact hi)] at e3
  rw [Option.some.inj e3]
  refine ⟨?_, by simp [firstS]⟩
  rw [List.length_append, List.length_map]
  have := (L.ch i _ _ e1 e2).2.1
  show 1 + _ ≤ 100
  omega
end K1
set_option Elab.async false
set_option linter.all false
set_option maxRecDepth 100000
set_option maxHeartbeats 4000000
namespace K1
open PySem L2 L3 M1
theorem dueK_ok {hs : List (List Nat)} {ds : List M1.Rd} {g : Str} {t : Int} {f : Spt} {k : Kt} (hf : SpOk f) (h1 : Sm (k.1 + rTn ds k.2)) (h2 : Sm k.2) (h3 : (rFin hs ds k.2).length ≤ 8 ∧ PyData.canLay0 (.str (rFin hs ds k.2)) = true) : SpOk (dueK hs ds g t f k) := by
  unfold dueK
  split
  · split
    · exact ⟨_, rfl, h2, h1⟩
    · split
      · exact h1
      · exact ⟨h3, h1⟩
  · exact hf
theorem dueF_ok {hs : List (List Nat)} {ds : List M1.Rd} {g : Str} {t : Int} : ∀ {ks : List Kt} {f : Spt}, SpOk f → (∀ k ∈ ks, Sm (k.1 + rTn ds k.2) ∧ Sm k.2 ∧ (rFin hs ds k.2).length ≤ 8 ∧ PyData.canLay0 (.str (rFin hs ds k.2)) = true) → SpOk (ks.foldl (dueK hs ds g t) f)
  | [], _, hf, _ => hf
  | k :: ks, f, hf, h => dueF_ok (ks := ks) (f := dueK hs ds g t f k) (dueK_ok hf (h k (.head _)).1 (h k (.head _)).2.1 (h k (.head _)).2.2) fun x hx => h x (.tail _ hx)
theorem dueS_ok {hs : List (List Nat)} {ds : List M1.Rd} {d : Str × Int × Str} {ks : List Kt} {t : Int} (h1 : d.1.length ≤ 8 ∧ PyData.canLay0 (.str d.1) = true) (h2 : Sm d.2.1) (h : ∀ k ∈ ks, Sm (k.1 + rTn ds k.2) ∧ Sm k.2 ∧ (rFin hs ds k.2).length ≤ 8 ∧ PyData.canLay0 (.str (rFin hs ds k.2)) = true) : SpOk (dueS hs ds d ks t) := by
  unfold dueS
  split
  · trivial
  · exact dueF_ok ⟨h1, h2⟩ h
theorem due_ok {H : Hp} {rs : List Addr} {hs : List (List Nat)} {ds : List M1.Rd} {lts : List (Str × Int × Str)} {legs : List (List Kt)} (R : RoadsAt H hs rs ds) (few : rs.length ≤ 40) (G : Good hs) (L : LegsOk hs ds lts legs) (ht : ∀ r, r < ds.length → 1 ≤ rTn ds r) {i : Nat} {d : Str × Int × Str} {ks : List Kt} (ed : lts[i]? = some d) (eks : legs[i]? = some ks) (okd : LtOkB d) (t : Int) : SpOk (dueS hs ds d ks t) := by
  obtain ⟨cok, c3, cet⟩ := L.ch i d ks ed eks
  obtain ⟨up1, up2, up3, up4⟩ := chain_up ht _ rfl cok
  obtain ⟨o1, o2, o3, o4⟩ := okd
  refine dueS_ok o1 ⟨o3, by show d.2.1 < 10 ^ 12; omega⟩ fun k hk => ?_
  have k1 := up2 k hk
  have k2 := up3 k hk
  obtain ⟨j, hj, ej⟩ := List.getElem_of_mem hk
  have k3 := (cok j k (by rw [List.getElem?_eq_getElem hj, ej])).1
  have rl := R.len
  have ed2 : ds[k.2]? = some ds[k.2] := List.getElem?_eq_getElem k3
  have okr := R.ok _ (List.getElem_mem k3)
  have e0 : ds.getD k.2 rd0 = ds[k.2] := gd_of ed2
  have t1 : 1 ≤ rTn ds k.2 ∧ rTn ds k.2 ≤ 9 := by unfold rTn; rw [e0]; exact okr.t
  refine ⟨⟨by omega, by show k.1 + rTn ds k.2 < 10 ^ 12; omega⟩, ⟨by omega, by show (k.2 : Int) < 10 ^ 12; omega⟩, ?_⟩
  unfold rFin
  rw [e0]
  have nm := G.at okr.b
  exact ⟨by rw [S_len]; exact nm.2.1, strOk_nm nm⟩
end K1
set_option Elab.async false
set_option linter.all false
set_option maxRecDepth 100000
set_option maxHeartbeats 4000000
namespace K1
open PySem L2 L3 M1
theorem road_at {H : Hp} {hs : List (List Nat)} {rs : List Addr} {ds : List M1.Rd} (R : RoadsAt H hs rs ds) {i : Nat} (hi : i < ds.length) : ∃ r0, L2.atI (refs rs) (i : Int) = some (.ref r0) ∧ H r0 = some (.tup [.str (rBeg hs ds i), .str (rFin hs ds i), .int (rTn ds i), .int (rRm ds i)]) := by
  have rl := R.len
  obtain ⟨r0, er0⟩ : ∃ r0, rs[i]? = some r0 := ⟨_, List.getElem?_eq_getElem (by omega)⟩
  obtain ⟨d0, ed0, ok0, hd0⟩ := R.get er0
  have e0 : ds.getD i rd0 = d0 := gd_of ed0
  have eV : rdV hs d0 = [.str (rBeg hs ds i), .str (rFin hs ds i), .int (rTn ds i), .int (rRm ds i)] := by
    unfold rdV rBeg rFin rTn rRm
    rw [e0]
  rw [eV] at hd0
  exact ⟨r0, atI_nat (by unfold refs; rw [List.getElem?_map, er0]; rfl), hd0⟩
theorem refs_atN {ls : List Addr} {i : Nat} {l : Addr} (e : ls[i]? = some l) : L2.atI (refs ls) (i : Int) = some (.ref l) := atI_nat (by unfold refs; rw [List.getElem?_map, e]; rfl)
theorem due_rd {hs : List (List Nat)} {ds : List M1.Rd} {lts : List (Str × Int × Str)} {legs : List (List Kt)} (L : LegsOk hs ds lts legs) {i : Nat} {d : Str × Int × Str} {ks : List Kt} (ed : lts[i]? = some d) (eks : legs[i]? = some ks) (t : Int) : onRd ds.length (dueS hs ds d ks t) := by
  cases e : dueS hs ds d ks t with
  | on r u =>
    obtain ⟨k, hk, e1, _⟩ := on_key e
    obtain ⟨j, hj, ej⟩ := List.getElem_of_mem hk
    exact ⟨k.2, e1, ((L.ch i d ks ed eks).1 j k (by rw [List.getElem?_eq_getElem hj, ej])).1⟩
  | ny => trivial
  | at_ _ _ => trivial
  | home _ => trivial
theorem in_nums {legs : List (List Kt)} {bs : List (Kt × List Nat)} (PL : PlanOk legs bs) {i : Nat} {ks : List Kt} (eks : legs[i]? = some ks) {t : Int} {r : Nat} : (i, r) ∈ sentE bs t ↔ (t, r) ∈ ks := by
  rw [mem_sentE]
  constructor
  · rintro ⟨b, hb, e1, hn⟩
    rw [(PL.mem b hb).1, e1] at hn
    obtain ⟨ks', e2, e3⟩ := mem_nums.mp hn
    rw [eks] at e2
    cases e2
    exact e3
  · intro h
    obtain ⟨b, hb, e1⟩ := List.mem_map.mp (PL.all ((t, r), i) (mem_evsF.mpr ⟨i, ks, by omega, eks, h⟩))
    have e1 : b.1 = (t, r) := e1
    refine ⟨b, hb, e1, ?_⟩
    rw [(PL.mem b hb).1, e1]
    exact mem_nums.mpr ⟨ks, eks, h⟩
noncomputable def two (h : Str) : List PyData := [.str (Str.ofString "at"), .str h]
theorem two_can {h : Str} (c : PyData.canLay0 (.str h) = true) : (PyData.list (two h)).canLay0 = true := can_all fun d hd => by
  simp only [two, List.mem_cons, List.not_mem_nil, or_false] at hd
  rcases hd with rfl | rfl
  · decide +kernel
  · exact c
section
variable {P : Program} {w : World} {K : PySem.W.Frag} {mg : Str → Option Value} {base : Heap}
noncomputable def spSps (C CN : Addr) : Sp := fun vs H Q _ => ∃ (n a' b' lp pp : Addr) (rs lr pa : List Addr) (lts : List (Str × Int × Str)) (hs : List (List Nat)) (ds : List M1.Rd) (legs : List (List Kt)) (bs : List (Kt × List Nat)) (t : Int), vs = [.ref n, .ref lp, .ref pp, .int t] ∧
  NetAt CN H n a' b' (txs hs) (refs rs) ∧ RoadsAt H hs rs ds ∧ rs.length ≤ 40 ∧ H lp = some (.lst (refs lr)) ∧ Tups H lr (lts.map ltT) ∧ lr.length ≤ 20 ∧ H pp = some (.lst (refs pa)) ∧ Paired (BagAt H) pa bs ∧ bs.length ≤ 99 ∧ LegsOk hs ds lts legs ∧ PlanOk legs bs ∧ (∀ d ∈ lts, LtOkB d) ∧
  ∀ H' D, Same H H' → SpL H' D (spotsL hs ds lts legs t) → Q (.ref D) H'
noncomputable abbrev sSps : Stmt := top 48
theorem scSps : FnScope ["_law_net", "_law_letters", "_law_plan_here", "_law_turn", "_law_found"] ["_law_net", "_law_letters", "_law_plan_here", "_law_turn"] (defScope sSps) := ⟨rfl, rfl, rfl, by decide +kernel, rfl, by decide +kernel, by decide +kernel⟩
theorem ok_sps {C CN f f1 f2 : Addr} {fd fd1 fd2 : FuncData} {S : SpA} (F : Fun K "_law_spots" "_law_spots" sSps f fd) (B : Blt mg)
    (D_spots_at : Dn K mg "spots_at" sSpots ["net", "letters", "plan", "turn"] f1 fd1) (G_spots_at : FnOk P w K mg base CX0 6 f1 fd1 ["net", "letters", "plan", "turn"] (spSpots C CN S))
    (D__law_told : Dn K mg "_law_told" sTold ["_law_spot"] f2 fd2) (G__law_told : FnOk P w K mg base CX0 1 f2 fd2 ["_law_spot"] (spTld S)) :
    FnOk P w K mg base CX0 7 f fd ["_law_net", "_law_letters", "_law_plan_here", "_law_turn"] (spSps C CN) := by
  refine F.ok scSps (fun vs H Q E h => ?_) (fun cdv A outer s H vs Q E hr h => ?_)
  · obtain ⟨n, a', b', lp, pp, rs, lr, pa, lts, hs, ds, legs, bs, t, rfl, _⟩ := h
    rfl
  · obtain ⟨n, a', b', lp, pp, rs, lr, pa, lts, hs, ds, legs, bs, t, rfl, N, R, few, hlp, tpl, fewl, hpp, hbs, fewb, L, PL, oks, q⟩ := h
    refine ⟨_, (pss_cons (ps_set (i := 4) scSps.nd rfl (Or.inl rfl) (pe_call G_spots_at (hr.mono (by decide)) (by rfl) D_spots_at.at_ D_spots_at.fn.kp D_spots_at.bd .nil pass0 (pa_cons (pv 0) (pa_cons (pv 1) (pa_cons (pv 2) (pa_cons (pv 3) pa_nil))))))
      (pss_cons (ps_if (PW.pt (pw_or (pt_not (pt_val (pe_callB call_isi (by rfl) B.isinstance bt_isinstance (pa_cons (pv 4) (pa_cons (pe_bty (by rfl) B.list bt_list) pa_nil))))) (pw_or1 (pt_cmpR op_ne (pe_callB call_len_seq (by rfl) B.len bt_len (pa_cons (pv 4) pa_nil)) (pe_callB call_len_seq (by rfl) B.len bt_len (pa_cons (pv 1) pa_nil)) (nomark _))))) (pss_one (ps_ret (pe_lst (pa_cons pe_non pa_nil)))) pss_nil)
      (pss_one (ps_ret (pe_lc (N' := ["_law_spot"]) (cs := [none]) rfl (pi_list (pv 4)) rfl (by decide +kernel) rfl (by decide +kernel) (sub_of (fun p hp => absurd hp (List.not_mem_nil))) rfl
        (.own .nil)
        (fun C s3 H3 fp pn => ⟨(pg_name (i := 0) (by show (["_law_spot"] : List Str).Nodup; decide +kernel) rfl (.inl rfl)), pif_nil, (pe_call G__law_told (hr.mono (by decide)) (by rfl) D__law_told.at_ D__law_told.fn.kp D__law_told.bd .nil pass0 (pa_cons (pv 0) pa_nil))⟩)))))), ?_⟩
    have lrl : lr.length = lts.length := by have := tpl.len; rw [List.length_map] at this; exact this
    have pal := Paired.length hbs
    have lel := L.len
    have ht := road_up R
    have wk := Wks.whole L PL ht (by omega)
    have fl := stt_len hs ds lts legs fun _ => true
    refine ⟨_, rfl, _, rfl, _, rfl, _, rfl, n, a', b', lp, pp, rs, lr, pa, lts, hs, ds, bs, _, t, rfl, N, R, few, hlp, tpl, (by omega), hpp, hbs, (by omega), wk, fl, (fun ss hss => (stt_few L ss hss).1), fun H1 D vs nD s1 hD vl hv => ?_⟩
    refine ⟨_, rfl, _, _, _, _, _, rfl, ⟨rfl, .lst hD, kit_eq _ _⟩, _, rfl, iteF ?_⟩
    have hlp1 := s1 _ _ hlp
    have tlr := refs_len lr
    refine ⟨_, rfl, D, _, rfl, .inl (SqL.of hD), _, rfl, lp, _, rfl, .inl (SqL.of hlp1), rfl, _, rfl, iteN (by rw [vl, tlr, lrl]; simp) ?_⟩
    have hsp : ∀ i v, vs[i]? = some v → ∃ sp, (spotsL hs ds lts legs t)[i]? = some sp ∧ SpotAt S H1 v sp := fun i v ev => by
      have h1 := hv i v ev
      have hi := (List.getElem?_eq_some_iff.mp ev).1
      have ed : lts[i]? = some lts[i] := List.getElem?_eq_getElem (by omega)
      have eks : legs[i]? = some legs[i] := List.getElem?_eq_getElem (by omega)
      have ey2 : (lts.map fun d => d.2.2)[i]? = some lts[i].2.2 := by rw [List.getElem?_map, ed]; rfl
      rw [gd_of (stt_at ed eks), gd_of ey2] at h1
      obtain ⟨up1, up2, up3, up4⟩ := chain_up ht _ rfl (L.ch i _ _ ed eks).1
      rw [spot_due up2 (oks _ (List.mem_of_getElem? ed)).2.1] at h1
      exact ⟨_, spotsL_get ed eks, h1⟩
    dsimp only [tNext, tSeq, tRet]
    refine tlc_anyD (J := Itl K D) (H1 := H1) (xs := vs) (rest := []) (fun R h => ⟨_, rfl, D, rfl, ⟨_, SqL.of hD⟩, h⟩) rfl (wk_list (SqL.of hD)) (small1000 (by omega))
      (fun D' i v H5 => ∃ l sp, v = .ref l ∧ l ≠ D' ∧ (spotsL hs ds lts legs t)[i]? = some sp ∧ H5 l = some (.lst (spV sp))) (fun D' i v H2 H3 sm h => ?_) (fun D' i v H2 ys zs hD' h => ?_) (fun D' ys i x H2 R' hD' ex sm k => ?_) (fun D' H2 us nD' hD' ul hu sD => ?_)
    · obtain ⟨l, sp, e1, e2, e3, e4⟩ := h
      exact ⟨l, sp, e1, e2, e3, sm _ _ e4⟩
    · obtain ⟨l, sp, e1, e2, e3, e4⟩ := h
      exact ⟨l, sp, e1, e2, e3, by rw [upd_ne e2]; exact e4⟩
    · obtain ⟨sp, e1, e2⟩ := hsp i x ex
      refine ⟨_, rfl, x, sp, rfl, e2.same sm, fun l H' nl s' hl => k _ _ s' ⟨l, sp, rfl, ?_, e1, hl⟩⟩
      exact (ne_of_none hD' nl).symm
    · obtain ⟨pa', rfl, hp⟩ := refs_paired (R := SpAt H2) (vs := us) (bs := spotsL hs ds lts legs t) (by rw [ul, vl, spotsL_len lel]) fun i v b e1 e2 => by
        obtain ⟨l, sp, e3, _, e5, e6⟩ := hu i v e1
        rw [e2] at e5
        cases e5
        exact ⟨l, e3, e6⟩
      exact q H2 D' (s1.trans sD) ⟨pa', hD', hp⟩
noncomputable def spGo : Sp := fun vs H Q _ => ∃ (b lp bf af sd : Addr) (rs lr : List Addr) (kvs : List (Key × L2.V)) (lts : List (Str × Int × Str)) (hs : List (List Nat)) (ds : List M1.Rd) (legs : List (List Kt)) (bs : List (Kt × List Nat)) (t : Int), vs = [.ref b, .ref lp, .ref bf, .ref af, .ref sd, .int (t + 1)] ∧
  H b = some (.lst (refs rs)) ∧ RoadsAt H hs rs ds ∧ rs.length ≤ 40 ∧ Good hs ∧ H lp = some (.lst (refs lr)) ∧ Tups H lr (lts.map ltT) ∧ SpL H bf (spotsL hs ds lts legs t) ∧ SpL H af (spotsL hs ds lts legs (t + 1)) ∧ H sd = some (.dK kvs) ∧ EvOk (sentE bs (t + 1)) kvs ∧ LegsOk hs ds lts legs ∧ PlanOk legs bs ∧ (∀ d ∈ lts, LtOkB d) ∧
  ∀ H', Same H H' → Q (.bl true) H'
noncomputable abbrev sGo : Stmt := top 46
noncomputable abbrev pGo : List Str := ["_law_lines", "_law_letters", "_law_before", "_law_after", "_law_sent_here", "_law_turn"]
noncomputable abbrev nGo : List Str := ["_law_lines", "_law_letters", "_law_before", "_law_after", "_law_sent_here", "_law_turn", "_law_number", "_law_letter_here", "_law_here", "_law_road_here"]
theorem scGo : FnScope nGo pGo (defScope sGo) := ⟨rfl, rfl, rfl, by decide +kernel, rfl, by decide +kernel, by decide +kernel⟩
theorem ok_go {f f1 : Addr} {fd fd1 : FuncData} (F : Fun K "_law_goes_on" "_law_goes_on" sGo f fd) (B : Blt mg)
    (D__law_ahead : Dn K mg "_law_ahead" sAhd ["_law_lines", "_law_letter_here", "_law_spot", "_law_turn"] f1 fd1) (G__law_ahead : FnOk P w K mg base CX0 1 f1 fd1 ["_law_lines", "_law_letter_here", "_law_spot", "_law_turn"] spAhd) :
    FnOk P w K mg base CX0 2 f fd pGo spGo := by
  refine F.ok scGo (fun vs H Q E h => ?_) (fun cdv A outer s H vs Q E hr h => ?_)
  · obtain ⟨b, lp, bf, af, sd, rs, lr, kvs, lts, hs, ds, legs, bs, t, rfl, _⟩ := h
    rfl
  · obtain ⟨b, lp, bf, af, sd, rs, lr, kvs, lts, hs, ds, legs, bs, t, rfl, hb, R, few, G, hlp, tpl, sb, sa, hsd, ev, L, PL, oks, q⟩ := h
    refine ⟨_, (pss_cons (ps_for PassesOwn.never rfl (pi_enum rfl B.enumerate (pa_cons (pv 1) pa_nil)) (pg_tup rfl (pgs_cons (pg_name (i := 6) scGo.nd rfl (Or.inl rfl)) (pgs_cons (pg_name (i := 7) scGo.nd rfl (Or.inl rfl)) pgs_nil)))
        (pss_cons (ps_set (i := 8) scGo.nd rfl (Or.inl rfl) (pe_call G__law_ahead (hr.mono (by decide)) (by rfl) D__law_ahead.at_ D__law_ahead.fn.kp D__law_ahead.bd .nil pass0 (pa_cons (pv 0) (pa_cons (pv 7) (pa_cons (pe_ix ix_list (pv 2) (pv 6) (fun _ _ => rfl)) (pa_cons (pv 5) pa_nil))))))
      (pss_one (ps_if (pt_cmp (pc_din (hu_of hr) (pv 6) (pv 4))) (pss_cons (ps_set (i := 9) scGo.nd rfl (Or.inl rfl) (pe_dget (hu_of hr) (pv 4) (pv 6) (fun _ _ => rfl)))
      (pss_one (ps_if (PW.pt (pw_or (pt_cmpR (op_neD hr.units) (pe_slice sl_list (pv 8) po_none (po_some pe_int)) (pe_lst (pa_cons pe_str (pa_cons (pe_ix ix_tup (pe_ix ix_list (pv 0) (pv 9) (fun _ _ => rfl)) pe_int (fun _ _ => rfl)) pa_nil))) (nomark _)) (pw_or1 (pt_cmpR (op_neD hr.units) (pe_ix ix_list (pv 3) (pv 6) (fun _ _ => rfl)) (pe_lst (pa_cons pe_str (pa_cons (pv 9) (pa_cons (pe_op op_add (pv 5) (pe_ix ix_tup (pe_ix ix_list (pv 0) (pv 9) (fun _ _ => rfl)) pe_int (fun _ _ => rfl))) pa_nil)))) (nomark _))))) (pss_one (ps_ret pe_bl)) pss_nil))) (pss_one (ps_if (pt_cmpR (op_neD hr.units) (pe_ix ix_list (pv 3) (pv 6) (fun _ _ => rfl)) (pv 8) (nomark _)) (pss_one (ps_ret pe_bl)) pss_nil))))))
      (pss_one (ps_ret pe_bl))), ?_⟩
    have lrl : lr.length = lts.length := by have := tpl.len; rw [List.length_map] at this; exact this
    have lel := L.len
    have ht := road_up R
    refine ⟨_, rfl, lp, rfl, ⟨_, SqL.of hlp⟩, ?_⟩
    refine for_enum (K := K) (a := lp) (xs := refs lr) (fun i σ Hc => ∃ (v6 v7 v8 v9 : Option L2.V), σ = [some (.ref b), some (.ref lp), some (.ref bf), some (.ref af), some (.ref sd), some (.int (t + 1)), v6, v7, v8, v9] ∧ Same H Hc)
      ⟨none, none, none, none, rfl, Same.refl _⟩ (fun i σ Hc ⟨_, _, _, _, _, h⟩ => SqL.of (h _ _ hlp)) ?_ ?_
    · rintro i z σ Hc pt ez ⟨v6, v7, v8, v9, rfl, sc⟩ npt
      unfold refs at ez
      rw [List.getElem?_map] at ez
      obtain ⟨r, er, rfl⟩ := Option.map_eq_some_iff.mp ez
      obtain ⟨dv, edv, hr1⟩ := Paired.get tpl er
      rw [List.getElem?_map] at edv
      obtain ⟨d, ed, rfl⟩ := Option.map_eq_some_iff.mp edv
      have il := (List.getElem?_eq_some_iff.mp ed).1
      have eks : legs[i]? = some legs[i] := List.getElem?_eq_getElem (by omega)
      generalize legs[i] = ks at eks
      obtain ⟨ls0, l0, b1, b2, b3⟩ := sb.get (spotsL_get ed eks)
      obtain ⟨ls1, l1, a1, a2, a3⟩ := sa.get (spotsL_get ed eks)
      have okd := oks d (List.mem_of_getElem? ed)
      have ok0 := due_ok R few G L ht ed eks okd t
      have ok1 := due_ok R few G L ht ed eks okd (t + 1)
      have rd0' := due_rd L ed eks t
      have cok := (L.ch i d ks ed eks).1
      have spt := upd_free (o := .tup [V.int (i : Int), V.ref r]) npt
      refine ⟨pt, _, rfl, SqT.of upd_same, rfl, ?_⟩
      have scp := sc.trans spt
      generalize upd Hc pt (.tup [V.int (i : Int), V.ref r]) = Hd at spt scp ⊢
      refine ⟨_, _, rfl, _, _, rfl, rfl, ?_⟩
      refine ⟨_, rfl, _, rfl, _, rfl, _, rfl, bf, _, _, _, rfl, rfl, SqL.of (scp _ _ b1), refs_atN b2, _, rfl, b, r, l0, rs, hs, ds, d, _, t + 1, rfl, scp _ _ hb, R.same scp, scp _ _ hr1, scp _ _ b3, ok0, rd0', fun l' He se hl' => ?_⟩
      have sce := scp.trans se
      have hsd1 := sce _ _ hsd
      refine ⟨_, rfl, _, rfl, sd, _, rfl, DGet.k (k := .inl (i : Int)) hsd1, _, rfl, ?_⟩
      cases e : valV kvs (.inl (i : Int)) with
      | some v =>
        obtain ⟨rr, hm, rfl⟩ := ev.so i v e
        have hk := (in_nums PL eks).mp hm
        obtain ⟨g1, u, g2⟩ := go_sent ht cok hk
        obtain ⟨j, hj, ej⟩ := List.getElem_of_mem hk
        have rlt : rr < ds.length := (cok j (t + 1, rr) (by rw [List.getElem?_eq_getElem hj, ej])).1
        obtain ⟨r0, ar0, hr0⟩ := road_at R rlt
        have ed2 : ds[rr]? = some ds[rr] := List.getElem?_eq_getElem rlt
        have okr := R.ok _ (List.getElem_mem rlt)
        have cb : PyData.canLay0 (.str (rBeg hs ds rr)) = true := by
          unfold rBeg
          rw [gd_of ed2]
          exact strOk_nm (G.at okr.a)
        rw [g2] at hl'
        rw [g1] at a3 ok1
        refine iteB rfl ⟨_, rfl, _, rfl, sd, _, rfl, (by rw [← e]; exact DGet.k (k := .inl (i : Int)) hsd1), ?_⟩
        refine ⟨_, rfl, _, rfl, l', _, rfl, SqL.of hl', fun p1 np1 => ?_⟩
        have ecut : cutV (spV (.at_ (rBeg hs ds rr) u)) none (some 2) = [.str (Str.ofString "at"), .str (rBeg hs ds rr)] := rfl
        rw [ecut]
        have s1 := upd_free (o := .lst [V.str (Str.ofString "at"), V.str (rBeg hs ds rr)]) np1
        have h1 := upd_same (H := He) (a := p1) (o := .lst [V.str (Str.ofString "at"), V.str (rBeg hs ds rr)])
        generalize upd He p1 (.lst [V.str (Str.ofString "at"), V.str (rBeg hs ds rr)]) = H1 at s1 h1 ⊢
        have sc1 := sce.trans s1
        refine ⟨_, rfl, _, rfl, b, _, _, _, rfl, rfl, SqL.of (sc1 _ _ hb), ar0, r0, _, _, _, rfl, rfl, SqT.of (sc1 _ _ hr0), rfl, (by show 2 ≤ sizeLine; decide), fun p2 np2 => ?_⟩
        have s2 := upd_free (o := .lst [V.str (Str.ofString "at"), V.str (rBeg hs ds rr)]) np2
        have h2 := upd_same (H := H1) (a := p2) (o := .lst [V.str (Str.ofString "at"), V.str (rBeg hs ds rr)])
        have h12 := s2 _ _ h1
        have sc2 := sc1.trans s2
        generalize upd H1 p2 (.lst [V.str (Str.ofString "at"), V.str (rBeg hs ds rr)]) = H2 at s2 h2 h12 sc2 ⊢
        have sh := shaped_of (two_can cb) (show (PyData.list (two (rBeg hs ds rr))).depth ≤ 1 from Nat.le_refl _) (by decide)
        refine ⟨.list (two (rBeg hs ds rr)), .list (two (rBeg hs ds rr)), .lst (SqL.of h12) (.cons (.str _) (.cons (.str _) .nil)), .lst (SqL.of h2) (.cons (.str _) (.cons (.str _) .nil)), sh, sh, _, rfl, iteN (ne_self (two_can cb)) ?_⟩
        refine ⟨_, rfl, _, rfl, af, _, _, _, rfl, rfl, SqL.of (sc2 _ _ a1), refs_atN a2, _, rfl, _, rfl, _, rfl, _, rfl, b, _, _, _, rfl, rfl, SqL.of (sc2 _ _ hb), ar0, r0, _, _, _, rfl, rfl, SqT.of (sc2 _ _ hr0), rfl, _, _, rfl, rfl, (by show 3 ≤ sizeLine; decide), fun p3 np3 => ?_⟩
        have s3 := upd_free (o := .lst [V.str (Str.ofString "on"), V.int rr, V.int (t + 1 + rTn ds rr)]) np3
        have h3 : upd H2 p3 (.lst [V.str (Str.ofString "on"), V.int rr, V.int (t + 1 + rTn ds rr)]) p3 = some (.lst (spV (.on (some (rr : Int)) (t + 1 + rTn ds rr)))) := upd_same
        refine ⟨.list (spD (.on (some (rr : Int)) (t + 1 + rTn ds rr))), .list (spD (.on (some (rr : Int)) (t + 1 + rTn ds rr))), .lst (SqL.of (s3 _ _ (sc2 _ _ a3))) (spV_dts _), .lst (SqL.of h3) (spV_dts _), spD_shaped ok1, spD_shaped ok1, _, rfl, iteN (ne_self (spD_can ok1)) ?_⟩
        exact ⟨_, _, _, _, rfl, sc2.trans s3⟩
      | none =>
        have nk : ∀ k ∈ ks, k.1 ≠ t + 1 := fun k hk z => by
          have := ev.all (i, k.2) ((in_nums PL eks).mpr (by rw [← z]; exact hk))
          rw [e] at this
          cases this
        rw [← go_stay ht cok nk] at hl'
        refine iteN rfl ⟨_, rfl, _, rfl, af, _, _, _, rfl, rfl, SqL.of (sce _ _ a1), refs_atN a2, _, rfl, _, _, .lst (SqL.of (sce _ _ a3)) (spV_dts _), .lst (SqL.of hl') (spV_dts _), spD_shaped ok1, spD_shaped ok1, _, rfl, iteN (ne_self (spD_can ok1)) ?_⟩
        exact ⟨_, _, _, _, rfl, sce⟩
    · rintro σ Hc ⟨v6, v7, v8, v9, rfl, sc⟩
      exact q Hc sc
end
end K1
set_option Elab.async false
set_option linter.all false
set_option maxRecDepth 100000
set_option maxHeartbeats 4000000
namespace K1
open PySem L2 L3 M1
noncomputable def homeL (ss : List Step) (y : Str) : L2.V := match ss.getLast? with
  | none => .non
  | some s => homeV s y
section
variable {P : Program} {w : World} {K : PySem.W.Frag} {mg : Str → Option Value} {base : Heap}
noncomputable def spArr (C CN : Addr) : Sp := fun vs H Q _ => ∃ (n a' b' lp pp : Addr) (rs lr pa : List Addr) (lts : List (Str × Int × Str)) (hs : List (List Nat)) (ds : List M1.Rd) (bs : List (Kt × List Nat)) (fin : List (List Step)), vs = [.ref n, .ref lp, .ref pp] ∧ NetAt CN H n a' b' (txs hs) (refs rs) ∧ RoadsAt H hs rs ds ∧ rs.length ≤ 40 ∧
  H lp = some (.lst (refs lr)) ∧ Tups H lr (lts.map ltT) ∧ lr.length ≤ 100 ∧ H pp = some (.lst (refs pa)) ∧ Paired (BagAt H) pa bs ∧ pa.length ≤ 99 ∧ Wks hs ds (lts.map fun d => d.2.2) (lts.map firstS) none bs fin ∧ fin.length = lts.length ∧ (∀ ss ∈ fin, ss ≠ []) ∧
  ∀ (H' : Hp) (D : Addr), H D = none → Same H H' → H' D = some (.lst ((List.range lts.length).map fun i => homeL (fin.getD i []) ((lts.map fun d => d.2.2).getD i (Str.ofString "")))) → Q (.ref D) H'
noncomputable abbrev sArr : Stmt := top 23
theorem scArr : FnScope ["net", "letters", "plan", "walk"] ["net", "letters", "plan"] (defScope sArr) := ⟨rfl, rfl, rfl, by decide +kernel, rfl, by decide +kernel, by decide +kernel⟩
theorem ok_arr {C CN f f1 f2 : Addr} {fd fd1 fd2 : FuncData} (F : Fun K "arrivals" "arrivals" sArr f fd) (B : Blt mg) (Cl_Walk : Cls K C)
    (D_walk_of : Dn K mg "walk_of" sWkOf ["net", "letters", "plan"] f1 fd1) (G_walk_of : FnOk P w K mg base CX0 5 f1 fd1 ["net", "letters", "plan"] (spWkOf C CN))
    (M_Walk_home_turn : Mn K C "home_turn" "Walk.home_turn" sHomeT ["self", "number"] f2 fd2) (G_Walk_home_turn : FnOk P w K mg base CX0 2 f2 fd2 ["self", "number"] (spHomeT C)) :
    FnOk P w K mg base CX0 6 f fd ["net", "letters", "plan"] (spArr C CN) := by
  refine F.ok scArr (fun vs H Q E h => ?_) (fun cdv A outer s H vs Q E hr h => ?_)
  · obtain ⟨n, a', b', lp, pp, rs, lr, pa, lts, hs, ds, bs, fin, rfl, _⟩ := h
    rfl
  · obtain ⟨n, a', b', lp, pp, rs, lr, pa, lts, hs, ds, bs, fin, rfl, N, R, few, hlp, tpl, fewl, hpp, hbs, fewp, wk, fl, fne, q⟩ := h
    refine ⟨_, (pss_cons (ps_set (i := 3) scArr.nd rfl (Or.inr rfl) (pe_call G_walk_of (hr.mono (by decide)) (by rfl) D_walk_of.at_ D_walk_of.fn.kp D_walk_of.bd .nil pass0 (pa_cons (pv 0) (pa_cons (pv 1) (pa_cons (pv 2) pa_nil)))))
      (pss_one (ps_ret (pe_lc (N' := ["number", "walk"]) (cs := [none, some 3]) rfl (pi_range1 rfl B.range (pa_cons (pe_callB call_len_seq (by rfl) B.len bt_len (pa_cons (pv 1) pa_nil)) pa_nil)) rfl (by decide +kernel) rfl (by decide +kernel) (sub_of (List.forall_mem_cons.mpr ⟨rfl, (fun p hp => absurd hp (List.not_mem_nil))⟩)) rfl
        (.own (.cap rfl (.inl rfl) (.inl rfl) rfl .nil))
        (fun C s3 H3 fp pn => ⟨(pg_name (i := 0) (by show (["number", "walk"] : List Str).Nodup; decide +kernel) rfl (.inl rfl)), pif_nil, (pe_meth (pv 1) Cl_Walk M_Walk_home_turn.me G_Walk_home_turn (hr.mono (by decide)) M_Walk_home_turn.bd .nil pass0 (pa_cons (pv 0) pa_nil))⟩))))), ?_⟩
    have ll : lr.length = lts.length := by have := tpl.len; rw [List.length_map] at this; exact this
    have rl := refs_len lr
    refine ⟨_, rfl, _, rfl, _, rfl, n, a', b', lp, pp, rs, lr, pa, lts, hs, ds, bs, fin, rfl, N, R, few, hlp, tpl, fewl, hpp, hbs, fewp, wk, fun H1 x g st ls s1 W => ?_⟩
    obtain ⟨dx, hx⟩ := W.ins
    have hlp1 := s1 _ _ hlp
    dsimp only [tRet]
    refine tlc_idx (J := Itr 0 (refs lr).length) (H1 := H1) (xs := (List.range (refs lr).length).map fun i : Nat => V.int ((0 : Int) + (i : Int))) (rest := [some (.ref x)]) (fun R h => ⟨_, rfl, lp, _, rfl, .inl (SqL.of hlp1), _, rfl, (by show -(2 ^ 62) ≤ ((refs lr).length : Int); omega), (by show ((refs lr).length : Int) < 2 ^ 62; omega), h⟩) rfl (wk_range 0 _) (small1000 (by rw [List.length_map, List.length_range]; omega))
      (fun i => homeL (fin.getD i []) ((lts.map fun d : Str × Int × Str => d.2.2).getD i (Str.ofString ""))) (fun i v H2 R ev sm k => ?_) (fun D H2 nD hD sD => ?_)
    · rw [List.getElem?_map] at ev
      obtain ⟨j, ej, rfl⟩ := Option.map_eq_some_iff.mp ev
      obtain ⟨hi, e⟩ := List.getElem?_eq_some_iff.mp ej
      rw [List.length_range] at hi
      rw [List.getElem_range] at e
      subst e
      obtain ⟨ss, es⟩ : ∃ ss, fin[i]? = some ss := ⟨_, List.getElem?_eq_getElem (by omega)⟩
      obtain ⟨y, ey⟩ : ∃ y, (lts.map fun d => d.2.2)[i]? = some y := ⟨_, List.getElem?_eq_getElem (by rw [List.length_map]; omega)⟩
      rw [gd_of es, gd_of ey] at k
      rcases List.eq_nil_or_concat ss with z | ⟨pre, s', z⟩
      · exact absurd z (fne ss (List.mem_of_getElem? es))
      · rw [List.concat_eq_append] at z
        subst z
        unfold homeL at k
        rw [List.getLast?_append, List.getLast?_singleton] at k
        refine ⟨_, rfl, x, dx, _, rfl, sm _ _ hx, rfl, _, rfl, x, n, g, st, _, ls, fin, i, pre, s', y, ?_, W.same sm, es, ey, k H2 (Same.refl _)⟩
        rw [Int.zero_add]
        rfl
    · rw [List.length_map, List.length_range, rl, ll] at hD
      refine q H2 D ?_ (s1.trans sD) hD
      cases e : H D with
      | none => rfl
      | some o => rw [s1 _ _ e] at nD; cases nD
end
end K1
set_option Elab.async false
set_option linter.all false
set_option maxRecDepth 100000
set_option maxHeartbeats 4000000
namespace K1
open PySem L2 L3 M1
section
variable {P : Program} {w : World} {K : PySem.W.Frag} {mg : Str → Option Value} {base : Heap}
noncomputable def spFit : Sp := fun vs H Q _ => ∃ (b sp : Addr) (rs : List Addr) (hs : List (List Nat)) (ds : List M1.Rd) (ss : List Spt), vs = [.ref b, .ref sp] ∧ H b = some (.lst (refs rs)) ∧ RoadsAt H hs rs ds ∧ rs.length ≤ 40 ∧ SpL H sp ss ∧ ss.length ≤ 40 ∧ (∀ s ∈ ss, SpOk s) ∧
  (∀ r, r < ds.length → ∀ u, ((((ss.filter (isOn r)).map dueOf).count u : Nat) : Int) ≤ rRm ds r) ∧ ∀ H', Same H H' → Q (.bl true) H'
noncomputable abbrev sFit : Stmt := top 47
theorem scFit : FnScope ["_law_lines", "_law_spots_here", "_law_road_here", "_law_line", "_law_dues", "_law_due"] ["_law_lines", "_law_spots_here"] (defScope sFit) := ⟨rfl, rfl, rfl, by decide +kernel, rfl, by decide +kernel, by decide +kernel⟩
theorem ok_fit {f : Addr} {fd : FuncData} (F : Fun K "_law_fits" "_law_fits" sFit f fd) (B : Blt mg) : FnOk P w K mg base CX0 1 f fd ["_law_lines", "_law_spots_here"] spFit := by
  refine F.ok scFit (fun vs H Q E h => ?_) (fun cdv A outer s H vs Q E hr h => ?_)
  · obtain ⟨b, sp, rs, hs, ds, ss, rfl, _⟩ := h
    rfl
  · obtain ⟨b, sp, rs, hs, ds, ss, rfl, hb, R, few, ⟨ls, hsp, tp⟩, fews, oks, room, q⟩ := h
    refine ⟨_, (pss_cons (ps_for PassesOwn.never rfl (pi_enum rfl B.enumerate (pa_cons (pv 0) pa_nil)) (pg_tup rfl (pgs_cons (pg_name (i := 2) scFit.nd rfl (Or.inr rfl)) (pgs_cons (pg_name (i := 3) scFit.nd rfl (Or.inl rfl)) pgs_nil)))
        (pss_cons (ps_setLC (i := 4) scFit.nd rfl rfl rfl (N' := ["_law_spot", "_law_road_here"]) (cs := [none, some 2]) rfl (pi_list (pv 1)) rfl (by decide +kernel) rfl (by decide +kernel) (sub_of (List.forall_mem_cons.mpr ⟨rfl, (fun p hp => absurd hp (List.not_mem_nil))⟩)) rfl
        (.own (.cap rfl (.inl rfl) (.inl rfl) rfl .nil))
        (fun C s3 H3 fp pn => ⟨(pg_name (i := 0) (by show (["_law_spot", "_law_road_here"] : List Str).Nodup; decide +kernel) rfl (.inl rfl)), (pif_one (PW.pt (pw_and (pt_cmpR op_eq (pe_ix (ix_listK (K := K) rfl) (pv 0) pe_int (fun _ _ => rfl)) pe_str (nomark _)) (pw_and1 (pt_cmpR op_eq (pe_ix (ix_listK (K := K) rfl) (pv 0) pe_int (fun _ _ => rfl)) (pv 1) (nomark _)))))), (pe_ix (ix_listK (K := K) rfl) (pv 0) pe_int (fun _ _ => rfl))⟩))
      (pss_one (ps_for PassesOwn.never rfl (pi_list (pv 4)) (pg_name (i := 5) scFit.nd rfl (Or.inl rfl))
        (pss_one (ps_if (pt_cmpR op_gt (pe_bm PySem.F.plainAttrs_list PySem.F.slot_list_count PySem.F.type_list_count mt_count (pv 4) (pa_cons (pv 5) pa_nil)) (pe_ix ix_tup (pv 3) pe_int (fun _ _ => rfl)) (nomark _)) (pss_one (ps_ret pe_bl)) pss_nil))))))
      (pss_one (ps_ret pe_bl))), ?_⟩
    have lsl := Paired.length tp
    have rl := refs_len ls
    have rr := R.len
    refine ⟨_, rfl, b, rfl, ⟨_, SqL.of hb⟩, ?_⟩
    refine for_enum (K := K) (a := b) (xs := refs rs) (fun i σ Hc => ∃ (v2 v3 v4 v5 : Option L2.V), σ = [some (.ref b), some (.ref sp), v2, v3, v4, v5] ∧ Same H Hc)
      ⟨none, none, none, none, rfl, Same.refl _⟩ (fun i σ Hc ⟨_, _, _, _, _, h⟩ => SqL.of (h _ _ hb)) ?_ ?_
    · rintro i z σ Hc pt ez ⟨v2, v3, v4, v5, rfl, sc⟩ npt
      unfold refs at ez
      rw [List.getElem?_map] at ez
      obtain ⟨r, er, rfl⟩ := Option.map_eq_some_iff.mp ez
      have il := (List.getElem?_eq_some_iff.mp er).1
      obtain ⟨r0, ar0, hr0⟩ := road_at R (show i < ds.length by omega)
      have e0 : r0 = r := by
        rw [refs_atN er] at ar0
        cases ar0
        rfl
      subst e0
      have spt := upd_free (o := .tup [V.int (i : Int), V.ref r0]) npt
      refine ⟨pt, _, rfl, SqT.of upd_same, rfl, ?_⟩
      have scp := sc.trans spt
      generalize upd Hc pt (.tup [V.int (i : Int), V.ref r0]) = Hd at spt scp ⊢
      refine ⟨_, _, rfl, _, _, rfl, rfl, ?_⟩
      have hsp1 := scp _ _ hsp
      have item : ∀ (j : Nat) (v : L2.V), (refs ls)[j]? = some v → ∃ l s', v = .ref l ∧ ss[j]? = some s' ∧ SpOk s' ∧ Hd l = some (.lst (spV s')) := fun j v ev => by
        unfold refs at ev
        rw [List.getElem?_map] at ev
        obtain ⟨l, el, rfl⟩ := Option.map_eq_some_iff.mp ev
        obtain ⟨s', es, hs'⟩ := Paired.get tp el
        exact ⟨l, s', rfl, es, oks s' (List.mem_of_getElem? es), scp _ _ hs'⟩
      dsimp only [tSeq, tAsg, gName]
      refine tlc_fi (J := Itl K sp) (H1 := Hd) (xs := refs ls) (rest := [some (.int (i : Int))]) (fun R h => ⟨_, rfl, sp, rfl, ⟨_, SqL.of hsp1⟩, h⟩) rfl (wk_list (SqL.of hsp1)) (small1000 (by omega)) (fun j => isOn i (ss.getD j .ny)) (fun j => V.int (dueOf (ss.getD j .ny))) (fun j v H2 Rr ev sm k => ?_) (fun j v H2 Rr ev hp sm k => ?_) (fun D H2 nD hD sD => ?_)
      · obtain ⟨l, s', rfl, es, ok, hl⟩ := item j v ev
        rw [gd_of es] at k
        have hl2 := SqL.of (K := K) (sm _ _ hl)
        rcases s' with _ | ⟨h', t'⟩ | ⟨r', t'⟩ | t'
        · exact ⟨_, rfl, l, _, _, _, rfl, rfl, hl2, rfl, rfl, _, rfl, iteN (by decide +kernel) (k H2 (Same.refl _))⟩
        · exact ⟨_, rfl, l, _, _, _, rfl, rfl, hl2, rfl, rfl, _, rfl, iteN (by decide +kernel) (k H2 (Same.refl _))⟩
        · obtain ⟨i', rfl, _, _⟩ := ok
          refine ⟨_, rfl, l, _, _, _, rfl, rfl, hl2, rfl, rfl, _, rfl, iteB (by decide +kernel) ⟨_, rfl, l, _, _, _, rfl, rfl, hl2, rfl, _, rfl, rfl, _, rfl, ?_⟩⟩
          have e : decide (V.int i' = V.int (i : Int)) = decide (i' = (i : Int)) := decide_eq_decide.mpr ⟨fun z => V.int.inj z, fun z => congrArg V.int z⟩
          show Rr (decide (V.int i' = V.int (i : Int))) H2
          rw [e]
          exact k H2 (Same.refl _)
        · exact ⟨_, rfl, l, _, _, _, rfl, rfl, hl2, rfl, rfl, _, rfl, iteN (by decide +kernel) (k H2 (Same.refl _))⟩
      · obtain ⟨l, s', rfl, es, ok, hl⟩ := item j v ev
        rw [gd_of es] at k hp
        have hl2 := SqL.of (K := K) (sm _ _ hl)
        rcases s' with _ | ⟨h', t'⟩ | ⟨r', t'⟩ | t'
        · cases hp
        · cases hp
        · exact ⟨_, rfl, l, _, _, _, rfl, rfl, hl2, rfl, k H2 (Same.refl _)⟩
        · cases hp
      · obtain ⟨us, eus⟩ : ∃ us, us = (ss.filter (isOn i)).map dueOf := ⟨_, rfl⟩
        have eD : ((List.range (refs ls).length).filter fun j => isOn i (ss.getD j .ny)).map (fun j => V.int (dueOf (ss.getD j .ny))) = us.map V.int := by
          rw [eus, rl, lsl, List.map_map]
          exact filter_range_map (isOn i) (V.int ∘ dueOf) .ny ss
        rw [eD] at hD
        have hroom := room i (by omega)
        rw [← eus] at hroom
        have sc2 := scp.trans sD
        refine ⟨_, rfl, D, rfl, ⟨_, SqL.of hD⟩, ?_⟩
        refine for_list (K := K) (a := D) (xs := us.map V.int) (fun j σ He => ∃ (v5 : Option L2.V), σ = [some (.ref b), some (.ref sp), some (.int (i : Int)), some (.ref r0), some (.ref D), v5] ∧ Same H2 He)
          ⟨v5, rfl, Same.refl _⟩ (fun j σ He _ ⟨_, _, h⟩ => SqL.of (h _ _ hD)) ?_ ?_
        · rintro j z σ He ez ⟨v5, rfl, se⟩
          rw [List.getElem?_map] at ez
          obtain ⟨u, eu, rfl⟩ := Option.map_eq_some_iff.mp ez
          have hDe := SqL.of (K := K) (se _ _ hD)
          have hre := SqT.of (K := K) (se _ _ (sc2 _ _ hr0))
          refine ⟨_, rfl, .inl ⟨rfl, _, hDe⟩, _, rfl, D, us, u, rfl, rfl, hDe, _, rfl, r0, _, _, _, rfl, rfl, hre, rfl, _, _, rfl, rfl, _, rfl, iteN (decide_eq_false (by have := hroom u; show ¬ (rRm ds i < ((us.count u : Nat) : Int)); omega)) ?_⟩
          exact ⟨_, rfl, se⟩
        · rintro σ He ⟨v5, rfl, se⟩
          exact ⟨_, _, _, _, rfl, sc2.trans se⟩
    · rintro σ Hc ⟨v2, v3, v4, v5, rfl, sc⟩
      exact q Hc sc
end
end K1
set_option Elab.async false
set_option linter.all false
set_option maxRecDepth 100000
set_option maxHeartbeats 4000000
namespace K1
open PySem L2 L3 M1
noncomputable def homeK (hs : List (List Nat)) (ds : List M1.Rd) (d : Str × Int × Str) (ks : List Kt) : L2.V := if endS hs ds d.1 ks = d.2.2 then .int (endT ds d.2.1 ks) else .non
theorem home_last {hs : List (List Nat)} {ds : List M1.Rd} {d : Str × Int × Str} {ks : List Kt} : homeL (firstS d ++ ks.map (stepK hs ds)) d.2.2 = homeK hs ds d ks := by
  rcases List.eq_nil_or_concat ks with z | ⟨a, k, z⟩
  · subst z
    rfl
  · rw [List.concat_eq_append] at z
    subst z
    unfold homeL homeK
    rw [List.map_append, ← List.append_assoc, List.getLast?_append, endS_snoc, endT_snoc]
    rfl
theorem dts_spots {K : PySem.W.Frag} {H : Hp} : ∀ {ls : List Addr} {ss : List Spt}, Paired (SpAt H) ls ss → Dts K H (refs ls) (ss.map fun s => .list (spD s))
  | _, _, .nil => .nil
  | _, _, .cons h t => .cons (.lst (SqL.of h) (spV_dts _)) (dts_spots t)
theorem spots_can {ss : List Spt} (h : ∀ s ∈ ss, SpOk s) : PyData.canLayAll0 (ss.map fun s => .list (spD s)) = true := can_all fun d hd => by
  obtain ⟨s, hs, rfl⟩ := List.mem_map.mp hd
  exact spD_can (h s hs)
theorem spots_none (ss : List Spt) : ((ss.map fun s => PyData.list (spD s)).any fun z => PyData.eqv z .none) = false := by
  rw [List.any_eq_false]
  intro d hd
  obtain ⟨s, _, rfl⟩ := List.mem_map.mp hd
  simp [PyData.eqv]
noncomputable def isHome : Spt → Bool
  | .home _ => true
  | _ => false
theorem first_home {s : Spt} : ∃ x, (spV s)[0]? = some (.str x) ∧ decide (V.str x = V.str (Str.ofString "home")) = isHome s := by
  rcases s with _ | ⟨h', t'⟩ | ⟨r', t'⟩ | t'
  · exact ⟨_, rfl, by show _ = false; decide +kernel⟩
  · exact ⟨_, rfl, by show _ = false; decide +kernel⟩
  · exact ⟨_, rfl, by show _ = false; decide +kernel⟩
  · exact ⟨_, rfl, by show _ = true; decide +kernel⟩
noncomputable def lt3 (hs : List (List Nat)) (d : M1.Lt) : Str × Int × Str := (S (hs.getD d.a []), d.t, S (hs.getD d.b []))
section
variable {P : Program} {w : World} {K : PySem.W.Frag} {mg : Str → Option Value} {base : Heap}
noncomputable abbrev sLaw : Stmt := top 49
noncomputable abbrev nLaw16 : List Str := ["_law_script", "_law_names", "_law_base", "_law_lines", "_law_letters", "_law_net", "_law_plan_here", "_law_home", "_law_first", "_law_before", "_law_turn", "_law_after", "_law_spot", "_law_since"]
theorem scLaw : FnScope nLaw16 ["_law_script"] (defScope sLaw) := ⟨rfl, rfl, rfl, by decide +kernel, rfl, by decide +kernel, by decide +kernel⟩
theorem ok_law {C CN f fa fh fl fm fg fp fi fr fs ft fu fv : Addr} {fd fda fdh fdl fdm fdg fdp fdi fdr fds fdt fdu fdv : FuncData} (F : Fun K "law" "law" sLaw f fd) (B : Blt mg) (at_Net : mg "Net" = some (.ref CN))
    (D__law_cell_at : Dn K mg "_law_cell_at" sAt ["_law_script", "_law_k"] fa fda) (G__law_cell_at : FnOk P w K mg base CX0 1 fa fda ["_law_script", "_law_k"] (spAt K))
    (D__law_houses : Dn K mg "_law_houses" sHousesN ["_law_cell", "_law_many"] fh fdh) (G__law_houses : FnOk P w K mg base CX0 1 fh fdh ["_law_cell", "_law_many"] spHousesN)
    (D__law_road : Dn K mg "_law_road" sRd1 ["_law_cell", "_law_names"] fl fdl) (G__law_road : FnOk P w K mg base CX0 1 fl fdl ["_law_cell", "_law_names"] spRd1)
    (D__law_letter : Dn K mg "_law_letter" sLet1 ["_law_cell", "_law_names", "_law_base"] fm fdm) (G__law_letter : FnOk P w K mg base CX0 1 fm fdm ["_law_cell", "_law_names", "_law_base"] spLet1)
    (D__law_legs : Dn K mg "_law_legs" sLegs pLegs fg fdg) (G__law_legs : FnOk P w K mg base CX0 1 fg fdg pLegs (spLegs K))
    (D__law_plan : Dn K mg "_law_plan" sPlan ["_law_legs_here"] fp fdp) (G__law_plan : FnOk P w K mg base CX0 1 fp fdp ["_law_legs_here"] spPlan)
    (Mk_Net : Mk K CN fi) (D_Net_init : Inn K CN "Net.__init__" sInit ["self", "houses", "roads"] fi fdi) (G_Net_init : FnOk P w K mg base CX0 5 fi fdi ["self", "houses", "roads"] (spInit K CN))
    (D_arrivals : Dn K mg "arrivals" sArr ["net", "letters", "plan"] fr fdr) (G_arrivals : FnOk P w K mg base CX0 6 fr fdr ["net", "letters", "plan"] (spArr C CN))
    (D__law_spots : Dn K mg "_law_spots" sSps ["_law_net", "_law_letters", "_law_plan_here", "_law_turn"] fs fds) (G__law_spots : FnOk P w K mg base CX0 7 fs fds ["_law_net", "_law_letters", "_law_plan_here", "_law_turn"] (spSps C CN))
    (D__law_fits : Dn K mg "_law_fits" sFit ["_law_lines", "_law_spots_here"] ft fdt) (G__law_fits : FnOk P w K mg base CX0 1 ft fdt ["_law_lines", "_law_spots_here"] spFit)
    (D__law_sent : Dn K mg "_law_sent" sSent ["_law_plan_here", "_law_turn"] fu fdu) (G__law_sent : FnOk P w K mg base CX0 1 fu fdu ["_law_plan_here", "_law_turn"] spSent)
    (D__law_goes_on : Dn K mg "_law_goes_on" sGo pGo fv fdv) (G__law_goes_on : FnOk P w K mg base CX0 2 fv fdv pGo spGo) :
    FnOk P w K mg base CX0 8 f fd ["_law_script"] (spLaw K) := by
  refine F.ok scLaw (fun vs H Q E h => ?_) (fun cdv A outer s H vs Q E hr h => ?_)
  · obtain ⟨a, ns, rfl, _⟩ := h
    rfl
  · obtain ⟨a, ns, rfl, hS, hns, q⟩ := h
    obtain ⟨m, hm⟩ : ∃ m : Nat, 2 + ns.getD (1 : Int).toNat 0 % 11 = (m : Int) := ⟨(2 + ns.getD (1 : Int).toNat 0 % 11).toNat, by omega⟩
    have hm2 : 2 ≤ m ∧ m ≤ 12 := by omega
    obtain ⟨hs, ehs⟩ : ∃ hs, hs = housesN (ns.getD (0 : Int).toNat 0) m := ⟨_, rfl⟩
    have G : Good hs := by rw [ehs]; exact housesN_good hm2.2
    have hl : hs.length = m := by rw [ehs, housesN_len]
    refine ⟨_, (pss_cons (ps_set (i := 1) scLaw.nd rfl (Or.inr rfl) (pe_call G__law_houses (hr.mono (by decide)) (by rfl) D__law_houses.at_ D__law_houses.fn.kp D__law_houses.bd .nil pass0 (pa_cons (pe_call G__law_cell_at (hr.mono (by decide)) (by rfl) D__law_cell_at.at_ D__law_cell_at.fn.kp D__law_cell_at.bd .nil pass0 (pa_cons (pv 0) (pa_cons pe_int pa_nil))) (pa_cons (pe_op op_add pe_int (pe_op op_mod (pe_call G__law_cell_at (hr.mono (by decide)) (by rfl) D__law_cell_at.at_ D__law_cell_at.fn.kp D__law_cell_at.bd .nil pass0 (pa_cons (pv 0) (pa_cons pe_int pa_nil))) pe_int)) pa_nil))))
      (pss_cons (ps_set (i := 2) scLaw.nd rfl (Or.inr rfl) (pe_op op_mod (pe_call G__law_cell_at (hr.mono (by decide)) (by rfl) D__law_cell_at.at_ D__law_cell_at.fn.kp D__law_cell_at.bd .nil pass0 (pa_cons (pv 0) (pa_cons pe_int pa_nil))) (pe_op op_sub (pe_op op_pow pe_int pe_int) pe_int)))
      (pss_cons (ps_setLC (i := 3) scLaw.nd rfl rfl rfl (N' := ["_law_cell", "_law_names"]) (cs := [none, some 1]) rfl (pi_list (pe_slice3 (pv 0) (po_some pe_int) (po_some pe_int) pe_int)) rfl (by decide +kernel) rfl (by decide +kernel) (sub_of (List.forall_mem_cons.mpr ⟨rfl, (fun p hp => absurd hp (List.not_mem_nil))⟩)) rfl
        (.own (.cap rfl (.inl rfl) (.inl rfl) rfl .nil))
        (fun C s3 H3 fp pn => ⟨(pg_name (i := 0) (by show (["_law_cell", "_law_names"] : List Str).Nodup; decide +kernel) rfl (.inl rfl)), pif_nil, (pe_call G__law_road (hr.mono (by decide)) (by rfl) D__law_road.at_ D__law_road.fn.kp D__law_road.bd .nil pass0 (pa_cons (pv 0) (pa_cons (pv 1) pa_nil)))⟩))
      (pss_cons (ps_setLC (i := 4) scLaw.nd rfl rfl rfl (N' := ["_law_cell", "_law_names", "_law_base"]) (cs := [none, some 1, some 2]) rfl (pi_list (pe_slice3 (pv 0) (po_some pe_int) (po_some pe_int) pe_int)) rfl (by decide +kernel) rfl (by decide +kernel) (sub_of (List.forall_mem_cons.mpr ⟨rfl, (List.forall_mem_cons.mpr ⟨rfl, (fun p hp => absurd hp (List.not_mem_nil))⟩)⟩)) rfl
        (.own (.cap rfl (.inl rfl) (.inl rfl) rfl (.cap rfl (.inl rfl) (.inl rfl) rfl .nil)))
        (fun C s3 H3 fp pn => ⟨(pg_name (i := 0) (by show (["_law_cell", "_law_names", "_law_base"] : List Str).Nodup; decide +kernel) rfl (.inl rfl)), pif_nil, (pe_call G__law_letter (hr.mono (by decide)) (by rfl) D__law_letter.at_ D__law_letter.fn.kp D__law_letter.bd .nil pass0 (pa_cons (pv 0) (pa_cons (pv 1) (pa_cons (pv 2) pa_nil))))⟩))
      (pss_cons (ps_set (i := 5) scLaw.nd rfl (Or.inl rfl) (pe_make Mk_Net G_Net_init (hr.mono (by decide)) (by rfl) at_Net D_Net_init.bd .nil pass0 (pa_cons (pv 1) (pa_cons (pv 3) pa_nil))))
      (pss_cons (ps_set (i := 6) scLaw.nd rfl (Or.inl rfl) (pe_call G__law_plan (hr.mono (by decide)) (by rfl) D__law_plan.at_ D__law_plan.fn.kp D__law_plan.bd .nil pass0 (pa_cons (pe_call G__law_legs (hr.mono (by decide)) (by rfl) D__law_legs.at_ D__law_legs.fn.kp D__law_legs.bd .nil pass0 (pa_cons (pv 3) (pa_cons (pv 4) (pa_cons (pv 0) (pa_cons pe_int pa_nil))))) pa_nil)))
      (pss_cons (ps_set (i := 7) scLaw.nd rfl (Or.inl rfl) (pe_call G_arrivals (hr.mono (by decide)) (by rfl) D_arrivals.at_ D_arrivals.fn.kp D_arrivals.bd .nil pass0 (pa_cons (pv 5) (pa_cons (pv 4) (pa_cons (pv 6) pa_nil)))))
      (pss_cons (ps_set (i := 8) scLaw.nd rfl (Or.inl rfl) (pe_op op_add (pv 2) (pe_op op_mod (pe_op op_fdiv (pe_call G__law_cell_at (hr.mono (by decide)) (by rfl) D__law_cell_at.at_ D__law_cell_at.fn.kp D__law_cell_at.bd .nil pass0 (pa_cons (pv 0) (pa_cons pe_int pa_nil))) pe_int) pe_int)))
      (pss_cons (ps_set (i := 9) scLaw.nd rfl (Or.inl rfl) (pe_call G__law_spots (hr.mono (by decide)) (by rfl) D__law_spots.at_ D__law_spots.fn.kp D__law_spots.bd .nil pass0 (pa_cons (pv 5) (pa_cons (pv 4) (pa_cons (pv 6) (pa_cons (pv 8) pa_nil))))))
      (pss_cons (ps_for PassesOwn.never rfl (pi_range2 rfl B.range (pa_cons (pe_op op_add (pv 8) pe_int) (pa_cons (pe_op op_add (pv 8) pe_int) pa_nil))) (pg_name (i := 10) scLaw.nd rfl (Or.inl rfl))
        (pss_cons (ps_set (i := 11) scLaw.nd rfl (Or.inl rfl) (pe_call G__law_spots (hr.mono (by decide)) (by rfl) D__law_spots.at_ D__law_spots.fn.kp D__law_spots.bd .nil pass0 (pa_cons (pv 5) (pa_cons (pv 4) (pa_cons (pv 6) (pa_cons (pv 10) pa_nil))))))
      (pss_cons (ps_if (PW.pt (pw_or (pt_cmpR (op_inD (in65 hr)) pe_non (pv 9) (by rfl)) (pw_or (pt_cmpR (op_inD (in65 hr)) pe_non (pv 11) (by rfl)) (pw_or1 (pt_not (pt_val (pe_call G__law_fits (hr.mono (by decide)) (by rfl) D__law_fits.at_ D__law_fits.fn.kp D__law_fits.bd .nil pass0 (pa_cons (pv 3) (pa_cons (pv 11) pa_nil))))))))) (pss_one (ps_ret pe_bl)) pss_nil)
      (pss_cons (ps_if (pt_not (pt_val (pe_call G__law_goes_on (hr.mono (by decide)) (by rfl) D__law_goes_on.at_ D__law_goes_on.fn.kp D__law_goes_on.bd .nil pass0 (pa_cons (pv 3) (pa_cons (pv 4) (pa_cons (pv 9) (pa_cons (pv 11) (pa_cons (pe_call G__law_sent (hr.mono (by decide)) (by rfl) D__law_sent.at_ D__law_sent.fn.kp D__law_sent.bd .nil pass0 (pa_cons (pv 6) (pa_cons (pv 10) pa_nil))) (pa_cons (pv 10) pa_nil))))))))) (pss_one (ps_ret pe_bl)) pss_nil)
      (pss_cons (ps_for PassesOwn.never rfl (pi_zip2 rfl B.zip (pa_cons (pv 11) (pa_cons (pv 7) pa_nil))) (pg_tup rfl (pgs_cons (pg_name (i := 12) scLaw.nd rfl (Or.inl rfl)) (pgs_cons (pg_name (i := 13) scLaw.nd rfl (Or.inl rfl)) pgs_nil)))
        (pss_one (ps_if (PW.pt (pw_or (pt_cmpR op_ne (pe_cmpR op_eq (pe_ix ix_list (pv 12) pe_int (fun _ _ => rfl)) pe_str (nomark _)) (pe_and (pe_cmpR op_notN (pv 13) pe_non (nomark _)) (pe_one (pe_cmpR op_le (pv 13) (pv 10) (nomark _)))) (nomark _)) (pw_or1 (PW.pt (pw_and (pt_cmpR op_eq (pe_ix ix_list (pv 12) pe_int (fun _ _ => rfl)) pe_str (nomark _)) (pw_and1 (pt_cmpR op_ne (pe_ix ix_list (pv 12) pe_int (fun _ _ => rfl)) (pv 13) (nomark _)))))))) (pss_one (ps_ret pe_bl)) pss_nil)))
      (pss_one (ps_set (i := 9) scLaw.nd rfl (Or.inl rfl) (pv 11))))))))
      (pss_one (ps_ret (pe_and (pe_cmpR (op_notInD (in65 hr)) pe_non (pv 9) (by rfl)) (pe_one (pe_cmpR op_eq (pe_callB call_len_seq (by rfl) B.len bt_len (pa_cons (pv 7) pa_nil)) (pe_callB call_len_seq (by rfl) B.len bt_len (pa_cons (pv 4) pa_nil)) (nomark _)))))))))))))))), ?_⟩
    refine ⟨_, rfl, a, ns, 0, rfl, hS, by decide, _, rfl, a, ns, 1, rfl, hS, by decide, _, _, rfl, rfl, (by show (0 : Int) < 11; decide), _, _, rfl, rfl, ns.getD (0 : Int).toNat 0, m, ?_, hm2.2, fun p1 H1 np1 s1 h1 => ?_⟩
    · show [V.int _, V.int (2 + ns.getD (1 : Int).toNat 0 % 11)] = _
      rw [hm]
    rw [← ehs] at h1
    have hS1 := s1.seq hS
    refine ⟨_, rfl, a, ns, 2, rfl, hS1, by decide, _, _, rfl, rfl, ⟨by decide, by decide, by decide⟩, _, _, rfl, rfl, _, _, rfl, rfl, (by show (0 : Int) < 10 ^ (9 : Int).toNat - 29; decide), ?_⟩
    have hb0 : 0 ≤ ns.getD (2 : Int).toNat 0 % (10 ^ (9 : Int).toNat - 29) := Int.emod_nonneg _ (by decide)
    have hb1 : ns.getD (2 : Int).toNat 0 % (10 ^ (9 : Int).toNat - 29) < 10 ^ (9 : Int).toNat - 29 := Int.emod_lt_of_pos _ (by decide)
    have hb2 : ns.getD (2 : Int).toNat 0 % (10 ^ (9 : Int).toNat - 29) < 1000000000 := Int.lt_trans hb1 (by decide)
    dsimp only
    generalize ns.getD (2 : Int).toNat 0 % (10 ^ (9 : Int).toNat - 29) = bs at hb0 hb2 ⊢
    clear hb1
    -- the roads
    obtain ⟨mr, emr⟩ : ∃ mr, mr = stepV ns (some 3) (some 21) 2 := ⟨_, rfl⟩
    have lmr : mr.length ≤ 9 := by rw [emr]; exact stepV_two ns 3 21
    obtain ⟨ds, eds⟩ : ∃ ds : List M1.Rd, ds = mr.map fun c => mrd hs.length c := ⟨_, rfl⟩
    have hds : ∀ d ∈ ds, d.Ok hs.length := fun d hd => by
      rw [eds] at hd
      obtain ⟨c, _, rfl⟩ := List.mem_map.mp hd
      exact mrd_ok (by omega) c
    have lds : ds.length ≤ 9 := by rw [eds, List.length_map]; exact lmr
    dsimp only [tSeq, tAsg, gName]
    refine tlc_tupS (K := K) (Hs := H1) (xs := mr.map V.int) (rest := [some (.ref p1)]) (fun R hR => ⟨_, rfl, _, rfl, _, rfl, a, _, _, rfl, rfl, (by decide), hS1, fun p np => ⟨p, rfl, ⟨_, SqL.of upd_same⟩, ?_⟩⟩) rfl (small1000 (by rw [List.length_map]; omega)) (fun v => match v with | .int c => rdV hs (mrd hs.length c) | _ => []) (fun i y H2 R ey sm kk => ?_) (fun D2 H2 rs hD2 tp s12 => ?_)
    · have := hR p np
      rw [emr] at this
      rw [stepV_map]
      exact this
    · obtain ⟨c, _, rfl⟩ := List.mem_map.mp (List.mem_of_getElem? ey)
      exact ⟨_, rfl, _, rfl, c, p1, hs, rfl, sm _ _ h1, by omega, by omega, fun r2 nr2 => kk r2 _ (upd_free nr2) upd_same⟩
    have tp2 : Tups H2 rs (ds.map (rdV hs)) := by
      rw [eds, List.map_map]
      rw [List.map_map] at tp
      exact tp
    have hR : RoadsAt H2 hs rs ds := ⟨tp2, hds⟩
    have few : rs.length ≤ 9 := by rw [hR.len]; exact lds
    have hS2 := s12.seq hS1
    have h12 := s12 _ _ h1
    clear tp tp2 hS1 h1 s1 s12 np1
    -- the letters
    obtain ⟨ml, eml⟩ : ∃ ml, ml = stepV ns (some 4) (some 22) 2 := ⟨_, rfl⟩
    have lml : ml.length ≤ 9 := by rw [eml]; exact stepV_two ns 4 22
    have nml : ml = [] ∨ 0 < ns.length := by
      cases ns with
      | nil => exact .inl (by rw [eml]; rfl)
      | cons _ _ => exact .inr (Nat.succ_pos _)
    obtain ⟨lts, els⟩ : ∃ lts : List (Str × Int × Str), lts = ml.map fun c => lt3 hs (lt hs.length c bs) := ⟨_, rfl⟩
    have oks : ∀ d ∈ lts, LtOkB d := fun d hd => by
      rw [els] at hd
      obtain ⟨c, _, rfl⟩ := List.mem_map.mp hd
      have ok := lt_ok (n := hs.length) (by omega) c bs
      have e1 : hs.getD (lt hs.length c bs).a [] = hs[(lt hs.length c bs).a]'ok.a := by rw [List.getD, List.getElem?_eq_getElem ok.a]; rfl
      have e2 : hs.getD (lt hs.length c bs).b [] = hs[(lt hs.length c bs).b]'ok.b := by rw [List.getD, List.getElem?_eq_getElem ok.b]; rfl
      refine ⟨?_, fun z => ?_, ?_, ?_⟩
      · have nm := G.at ok.a
        exact ⟨by show (S (hs.getD (lt hs.length c bs).a [])).length ≤ 8; rw [S_len]; exact nm.2.1, strOk_nm nm⟩
      · have z : S (hs.getD (lt hs.length c bs).a []) = S (hs.getD (lt hs.length c bs).b []) := z
        have z := S_inj z
        rw [e1, e2] at z
        exact ok.ne ((List.getElem_inj G.nd).mp z)
      · have := ok.lo
        show 0 ≤ (lt hs.length c bs).t
        omega
      · have := ok.hi
        show (lt hs.length c bs).t ≤ 2000000000
        omega
    have llt : lts.length ≤ 9 := by rw [els, List.length_map]; exact lml
    refine tlc_tupS (K := K) (Hs := H2) (xs := ml.map V.int) (rest := [some (.ref p1), some (.int bs)]) (fun R hR => ⟨_, rfl, _, rfl, _, rfl, a, _, _, rfl, rfl, (by decide), hS2, fun p np => ⟨p, rfl, ⟨_, SqL.of upd_same⟩, ?_⟩⟩) rfl (small1000 (by rw [List.length_map]; omega)) (fun v => match v with | .int c => ltV hs (lt hs.length c bs) | _ => []) (fun i y H3 R ey sm kk => ?_) (fun D3 H3 lr hD3 tp s23 => ?_)
    · have := hR p np
      rw [eml] at this
      rw [stepV_map]
      exact this
    · obtain ⟨c, _, rfl⟩ := List.mem_map.mp (List.mem_of_getElem? ey)
      exact ⟨_, rfl, _, rfl, _, rfl, c, bs, p1, hs, rfl, sm _ _ h12, by omega, by omega, fun r2 nr2 => kk r2 _ (upd_free nr2) upd_same⟩
    have tpl : Tups H3 lr (lts.map ltT) := by
      rw [els, List.map_map]
      rw [List.map_map] at tp
      exact tp
    have lrl : lr.length = lts.length := by have := tpl.len; rw [List.length_map] at this; exact this
    have hS3 := s23.seq hS2
    have h13 := s23 _ _ h12
    have hD23 := s23 _ _ hD2
    have hR3 := hR.same s23
    clear tp hS2 h12 hD2 hR s23
    -- the net
    refine ⟨_, rfl, _, rfl, fun x dx nx ndx nd => ?_⟩
    have mk : ∀ {b : Addr} {v : HO}, H3 b = some v → upd (upd H3 dx (.own x)) x (.ins CN dx []) b = some v := fun {b v} e => by
      rw [upd_ne (ne_of_none e nx), upd_ne (ne_of_none e ndx)]
      exact e
    refine ⟨x, dx, p1, D2, hs, rs, ds, rfl, upd_same, mk h13, G, mk hD23, hR3.same (fun b v e => mk e), (by omega), fun H4 a' b' sb hx4 ha4 hb4 na nb => ⟨rfl, ?_⟩⟩
    have s34 : Same H3 H4 := make_same nx ndx sb
    have net : NetAt CN H4 x a' b' (txs hs) (refs rs) := ⟨⟨dx, hx4⟩, ha4, hb4⟩
    have hD24 := s34 _ _ hD23
    have hD34 := s34 _ _ hD3
    have tpl4 := tpl.same s34
    have hR4 := hR3.same s34
    have hS4 := s34.seq hS3
    clear mk hS3 h13 hD23 hD3 tpl hR3 sb nx ndx nd s34 hx4 ha4 hb4 na nb
    -- the legs, the plan
    refine ⟨_, rfl, _, rfl, _, rfl, D2, D3, a, rs, lr, hs, ds, lts, ns, 2, rfl, hD24, hR4, (by omega), hD34, tpl4, (by omega), hS4, ?_, (by decide), (by decide), fun H5 lg ms legs nlg s45 hlg lgs L => ?_⟩
    · rcases nml with z | z
      · left
        have : lts.length = 0 := by rw [els, z]; rfl
        exact List.length_eq_zero_iff.mp (by omega)
      · exact .inr z
    have lel := L.len
    have k3 : ∀ ks ∈ legs, ks.length ≤ 3 := fun ks hk => by
      obtain ⟨i, hi, rfl⟩ := List.getElem_of_mem hk
      exact (L.ch i _ _ (List.getElem?_eq_getElem (by omega)) (List.getElem?_eq_getElem hi)).2.1
    refine ⟨lg, ms, hs, ds, legs, rfl, hlg, lgs, (by omega), k3, fun H6 pp pa bgs npp s56 hpp hbs PL fewb => ?_⟩
    have s46 := s45.trans s56
    have net6 := net.same s46
    have hD26 := s46 _ _ hD24
    have hD36 := s46 _ _ hD34
    have tpl6 := tpl4.same s46
    have hR6 := hR4.same s46
    have hS6 := s46.seq hS4
    clear net hD24 hD34 tpl4 hR4 hS4 hlg lgs s46 s45 s56 npp nlg
    have pal := Paired.length hbs
    have ht := road_up hR6
    have wk := Wks.whole L PL ht (by omega)
    have fl := stt_len hs ds lts legs fun _ => true
    -- when they are home
    refine ⟨_, rfl, _, rfl, _, rfl, x, a', b', D3, pp, rs, lr, pa, lts, hs, ds, bgs, _, rfl, net6, hR6, (by omega), hD36, tpl6, (by omega), hpp, hbs, (by omega), wk, fl, (fun ss hss => (stt_few L ss hss).2), fun H7 hm' nhm s67 hhm => ?_⟩
    have homeAt : ∀ (i : Nat) (v : L2.V), ((List.range lts.length).map fun i => homeL ((stt hs ds lts legs fun _ => true).getD i []) ((lts.map fun d => d.2.2).getD i (Str.ofString "")))[i]? = some v → ∃ d ks, lts[i]? = some d ∧ legs[i]? = some ks ∧ v = homeK hs ds d ks := fun i v ev => by
      rw [List.getElem?_map] at ev
      obtain ⟨j, ej, rfl⟩ := Option.map_eq_some_iff.mp ev
      obtain ⟨hi, e⟩ := List.getElem?_eq_some_iff.mp ej
      rw [List.length_range] at hi
      rw [List.getElem_range] at e
      subst e
      have ed : lts[i]? = some lts[i] := List.getElem?_eq_getElem hi
      have eks : legs[i]? = some legs[i] := List.getElem?_eq_getElem (by omega)
      have ey2 : (lts.map fun d => d.2.2)[i]? = some lts[i].2.2 := by rw [List.getElem?_map, ed]; rfl
      refine ⟨_, _, ed, eks, ?_⟩
      rw [gd_of (stt_at ed eks), gd_of ey2, home_last]
    have hml : ((List.range lts.length).map fun i => homeL ((stt hs ds lts legs fun _ => true).getD i []) ((lts.map fun d => d.2.2).getD i (Str.ofString ""))).length = lts.length := by rw [List.length_map, List.length_range]
    generalize ((List.range lts.length).map fun i => homeL ((stt hs ds lts legs fun _ => true).getD i []) ((lts.map fun d => d.2.2).getD i (Str.ofString ""))) = hvs at hhm homeAt hml
    have net7 := net6.same s67
    have hD27 := s67 _ _ hD26
    have hD37 := s67 _ _ hD36
    have tpl7 := tpl6.same s67
    have hR7 := hR6.same s67
    have hpp7 := s67 _ _ hpp
    have hbs7 : Paired (BagAt H7) pa bgs := Paired.mapP hbs fun _ _ e => e.same s67
    have hS7 := s67.seq hS6
    clear net6 hD26 hD36 tpl6 hR6 hpp hbs s67 hS6 wk
    -- the first turn
    refine ⟨_, rfl, _, rfl, a, ns, 1, rfl, hS7, by decide, _, _, rfl, rfl, ⟨by decide, by decide⟩, _, _, rfl, rfl, (by show (0 : Int) < 28; decide), _, _, rfl, rfl, ?_⟩
    have f0 : 0 ≤ ns.getD (1 : Int).toNat 0 / 11 % 28 := Int.emod_nonneg _ (by decide)
    have f1 : ns.getD (1 : Int).toNat 0 / 11 % 28 < 28 := Int.emod_lt_of_pos _ (by decide)
    dsimp only
    generalize hfst : bs + ns.getD (1 : Int).toNat 0 / 11 % 28 = fst
    have g0 : 0 ≤ fst ∧ fst < 2000000000 := by omega
    clear hfst f0 f1
    have fewB : ∀ b ∈ bgs, b.2.length ≤ 100 := fun b hb => by
      rw [(PL.mem b hb).1]
      have h1 := nums_le (evs legs) b.1
      have h2 : (evs legs).length = legs.flatten.length := by
        have := congrArg List.length (evsF_fst legs 0)
        rw [List.length_map] at this
        exact this
      have h3 : ∀ (l : List (List Kt)), (∀ ks ∈ l, ks.length ≤ 3) → l.flatten.length ≤ 3 * l.length := fun l => by
        induction l with
        | nil => exact fun _ => Nat.le_refl _
        | cons k l ih =>
          intro h
          have := ih fun ks hk => h ks (.tail _ hk)
          have := h k (.head _)
          rw [List.flatten_cons, List.length_append, List.length_cons]
          omega
      have := h3 legs k3
      omega
    have okS : ∀ t, ∀ s ∈ spotsL hs ds lts legs t, SpOk s := fun t s hs' => by
      obtain ⟨i, hi, rfl⟩ := List.getElem_of_mem hs'
      rw [spotsL_len lel] at hi
      have ed : lts[i]? = some lts[i] := List.getElem?_eq_getElem hi
      have eks : legs[i]? = some legs[i] := List.getElem?_eq_getElem (by omega)
      have e := spotsL_get (hs := hs) (ds := ds) (t := t) ed eks
      rw [List.getElem?_eq_getElem (by rw [spotsL_len lel]; exact hi)] at e
      rw [Option.some.inj e]
      exact due_ok hR7 (by omega) G L ht ed eks (oks _ (List.mem_of_getElem? ed)) t
    have fitS : ∀ t, ∀ r, r < ds.length → ∀ u, (((((spotsL hs ds lts legs t).filter (isOn r)).map dueOf).count u : Nat) : Int) ≤ rRm ds r := fun t r hr u => by
      have h1 := fits_len (hs := hs) (ds := ds) (t := t) (r := r) (u := u) (lts := lts) (legs := legs)
      have h2 := L.cn (u - rTn ds r, r)
      have h2 : (legs.flatten.count (u - rTn ds r, r) : Int) ≤ rRm ds r := h2
      omega
    refine ⟨_, rfl, _, rfl, _, rfl, _, rfl, x, a', b', D3, pp, rs, lr, pa, lts, hs, ds, legs, bgs, fst, rfl, net7, hR7, (by omega), hD37, tpl7, (by omega), hpp7, hbs7, fewb, L, PL, oks, fun H8 bf s78 hbf => ?_⟩
    refine ⟨_, rfl, _, _, rfl, rfl, _, rfl, _, _, rfl, rfl, fst + 1, fst + 10, rfl, ⟨by omega, by omega, by omega, by omega⟩, ?_⟩
    refine for_range (lo := fst + 1) (n := (fst + 10 - (fst + 1)).toNat) (fun i σ Hc => ∃ (bf : Addr) (v10 v11 v12 v13 : Option L2.V), σ = [some (.ref a), some (.ref p1), some (.int bs), some (.ref D2), some (.ref D3), some (.ref x), some (.ref pp), some (.ref hm'), some (.int fst), some (.ref bf), v10, v11, v12, v13] ∧ Same H7 Hc ∧ SpL Hc bf (spotsL hs ds lts legs (fst + i)))
      ⟨bf, none, none, none, none, rfl, s78, by rw [Int.natCast_zero, Int.add_zero]; exact hbf⟩ ?_ ?_
    · rintro i σ Hc hi ⟨bf, v10, v11, v12, v13, rfl, sc, hbf⟩
      have et : fst + 1 + (i : Int) = fst + (i : Int) + 1 := by omega
      have ei : fst + ((i + 1 : Nat) : Int) = fst + (i : Int) + 1 := by omega
      rw [et]
      rw [ei]
      generalize fst + (i : Int) = t at hbf et ei ⊢
      refine ⟨_, rfl, _, rfl, _, rfl, _, rfl, x, a', b', D3, pp, rs, lr, pa, lts, hs, ds, legs, bgs, t + 1, rfl, net7.same sc, hR7.same sc, (by omega), sc _ _ hD37, tpl7.same sc, (by omega), sc _ _ hpp7, (Paired.mapP hbs7 fun _ _ e => e.same sc), fewb, L, PL, oks, fun Hd af sd haf => ?_⟩
      have scd := sc.trans sd
      have hbf := hbf.same sd
      obtain ⟨lb, hb1, hb2⟩ := id hbf
      obtain ⟨la, ha1, ha2⟩ := id haf
      refine ⟨_, rfl, _, _, .non, .lst (SqL.of hb1) (dts_spots hb2), rfl, spots_can (okS t), _, rfl, iteN (spots_none _) ?_⟩
      refine ⟨_, rfl, _, _, .non, .lst (SqL.of ha1) (dts_spots ha2), rfl, spots_can (okS (t + 1)), _, rfl, iteN (spots_none _) ?_⟩
      refine ⟨_, rfl, _, rfl, D2, af, rs, hs, ds, _, rfl, scd _ _ hD27, hR7.same scd, (by omega), haf, (by rw [spotsL_len lel]; omega), okS (t + 1), fitS (t + 1), fun He se => ⟨_, rfl, iteF ?_⟩⟩
      have sce := scd.trans se
      refine ⟨_, rfl, _, rfl, _, rfl, _, rfl, _, rfl, _, rfl, pp, pa, bgs, t + 1, rfl, sce _ _ hpp7, (Paired.mapP hbs7 fun _ _ e => e.same sce), (by omega), fewB, fun dd Hf kvs nd sf hdd ev => ?_⟩
      have scf := sce.trans sf
      have haf := haf.same (se.trans sf)
      have hbf := hbf.same (se.trans sf)
      refine ⟨_, rfl, D2, D3, bf, af, dd, rs, lr, kvs, lts, hs, ds, legs, bgs, t, rfl, scf _ _ hD27, hR7.same scf, (by omega), G, scf _ _ hD37, tpl7.same scf, hbf, haf, hdd, ev, L, PL, oks, fun Hg sg => ⟨_, rfl, iteF ?_⟩⟩
      have scg := scf.trans sg
      have haf := haf.same sg
      obtain ⟨la, ha1, ha2⟩ := id haf
      have lal := Paired.length ha2
      have hmg := scg _ _ hhm
      have rla := refs_len la
      refine ⟨_, rfl, _, rfl, af, hm', rfl, ⟨_, SqL.of ha1⟩, ⟨_, SqL.of hmg⟩, ?_⟩
      refine for_zip2 (K := K) (a := af) (b := hm') (xs := refs la) (ys := hvs) (by rw [rla, lal, spotsL_len lel, hml]) (fun j σ Hh => ∃ (v12 v13 : Option L2.V), σ = [some (.ref a), some (.ref p1), some (.int bs), some (.ref D2), some (.ref D3), some (.ref x), some (.ref pp), some (.ref hm'), some (.int fst), some (.ref bf), some (.int (t + 1)), some (.ref af), v12, v13] ∧ Same Hg Hh)
        ⟨v12, v13, rfl, Same.refl _⟩ (fun j σ Hh ⟨_, _, _, h⟩ => ⟨SqL.of (h _ _ ha1), SqL.of (h _ _ hmg)⟩) ?_ ?_
      · rintro j v y σ Hh pt ev2 ey ⟨v12, v13, rfl, sh⟩ npt
        obtain ⟨d, ks, ed, eks, rfl⟩ := homeAt j y ey
        unfold refs at ev2
        rw [List.getElem?_map] at ev2
        obtain ⟨l, el, rfl⟩ := Option.map_eq_some_iff.mp ev2
        obtain ⟨sp, esp, hl⟩ := Paired.get ha2 el
        rw [spotsL_get ed eks] at esp
        cases esp
        have hl : Hg l = some (.lst (spV (dueS hs ds d ks (t + 1)))) := hl
        have spt := upd_free (o := .tup [V.ref l, homeK hs ds d ks]) npt
        refine ⟨pt, _, rfl, SqT.of upd_same, rfl, ?_⟩
        have shp := sh.trans spt
        generalize upd Hh pt (.tup [V.ref l, homeK hs ds d ks]) = Hi at spt shp ⊢
        refine ⟨_, _, rfl, _, _, rfl, rfl, ?_⟩
        have hl := SqL.of (K := K) (shp _ _ hl)
        have cok := (L.ch j d ks ed eks).1
        have okd := oks d (List.mem_of_getElem? ed)
        have hi' := fun u => home_iff (t := t + 1) (u := u) ht cok okd.2.1
        obtain ⟨x0, ex0, eh0⟩ := first_home (s := dueS hs ds d ks (t + 1))
        have at0 : L2.atI (spV (dueS hs ds d ks (t + 1))) 0 = some (.str x0) := (show L2.atI _ ((0 : Nat) : Int) = _ from atI_nat ex0)
        have nh : (∀ u, dueS hs ds d ks (t + 1) ≠ .home u) → decide (V.str x0 = V.str (Str.ofString "home")) = false := fun z => by
          rw [eh0]
          cases e : dueS hs ds d ks (t + 1) with
          | home u => exact absurd e (z u)
          | ny => rfl
          | at_ _ _ => rfl
          | on _ _ => rfl
        have ne0 : decide (V.str x0 = V.str (Str.ofString "home")) = false → ¬ x0 = Str.ofString "home" := fun e z => by
          rw [z] at e
          simp at e
        unfold homeK
        by_cases hg : endS hs ds d.1 ks = d.2.2
        · rw [if_pos hg]
          by_cases hE : endT ds d.2.1 ks ≤ t + 1
          · have e1 := (hi' _).mpr ⟨hg, hE, rfl⟩
            rw [e1] at hl
            refine ⟨_, rfl, l, _, _, _, rfl, rfl, hl, rfl, rfl, _, rfl, rfl, _, rfl, iteB (by simp) ⟨_, rfl, _, rfl, _, _, rfl, rfl, rfl, _, rfl, iteN (by simp [hE]) ?_⟩⟩
            refine ⟨_, rfl, l, _, _, _, rfl, rfl, hl, rfl, rfl, _, rfl, iteB (by simp) ⟨_, rfl, l, _, _, _, rfl, rfl, hl, rfl, _, rfl, rfl, _, rfl, iteN (by simp) ?_⟩⟩
            exact ⟨_, _, rfl, shp⟩
          · have e1 := nh fun u z => hE ((hi' u).mp z).2.1
            refine ⟨_, rfl, l, _, _, _, rfl, rfl, hl, at0, rfl, _, rfl, rfl, _, rfl, iteB (by simp) ⟨_, rfl, _, rfl, _, _, rfl, rfl, rfl, _, rfl, iteN (by simp [hE, ne0 e1]) ?_⟩⟩
            refine ⟨_, rfl, l, _, _, _, rfl, rfl, hl, at0, rfl, _, rfl, iteN e1 (iteN rfl ?_)⟩
            exact ⟨_, _, rfl, shp⟩
        · rw [if_neg hg]
          have e1 := nh fun u z => hg ((hi' u).mp z).1
          refine ⟨_, rfl, l, _, _, _, rfl, rfl, hl, at0, rfl, _, rfl, rfl, _, rfl, iteN (by simp) ⟨rfl, _, rfl, iteN (by simp [ne0 e1]) ?_⟩⟩
          refine ⟨_, rfl, l, _, _, _, rfl, rfl, hl, at0, rfl, _, rfl, iteN e1 (iteN rfl ?_)⟩
          exact ⟨_, _, rfl, shp⟩
      · rintro σ Hh ⟨v12, v13, rfl, sh⟩
        exact ⟨_, rfl, af, _, _, _, _, rfl, scg.trans sh, haf.same sh⟩
    · rintro σ Hc ⟨bf, v10, v11, v12, v13, rfl, sc, hbf⟩
      obtain ⟨lb, hb1, hb2⟩ := id hbf
      refine ⟨_, rfl, _, _, .non, .lst (SqL.of hb1) (dts_spots hb2), rfl, spots_can (okS _), _, rfl, iteB (by rw [spots_none]; rfl) ?_⟩
      refine ⟨_, rfl, hm', _, rfl, .inl (SqL.of (sc _ _ hhm)), _, rfl, D3, _, rfl, .inl (SqL.of (sc _ _ hD37)), rfl, bl_of (decide_eq_true ?_) (q _)⟩
      rw [hml, refs_len, lrl]
end
end K1
set_option Elab.async false
set_option linter.all false
set_option maxRecDepth 100000
set_option maxHeartbeats 4000000
namespace K1
open PySem L2 L3 M1
theorem len_1 {us : List Value} (h : us.length = 1) : ∃ a0, us = [a0] := by
  rcases us with _ | ⟨a0, _ | ⟨b, r⟩⟩
  · simp at h
  · exact ⟨a0, rfl⟩
  · simp at h
theorem len_2 {us : List Value} (h : us.length = 2) : ∃ a0 a1, us = [a0, a1] := by
  rcases us with _ | ⟨a0, _ | ⟨a1, _ | ⟨b, r⟩⟩⟩
  · simp at h
  · simp at h
  · exact ⟨a0, a1, rfl⟩
  · simp at h
theorem len_3 {us : List Value} (h : us.length = 3) : ∃ a0 a1 a2, us = [a0, a1, a2] := by
  rcases us with _ | ⟨a0, _ | ⟨a1, _ | ⟨a2, _ | ⟨b, r⟩⟩⟩⟩
  · simp at h
  · simp at h
  · simp at h
  · exact ⟨a0, a1, a2, rfl⟩
  · simp at h
theorem len_4 {us : List Value} (h : us.length = 4) : ∃ a0 a1 a2 a3, us = [a0, a1, a2, a3] := by
  rcases us with _ | ⟨a0, _ | ⟨a1, _ | ⟨a2, _ | ⟨a3, _ | ⟨b, r⟩⟩⟩⟩⟩
  · simp at h
  · simp at h
  · simp at h
  · simp at h
  · exact ⟨a0, a1, a2, a3, rfl⟩
  · simp at h
theorem len_5 {us : List Value} (h : us.length = 5) : ∃ a0 a1 a2 a3 a4, us = [a0, a1, a2, a3, a4] := by
  rcases us with _ | ⟨a0, _ | ⟨a1, _ | ⟨a2, _ | ⟨a3, _ | ⟨a4, _ | ⟨b, r⟩⟩⟩⟩⟩⟩
  · simp at h
  · simp at h
  · simp at h
  · simp at h
  · simp at h
  · exact ⟨a0, a1, a2, a3, a4, rfl⟩
  · simp at h
theorem len_6 {us : List Value} (h : us.length = 6) : ∃ a0 a1 a2 a3 a4 a5, us = [a0, a1, a2, a3, a4, a5] := by
  rcases us with _ | ⟨a0, _ | ⟨a1, _ | ⟨a2, _ | ⟨a3, _ | ⟨a4, _ | ⟨a5, _ | ⟨b, r⟩⟩⟩⟩⟩⟩⟩
  · simp at h
  · simp at h
  · simp at h
  · simp at h
  · simp at h
  · simp at h
  · exact ⟨a0, a1, a2, a3, a4, a5, rfl⟩
  · simp at h
theorem all_mk {l : PySem.W.OpenLaw} {w : World} {K : PySem.W.Frag} {h : Heap} {mg : Str → Option Value} {fa CSpot CNotYet CAtHouse fAtHouse_init COnRoad fOnRoad_init CAtHome fAtHome_init CNet fNet_init fNet_roads fNet_road CWalk fWalk_init fWalk_take_in fWalk_send fWalk_last_house fWalk_last_turn fWalk_home_turn fWalk_can_leave fWalk_spot_at fis_whole fis_whole_within fis_tuple_of fare_unlike_houses fis_name fare_houses fis_road fare_roads fis_bag fare_rising_below freason_against fwalk_of farrivals fspots_at f_law_cell_at f_law_houses f_law_road f_law_letter f_law_legs f_law_plan f_law_told f_law_ahead f_law_sent f_law_goes_on f_law_fits f_law_spots flaw : Addr} {dAtHouse_init dOnRoad_init dAtHome_init dNet_init dNet_roads dNet_road dWalk_init dWalk_take_in dWalk_send dWalk_last_house dWalk_last_turn dWalk_home_turn dWalk_can_leave dWalk_spot_at dis_whole dis_whole_within dis_tuple_of dare_unlike_houses dis_name dare_houses dis_road dare_roads dis_bag dare_rising_below dreason_against dwalk_of darrivals dspots_at d_law_cell_at d_law_houses d_law_road d_law_letter d_law_legs d_law_plan d_law_told d_law_ahead d_law_sent d_law_goes_on d_law_fits d_law_spots dlaw : FuncData} (X : K.In h) (G : h.Ns mainGlobals mg) (hfa : mg "law" = some (.ref fa))
    (aCSpot : PySem.W.nsIn K mainGlobals "Spot" = some (some (.ref CSpot)))
    (pgSpot : PySem.W.plainGet K CSpot Str.empty = true) (hdSpot : PySem.W.hasDictIn K CSpot = true) (poSpot : PySem.W.plainOver K CSpot = true) (saSpot : PySem.W.findIn K (.ref CSpot) "__setattr__" = some (some (.builtin "object.__setattr__"))) (mkSpot : PySem.W.makesIn K CSpot = true) (kcSpot : PySem.W.keepIn K (.ref CSpot) = true)
    (aCNotYet : PySem.W.nsIn K mainGlobals "NotYet" = some (some (.ref CNotYet)))
    (pgNotYet : PySem.W.plainGet K CNotYet Str.empty = true) (hdNotYet : PySem.W.hasDictIn K CNotYet = true) (poNotYet : PySem.W.plainOver K CNotYet = true) (saNotYet : PySem.W.findIn K (.ref CNotYet) "__setattr__" = some (some (.builtin "object.__setattr__"))) (mkNotYet : PySem.W.makesIn K CNotYet = true) (kcNotYet : PySem.W.keepIn K (.ref CNotYet) = true)
    (aCAtHouse : PySem.W.nsIn K mainGlobals "AtHouse" = some (some (.ref CAtHouse)))
    (pgAtHouse : PySem.W.plainGet K CAtHouse Str.empty = true) (hdAtHouse : PySem.W.hasDictIn K CAtHouse = true) (poAtHouse : PySem.W.plainOver K CAtHouse = true) (saAtHouse : PySem.W.findIn K (.ref CAtHouse) "__setattr__" = some (some (.builtin "object.__setattr__"))) (mkAtHouse : PySem.W.makesIn K CAtHouse = true) (kcAtHouse : PySem.W.keepIn K (.ref CAtHouse) = true)
    (nAtHouse_at : PySem.W.findIn K (.ref CAtHouse) "at" = some none)
    (nAtHouse_since : PySem.W.findIn K (.ref CAtHouse) "since" = some none)
    (aAtHouse_init : PySem.W.findIn K (.ref CAtHouse) "__init__" = some (some (.ref fAtHouse_init))) (iAtHouse_init : PySem.W.isFn K (.ref fAtHouse_init) = true)
    (FAtHouse_init : Fun K "__init__" "AtHouse.__init__" sIH fAtHouse_init dAtHouse_init)
    (aCOnRoad : PySem.W.nsIn K mainGlobals "OnRoad" = some (some (.ref COnRoad)))
    (pgOnRoad : PySem.W.plainGet K COnRoad Str.empty = true) (hdOnRoad : PySem.W.hasDictIn K COnRoad = true) (poOnRoad : PySem.W.plainOver K COnRoad = true) (saOnRoad : PySem.W.findIn K (.ref COnRoad) "__setattr__" = some (some (.builtin "object.__setattr__"))) (mkOnRoad : PySem.W.makesIn K COnRoad = true) (kcOnRoad : PySem.W.keepIn K (.ref COnRoad) = true)
    (nOnRoad_by : PySem.W.findIn K (.ref COnRoad) "by" = some none)
    (nOnRoad_due : PySem.W.findIn K (.ref COnRoad) "due" = some none)
    (aOnRoad_init : PySem.W.findIn K (.ref COnRoad) "__init__" = some (some (.ref fOnRoad_init))) (iOnRoad_init : PySem.W.isFn K (.ref fOnRoad_init) = true)
    (FOnRoad_init : Fun K "__init__" "OnRoad.__init__" sIR fOnRoad_init dOnRoad_init)
    (aCAtHome : PySem.W.nsIn K mainGlobals "AtHome" = some (some (.ref CAtHome)))
    (pgAtHome : PySem.W.plainGet K CAtHome Str.empty = true) (hdAtHome : PySem.W.hasDictIn K CAtHome = true) (poAtHome : PySem.W.plainOver K CAtHome = true) (saAtHome : PySem.W.findIn K (.ref CAtHome) "__setattr__" = some (some (.builtin "object.__setattr__"))) (mkAtHome : PySem.W.makesIn K CAtHome = true) (kcAtHome : PySem.W.keepIn K (.ref CAtHome) = true)
    (nAtHome_since : PySem.W.findIn K (.ref CAtHome) "since" = some none)
    (aAtHome_init : PySem.W.findIn K (.ref CAtHome) "__init__" = some (some (.ref fAtHome_init))) (iAtHome_init : PySem.W.isFn K (.ref fAtHome_init) = true)
    (FAtHome_init : Fun K "__init__" "AtHome.__init__" sIA fAtHome_init dAtHome_init)
    (aCNet : PySem.W.nsIn K mainGlobals "Net" = some (some (.ref CNet)))
    (pgNet : PySem.W.plainGet K CNet Str.empty = true) (hdNet : PySem.W.hasDictIn K CNet = true) (poNet : PySem.W.plainOver K CNet = true) (saNet : PySem.W.findIn K (.ref CNet) "__setattr__" = some (some (.builtin "object.__setattr__"))) (mkNet : PySem.W.makesIn K CNet = true) (kcNet : PySem.W.keepIn K (.ref CNet) = true)
    (nNet_kept_houses : PySem.W.findIn K (.ref CNet) "kept_houses" = some none)
    (nNet_kept_roads : PySem.W.findIn K (.ref CNet) "kept_roads" = some none)
    (aNet_init : PySem.W.findIn K (.ref CNet) "__init__" = some (some (.ref fNet_init))) (iNet_init : PySem.W.isFn K (.ref fNet_init) = true)
    (FNet_init : Fun K "__init__" "Net.__init__" sInit fNet_init dNet_init)
    (aNet_roads : PySem.W.findIn K (.ref CNet) "roads" = some (some (.ref fNet_roads))) (iNet_roads : PySem.W.isFn K (.ref fNet_roads) = true)
    (FNet_roads : Fun K "roads" "Net.roads" sRoadsM fNet_roads dNet_roads)
    (aNet_road : PySem.W.findIn K (.ref CNet) "road" = some (some (.ref fNet_road))) (iNet_road : PySem.W.isFn K (.ref fNet_road) = true)
    (FNet_road : Fun K "road" "Net.road" sRoadM fNet_road dNet_road)
    (aCWalk : PySem.W.nsIn K mainGlobals "Walk" = some (some (.ref CWalk)))
    (pgWalk : PySem.W.plainGet K CWalk Str.empty = true) (hdWalk : PySem.W.hasDictIn K CWalk = true) (poWalk : PySem.W.plainOver K CWalk = true) (saWalk : PySem.W.findIn K (.ref CWalk) "__setattr__" = some (some (.builtin "object.__setattr__"))) (mkWalk : PySem.W.makesIn K CWalk = true) (kcWalk : PySem.W.keepIn K (.ref CWalk) = true)
    (nWalk_net : PySem.W.findIn K (.ref CWalk) "net" = some none)
    (nWalk_goals : PySem.W.findIn K (.ref CWalk) "goals" = some none)
    (nWalk_steps : PySem.W.findIn K (.ref CWalk) "steps" = some none)
    (aWalk_init : PySem.W.findIn K (.ref CWalk) "__init__" = some (some (.ref fWalk_init))) (iWalk_init : PySem.W.isFn K (.ref fWalk_init) = true)
    (FWalk_init : Fun K "__init__" "Walk.__init__" sWkI fWalk_init dWalk_init)
    (aWalk_take_in : PySem.W.findIn K (.ref CWalk) "take_in" = some (some (.ref fWalk_take_in))) (iWalk_take_in : PySem.W.isFn K (.ref fWalk_take_in) = true)
    (FWalk_take_in : Fun K "take_in" "Walk.take_in" sTake fWalk_take_in dWalk_take_in)
    (aWalk_send : PySem.W.findIn K (.ref CWalk) "send" = some (some (.ref fWalk_send))) (iWalk_send : PySem.W.isFn K (.ref fWalk_send) = true)
    (FWalk_send : Fun K "send" "Walk.send" sSend fWalk_send dWalk_send)
    (aWalk_last_house : PySem.W.findIn K (.ref CWalk) "last_house" = some (some (.ref fWalk_last_house))) (iWalk_last_house : PySem.W.isFn K (.ref fWalk_last_house) = true)
    (FWalk_last_house : Fun K "last_house" "Walk.last_house" sLastH fWalk_last_house dWalk_last_house)
    (aWalk_last_turn : PySem.W.findIn K (.ref CWalk) "last_turn" = some (some (.ref fWalk_last_turn))) (iWalk_last_turn : PySem.W.isFn K (.ref fWalk_last_turn) = true)
    (FWalk_last_turn : Fun K "last_turn" "Walk.last_turn" sLastT fWalk_last_turn dWalk_last_turn)
    (aWalk_home_turn : PySem.W.findIn K (.ref CWalk) "home_turn" = some (some (.ref fWalk_home_turn))) (iWalk_home_turn : PySem.W.isFn K (.ref fWalk_home_turn) = true)
    (FWalk_home_turn : Fun K "home_turn" "Walk.home_turn" sHomeT fWalk_home_turn dWalk_home_turn)
    (aWalk_can_leave : PySem.W.findIn K (.ref CWalk) "can_leave" = some (some (.ref fWalk_can_leave))) (iWalk_can_leave : PySem.W.isFn K (.ref fWalk_can_leave) = true)
    (FWalk_can_leave : Fun K "can_leave" "Walk.can_leave" sCanL fWalk_can_leave dWalk_can_leave)
    (aWalk_spot_at : PySem.W.findIn K (.ref CWalk) "spot_at" = some (some (.ref fWalk_spot_at))) (iWalk_spot_at : PySem.W.isFn K (.ref fWalk_spot_at) = true)
    (FWalk_spot_at : Fun K "spot_at" "Walk.spot_at" sSpAt fWalk_spot_at dWalk_spot_at)
    (ais_whole : PySem.W.nsIn K mainGlobals "is_whole" = some (some (.ref fis_whole)))
    (Fis_whole : Fun K "is_whole" "is_whole" sWhole fis_whole dis_whole)
    (ais_whole_within : PySem.W.nsIn K mainGlobals "is_whole_within" = some (some (.ref fis_whole_within)))
    (Fis_whole_within : Fun K "is_whole_within" "is_whole_within" sWithin fis_whole_within dis_whole_within)
    (ais_tuple_of : PySem.W.nsIn K mainGlobals "is_tuple_of" = some (some (.ref fis_tuple_of)))
    (Fis_tuple_of : Fun K "is_tuple_of" "is_tuple_of" sTupOf fis_tuple_of dis_tuple_of)
    (aare_unlike_houses : PySem.W.nsIn K mainGlobals "are_unlike_houses" = some (some (.ref fare_unlike_houses)))
    (Fare_unlike_houses : Fun K "are_unlike_houses" "are_unlike_houses" sUnlike fare_unlike_houses dare_unlike_houses)
    (ais_name : PySem.W.nsIn K mainGlobals "is_name" = some (some (.ref fis_name)))
    (Fis_name : Fun K "is_name" "is_name" sName fis_name dis_name)
    (aare_houses : PySem.W.nsIn K mainGlobals "are_houses" = some (some (.ref fare_houses)))
    (Fare_houses : Fun K "are_houses" "are_houses" sAreH fare_houses dare_houses)
    (ais_road : PySem.W.nsIn K mainGlobals "is_road" = some (some (.ref fis_road)))
    (Fis_road : Fun K "is_road" "is_road" sRoad fis_road dis_road)
    (aare_roads : PySem.W.nsIn K mainGlobals "are_roads" = some (some (.ref fare_roads)))
    (Fare_roads : Fun K "are_roads" "are_roads" sAreR fare_roads dare_roads)
    (ais_bag : PySem.W.nsIn K mainGlobals "is_bag" = some (some (.ref fis_bag)))
    (Fis_bag : Fun K "is_bag" "is_bag" sIsBag fis_bag dis_bag)
    (aare_rising_below : PySem.W.nsIn K mainGlobals "are_rising_below" = some (some (.ref fare_rising_below)))
    (Fare_rising_below : Fun K "are_rising_below" "are_rising_below" sRis fare_rising_below dare_rising_below)
    (areason_against : PySem.W.nsIn K mainGlobals "reason_against" = some (some (.ref freason_against)))
    (Freason_against : Fun K "reason_against" "reason_against" sRea freason_against dreason_against)
    (awalk_of : PySem.W.nsIn K mainGlobals "walk_of" = some (some (.ref fwalk_of)))
    (Fwalk_of : Fun K "walk_of" "walk_of" sWkOf fwalk_of dwalk_of)
    (aarrivals : PySem.W.nsIn K mainGlobals "arrivals" = some (some (.ref farrivals)))
    (Farrivals : Fun K "arrivals" "arrivals" sArr farrivals darrivals)
    (aspots_at : PySem.W.nsIn K mainGlobals "spots_at" = some (some (.ref fspots_at)))
    (Fspots_at : Fun K "spots_at" "spots_at" sSpots fspots_at dspots_at)
    (a_law_cell_at : PySem.W.nsIn K mainGlobals "_law_cell_at" = some (some (.ref f_law_cell_at)))
    (F_law_cell_at : Fun K "_law_cell_at" "_law_cell_at" sAt f_law_cell_at d_law_cell_at)
    (a_law_houses : PySem.W.nsIn K mainGlobals "_law_houses" = some (some (.ref f_law_houses)))
    (F_law_houses : Fun K "_law_houses" "_law_houses" sHousesN f_law_houses d_law_houses)
    (a_law_road : PySem.W.nsIn K mainGlobals "_law_road" = some (some (.ref f_law_road)))
    (F_law_road : Fun K "_law_road" "_law_road" sRd1 f_law_road d_law_road)
    (a_law_letter : PySem.W.nsIn K mainGlobals "_law_letter" = some (some (.ref f_law_letter)))
    (F_law_letter : Fun K "_law_letter" "_law_letter" sLet1 f_law_letter d_law_letter)
    (a_law_legs : PySem.W.nsIn K mainGlobals "_law_legs" = some (some (.ref f_law_legs)))
    (F_law_legs : Fun K "_law_legs" "_law_legs" sLegs f_law_legs d_law_legs)
    (a_law_plan : PySem.W.nsIn K mainGlobals "_law_plan" = some (some (.ref f_law_plan)))
    (F_law_plan : Fun K "_law_plan" "_law_plan" sPlan f_law_plan d_law_plan)
    (a_law_told : PySem.W.nsIn K mainGlobals "_law_told" = some (some (.ref f_law_told)))
    (F_law_told : Fun K "_law_told" "_law_told" sTold f_law_told d_law_told)
    (a_law_ahead : PySem.W.nsIn K mainGlobals "_law_ahead" = some (some (.ref f_law_ahead)))
    (F_law_ahead : Fun K "_law_ahead" "_law_ahead" sAhd f_law_ahead d_law_ahead)
    (a_law_sent : PySem.W.nsIn K mainGlobals "_law_sent" = some (some (.ref f_law_sent)))
    (F_law_sent : Fun K "_law_sent" "_law_sent" sSent f_law_sent d_law_sent)
    (a_law_goes_on : PySem.W.nsIn K mainGlobals "_law_goes_on" = some (some (.ref f_law_goes_on)))
    (F_law_goes_on : Fun K "_law_goes_on" "_law_goes_on" sGo f_law_goes_on d_law_goes_on)
    (a_law_fits : PySem.W.nsIn K mainGlobals "_law_fits" = some (some (.ref f_law_fits)))
    (F_law_fits : Fun K "_law_fits" "_law_fits" sFit f_law_fits d_law_fits)
    (a_law_spots : PySem.W.nsIn K mainGlobals "_law_spots" = some (some (.ref f_law_spots)))
    (F_law_spots : Fun K "_law_spots" "_law_spots" sSps f_law_spots d_law_spots)
    (alaw : PySem.W.nsIn K mainGlobals "law" = some (some (.ref flaw)))
    (Flaw : Fun K "law" "law" sLaw flaw dlaw)
    {tMOST_HOUSES : Tok} (vMOST_HOUSES : PySem.W.nsIn K mainGlobals "MOST_HOUSES" = some (some (.int 12 tMOST_HOUSES)))
    {tMOST_ROADS : Tok} (vMOST_ROADS : PySem.W.nsIn K mainGlobals "MOST_ROADS" = some (some (.int 40 tMOST_ROADS)))
    {tMOST_SIGNS : Tok} (vMOST_SIGNS : PySem.W.nsIn K mainGlobals "MOST_SIGNS" = some (some (.int 8 tMOST_SIGNS)))
    {tMOST_TURNS : Tok} (vMOST_TURNS : PySem.W.nsIn K mainGlobals "MOST_TURNS" = some (some (.int 9 tMOST_TURNS)))
    {tMOST_ROOM : Tok} (vMOST_ROOM : PySem.W.nsIn K mainGlobals "MOST_ROOM" = some (some (.int 1000000000 tMOST_ROOM)))
    (zlen : PySem.W.nsIn K mainGlobals "len" = some none)
    (zrange : PySem.W.nsIn K mainGlobals "range" = some none)
    (zisinstance : PySem.W.nsIn K mainGlobals "isinstance" = some none)
    (zall : PySem.W.nsIn K mainGlobals "all" = some none)
    (zint : PySem.W.nsIn K mainGlobals "int" = some none)
    (zbool : PySem.W.nsIn K mainGlobals "bool" = some none)
    (zstr : PySem.W.nsIn K mainGlobals "str" = some none)
    (zlist : PySem.W.nsIn K mainGlobals "list" = some none)
    (ztuple : PySem.W.nsIn K mainGlobals "tuple" = some none)
    (zset : PySem.W.nsIn K mainGlobals "set" = some none)
    (zValueError : PySem.W.nsIn K mainGlobals "ValueError" = some none)
    (zenumerate : PySem.W.nsIn K mainGlobals "enumerate" = some none)
    (zmax : PySem.W.nsIn K mainGlobals "max" = some none)
    (zmin : PySem.W.nsIn K mainGlobals "min" = some none)
    (zsum : PySem.W.nsIn K mainGlobals "sum" = some none)
    (zany : PySem.W.nsIn K mainGlobals "any" = some none)
    (zdict : PySem.W.nsIn K mainGlobals "dict" = some none)
    (zsorted : PySem.W.nsIn K mainGlobals "sorted" = some none)
    (zzip : PySem.W.nsIn K mainGlobals "zip" = some none)
    (in0NotYet : PySem.W.findIn K (.ref CNotYet) "__init__" = some (some (.builtin "object.__init__")))
    (hnC : PySem.W.specialIn K (.builtin "object.__class__") "__get__" = some (some (.builtin "getset_descriptor.__get__")))
    (htC : PySem.W.takesIn K (.builtin "object.__class__") = some true)
    (haNotYet : PySem.W.findIn K (.ref CNotYet) "__class__" = some (some (.builtin "object.__class__")))
    (hmNotYet : PySem.W.mroIn K CNotYet (.type "object") = some true)
    (haAtHouse : PySem.W.findIn K (.ref CAtHouse) "__class__" = some (some (.builtin "object.__class__")))
    (hmAtHouse : PySem.W.mroIn K CAtHouse (.type "object") = some true)
    (haOnRoad : PySem.W.findIn K (.ref COnRoad) "__class__" = some (some (.builtin "object.__class__")))
    (hmOnRoad : PySem.W.mroIn K COnRoad (.type "object") = some true)
    (haAtHome : PySem.W.findIn K (.ref CAtHome) "__class__" = some (some (.builtin "object.__class__")))
    (hmAtHome : PySem.W.mroIn K CAtHome (.type "object") = some true)
    (icSpot : PySem.W.isClsIn K CSpot = true)
    (tySpot : PySem.W.typeIn K (.ref CSpot) = some (.type "type"))
    (icNotYet : PySem.W.isClsIn K CNotYet = true)
    (tyNotYet : PySem.W.typeIn K (.ref CNotYet) = some (.type "type"))
    (icAtHouse : PySem.W.isClsIn K CAtHouse = true)
    (tyAtHouse : PySem.W.typeIn K (.ref CAtHouse) = some (.type "type"))
    (icOnRoad : PySem.W.isClsIn K COnRoad = true)
    (tyOnRoad : PySem.W.typeIn K (.ref COnRoad) = some (.type "type"))
    (icAtHome : PySem.W.isClsIn K CAtHome = true)
    (tyAtHome : PySem.W.typeIn K (.ref CAtHome) = some (.type "type"))
    (suNotYet_Spot : PySem.W.subIn K (.ref CNotYet) (.ref CSpot) = some true)
    (suNotYet_NotYet : PySem.W.subIn K (.ref CNotYet) (.ref CNotYet) = some true)
    (suNotYet_AtHouse : PySem.W.subIn K (.ref CNotYet) (.ref CAtHouse) = some false)
    (neNotYet_AtHouse : (Value.ref CNotYet == Value.ref CAtHouse) = false)
    (suNotYet_OnRoad : PySem.W.subIn K (.ref CNotYet) (.ref COnRoad) = some false)
    (neNotYet_OnRoad : (Value.ref CNotYet == Value.ref COnRoad) = false)
    (suNotYet_AtHome : PySem.W.subIn K (.ref CNotYet) (.ref CAtHome) = some false)
    (neNotYet_AtHome : (Value.ref CNotYet == Value.ref CAtHome) = false)
    (suAtHouse_Spot : PySem.W.subIn K (.ref CAtHouse) (.ref CSpot) = some true)
    (suAtHouse_NotYet : PySem.W.subIn K (.ref CAtHouse) (.ref CNotYet) = some false)
    (neAtHouse_NotYet : (Value.ref CAtHouse == Value.ref CNotYet) = false)
    (suAtHouse_AtHouse : PySem.W.subIn K (.ref CAtHouse) (.ref CAtHouse) = some true)
    (suAtHouse_OnRoad : PySem.W.subIn K (.ref CAtHouse) (.ref COnRoad) = some false)
    (neAtHouse_OnRoad : (Value.ref CAtHouse == Value.ref COnRoad) = false)
    (suAtHouse_AtHome : PySem.W.subIn K (.ref CAtHouse) (.ref CAtHome) = some false)
    (neAtHouse_AtHome : (Value.ref CAtHouse == Value.ref CAtHome) = false)
    (suOnRoad_Spot : PySem.W.subIn K (.ref COnRoad) (.ref CSpot) = some true)
    (suOnRoad_NotYet : PySem.W.subIn K (.ref COnRoad) (.ref CNotYet) = some false)
    (neOnRoad_NotYet : (Value.ref COnRoad == Value.ref CNotYet) = false)
    (suOnRoad_AtHouse : PySem.W.subIn K (.ref COnRoad) (.ref CAtHouse) = some false)
    (neOnRoad_AtHouse : (Value.ref COnRoad == Value.ref CAtHouse) = false)
    (suOnRoad_OnRoad : PySem.W.subIn K (.ref COnRoad) (.ref COnRoad) = some true)
    (suOnRoad_AtHome : PySem.W.subIn K (.ref COnRoad) (.ref CAtHome) = some false)
    (neOnRoad_AtHome : (Value.ref COnRoad == Value.ref CAtHome) = false)
    (suAtHome_Spot : PySem.W.subIn K (.ref CAtHome) (.ref CSpot) = some true)
    (suAtHome_NotYet : PySem.W.subIn K (.ref CAtHome) (.ref CNotYet) = some false)
    (neAtHome_NotYet : (Value.ref CAtHome == Value.ref CNotYet) = false)
    (suAtHome_AtHouse : PySem.W.subIn K (.ref CAtHome) (.ref CAtHouse) = some false)
    (neAtHome_AtHouse : (Value.ref CAtHome == Value.ref CAtHouse) = false)
    (suAtHome_OnRoad : PySem.W.subIn K (.ref CAtHome) (.ref COnRoad) = some false)
    (neAtHome_OnRoad : (Value.ref CAtHome == Value.ref COnRoad) = false)
    (suAtHome_AtHome : PySem.W.subIn K (.ref CAtHome) (.ref CAtHome) = some true) :
    ∃ fd : FuncData, (∀ (s : Shared) (v : Value), BindsTo s fd ⟨[v], []⟩ [("_law_script", v)]) ∧ ∀ base : Heap, K.In base → base.Ns mainGlobals mg → FnOk l.prog w K mg base CX0 8 fa fd ["_law_script"] (spLaw K) := by
  have e := hfa.symm.trans (PySem.W.mg_of X G alaw)
  cases e
  have Cl_Spot : Cls K CSpot := ⟨pgSpot, hdSpot, poSpot, saSpot⟩
  have at_Spot := PySem.W.mg_of X G aCSpot
  have Cl_NotYet : Cls K CNotYet := ⟨pgNotYet, hdNotYet, poNotYet, saNotYet⟩
  have at_NotYet := PySem.W.mg_of X G aCNotYet
  have Cl_AtHouse : Cls K CAtHouse := ⟨pgAtHouse, hdAtHouse, poAtHouse, saAtHouse⟩
  have at_AtHouse := PySem.W.mg_of X G aCAtHouse
  have bAtHouse_init := FAtHouse_init.binds (ps := ["self", "at", "since"]) fun _ _ _ _ _ _ us hl => by (obtain ⟨_, _, _, rfl⟩ := len_3 hl); rfl
  have Mk_AtHouse : Mk K CAtHouse fAtHouse_init := ⟨mkAtHouse, aAtHouse_init, iAtHouse_init, kcAtHouse⟩
  have D_AtHouse_init : Inn K CAtHouse "AtHouse.__init__" sIH ["self", "at", "since"] fAtHouse_init _ := ⟨FAtHouse_init, Mk_AtHouse, bAtHouse_init⟩
  have Cl_OnRoad : Cls K COnRoad := ⟨pgOnRoad, hdOnRoad, poOnRoad, saOnRoad⟩
  have at_OnRoad := PySem.W.mg_of X G aCOnRoad
  have bOnRoad_init := FOnRoad_init.binds (ps := ["self", "by", "due"]) fun _ _ _ _ _ _ us hl => by (obtain ⟨_, _, _, rfl⟩ := len_3 hl); rfl
  have Mk_OnRoad : Mk K COnRoad fOnRoad_init := ⟨mkOnRoad, aOnRoad_init, iOnRoad_init, kcOnRoad⟩
  have D_OnRoad_init : Inn K COnRoad "OnRoad.__init__" sIR ["self", "by", "due"] fOnRoad_init _ := ⟨FOnRoad_init, Mk_OnRoad, bOnRoad_init⟩
  have Cl_AtHome : Cls K CAtHome := ⟨pgAtHome, hdAtHome, poAtHome, saAtHome⟩
  have at_AtHome := PySem.W.mg_of X G aCAtHome
  have bAtHome_init := FAtHome_init.binds (ps := ["self", "since"]) fun _ _ _ _ _ _ us hl => by (obtain ⟨_, _, rfl⟩ := len_2 hl); rfl
  have Mk_AtHome : Mk K CAtHome fAtHome_init := ⟨mkAtHome, aAtHome_init, iAtHome_init, kcAtHome⟩
  have D_AtHome_init : Inn K CAtHome "AtHome.__init__" sIA ["self", "since"] fAtHome_init _ := ⟨FAtHome_init, Mk_AtHome, bAtHome_init⟩
  have Cl_Net : Cls K CNet := ⟨pgNet, hdNet, poNet, saNet⟩
  have at_Net := PySem.W.mg_of X G aCNet
  have bNet_init := FNet_init.binds (ps := ["self", "houses", "roads"]) fun _ _ _ _ _ _ us hl => by (obtain ⟨_, _, _, rfl⟩ := len_3 hl); rfl
  have Mk_Net : Mk K CNet fNet_init := ⟨mkNet, aNet_init, iNet_init, kcNet⟩
  have D_Net_init : Inn K CNet "Net.__init__" sInit ["self", "houses", "roads"] fNet_init _ := ⟨FNet_init, Mk_Net, bNet_init⟩
  have bNet_roads := FNet_roads.binds (ps := ["self"]) fun _ _ _ _ _ _ us hl => by (obtain ⟨_, rfl⟩ := len_1 hl); rfl
  have M_Net_roads : Mn K CNet "roads" "Net.roads" sRoadsM ["self"] fNet_roads _ := ⟨FNet_roads, ⟨aNet_roads, iNet_roads, FNet_roads.kp⟩, bNet_roads⟩
  have bNet_road := FNet_road.binds (ps := ["self", "number"]) fun _ _ _ _ _ _ us hl => by (obtain ⟨_, _, rfl⟩ := len_2 hl); rfl
  have M_Net_road : Mn K CNet "road" "Net.road" sRoadM ["self", "number"] fNet_road _ := ⟨FNet_road, ⟨aNet_road, iNet_road, FNet_road.kp⟩, bNet_road⟩
  have Cl_Walk : Cls K CWalk := ⟨pgWalk, hdWalk, poWalk, saWalk⟩
  have at_Walk := PySem.W.mg_of X G aCWalk
  have bWalk_init := FWalk_init.binds (ps := ["self", "net", "letters"]) fun _ _ _ _ _ _ us hl => by (obtain ⟨_, _, _, rfl⟩ := len_3 hl); rfl
  have Mk_Walk : Mk K CWalk fWalk_init := ⟨mkWalk, aWalk_init, iWalk_init, kcWalk⟩
  have D_Walk_init : Inn K CWalk "Walk.__init__" sWkI ["self", "net", "letters"] fWalk_init _ := ⟨FWalk_init, Mk_Walk, bWalk_init⟩
  have bWalk_take_in := FWalk_take_in.binds (ps := ["self", "letter"]) fun _ _ _ _ _ _ us hl => by (obtain ⟨_, _, rfl⟩ := len_2 hl); rfl
  have M_Walk_take_in : Mn K CWalk "take_in" "Walk.take_in" sTake ["self", "letter"] fWalk_take_in _ := ⟨FWalk_take_in, ⟨aWalk_take_in, iWalk_take_in, FWalk_take_in.kp⟩, bWalk_take_in⟩
  have bWalk_send := FWalk_send.binds (ps := ["self", "bag"]) fun _ _ _ _ _ _ us hl => by (obtain ⟨_, _, rfl⟩ := len_2 hl); rfl
  have M_Walk_send : Mn K CWalk "send" "Walk.send" sSend ["self", "bag"] fWalk_send _ := ⟨FWalk_send, ⟨aWalk_send, iWalk_send, FWalk_send.kp⟩, bWalk_send⟩
  have bWalk_last_house := FWalk_last_house.binds (ps := ["self", "number"]) fun _ _ _ _ _ _ us hl => by (obtain ⟨_, _, rfl⟩ := len_2 hl); rfl
  have M_Walk_last_house : Mn K CWalk "last_house" "Walk.last_house" sLastH ["self", "number"] fWalk_last_house _ := ⟨FWalk_last_house, ⟨aWalk_last_house, iWalk_last_house, FWalk_last_house.kp⟩, bWalk_last_house⟩
  have bWalk_last_turn := FWalk_last_turn.binds (ps := ["self", "number"]) fun _ _ _ _ _ _ us hl => by (obtain ⟨_, _, rfl⟩ := len_2 hl); rfl
  have M_Walk_last_turn : Mn K CWalk "last_turn" "Walk.last_turn" sLastT ["self", "number"] fWalk_last_turn _ := ⟨FWalk_last_turn, ⟨aWalk_last_turn, iWalk_last_turn, FWalk_last_turn.kp⟩, bWalk_last_turn⟩
  have bWalk_home_turn := FWalk_home_turn.binds (ps := ["self", "number"]) fun _ _ _ _ _ _ us hl => by (obtain ⟨_, _, rfl⟩ := len_2 hl); rfl
  have M_Walk_home_turn : Mn K CWalk "home_turn" "Walk.home_turn" sHomeT ["self", "number"] fWalk_home_turn _ := ⟨FWalk_home_turn, ⟨aWalk_home_turn, iWalk_home_turn, FWalk_home_turn.kp⟩, bWalk_home_turn⟩
  have bWalk_can_leave := FWalk_can_leave.binds (ps := ["self", "number", "house", "turn"]) fun _ _ _ _ _ _ us hl => by (obtain ⟨_, _, _, _, rfl⟩ := len_4 hl); rfl
  have M_Walk_can_leave : Mn K CWalk "can_leave" "Walk.can_leave" sCanL ["self", "number", "house", "turn"] fWalk_can_leave _ := ⟨FWalk_can_leave, ⟨aWalk_can_leave, iWalk_can_leave, FWalk_can_leave.kp⟩, bWalk_can_leave⟩
  have bWalk_spot_at := FWalk_spot_at.binds (ps := ["self", "number", "turn"]) fun _ _ _ _ _ _ us hl => by (obtain ⟨_, _, _, rfl⟩ := len_3 hl); rfl
  have M_Walk_spot_at : Mn K CWalk "spot_at" "Walk.spot_at" sSpAt ["self", "number", "turn"] fWalk_spot_at _ := ⟨FWalk_spot_at, ⟨aWalk_spot_at, iWalk_spot_at, FWalk_spot_at.kp⟩, bWalk_spot_at⟩
  have bis_whole := Fis_whole.binds (ps := ["thing"]) fun _ _ _ _ _ _ us hl => by (obtain ⟨_, rfl⟩ := len_1 hl); rfl
  have D_is_whole : Dn K mg "is_whole" sWhole ["thing"] fis_whole _ := ⟨Fis_whole, PySem.W.mg_of X G ais_whole, bis_whole⟩
  have bis_whole_within := Fis_whole_within.binds (ps := ["thing", "least", "greatest"]) fun _ _ _ _ _ _ us hl => by (obtain ⟨_, _, _, rfl⟩ := len_3 hl); rfl
  have D_is_whole_within : Dn K mg "is_whole_within" sWithin ["thing", "least", "greatest"] fis_whole_within _ := ⟨Fis_whole_within, PySem.W.mg_of X G ais_whole_within, bis_whole_within⟩
  have bis_tuple_of := Fis_tuple_of.binds (ps := ["thing", "length"]) fun _ _ _ _ _ _ us hl => by (obtain ⟨_, _, rfl⟩ := len_2 hl); rfl
  have D_is_tuple_of : Dn K mg "is_tuple_of" sTupOf ["thing", "length"] fis_tuple_of _ := ⟨Fis_tuple_of, PySem.W.mg_of X G ais_tuple_of, bis_tuple_of⟩
  have bare_unlike_houses := Fare_unlike_houses.binds (ps := ["houses", "one", "other"]) fun _ _ _ _ _ _ us hl => by (obtain ⟨_, _, _, rfl⟩ := len_3 hl); rfl
  have D_are_unlike_houses : Dn K mg "are_unlike_houses" sUnlike ["houses", "one", "other"] fare_unlike_houses _ := ⟨Fare_unlike_houses, PySem.W.mg_of X G aare_unlike_houses, bare_unlike_houses⟩
  have bis_name := Fis_name.binds (ps := ["thing"]) fun _ _ _ _ _ _ us hl => by (obtain ⟨_, rfl⟩ := len_1 hl); rfl
  have D_is_name : Dn K mg "is_name" sName ["thing"] fis_name _ := ⟨Fis_name, PySem.W.mg_of X G ais_name, bis_name⟩
  have bare_houses := Fare_houses.binds (ps := ["things"]) fun _ _ _ _ _ _ us hl => by (obtain ⟨_, rfl⟩ := len_1 hl); rfl
  have D_are_houses : Dn K mg "are_houses" sAreH ["things"] fare_houses _ := ⟨Fare_houses, PySem.W.mg_of X G aare_houses, bare_houses⟩
  have bis_road := Fis_road.binds (ps := ["houses", "thing"]) fun _ _ _ _ _ _ us hl => by (obtain ⟨_, _, rfl⟩ := len_2 hl); rfl
  have D_is_road : Dn K mg "is_road" sRoad ["houses", "thing"] fis_road _ := ⟨Fis_road, PySem.W.mg_of X G ais_road, bis_road⟩
  have bare_roads := Fare_roads.binds (ps := ["houses", "things"]) fun _ _ _ _ _ _ us hl => by (obtain ⟨_, _, rfl⟩ := len_2 hl); rfl
  have D_are_roads : Dn K mg "are_roads" sAreR ["houses", "things"] fare_roads _ := ⟨Fare_roads, PySem.W.mg_of X G aare_roads, bare_roads⟩
  have bis_bag := Fis_bag.binds (ps := ["thing"]) fun _ _ _ _ _ _ us hl => by (obtain ⟨_, rfl⟩ := len_1 hl); rfl
  have D_is_bag : Dn K mg "is_bag" sIsBag ["thing"] fis_bag _ := ⟨Fis_bag, PySem.W.mg_of X G ais_bag, bis_bag⟩
  have bare_rising_below := Fare_rising_below.binds (ps := ["numbers", "bound"]) fun _ _ _ _ _ _ us hl => by (obtain ⟨_, _, rfl⟩ := len_2 hl); rfl
  have D_are_rising_below : Dn K mg "are_rising_below" sRis ["numbers", "bound"] fare_rising_below _ := ⟨Fare_rising_below, PySem.W.mg_of X G aare_rising_below, bare_rising_below⟩
  have breason_against := Freason_against.binds (ps := ["walk", "net", "letters", "ahead", "thing"]) fun _ _ _ _ _ _ us hl => by (obtain ⟨_, _, _, _, _, rfl⟩ := len_5 hl); rfl
  have D_reason_against : Dn K mg "reason_against" sRea ["walk", "net", "letters", "ahead", "thing"] freason_against _ := ⟨Freason_against, PySem.W.mg_of X G areason_against, breason_against⟩
  have bwalk_of := Fwalk_of.binds (ps := ["net", "letters", "plan"]) fun _ _ _ _ _ _ us hl => by (obtain ⟨_, _, _, rfl⟩ := len_3 hl); rfl
  have D_walk_of : Dn K mg "walk_of" sWkOf ["net", "letters", "plan"] fwalk_of _ := ⟨Fwalk_of, PySem.W.mg_of X G awalk_of, bwalk_of⟩
  have barrivals := Farrivals.binds (ps := ["net", "letters", "plan"]) fun _ _ _ _ _ _ us hl => by (obtain ⟨_, _, _, rfl⟩ := len_3 hl); rfl
  have D_arrivals : Dn K mg "arrivals" sArr ["net", "letters", "plan"] farrivals _ := ⟨Farrivals, PySem.W.mg_of X G aarrivals, barrivals⟩
  have bspots_at := Fspots_at.binds (ps := ["net", "letters", "plan", "turn"]) fun _ _ _ _ _ _ us hl => by (obtain ⟨_, _, _, _, rfl⟩ := len_4 hl); rfl
  have D_spots_at : Dn K mg "spots_at" sSpots ["net", "letters", "plan", "turn"] fspots_at _ := ⟨Fspots_at, PySem.W.mg_of X G aspots_at, bspots_at⟩
  have b_law_cell_at := F_law_cell_at.binds (ps := ["_law_script", "_law_k"]) fun _ _ _ _ _ _ us hl => by (obtain ⟨_, _, rfl⟩ := len_2 hl); rfl
  have D__law_cell_at : Dn K mg "_law_cell_at" sAt ["_law_script", "_law_k"] f_law_cell_at _ := ⟨F_law_cell_at, PySem.W.mg_of X G a_law_cell_at, b_law_cell_at⟩
  have b_law_houses := F_law_houses.binds (ps := ["_law_cell", "_law_many"]) fun _ _ _ _ _ _ us hl => by (obtain ⟨_, _, rfl⟩ := len_2 hl); rfl
  have D__law_houses : Dn K mg "_law_houses" sHousesN ["_law_cell", "_law_many"] f_law_houses _ := ⟨F_law_houses, PySem.W.mg_of X G a_law_houses, b_law_houses⟩
  have b_law_road := F_law_road.binds (ps := ["_law_cell", "_law_names"]) fun _ _ _ _ _ _ us hl => by (obtain ⟨_, _, rfl⟩ := len_2 hl); rfl
  have D__law_road : Dn K mg "_law_road" sRd1 ["_law_cell", "_law_names"] f_law_road _ := ⟨F_law_road, PySem.W.mg_of X G a_law_road, b_law_road⟩
  have b_law_letter := F_law_letter.binds (ps := ["_law_cell", "_law_names", "_law_base"]) fun _ _ _ _ _ _ us hl => by (obtain ⟨_, _, _, rfl⟩ := len_3 hl); rfl
  have D__law_letter : Dn K mg "_law_letter" sLet1 ["_law_cell", "_law_names", "_law_base"] f_law_letter _ := ⟨F_law_letter, PySem.W.mg_of X G a_law_letter, b_law_letter⟩
  have b_law_legs := F_law_legs.binds (ps := ["_law_lines", "_law_letters", "_law_cells", "_law_hops"]) fun _ _ _ _ _ _ us hl => by (obtain ⟨_, _, _, _, rfl⟩ := len_4 hl); rfl
  have D__law_legs : Dn K mg "_law_legs" sLegs ["_law_lines", "_law_letters", "_law_cells", "_law_hops"] f_law_legs _ := ⟨F_law_legs, PySem.W.mg_of X G a_law_legs, b_law_legs⟩
  have b_law_plan := F_law_plan.binds (ps := ["_law_legs_here"]) fun _ _ _ _ _ _ us hl => by (obtain ⟨_, rfl⟩ := len_1 hl); rfl
  have D__law_plan : Dn K mg "_law_plan" sPlan ["_law_legs_here"] f_law_plan _ := ⟨F_law_plan, PySem.W.mg_of X G a_law_plan, b_law_plan⟩
  have b_law_told := F_law_told.binds (ps := ["_law_spot"]) fun _ _ _ _ _ _ us hl => by (obtain ⟨_, rfl⟩ := len_1 hl); rfl
  have D__law_told : Dn K mg "_law_told" sTold ["_law_spot"] f_law_told _ := ⟨F_law_told, PySem.W.mg_of X G a_law_told, b_law_told⟩
  have b_law_ahead := F_law_ahead.binds (ps := ["_law_lines", "_law_letter_here", "_law_spot", "_law_turn"]) fun _ _ _ _ _ _ us hl => by (obtain ⟨_, _, _, _, rfl⟩ := len_4 hl); rfl
  have D__law_ahead : Dn K mg "_law_ahead" sAhd ["_law_lines", "_law_letter_here", "_law_spot", "_law_turn"] f_law_ahead _ := ⟨F_law_ahead, PySem.W.mg_of X G a_law_ahead, b_law_ahead⟩
  have b_law_sent := F_law_sent.binds (ps := ["_law_plan_here", "_law_turn"]) fun _ _ _ _ _ _ us hl => by (obtain ⟨_, _, rfl⟩ := len_2 hl); rfl
  have D__law_sent : Dn K mg "_law_sent" sSent ["_law_plan_here", "_law_turn"] f_law_sent _ := ⟨F_law_sent, PySem.W.mg_of X G a_law_sent, b_law_sent⟩
  have b_law_goes_on := F_law_goes_on.binds (ps := ["_law_lines", "_law_letters", "_law_before", "_law_after", "_law_sent_here", "_law_turn"]) fun _ _ _ _ _ _ us hl => by (obtain ⟨_, _, _, _, _, _, rfl⟩ := len_6 hl); rfl
  have D__law_goes_on : Dn K mg "_law_goes_on" sGo ["_law_lines", "_law_letters", "_law_before", "_law_after", "_law_sent_here", "_law_turn"] f_law_goes_on _ := ⟨F_law_goes_on, PySem.W.mg_of X G a_law_goes_on, b_law_goes_on⟩
  have b_law_fits := F_law_fits.binds (ps := ["_law_lines", "_law_spots_here"]) fun _ _ _ _ _ _ us hl => by (obtain ⟨_, _, rfl⟩ := len_2 hl); rfl
  have D__law_fits : Dn K mg "_law_fits" sFit ["_law_lines", "_law_spots_here"] f_law_fits _ := ⟨F_law_fits, PySem.W.mg_of X G a_law_fits, b_law_fits⟩
  have b_law_spots := F_law_spots.binds (ps := ["_law_net", "_law_letters", "_law_plan_here", "_law_turn"]) fun _ _ _ _ _ _ us hl => by (obtain ⟨_, _, _, _, rfl⟩ := len_4 hl); rfl
  have D__law_spots : Dn K mg "_law_spots" sSps ["_law_net", "_law_letters", "_law_plan_here", "_law_turn"] f_law_spots _ := ⟨F_law_spots, PySem.W.mg_of X G a_law_spots, b_law_spots⟩
  have blaw := Flaw.binds (ps := ["_law_script"]) fun _ _ _ _ _ _ us hl => by (obtain ⟨_, rfl⟩ := len_1 hl); rfl
  have Cn : Csts mg := ⟨⟨_, PySem.W.mg_of X G vMOST_HOUSES⟩, ⟨_, PySem.W.mg_of X G vMOST_ROADS⟩, ⟨_, PySem.W.mg_of X G vMOST_SIGNS⟩, ⟨_, PySem.W.mg_of X G vMOST_TURNS⟩, ⟨_, PySem.W.mg_of X G vMOST_ROOM⟩⟩
  have B : Blt mg := ⟨PySem.W.mg_none_of X G zlen, PySem.W.mg_none_of X G zrange, PySem.W.mg_none_of X G zisinstance, PySem.W.mg_none_of X G zall, PySem.W.mg_none_of X G zint, PySem.W.mg_none_of X G zbool, PySem.W.mg_none_of X G zstr, PySem.W.mg_none_of X G zlist, PySem.W.mg_none_of X G ztuple, PySem.W.mg_none_of X G zset, PySem.W.mg_none_of X G zValueError, PySem.W.mg_none_of X G zenumerate, PySem.W.mg_none_of X G zmax, PySem.W.mg_none_of X G zmin, PySem.W.mg_none_of X G zsum, PySem.W.mg_none_of X G zany, PySem.W.mg_none_of X G zdict, PySem.W.mg_none_of X G zsorted, PySem.W.mg_none_of X G zzip⟩
  obtain ⟨_, _, kV, dc, pm, an, cd, ct, _, rfl, _, _⟩ := id Flaw.ex
  refine ⟨PySem.W.fnOf "law" "law" (defArgs sLaw) (defBody sLaw) (defScope sLaw) .none kV dc pm an cd ct, fun s v => .of_eq rfl, fun base _ _ => ?_⟩
  have KnNotYet : Kin K CSpot CNotYet CAtHouse COnRoad CAtHome CNotYet true false false false := ⟨⟨Cl_NotYet, haNotYet, hnC, htC, hmNotYet⟩, kit_sub icSpot tySpot suNotYet_Spot (fun _ => rfl), kit_sub icNotYet tyNotYet suNotYet_NotYet (fun _ => rfl), kit_sub icAtHouse tyAtHouse suNotYet_AtHouse (fun h => absurd (h.symm.trans neNotYet_AtHouse) (by decide)), kit_sub icOnRoad tyOnRoad suNotYet_OnRoad (fun h => absurd (h.symm.trans neNotYet_OnRoad) (by decide)), kit_sub icAtHome tyAtHome suNotYet_AtHome (fun h => absurd (h.symm.trans neNotYet_AtHome) (by decide))⟩
  have KnAtHouse : Kin K CSpot CNotYet CAtHouse COnRoad CAtHome CAtHouse false true false false := ⟨⟨Cl_AtHouse, haAtHouse, hnC, htC, hmAtHouse⟩, kit_sub icSpot tySpot suAtHouse_Spot (fun _ => rfl), kit_sub icNotYet tyNotYet suAtHouse_NotYet (fun h => absurd (h.symm.trans neAtHouse_NotYet) (by decide)), kit_sub icAtHouse tyAtHouse suAtHouse_AtHouse (fun _ => rfl), kit_sub icOnRoad tyOnRoad suAtHouse_OnRoad (fun h => absurd (h.symm.trans neAtHouse_OnRoad) (by decide)), kit_sub icAtHome tyAtHome suAtHouse_AtHome (fun h => absurd (h.symm.trans neAtHouse_AtHome) (by decide))⟩
  have KnOnRoad : Kin K CSpot CNotYet CAtHouse COnRoad CAtHome COnRoad false false true false := ⟨⟨Cl_OnRoad, haOnRoad, hnC, htC, hmOnRoad⟩, kit_sub icSpot tySpot suOnRoad_Spot (fun _ => rfl), kit_sub icNotYet tyNotYet suOnRoad_NotYet (fun h => absurd (h.symm.trans neOnRoad_NotYet) (by decide)), kit_sub icAtHouse tyAtHouse suOnRoad_AtHouse (fun h => absurd (h.symm.trans neOnRoad_AtHouse) (by decide)), kit_sub icOnRoad tyOnRoad suOnRoad_OnRoad (fun _ => rfl), kit_sub icAtHome tyAtHome suOnRoad_AtHome (fun h => absurd (h.symm.trans neOnRoad_AtHome) (by decide))⟩
  have KnAtHome : Kin K CSpot CNotYet CAtHouse COnRoad CAtHome CAtHome false false false true := ⟨⟨Cl_AtHome, haAtHome, hnC, htC, hmAtHome⟩, kit_sub icSpot tySpot suAtHome_Spot (fun _ => rfl), kit_sub icNotYet tyNotYet suAtHome_NotYet (fun h => absurd (h.symm.trans neAtHome_NotYet) (by decide)), kit_sub icAtHouse tyAtHouse suAtHome_AtHouse (fun h => absurd (h.symm.trans neAtHome_AtHouse) (by decide)), kit_sub icOnRoad tyOnRoad suAtHome_OnRoad (fun h => absurd (h.symm.trans neAtHome_OnRoad) (by decide)), kit_sub icAtHome tyAtHome suAtHome_AtHome (fun _ => rfl)⟩
  have NC : NetC K CNet := ⟨Cl_Net, nNet_kept_houses, nNet_kept_roads⟩
  have KT : Kit K := ⟨kit_ib K⟩
  have G_is_whole : FnOk l.prog w K mg base CX0 1 fis_whole _ ["thing"] spWhole := ok_whole Fis_whole B KT
  have G_is_whole_within : FnOk l.prog w K mg base CX0 2 fis_whole_within _ ["thing", "least", "greatest"] spWithin := ok_within Fis_whole_within D_is_whole G_is_whole
  have G_is_tuple_of : FnOk l.prog w K mg base CX0 1 fis_tuple_of _ ["thing", "length"] spTupOf := ok_tupOf Fis_tuple_of B
  have G_are_unlike_houses : FnOk l.prog w K mg base CX0 1 fare_unlike_houses _ ["houses", "one", "other"] (spUnlike K) := ok_unlike Fare_unlike_houses
  have G_is_name : FnOk l.prog w K mg base CX0 1 fis_name _ ["thing"] spName := ok_name Fis_name B Cn
  have G_are_houses : FnOk l.prog w K mg base CX0 2 fare_houses _ ["things"] spAreH := ok_areH Fare_houses B Cn D_is_name G_is_name
  have G_is_road : FnOk l.prog w K mg base CX0 3 fis_road _ ["houses", "thing"] (spRoad K) := ok_road Fis_road Cn D_is_tuple_of G_is_tuple_of D_are_unlike_houses G_are_unlike_houses D_is_whole_within G_is_whole_within
  have G_are_roads : FnOk l.prog w K mg base CX0 4 fare_roads _ ["houses", "things"] (spAreR K) := ok_areR Fare_roads B Cn D_is_road G_is_road
  have G_Net_init : FnOk l.prog w K mg base CX0 5 fNet_init _ ["self", "houses", "roads"] (spInit K CNet) := ok_init FNet_init B NC D_are_houses G_are_houses D_are_roads G_are_roads
  have WC : WalkC K CWalk := ⟨Cl_Walk, nWalk_net, nWalk_goals, nWalk_steps⟩
  have G_iH : FnOk l.prog w K mg base CX0 1 fAtHouse_init _ ["self", "at", "since"] (spI2 CAtHouse "at" "since") := ok_iH FAtHouse_init Cl_AtHouse nAtHouse_at nAtHouse_since
  have G_iR : FnOk l.prog w K mg base CX0 1 fOnRoad_init _ ["self", "by", "due"] (spI2 COnRoad "by" "due") := ok_iR FOnRoad_init Cl_OnRoad nOnRoad_by nOnRoad_due
  have G_iA : FnOk l.prog w K mg base CX0 1 fAtHome_init _ ["self", "since"] (spI1 CAtHome "since") := ok_iA FAtHome_init Cl_AtHome nAtHome_since
  have G_rs : FnOk l.prog w K mg base CX0 1 fNet_roads _ ["self"] (spRoadsM CNet) := ok_roadsM FNet_roads B NC
  have G_r1 : FnOk l.prog w K mg base CX0 1 fNet_road _ ["self", "number"] (spRoad0 CNet) := ok_road0 FNet_road B NC
  have G_wk : FnOk l.prog w K mg base CX0 1 fWalk_take_in _ ["self", "letter"] (spTake CWalk) := ok_take FWalk_take_in WC
  have G_wi : FnOk l.prog w K mg base CX0 2 fWalk_init _ ["self", "net", "letters"] (spWkI CWalk) := ok_wkI FWalk_init WC M_Walk_take_in G_wk
  have G_wh : FnOk l.prog w K mg base CX0 1 fWalk_last_house _ ["self", "number"] (spLastH CWalk) := ok_lastH FWalk_last_house WC
  have G_wt : FnOk l.prog w K mg base CX0 1 fWalk_last_turn _ ["self", "number"] (spLastT CWalk) := ok_lastT FWalk_last_turn WC
  have G_wm : FnOk l.prog w K mg base CX0 2 fWalk_home_turn _ ["self", "number"] (spHomeT CWalk) := ok_homeT FWalk_home_turn WC M_Walk_last_house G_wh M_Walk_last_turn G_wt
  have G_wc : FnOk l.prog w K mg base CX0 3 fWalk_can_leave _ ["self", "number", "house", "turn"] (spCanL CWalk) := ok_canL FWalk_can_leave WC M_Walk_last_house G_wh M_Walk_last_turn G_wt M_Walk_home_turn G_wm
  have G_ws : FnOk l.prog w K mg base CX0 2 fWalk_send _ ["self", "bag"] (spSend CWalk CNet) := ok_send FWalk_send WC Cl_Net M_Net_road G_r1
  have G_wp : FnOk l.prog w K mg base CX0 3 fWalk_spot_at _ ["self", "number", "turn"] (spSpAt CWalk ⟨CNotYet, CAtHouse, COnRoad, CAtHome⟩) := ok_spAt (S := ⟨CNotYet, CAtHouse, COnRoad, CAtHome⟩) FWalk_spot_at WC at_NotYet at_AtHouse at_OnRoad at_AtHome ⟨mkNotYet, in0NotYet, kcNotYet⟩ Mk_AtHouse D_AtHouse_init G_iH Mk_OnRoad D_OnRoad_init G_iR Mk_AtHome D_AtHome_init G_iA
  have G_ib : FnOk l.prog w K mg base CX0 2 fis_bag _ ["thing"] spIsBag := ok_isBag Fis_bag B D_is_whole G_is_whole D_is_tuple_of G_is_tuple_of
  have G_ri : FnOk l.prog w K mg base CX0 1 fare_rising_below _ ["numbers", "bound"] spRis := ok_ris Fare_rising_below
  have G_re : FnOk l.prog w K mg base CX0 4 freason_against _ ["walk", "net", "letters", "ahead", "thing"] (spRea CWalk CNet) := ok_rea Freason_against B Cl_Walk Cl_Net D_is_bag G_ib D_are_rising_below G_ri M_Net_roads G_rs M_Walk_can_leave G_wc
  have G_wo : FnOk l.prog w K mg base CX0 5 fwalk_of _ ["net", "letters", "plan"] (spWkOf CWalk CNet) := ok_wkOf Fwalk_of B WC at_Walk D_reason_against G_re Mk_Walk D_Walk_init G_wi M_Walk_send G_ws
  have G_sp : FnOk l.prog w K mg base CX0 6 fspots_at _ ["net", "letters", "plan", "turn"] (spSpots CWalk CNet ⟨CNotYet, CAtHouse, COnRoad, CAtHome⟩) := ok_spots (S := ⟨CNotYet, CAtHouse, COnRoad, CAtHome⟩) Fspots_at B Cl_Walk D_walk_of G_wo M_Walk_spot_at G_wp
  have G_at : FnOk l.prog w K mg base CX0 1 f_law_cell_at _ ["_law_script", "_law_k"] (spAt K) := ok_at F_law_cell_at B.len
  have G_hs : FnOk l.prog w K mg base CX0 1 f_law_houses _ ["_law_cell", "_law_many"] spHousesN := ok_housesN F_law_houses B
  have G_rd : FnOk l.prog w K mg base CX0 1 f_law_road _ ["_law_cell", "_law_names"] spRd1 := ok_rd1 F_law_road B
  have G_le : FnOk l.prog w K mg base CX0 1 f_law_letter _ ["_law_cell", "_law_names", "_law_base"] spLet1 := ok_let1 F_law_letter B
  have G_lg : FnOk l.prog w K mg base CX0 1 f_law_legs _ ["_law_lines", "_law_letters", "_law_cells", "_law_hops"] (spLegs K) := ok_legs F_law_legs B
  have G_pl : FnOk l.prog w K mg base CX0 1 f_law_plan _ ["_law_legs_here"] spPlan := ok_plan F_law_plan B
  have G_to : FnOk l.prog w K mg base CX0 1 f_law_told _ ["_law_spot"] (spTld ⟨CNotYet, CAtHouse, COnRoad, CAtHome⟩) := ok_told (S := ⟨CNotYet, CAtHouse, COnRoad, CAtHome⟩) F_law_told B at_Spot at_NotYet at_AtHouse at_OnRoad at_AtHome ⟨KnNotYet, KnAtHouse, KnOnRoad, KnAtHome⟩ Cl_AtHouse Cl_OnRoad Cl_AtHome nAtHouse_at nAtHouse_since nOnRoad_by nOnRoad_due nAtHome_since
  have G_ar : FnOk l.prog w K mg base CX0 6 farrivals _ ["net", "letters", "plan"] (spArr CWalk CNet) := ok_arr Farrivals B Cl_Walk D_walk_of G_wo M_Walk_home_turn G_wm
  have G_ah : FnOk l.prog w K mg base CX0 1 f_law_ahead _ ["_law_lines", "_law_letter_here", "_law_spot", "_law_turn"] spAhd := ok_ahd F_law_ahead B
  have G_se : FnOk l.prog w K mg base CX0 1 f_law_sent _ ["_law_plan_here", "_law_turn"] spSent := ok_sent F_law_sent B
  have G_go : FnOk l.prog w K mg base CX0 2 f_law_goes_on _ ["_law_lines", "_law_letters", "_law_before", "_law_after", "_law_sent_here", "_law_turn"] spGo := ok_go F_law_goes_on B D__law_ahead G_ah
  have G_fi : FnOk l.prog w K mg base CX0 1 f_law_fits _ ["_law_lines", "_law_spots_here"] spFit := ok_fit F_law_fits B
  have G_ss : FnOk l.prog w K mg base CX0 7 f_law_spots _ ["_law_net", "_law_letters", "_law_plan_here", "_law_turn"] (spSps CWalk CNet) := ok_sps (S := ⟨CNotYet, CAtHouse, COnRoad, CAtHome⟩) F_law_spots B D_spots_at G_sp D__law_told G_to
  exact ok_law Flaw B at_Net D__law_cell_at G_at D__law_houses G_hs D__law_road G_rd D__law_letter G_le D__law_legs G_lg D__law_plan G_pl Mk_Net D_Net_init G_Net_init D_arrivals G_ar D__law_spots G_ss D__law_fits G_fi D__law_sent G_se D__law_goes_on G_go
theorem walk {l : PySem.W.OpenLaw} {q : Program} {loose : List Str} {XP : (Str → Option Value) → Heap → Prop} {YP : World → Heap → Prop} {d : DefRec} {K : Params → PySem.W.Frag} (hn : l.most = some 63) (hdf : d.params.defaults = [])
    (hY : ∀ (w : World) (h : Heap), YP w h → (K w.params).In h)
    (F : ∀ (w : World) (mg : Str → Option Value) (fa : Addr) (h : Heap), (K w.params).In h → h.Ns mainGlobals mg → mg d.name = some (.ref fa) →
      ∃ fd : FuncData, (∀ (s : Shared) (u : Value), BindsTo s fd ⟨[u], []⟩ [("_law_script", u)]) ∧ ∀ base : Heap, (K w.params).In base → base.Ns mainGlobals mg → FnOk l.prog w (K w.params) mg base CX0 8 fa fd ["_law_script"] (spLaw (K w.params))) :
    PySem.W.WalkO q loose XP YP l.row.toRowW d [] (fun f vs => PySem.call f vs) :=
  L2.walk_of (n := 63) (k := 8) (x := "_law_script") (CX := fun _ => CX0) (sp := fun w => spLaw (K w.params)) hn (by decide) hdf ⟨rfl, by decide, by decide⟩ hY F (fun _ _ a ns hl _ hS => ⟨a, ns, rfl, hS, hl, fun _ => rfl⟩) fun _ _ _ _ _ z => z
end K1
noncomputable def PySem.W.Fast.tw2806675607819546988 : Unit := ()
noncomputable def PySem.W.Fast.tw11970006058741711377 : Unit := ()
noncomputable def PySem.W.Fast.tw4985229984905540939 : Unit := ()
noncomputable def PySem.W.Fast.tw16345467611068664332 : Unit := ()
noncomputable def PySem.W.Fast.tw18281721253381016650 : Unit := ()
noncomputable def PySem.W.Fast.tw17405070442379962237 : Unit := ()
noncomputable def PySem.W.Fast.tw16500008838405136497 : Unit := ()
noncomputable def PySem.W.Fast.tw6332783565180137579 : Unit := ()
noncomputable def PySem.W.Fast.tw17723011088813339881 : Unit := ()
noncomputable def PySem.W.Fast.tw5414757248812497346 : Unit := ()
noncomputable def PySem.W.Fast.tw17903033381481735576 : Unit := ()
noncomputable def PySem.W.Fast.tw15512360021643787041 : Unit := ()
noncomputable def PySem.W.Fast.tw13591989422119178661 : Unit := ()
noncomputable def PySem.W.Fast.tw11903947849985656507 : Unit := ()
noncomputable def PySem.W.Fast.tw2482707215109772700 : Unit := ()
noncomputable def PySem.W.Fast.tw7285526846619585606 : Unit := ()
noncomputable def PySem.W.Fast.tw13543284671876891377 : Unit := ()
noncomputable def PySem.W.Fast.tw153755430687539876 : Unit := ()
noncomputable def PySem.W.Fast.tw2953152967982607724 : Unit := ()
noncomputable def PySem.W.Fast.tw8292015321019283324 : Unit := ()
noncomputable def PySem.W.Fast.tw1978054008931438109 : Unit := ()
noncomputable def PySem.W.Fast.tw13628065194358913024 : Unit := ()
noncomputable def PySem.W.Fast.tw5163558125606509359 : Unit := ()
noncomputable def PySem.W.Fast.tw3622353412868579266 : Unit := ()
noncomputable def PySem.W.Fast.tw6826685216002057148 : Unit := ()
noncomputable def PySem.W.Fast.tw2831766196750150457 : Unit := ()
noncomputable def PySem.W.Fast.tw11756348099128919373 : Unit := ()
noncomputable def PySem.W.Fast.tw4857946366697974383 : Unit := ()
noncomputable def PySem.W.Fast.tw15429049462961524667 : Unit := ()
noncomputable def PySem.W.Fast.tw13774069370727465275 : Unit := ()
noncomputable def PySem.W.Fast.tw3914004966780530310 : Unit := ()
noncomputable def PySem.W.Fast.tw11950184997018014784 : Unit := ()
noncomputable def PySem.W.Fast.tw6207163875647185769 : Unit := ()
noncomputable def PySem.W.Fast.tw12428698572908232608 : Unit := ()
noncomputable def PySem.W.Fast.tw11544605018105681961 : Unit := ()
noncomputable def PySem.W.Fast.tw8487812144986266992 : Unit := ()
noncomputable def PySem.W.Fast.tw4124532740478374229 : Unit := ()
noncomputable def PySem.W.Fast.tw12106945847184829576 : Unit := ()
noncomputable def PySem.W.Fast.tw15615424511828654611 : Unit := ()
noncomputable def PySem.W.Fast.tw8315600395429516525 : Unit := ()
noncomputable def PySem.W.Fast.tw3492864736331895801 : Unit := ()
noncomputable def PySem.W.Fast.tw4000958404745826814 : Unit := ()
noncomputable def PySem.W.Fast.tw2525829820833250595 : Unit := ()
noncomputable def PySem.W.Fast.tw5306496486249033642 : Unit := ()
noncomputable def PySem.W.Fast.tw9615861210757809367 : Unit := ()
noncomputable def PySem.W.Fast.tw15937579717501677246 : Unit := ()
noncomputable def PySem.W.Fast.tw13269787829662472913 : Unit := ()
noncomputable def PySem.W.Fast.tw3484203787092941337 : Unit := ()
noncomputable def PySem.W.Fast.tw13363379165322608946 : Unit := ()
noncomputable def PySem.W.Fast.tw4887996660492857638 : Unit := ()
noncomputable def PySem.W.Fast.tw1038251292980400582 : Unit := ()
noncomputable def PySem.W.Fast.tw1620769959808296631 : Unit := ()
noncomputable def PySem.W.Fast.tw5484157828696947192 : Unit := ()
noncomputable def PySem.W.Fast.tw14566701456969154157 : Unit := ()
noncomputable def PySem.W.Fast.tw12397938985708532086 : Unit := ()
noncomputable def PySem.W.Fast.tw1049649375601573133 : Unit := ()
noncomputable def PySem.W.Fast.tw5376607081017810799 : Unit := ()
open PySem PySem.W PyProof.Rows
set_option maxRecDepth 100000 in
set_option maxHeartbeats 0 in
theorem PySem.Challenge.cw_postroad_k16_whole_letters_kept_holds : PySem.Challenge.rw_postroad_k16_whole_letters_kept.Holds := by
  w_on; o_law; k_head; (case hw => w_witness2)
  k_fill
  refine K1.walk (l := PySem.Challenge.rw_postroad_k16_whole_letters_kept) rfl rfl (fun w h Y => PySem.W.kIn_of Y) ?F
  case F =>
    intro w mg fa h KX G hmg
    refine' K1.all_mk KX G hmg ?aCSpot ?pgSpot ?hdSpot ?poSpot ?saSpot ?mkSpot ?kcSpot ?aCNotYet ?pgNotYet ?hdNotYet ?poNotYet ?saNotYet ?mkNotYet ?kcNotYet ?aCAtHouse ?pgAtHouse ?hdAtHouse ?poAtHouse ?saAtHouse ?mkAtHouse ?kcAtHouse ?nAtHouse_at ?nAtHouse_since ?aAtHouse_init ?iAtHouse_init ?FAtHouse_init ?aCOnRoad ?pgOnRoad ?hdOnRoad ?poOnRoad ?saOnRoad ?mkOnRoad ?kcOnRoad ?nOnRoad_by ?nOnRoad_due ?aOnRoad_init ?iOnRoad_init ?FOnRoad_init ?aCAtHome ?pgAtHome ?hdAtHome ?poAtHome ?saAtHome ?mkAtHome ?kcAtHome ?nAtHome_since ?aAtHome_init ?iAtHome_init ?FAtHome_init ?aCNet ?pgNet ?hdNet ?poNet ?saNet ?mkNet ?kcNet ?nNet_kept_houses ?nNet_kept_roads ?aNet_init ?iNet_init ?FNet_init ?aNet_roads ?iNet_roads ?FNet_roads ?aNet_road ?iNet_road ?FNet_road ?aCWalk ?pgWalk ?hdWalk ?poWalk ?saWalk ?mkWalk ?kcWalk ?nWalk_net ?nWalk_goals ?nWalk_steps ?aWalk_init ?iWalk_init ?FWalk_init ?aWalk_take_in ?iWalk_take_in ?FWalk_take_in ?aWalk_send ?iWalk_send ?FWalk_send ?aWalk_last_house ?iWalk_last_house ?FWalk_last_house ?aWalk_last_turn ?iWalk_last_turn ?FWalk_last_turn ?aWalk_home_turn ?iWalk_home_turn ?FWalk_home_turn ?aWalk_can_leave ?iWalk_can_leave ?FWalk_can_leave ?aWalk_spot_at ?iWalk_spot_at ?FWalk_spot_at ?ais_whole ?Fis_whole ?ais_whole_within ?Fis_whole_within ?ais_tuple_of ?Fis_tuple_of ?aare_unlike_houses ?Fare_unlike_houses ?ais_name ?Fis_name ?aare_houses ?Fare_houses ?ais_road ?Fis_road ?aare_roads ?Fare_roads ?ais_bag ?Fis_bag ?aare_rising_below ?Fare_rising_below ?areason_against ?Freason_against ?awalk_of ?Fwalk_of ?aarrivals ?Farrivals ?aspots_at ?Fspots_at ?a_law_cell_at ?F_law_cell_at ?a_law_houses ?F_law_houses ?a_law_road ?F_law_road ?a_law_letter ?F_law_letter ?a_law_legs ?F_law_legs ?a_law_plan ?F_law_plan ?a_law_told ?F_law_told ?a_law_ahead ?F_law_ahead ?a_law_sent ?F_law_sent ?a_law_goes_on ?F_law_goes_on ?a_law_fits ?F_law_fits ?a_law_spots ?F_law_spots ?alaw ?Flaw ?vMOST_HOUSES ?vMOST_ROADS ?vMOST_SIGNS ?vMOST_TURNS ?vMOST_ROOM ?zlen ?zrange ?zisinstance ?zall ?zint ?zbool ?zstr ?zlist ?ztuple ?zset ?zValueError ?zenumerate ?zmax ?zmin ?zsum ?zany ?zdict ?zsorted ?zzip ?in0NotYet ?hnC ?htC ?haNotYet ?hmNotYet ?haAtHouse ?hmAtHouse ?haOnRoad ?hmOnRoad ?haAtHome ?hmAtHome ?icSpot ?tySpot ?icNotYet ?tyNotYet ?icAtHouse ?tyAtHouse ?icOnRoad ?tyOnRoad ?icAtHome ?tyAtHome ?suNotYet_Spot ?suNotYet_NotYet ?suNotYet_AtHouse ?neNotYet_AtHouse ?suNotYet_OnRoad ?neNotYet_OnRoad ?suNotYet_AtHome ?neNotYet_AtHome ?suAtHouse_Spot ?suAtHouse_NotYet ?neAtHouse_NotYet ?suAtHouse_AtHouse ?suAtHouse_OnRoad ?neAtHouse_OnRoad ?suAtHouse_AtHome ?neAtHouse_AtHome ?suOnRoad_Spot ?suOnRoad_NotYet ?neOnRoad_NotYet ?suOnRoad_AtHouse ?neOnRoad_AtHouse ?suOnRoad_OnRoad ?suOnRoad_AtHome ?neOnRoad_AtHome ?suAtHome_Spot ?suAtHome_NotYet ?neAtHome_NotYet ?suAtHome_AtHouse ?neAtHome_AtHouse ?suAtHome_OnRoad ?neAtHome_OnRoad ?suAtHome_AtHome
    (case aCSpot => k_is)
    (case pgSpot => k_is)
    (case hdSpot => k_is)
    (case poSpot => k_is)
    (case saSpot => k_is)
    (case mkSpot => k_is)
    (case kcSpot => k_is)
    (case aCNotYet => k_is)
    (case pgNotYet => k_is)
    (case hdNotYet => k_is)
    (case poNotYet => k_is)
    (case saNotYet => k_is)
    (case mkNotYet => k_is)
    (case kcNotYet => k_is)
    (case aCAtHouse => k_is)
    (case pgAtHouse => k_is)
    (case hdAtHouse => k_is)
    (case poAtHouse => k_is)
    (case saAtHouse => k_is)
    (case mkAtHouse => k_is)
    (case kcAtHouse => k_is)
    (case nAtHouse_at => k_is)
    (case nAtHouse_since => k_is)
    (case aAtHouse_init => k_is)
    (case iAtHouse_init => k_is)
    (case FAtHouse_init => refine' L2.fun_mk ?z ?y ?x; (case z => k_is); (case y => k_is); (case x => k_is))
    (case aCOnRoad => k_is)
    (case pgOnRoad => k_is)
    (case hdOnRoad => k_is)
    (case poOnRoad => k_is)
    (case saOnRoad => k_is)
    (case mkOnRoad => k_is)
    (case kcOnRoad => k_is)
    (case nOnRoad_by => k_is)
    (case nOnRoad_due => k_is)
    (case aOnRoad_init => k_is)
    (case iOnRoad_init => k_is)
    (case FOnRoad_init => refine' L2.fun_mk ?z ?y ?x; (case z => k_is); (case y => k_is); (case x => k_is))
    (case aCAtHome => k_is)
    (case pgAtHome => k_is)
    (case hdAtHome => k_is)
    (case poAtHome => k_is)
    (case saAtHome => k_is)
    (case mkAtHome => k_is)
    (case kcAtHome => k_is)
    (case nAtHome_since => k_is)
    (case aAtHome_init => k_is)
    (case iAtHome_init => k_is)
    (case FAtHome_init => refine' L2.fun_mk ?z ?y ?x; (case z => k_is); (case y => k_is); (case x => k_is))
    (case aCNet => k_is)
    (case pgNet => k_is)
    (case hdNet => k_is)
    (case poNet => k_is)
    (case saNet => k_is)
    (case mkNet => k_is)
    (case kcNet => k_is)
    (case nNet_kept_houses => k_is)
    (case nNet_kept_roads => k_is)
    (case aNet_init => k_is)
    (case iNet_init => k_is)
    (case FNet_init => refine' L2.fun_mk ?z ?y ?x; (case z => k_is); (case y => k_is); (case x => k_is))
    (case aNet_roads => k_is)
    (case iNet_roads => k_is)
    (case FNet_roads => refine' L2.fun_mk ?z ?y ?x; (case z => k_is); (case y => k_is); (case x => k_is))
    (case aNet_road => k_is)
    (case iNet_road => k_is)
    (case FNet_road => refine' L2.fun_mk ?z ?y ?x; (case z => k_is); (case y => k_is); (case x => k_is))
    (case aCWalk => k_is)
    (case pgWalk => k_is)
    (case hdWalk => k_is)
    (case poWalk => k_is)
    (case saWalk => k_is)
    (case mkWalk => k_is)
    (case kcWalk => k_is)
    (case nWalk_net => k_is)
    (case nWalk_goals => k_is)
    (case nWalk_steps => k_is)
    (case aWalk_init => k_is)
    (case iWalk_init => k_is)
    (case FWalk_init => refine' L2.fun_mk ?z ?y ?x; (case z => k_is); (case y => k_is); (case x => k_is))
    (case aWalk_take_in => k_is)
    (case iWalk_take_in => k_is)
    (case FWalk_take_in => refine' L2.fun_mk ?z ?y ?x; (case z => k_is); (case y => k_is); (case x => k_is))
    (case aWalk_send => k_is)
    (case iWalk_send => k_is)
    (case FWalk_send => refine' L2.fun_mk ?z ?y ?x; (case z => k_is); (case y => k_is); (case x => k_is))
    (case aWalk_last_house => k_is)
    (case iWalk_last_house => k_is)
    (case FWalk_last_house => refine' L2.fun_mk ?z ?y ?x; (case z => k_is); (case y => k_is); (case x => k_is))
    (case aWalk_last_turn => k_is)
    (case iWalk_last_turn => k_is)
    (case FWalk_last_turn => refine' L2.fun_mk ?z ?y ?x; (case z => k_is); (case y => k_is); (case x => k_is))
    (case aWalk_home_turn => k_is)
    (case iWalk_home_turn => k_is)
    (case FWalk_home_turn => refine' L2.fun_mk ?z ?y ?x; (case z => k_is); (case y => k_is); (case x => k_is))
    (case aWalk_can_leave => k_is)
    (case iWalk_can_leave => k_is)
    (case FWalk_can_leave => refine' L2.fun_mk ?z ?y ?x; (case z => k_is); (case y => k_is); (case x => k_is))
    (case aWalk_spot_at => k_is)
    (case iWalk_spot_at => k_is)
    (case FWalk_spot_at => refine' L2.fun_mk ?z ?y ?x; (case z => k_is); (case y => k_is); (case x => k_is))
    (case ais_whole => k_is)
    (case Fis_whole => refine' L2.fun_mk ?z ?y ?x; (case z => k_is); (case y => k_is); (case x => k_is))
    (case ais_whole_within => k_is)
    (case Fis_whole_within => refine' L2.fun_mk ?z ?y ?x; (case z => k_is); (case y => k_is); (case x => k_is))
    (case ais_tuple_of => k_is)
    (case Fis_tuple_of => refine' L2.fun_mk ?z ?y ?x; (case z => k_is); (case y => k_is); (case x => k_is))
    (case aare_unlike_houses => k_is)
    (case Fare_unlike_houses => refine' L2.fun_mk ?z ?y ?x; (case z => k_is); (case y => k_is); (case x => k_is))
    (case ais_name => k_is)
    (case Fis_name => refine' L2.fun_mk ?z ?y ?x; (case z => k_is); (case y => k_is); (case x => k_is))
    (case aare_houses => k_is)
    (case Fare_houses => refine' L2.fun_mk ?z ?y ?x; (case z => k_is); (case y => k_is); (case x => k_is))
    (case ais_road => k_is)
    (case Fis_road => refine' L2.fun_mk ?z ?y ?x; (case z => k_is); (case y => k_is); (case x => k_is))
    (case aare_roads => k_is)
    (case Fare_roads => refine' L2.fun_mk ?z ?y ?x; (case z => k_is); (case y => k_is); (case x => k_is))
    (case ais_bag => k_is)
    (case Fis_bag => refine' L2.fun_mk ?z ?y ?x; (case z => k_is); (case y => k_is); (case x => k_is))
    (case aare_rising_below => k_is)
    (case Fare_rising_below => refine' L2.fun_mk ?z ?y ?x; (case z => k_is); (case y => k_is); (case x => k_is))
    (case areason_against => k_is)
    (case Freason_against => refine' L2.fun_mk ?z ?y ?x; (case z => k_is); (case y => k_is); (case x => k_is))
    (case awalk_of => k_is)
    (case Fwalk_of => refine' L2.fun_mk ?z ?y ?x; (case z => k_is); (case y => k_is); (case x => k_is))
    (case aarrivals => k_is)
    (case Farrivals => refine' L2.fun_mk ?z ?y ?x; (case z => k_is); (case y => k_is); (case x => k_is))
    (case aspots_at => k_is)
    (case Fspots_at => refine' L2.fun_mk ?z ?y ?x; (case z => k_is); (case y => k_is); (case x => k_is))
    (case a_law_cell_at => k_is)
    (case F_law_cell_at => refine' L2.fun_mk ?z ?y ?x; (case z => k_is); (case y => k_is); (case x => k_is))
    (case a_law_houses => k_is)
    (case F_law_houses => refine' L2.fun_mk ?z ?y ?x; (case z => k_is); (case y => k_is); (case x => k_is))
    (case a_law_road => k_is)
    (case F_law_road => refine' L2.fun_mk ?z ?y ?x; (case z => k_is); (case y => k_is); (case x => k_is))
    (case a_law_letter => k_is)
    (case F_law_letter => refine' L2.fun_mk ?z ?y ?x; (case z => k_is); (case y => k_is); (case x => k_is))
    (case a_law_legs => k_is)
    (case F_law_legs => refine' L2.fun_mk ?z ?y ?x; (case z => k_is); (case y => k_is); (case x => k_is))
    (case a_law_plan => k_is)
    (case F_law_plan => refine' L2.fun_mk ?z ?y ?x; (case z => k_is); (case y => k_is); (case x => k_is))
    (case a_law_told => k_is)
    (case F_law_told => refine' L2.fun_mk ?z ?y ?x; (case z => k_is); (case y => k_is); (case x => k_is))
    (case a_law_ahead => k_is)
    (case F_law_ahead => refine' L2.fun_mk ?z ?y ?x; (case z => k_is); (case y => k_is); (case x => k_is))
    (case a_law_sent => k_is)
    (case F_law_sent => refine' L2.fun_mk ?z ?y ?x; (case z => k_is); (case y => k_is); (case x => k_is))
    (case a_law_goes_on => k_is)
    (case F_law_goes_on => refine' L2.fun_mk ?z ?y ?x; (case z => k_is); (case y => k_is); (case x => k_is))
    (case a_law_fits => k_is)
    (case F_law_fits => refine' L2.fun_mk ?z ?y ?x; (case z => k_is); (case y => k_is); (case x => k_is))
    (case a_law_spots => k_is)
    (case F_law_spots => refine' L2.fun_mk ?z ?y ?x; (case z => k_is); (case y => k_is); (case x => k_is))
    (case alaw => k_is)
    (case Flaw => refine' L2.fun_mk ?z ?y ?x; (case z => k_is); (case y => k_is); (case x => k_is))
    (case vMOST_HOUSES => k_is)
    (case vMOST_ROADS => k_is)
    (case vMOST_SIGNS => k_is)
    (case vMOST_TURNS => k_is)
    (case vMOST_ROOM => k_is)
    (case zlen => k_is)
    (case zrange => k_is)
    (case zisinstance => k_is)
    (case zall => k_is)
    (case zint => k_is)
    (case zbool => k_is)
    (case zstr => k_is)
    (case zlist => k_is)
    (case ztuple => k_is)
    (case zset => k_is)
    (case zValueError => k_is)
    (case zenumerate => k_is)
    (case zmax => k_is)
    (case zmin => k_is)
    (case zsum => k_is)
    (case zany => k_is)
    (case zdict => k_is)
    (case zsorted => k_is)
    (case zzip => k_is)
    (case in0NotYet => k_is)
    (case hnC => k_is)
    (case htC => k_is)
    (case haNotYet => k_is)
    (case hmNotYet => k_is)
    (case haAtHouse => k_is)
    (case hmAtHouse => k_is)
    (case haOnRoad => k_is)
    (case hmOnRoad => k_is)
    (case haAtHome => k_is)
    (case hmAtHome => k_is)
    (case icSpot => k_is)
    (case tySpot => k_is)
    (case icNotYet => k_is)
    (case tyNotYet => k_is)
    (case icAtHouse => k_is)
    (case tyAtHouse => k_is)
    (case icOnRoad => k_is)
    (case tyOnRoad => k_is)
    (case icAtHome => k_is)
    (case tyAtHome => k_is)
    (case suNotYet_Spot => k_is)
    (case suNotYet_NotYet => k_is)
    (case suNotYet_AtHouse => k_is)
    (case neNotYet_AtHouse => decide +kernel)
    (case suNotYet_OnRoad => k_is)
    (case neNotYet_OnRoad => decide +kernel)
    (case suNotYet_AtHome => k_is)
    (case neNotYet_AtHome => decide +kernel)
    (case suAtHouse_Spot => k_is)
    (case suAtHouse_NotYet => k_is)
    (case neAtHouse_NotYet => decide +kernel)
    (case suAtHouse_AtHouse => k_is)
    (case suAtHouse_OnRoad => k_is)
    (case neAtHouse_OnRoad => decide +kernel)
    (case suAtHouse_AtHome => k_is)
    (case neAtHouse_AtHome => decide +kernel)
    (case suOnRoad_Spot => k_is)
    (case suOnRoad_NotYet => k_is)
    (case neOnRoad_NotYet => decide +kernel)
    (case suOnRoad_AtHouse => k_is)
    (case neOnRoad_AtHouse => decide +kernel)
    (case suOnRoad_OnRoad => k_is)
    (case suOnRoad_AtHome => k_is)
    (case neOnRoad_AtHome => decide +kernel)
    (case suAtHome_Spot => k_is)
    (case suAtHome_NotYet => k_is)
    (case neAtHome_NotYet => decide +kernel)
    (case suAtHome_AtHouse => k_is)
    (case neAtHome_AtHouse => decide +kernel)
    (case suAtHome_OnRoad => k_is)
    (case neAtHome_OnRoad => decide +kernel)
    (case suAtHome_AtHome => k_is)
