import PyProof.Rows.All
import Wide.All
import OpenK.AllK
import Wide.FinOn
import Lean
import PyProof.EqAt
import PyProof.EqKinds
import PyProof.TupleCall
import PySem.Challenge.RW_postroad_k02_what_is_no_net

set_option Elab.async false
set_option linter.all false
set_option maxRecDepth 100000
namespace L2
open PySem PySem.Spec PyProof.Rows

noncomputable abbrev Key := Sum Int Str
noncomputable def keyIs : Key → Value → Bool
  | .inl k, v => Value.isInt k v
  | .inr x, v => Value.isStrOf x v
noncomputable def keyH (w : World) : Key → Int
  | .inl k => hashInt k
  | .inr x => hashStr w x
theorem keyIs_shape : ∀ {k : Key} {v : Value}, keyIs k v = true → (∃ i t, k = Sum.inl i ∧ v = Value.int i t) ∨ (∃ x t, k = Sum.inr x ∧ v = Value.str x t)
  | .inl i, v, h => by
    obtain ⟨t, e⟩ := Value.isInt_shape (k := i) (v := v) h
    exact .inl ⟨i, t, rfl, e⟩
  | .inr x, v, h => by
    obtain ⟨t, e⟩ := Value.isStrOf_shape (x := x) (v := v) h
    exact .inr ⟨x, t, rfl, e⟩
theorem key_ll (a b : Int) : decide ((Sum.inl a : Key) = Sum.inl b) = (a == b) := by
  by_cases e : a = b
  · subst e; simp
  · have h : ¬ (Sum.inl a : Key) = Sum.inl b := fun q => e (Sum.inl.inj q)
    rw [decide_eq_false h]
    exact (beq_eq_false_iff_ne.mpr e).symm
theorem key_rr (a b : Str) : decide ((Sum.inr a : Key) = Sum.inr b) = decide (a = b) := by
  by_cases e : a = b
  · subst e; simp
  · have h : ¬ (Sum.inr a : Key) = Sum.inr b := fun q => e (Sum.inr.inj q)
    rw [decide_eq_false h, decide_eq_false e]
theorem key_lr (a : Int) (b : Str) : decide ((Sum.inl a : Key) = Sum.inr b) = false := decide_eq_false (fun q => nomatch q)
theorem key_rl (a : Str) (b : Int) : decide ((Sum.inr a : Key) = Sum.inl b) = false := decide_eq_false (fun q => nomatch q)

noncomputable def mixKind (prog : Program) (w : World) : PySem.KeyKind prog w Key where
  is := keyIs
  hash := keyH w
  inj := fun v a b ha hb => by
    rcases keyIs_shape ha with ⟨i, t, rfl, rfl⟩ | ⟨x, t, rfl, rfl⟩
    · rcases keyIs_shape hb with ⟨j, u, rfl, e⟩ | ⟨y, u, rfl, e⟩
      · injection e with e1 _; rw [e1]
      · exact nomatch e
    · rcases keyIs_shape hb with ⟨j, u, rfl, e⟩ | ⟨y, u, rfl, e⟩
      · exact nomatch e
      · injection e with e1 _; rw [e1]
  byValue := fun k v h => by
    rcases keyIs_shape h with ⟨i, t, rfl, rfl⟩ | ⟨x, t, rfl, rfl⟩ <;> rfl
  pyHash := fun hv h => by
    rcases keyIs_shape hv with ⟨i, t, rfl, rfl⟩ | ⟨x, t, rfl, rfl⟩
    · exact wpAny_pyHash_int h
    · exact wpAny_pyHash_str h
  eqBool := fun hu hv h => by
    rcases keyIs_shape hu with ⟨i, t, rfl, rfl⟩ | ⟨x, t, rfl, rfl⟩
    · rcases keyIs_shape hv with ⟨j, u, rfl, rfl⟩ | ⟨y, u, rfl, rfl⟩
      · rw [key_ll] at h; exact wpAny_eqBool_int h
      · rw [key_lr] at h; exact SeqAt.EqAt.int_str i t y u _ _ _ _ h
    · rcases keyIs_shape hv with ⟨j, u, rfl, rfl⟩ | ⟨y, u, rfl, rfl⟩
      · rw [key_rl] at h; exact SeqAt.EqAt.str_int x t j u _ _ _ _ h
      · rw [key_rr] at h; exact wpAny_eqBool_str h
  «strs» := fun k x t v h => by
    rcases keyIs_shape h with ⟨i, u, rfl, e⟩ | ⟨y, u, rfl, e⟩
    · exact nomatch e
    · injection e with e1 _
      subst e1
      cases v <;> rfl

end L2

namespace L2
open PySem PySem.Spec PyProof.Rows

inductive V where
  | non | bl (b : Bool) | int (i : Int) | str (x : Str) | byt (b : Array UInt8) | flt (b : UInt64) | ref (a : Addr) | ty (n : String)
  deriving DecidableEq

noncomputable def RelV : V → Value → Prop
  | .non, u => u = Value.none
  | .bl b, u => u = Value.bool b
  | .int i, u => ∃ t, u = Value.int i t
  | .str x, u => ∃ t, u = Value.str x t
  | .byt b, u => ∃ t, u = Value.bytes b t
  | .flt b, u => ∃ t, u = Value.float b t
  | .ref a, u => u = Value.ref a
  | .ty n, u => u = Value.type n

noncomputable abbrev Vals : List V → List Value → Prop := Paired RelV
theorem Vals.length {xs : List V} {us : List Value} (r : Vals xs us) : xs.length = us.length := Paired.length r
theorem Vals.get : ∀ {xs : List V} {us : List Value} {i : Nat} {x : V}, Vals xs us → xs[i]? = some x → ∃ u, us[i]? = some u ∧ RelV x u
  | _, _, _, _, .nil, e => by simp at e
  | _, _, 0, _, .cons r _, e => by simp at e; subst e; exact ⟨_, rfl, r⟩
  | _, _, i + 1, x, .cons _ t, e => by
    obtain ⟨u, h1, h2⟩ := Vals.get (i := i) (x := x) t (by simpa using e)
    exact ⟨u, by simpa using h1, h2⟩
theorem Vals.append : ∀ {xs ys : List V} {us ws : List Value}, Vals xs us → Vals ys ws → Vals (xs ++ ys) (us ++ ws)
  | _, _, _, _, .nil, s => s
  | _, _, _, _, .cons r t, s => .cons r (Vals.append t s)
theorem Vals.take : ∀ {xs : List V} {us : List Value} (n : Nat), Vals xs us → Vals (xs.take n) (us.take n)
  | _, _, 0, _ => .nil
  | _, _, _ + 1, .nil => .nil
  | _, _, n + 1, .cons r t => .cons r (Vals.take n t)
theorem Vals.drop : ∀ {xs : List V} {us : List Value} (n : Nat), Vals xs us → Vals (xs.drop n) (us.drop n)
  | _, _, 0, r => r
  | _, _, _ + 1, .nil => .nil
  | _, _, n + 1, .cons _ t => Vals.drop n t
noncomputable def RelO : Option V → Option Value → Prop
  | some v, some u => RelV v u
  | none, none => True
  | _, _ => False
noncomputable def KV {κ : Type} : List (κ × V) → List (κ × Value) → Prop := Paired fun (p : κ × V) (q : κ × Value) => p.1 = q.1 ∧ RelV p.2 q.2

noncomputable def kV : Key → V
  | .inl i => .int i
  | .inr x => .str x

inductive HO where
  /-- a list -/
  | lst (xs : List V)
  /-- a tuple (never changes) -/
  | tup (xs : List V)
  /-- a dict whose keys are ints and texts; one whose keys are tuples of ints and texts (the empty one is both) -/
  | dK (kvs : List (Key × V)) | dT (kvs : List (List Key × V))
  /-- a set of ints: its members, its size -/
  | set (S : Int → Bool) (n : Nat)
  /-- an instance of the class at C, its dict at dx, its attributes -/
  | ins (C dx : Addr) (fs : List (Str × V))
  /-- the dict of the instance at x -/
  | own (x : Addr)
  /-- the dict of an exception -/
  | xd (fs : List (Str × V))
  /-- a bound method, f of x -/
  | met (f x : Addr)
  /-- a range object lo, lo + 1, .. below hi -/
  | rng (lo hi : Int)
  /-- a thing that is known to the object (the script; a dict while a loop walks it): read, never written while it is so -/
  | frz (o : Obj) (u : HO)
  /-- a code object's table -/
  | tbl (ps : Array Value)
  /-- any other thing, by what is true of its one object (a def of one's own: SetO a S n := HO.ext fun h => ..) -/
  | ext (φ : Heap → Prop)

noncomputable abbrev Hp := Addr → Option HO
noncomputable def upd (H : Hp) (a : Addr) (o : HO) : Hp := fun b => if b = a then some o else H b
theorem upd_same {H : Hp} {a : Addr} {o : HO} : upd H a o a = some o := by unfold upd; rw [if_pos rfl]
theorem upd_ne {H : Hp} {a b : Addr} {o : HO} (h : b ≠ a) : upd H a o b = H b := by unfold upd; rw [if_neg h]
theorem ne_of_none {H : Hp} {a b : Addr} {o : HO} (h : H a = some o) (h' : H b = none) : a ≠ b := by
  intro e; subst e; rw [h] at h'; cases h'

section
variable (P : Program) (w : World)
noncomputable def ObjOk (H : Hp) (h : Heap) (a : Addr) : HO → Prop
  | .lst xs => xs.length ≤ sizeLine ∧ ∃ (its : List Value) (n : Nat), Vals xs its ∧ h.get? a = some { cls := .type "list", data := .seq its.toArray n }
  | .tup xs => xs.length ≤ sizeLine ∧ ∃ its : List Value, Vals xs its ∧ IsTup h a its.toArray
  | .dK kvs => kvs.length ≤ sizeLine ∧ (a == sysModules) = false ∧ ∃ vs, KV kvs vs ∧ h.DictOf (mixKind P w) a vs
  | .dT kvs => kvs.length ≤ sizeLine ∧ (a == sysModules) = false ∧ ∃ xs : List (List Key × Addr × Value),
      Paired (fun (p : List Key × V) (q : List Key × Addr × Value) => p.1 = q.1 ∧ H q.2.1 = some (.tup (p.1.map kV)) ∧ RelV p.2 q.2.2) kvs xs ∧
      ∃ o es ep, h.get? a = some o ∧ o.ExactDict ∧ o.data = .dict es ep ∧ es.toList = xs.map (entryOfKey (tupleKind (mixKind P w))) ∧ (xs.map (·.1)).Nodup
  | .set S n => h.SetOf (intKind P w) a S n
  | .ins C dx fs => H dx = some (.own a) ∧ fs.length ≤ 1000 ∧ dx ≠ a ∧ h.get? a = some (PySem.W.instObj C dx) ∧
      ∃ mA, h.Ns1 dx mA ∧ (∀ f, RelO (fs.lookup f) (mA f)) ∧ PySem.Within mA (fs.map (·.1))
  | .own _ => ∃ o, h.get? a = some o
  | .xd fs => ∃ mA, h.Ns1 a mA ∧ ∀ f, RelO (fs.lookup f) (mA f)
  | .rng lo hi => ∃ t u v, h.get? a = some { cls := .type "range", data := .fields #[.int lo t, .int hi u, .int 1 v] }
  | .frz o u => h.get? a = some o ∧ ObjOk H h a u
  | .tbl ps => h.get? a = some { cls := .none, data := .fields ps }
  | .met f x => h.get? a = some (PySem.W.methodObj (.ref f) (.ref x))
  | .ext φ => φ h ∧ (∃ o, h.get? a = some o) ∧ ∀ h1 h2 : Heap, φ h1 → (∀ o, h1.get? a = some o → h2.get? a = some o) → φ h2
noncomputable def HOk (H : Hp) (h : Heap) : Prop := ∀ a o, H a = some o → ObjOk P w H h a o
end

section
variable {P : Program} {w : World} {H H' : Hp} {h h' : Heap} {a : Addr} {o : HO}
theorem ObjOk.lt (x : ObjOk P w H h a o) : a < h.objs.size := by
  cases o with
  | lst xs => obtain ⟨_, _, _, _, e⟩ := x; exact Heap.lt_size e
  | tup xs => obtain ⟨_, _, _, p⟩ := x; exact p.lt
  | dK kvs => obtain ⟨_, _, _, _, o, _, _, e, _⟩ := x; exact Heap.lt_size e
  | dT kvs => obtain ⟨_, _, _, _, o, _, _, e, _⟩ := x; exact Heap.lt_size e
  | set S n => obtain ⟨o, _, _, _, e, _⟩ := x; exact Heap.lt_size e
  | ins C dx fs => obtain ⟨_, _, _, e, _⟩ := x; exact Heap.lt_size e
  | own y => obtain ⟨_, e⟩ := x; exact Heap.lt_size e
  | xd fs => obtain ⟨_, ⟨_, _, _, e, _⟩, _⟩ := x; exact Heap.lt_size e
  | rng lo hi => obtain ⟨_, _, _, e⟩ := x; exact Heap.lt_size e
  | frz ob u => obtain ⟨e, _⟩ := x; exact Heap.lt_size e
  | tbl ps => exact Heap.lt_size (show h.get? a = some _ from x)
  | met f y => exact Heap.lt_size (show h.get? a = some _ from x)
  | ext φ => obtain ⟨_, ⟨_, e⟩, _⟩ := x; exact Heap.lt_size e
theorem Paired.mapP {α β : Type} {F G : α → β → Prop} : ∀ {l₁ : List α} {l₂ : List β}, Paired F l₁ l₂ → (∀ a b, F a b → G a b) → Paired G l₁ l₂
  | _, _, .nil, _ => .nil
  | _, _, .cons r t, f => .cons (f _ _ r) (Paired.mapP t f)
theorem ObjOk.stay (x : ObjOk P w H h a o) (k : ∀ b u, (b = a ∨ H b = some (.own a)) → h.get? b = some u → h'.get? b = some u)
    (ho : ∀ b, H b = some (.own a) → H' b = some (.own a)) (ht : ∀ b xs, H b = some (.tup xs) → H' b = some (.tup xs)) : ObjOk P w H' h' a o := by
  induction o with
  | lst xs => obtain ⟨z, its, n, r, e⟩ := x; exact ⟨z, its, n, r, k _ _ (.inl rfl) e⟩
  | tup xs => obtain ⟨z, its, r, ob, e, c⟩ := x; exact ⟨z, its, r, ob, k _ _ (.inl rfl) e, c⟩
  | dK kvs => obtain ⟨z, y, vs, r, ob, es, ep, e, c⟩ := x; exact ⟨z, y, vs, r, ob, es, ep, k _ _ (.inl rfl) e, c⟩
  | dT kvs =>
    obtain ⟨z, y, xs, r, ob, es, ep, e, c⟩ := x
    exact ⟨z, y, xs, Paired.mapP r fun p q z => ⟨z.1, ht _ _ z.2.1, z.2.2⟩, ob, es, ep, k _ _ (.inl rfl) e, c⟩
  | set S n => obtain ⟨ob, es, ep, t, e, c⟩ := x; exact ⟨ob, es, ep, t, k _ _ (.inl rfl) e, c⟩
  | ins C dx fs =>
    obtain ⟨d, z, ne, e, mA, ⟨od, es, ep, e2, c⟩, r⟩ := x
    exact ⟨ho _ d, z, ne, k _ _ (.inl rfl) e, mA, ⟨od, es, ep, k _ _ (.inr d) e2, c⟩, r⟩
  | own y => obtain ⟨ob, e⟩ := x; exact ⟨ob, k _ _ (.inl rfl) e⟩
  | xd fs => obtain ⟨mA, ⟨od, es, ep, e, c⟩, r⟩ := x; exact ⟨mA, ⟨od, es, ep, k _ _ (.inl rfl) e, c⟩, r⟩
  | rng lo hi => obtain ⟨t, u, v, e⟩ := x; exact ⟨t, u, v, k _ _ (.inl rfl) e⟩
  | frz ob u ih => obtain ⟨e, q⟩ := x; exact ⟨k _ _ (.inl rfl) e, ih q⟩
  | tbl ps =>
    have e : h.get? a = some { cls := .none, data := .fields ps } := x
    show h'.get? a = some { cls := .none, data := .fields ps }
    exact k a _ (.inl rfl) e
  | met f y =>
    have e : h.get? a = some (PySem.W.methodObj (.ref f) (.ref y)) := x
    show h'.get? a = some (PySem.W.methodObj (.ref f) (.ref y))
    exact k a _ (.inl rfl) e
  | ext φ => obtain ⟨p, ⟨o, e⟩, st⟩ := x; exact ⟨st _ _ p fun o q => k _ _ (.inl rfl) q, ⟨o, k _ _ (.inl rfl) e⟩, st⟩
theorem HOk.lt (x : HOk P w H h) (e : H a = some o) : a < h.objs.size := (x a o e).lt
theorem HOk.fresh (x : HOk P w H h) (e : h.objs.size ≤ a) : H a = none := by
  cases q : H a with
  | none => rfl
  | some u => exact absurd (Nat.lt_of_lt_of_le (x.lt q) e) (Nat.lt_irrefl _)
theorem HOk.kept (x : HOk P w H h) (k : ∀ b u, h.get? b = some u → h'.get? b = some u) : HOk P w H h' := fun a o e =>
  (x a o e).stay (fun b u _ q => k b u q) (fun _ q => q) fun _ _ q => q
theorem HOk.laid (x : HOk P w H h) (k : ∀ b u, h.get? b = some u → h'.get? b = some u) (hp : h.objs.size ≤ a) (new : ObjOk P w (upd H a o) h' a o) : HOk P w (upd H a o) h' := fun b u e => by
  have hn := x.fresh hp
  by_cases hb : b = a
  · subst hb; rw [upd_same] at e; cases e; exact new
  · rw [upd_ne hb] at e
    exact (x b u e).stay (fun c v _ q => k c v q) (fun c q => by rw [upd_ne (ne_of_none q hn)]; exact q) fun c xs q => by rw [upd_ne (ne_of_none q hn)]; exact q
end

noncomputable def Rd (H : Hp) (a : Addr) (u : HO) : Prop := H a = some u ∨ ∃ o, H a = some (.frz o u)
theorem Rd.ok {P : Program} {w : World} {H : Hp} {h : Heap} {a : Addr} {u : HO} (r : Rd H a u) (x : HOk P w H h) : ObjOk P w H h a u := by
  rcases r with r | ⟨o, r⟩
  · exact x a u r
  · obtain ⟨_, q⟩ := x a _ r
    exact q
noncomputable def Mut : Option HO → Prop
  | some (.lst _) => True
  | some (.dK _) => True
  | some (.dT _) => True
  | some (.set _ _) => True
  | some (.ins _ _ _) => True
  | some (.ext _) => True
  | _ => False
section
variable {P : Program} {w : World} {H : Hp} {h h' : Heap} {x e : Addr} {o' : HO}
theorem HOk.write (ok : HOk P w H h) (mu : Mut (H x)) (he : e = x ∨ H e = some (.own x)) (k : ∀ b u, b ≠ e → h.get? b = some u → h'.get? b = some u) (heo : ∃ u, h'.get? e = some u)
    (new : ObjOk P w (upd H x o') h' x o') : HOk P w (upd H x o') h' := fun b u q => by
  have nown : ∀ c y, H c = some (.own y) → c ≠ x := fun c y r z => by subst z; rw [r] at mu; exact mu
  have ntup : ∀ c xs, H c = some (.tup xs) → c ≠ x := fun c xs r z => by subst z; rw [r] at mu; exact mu
  by_cases hb : b = x
  · subst hb; rw [upd_same] at q; cases q; exact new
  · rw [upd_ne hb] at q
    by_cases hbe : b = e
    · have q' : H b = some (.own x) := by
        rcases he with z | z
        · exact absurd (hbe.trans z) hb
        · rw [hbe]; exact z
      rw [q] at q'; cases q'
      obtain ⟨v, hv⟩ := heo
      exact ⟨v, by rw [hbe]; exact hv⟩
    · refine (ok b u q).stay (fun c v hc r => k c v ?_ r) (fun c r => by rw [upd_ne (nown c b r)]; exact r) fun c xs r => by rw [upd_ne (ntup c xs r)]; exact r
      rcases hc with rfl | hc
      · exact hbe
      · rintro rfl
        rcases he with z | z
        · exact nown c b hc z
        · rw [hc] at z; cases z; exact hb rfl
end

structure Un (fs ex : List Addr) (H H' : Hp) (h h' : Heap) : Prop where
  keep : ∀ b o, h.get? b = some o → H b = none → b ∉ fs → b ∉ ex → h'.get? b = some o
  slot : ∀ b o, h.get? b = some o → H b = none → b ∈ fs → b ∉ ex → ∃ sl, h'.get? b = some { o with slots := sl }
  free : ∀ b o, h.get? b = some o → H b = none → b ∉ ex → H' b = none
  there : ∀ b o, h.get? b = some o → b ∉ ex → ∃ o', h'.get? b = some o'
  tups : ∀ b xs, H b = some (.tup xs) → H' b = some (.tup xs)
  frzs : ∀ b o u, H b = some (.frz o u) → H' b = some (.frz o u)
  tbls : ∀ b ps, H b = some (.tbl ps) → ∃ more, H' b = some (.tbl (ps ++ more))
section
variable {fs fs' ex ex' : List Addr} {H H1 H2 : Hp} {h h1 h2 h' : Heap} {a x e : Addr} {o : HO}
theorem Un.any (u : Un fs ex H H1 h h1) {b : Addr} {ob : Obj} (q : h.get? b = some ob) (n : H b = none) (hx : b ∉ ex) : ∃ sl, h1.get? b = some { ob with slots := sl } := by
  by_cases hb : b ∈ fs
  · exact u.slot b ob q n hb hx
  · exact ⟨ob.slots, u.keep b ob q n hb hx⟩
theorem Un.kept (k : ∀ b u, h.get? b = some u → h'.get? b = some u) : Un fs ex H H h h' :=
  ⟨fun b ob q _ _ _ => k b ob q, fun b ob q _ _ _ => ⟨ob.slots, k b ob q⟩, fun _ _ _ n _ => n, fun b ob q _ => ⟨ob, k b ob q⟩, fun _ _ q => q, fun _ _ _ q => q, fun _ ps q => ⟨#[], by rw [q]; simp⟩⟩
theorem Un.refl : Un fs ex H H h h := Un.kept fun _ _ q => q
theorem Un.laid (k : ∀ b u, h.get? b = some u → h'.get? b = some u) (hp : h.objs.size ≤ a) (hn : H a = none) : Un fs ex H (upd H a o) h h' where
  keep := fun b u q _ _ _ => k b u q
  slot := fun b u q _ _ _ => ⟨u.slots, k b u q⟩
  free := fun b u q n _ => by rw [upd_ne (Nat.ne_of_lt (Nat.lt_of_lt_of_le (Heap.lt_size q) hp))]; exact n
  there := fun b u q _ => ⟨u, k b u q⟩
  tups := fun b xs q => by rw [upd_ne (ne_of_none q hn)]; exact q
  frzs := fun b u xs q => by rw [upd_ne (ne_of_none q hn)]; exact q
  tbls := fun b ps q => ⟨#[], by rw [upd_ne (ne_of_none q hn), q]; simp⟩
theorem Un.write (mu : Mut (H x)) (he : e = x ∨ H e = some (.own x)) (k : ∀ b u, b ≠ e → h.get? b = some u → h'.get? b = some u) (heo : ∃ u, h'.get? e = some u) : Un fs ex H (upd H x o) h h' := by
  have hx : ∀ b, H b = none → b ≠ x := fun b n z => by subst z; rw [n] at mu; exact mu
  have hb : ∀ b, H b = none → b ≠ e := fun b n z => by
    subst z
    rcases he with r | r
    · exact hx b n r
    · rw [n] at r; cases r
  have hm : ∀ b u, H b = some u → ¬ Mut (some u) → b ≠ x := fun b u q nm z => by subst z; rw [q] at mu; exact nm mu
  refine ⟨fun b u q n _ _ => k b u (hb b n) q, fun b u q n _ _ => ⟨u.slots, k b u (hb b n) q⟩, fun b u q n _ => by rw [upd_ne (hx b n)]; exact n, fun b u q _ => ?_,
    fun b xs q => by rw [upd_ne (hm b _ q fun z => z)]; exact q, fun b u xs q => by rw [upd_ne (hm b _ q fun z => z)]; exact q, fun b ps q => ⟨#[], by rw [upd_ne (hm b _ q fun z => z), q]; simp⟩⟩
  by_cases hbe : b = e
  · subst hbe; exact heo
  · exact ⟨u, k b u hbe q⟩
end

noncomputable def trk (h : Heap) (H : Hp) : List Addr := (List.range h.objs.size).filter fun a => (H a).isSome
noncomputable def hidT (h : Heap) (H : Hp) : Heap := PySem.W.hideAll h (trk h H)
theorem hidT_size (h : Heap) (H : Hp) : (hidT h H).objs.size = h.objs.size := PySem.W.hideAll_size _ _
theorem hidT_get {h : Heap} {H : Hp} {b : Addr} {o : Obj} (e : h.get? b = some o) (n : H b = none) : (hidT h H).get? b = some o :=
  PySem.W.hideAll_get _ e fun hm => by
    have q : (H b).isSome = true := (List.mem_filter.mp hm).2
    rw [n] at q; simp at q
theorem of_hidT {h : Heap} {H : Hp} {b : Addr} {o : Obj} (e : (hidT h H).get? b = some o) : h.get? b = some o ∧ H b = none := by
  have e' : h.get? b = some o := PySem.W.of_hideAll (trk h H) e
  refine ⟨e', ?_⟩
  cases q : H b with
  | none => rfl
  | some x =>
    have hm : b ∈ trk h H := List.mem_filter.mpr ⟨List.mem_range.mpr (Heap.lt_size e'), by simp [q]⟩
    have z : (hidT h H).get? b = none := PySem.W.hideAll_none (trk h H) hm
    rw [z] at e; cases e

noncomputable def allNews (g h : Heap) (L : Addr) : List (Addr × Obj) := (List.range h.objs.size).filterMap fun a => if a = L ∨ (g.get? a).isSome = true then none else (h.get? a).map fun o => (a, o)
noncomputable def rest (g h : Heap) (L d : Addr) : List (Addr × Obj) := (allNews g h L).filter fun p => decide (p.1 ≠ d)
end L2

namespace L2
open PySem PySem.Spec PyProof.Rows

structure Mod (K : PySem.W.Frag) (mg : Str → Option Value) (base : Heap) : Prop where
  kin : K.In base
  glob : base.Ns mainGlobals mg
  blt : ∃ mb, base.Ns builtinsNs mb ∧ ∀ x : Str, x ≠ "__name__" → mb x = bootBuiltins x
  nolimit : base.NoLimit

structure Cx where
  prog : Program
  w : World
  K : PySem.W.Frag
  mg : Str → Option Value
  base : Heap
  A : Around
  N : List Str
  s₀ : Shared
  H₀ : Hp
  env : Env
  outer : List Env
  stack : List Env
  ex : List Addr
  fn : Str → Bool
  calm : Bool
  pn : List (Addr × Obj)
  xe : Value → Shared → Prop
noncomputable def frs (l : List Env) : List Addr := l.filterMap (·.frame)
noncomputable abbrev Cx.fs (X : Cx) : List Addr := frs X.outer

noncomputable def Vis (sc : Scope) (x : Str) : Prop := sc.names.lookup x = some .local ∨ sc.names.lookup x = some .cell ∨ sc.names.lookup x = some .free
noncomputable def Loc (sc : Scope) (x : Str) : Prop := sc.names.lookup x = some .local ∨ sc.names.lookup x = some .cell
noncomputable def Look (env : Env) (h : Heap) (m : Str → Option Value) (x : Str) (u : Value) : Prop :=
  (env.kindOf x = some .local ∧ m x = some u) ∨ ((env.kindOf x = some .cell ∨ env.kindOf x = some .free) ∧ ∃ c, env.cells.lookup x = some c ∧ h.IsCell c (some u))

structure Cx.Ok (X : Cx) : Prop where
  mod : Mod X.K X.mg X.base
  kind : X.env.scope.kind = .function
  glob : X.env.globals = mainGlobals
  blt : X.env.builtins = builtinsNs
  above : X.s₀.heap.objs.size ≤ X.env.locals
  inj : ∀ x y c, X.env.cells.lookup x = some c → X.env.cells.lookup y = some c → x = y
  has : ∀ x, (X.env.kindOf x = some .cell ∨ X.env.kindOf x = some .free) → ∃ c, X.env.cells.lookup x = some c
  cab : ∀ x c, X.fn x = true → X.env.cells.lookup x = some c → X.s₀.heap.objs.size ≤ c
  hd : X.calm = true → X.A.handled = none
  frames : X.A.frames = some X.stack
  stk : X.stack = X.outer ∨ (X.stack = X.env :: X.outer ∧ X.env.frame = some X.env.locals)
  exf : ∀ b ∈ X.ex, b ≠ X.env.locals ∧ ∀ x c, X.env.cells.lookup x = some c → c ≠ b
  bs : ∀ b o, X.base.get? b = some o → X.s₀.heap.get? b = some o ∧ X.H₀ b = none
  bsz : X.base.objs.size ≤ X.s₀.heap.objs.size
  noex : ∀ b o, X.base.get? b = some o → b ∉ X.ex
  exfs : ∀ b ∈ X.ex, b ∉ X.fs
  funs : X.s₀.heap.FunFrames X.base X.outer
  frf : ∀ b ∈ X.fs, X.H₀ b = none

structure Inv (X : Cx) (pins : List (Addr × Obj)) (σ : List (Option V)) (H : Hp) (s : Shared) : Prop where
  ok : X.Ok
  os : s.os = X.s₀.os
  bare : AllBare s.gens
  base : Un X.fs X.ex X.H₀ H X.s₀.heap s.heap
  loc : ∃ m, s.heap.Ns X.env.locals m ∧ ∀ (i : Nat) (x : Str) (v : V), X.N[i]? = some x → σ[i]? = some (some v) → Vis X.env.scope x → ∃ u, RelV v u ∧ Look X.env s.heap m x u
  cell : ∀ x c, X.env.cells.lookup x = some c → ∃ v, s.heap.IsCell c v
  free : H X.env.locals = none
  freeC : ∀ x c, X.env.cells.lookup x = some c → H c = none
  pin : ∀ p ∈ X.pn ++ pins, s.heap.get? p.1 = some p.2 ∧ H p.1 = none ∧ p.1 ≠ X.env.locals ∧ p.1 ∉ X.fs ∧ ∀ v, p.2.data ≠ .cell v
  hok : HOk X.prog X.w H s.heap
  len : σ.length = X.N.length

section
variable {X : Cx} {pins : List (Addr × Obj)} {σ : List (Option V)} {H H' : Hp} {s : Shared} {h' : Heap}

theorem Cx.Ok.nofr (ok : X.Ok) {b : Addr} {o : Obj} (e : X.base.get? b = some o) : b ∉ X.fs := fun hb => by
  have := (ok.funs.mem hb).1
  rw [e] at this; cases this
theorem Inv.bs (I : Inv X pins σ H s) : ∀ b o, X.base.get? b = some o → s.heap.get? b = some o ∧ H b = none := fun b o e =>
  ⟨I.base.keep b o (I.ok.bs b o e).1 (I.ok.bs b o e).2 (I.ok.nofr e) (I.ok.noex b o e), I.base.free b o (I.ok.bs b o e).1 (I.ok.bs b o e).2 (I.ok.noex b o e)⟩
theorem Inv.bk (I : Inv X pins σ H s) : ∀ b o, X.base.get? b = some o → s.heap.get? b = some o := fun b o e => (I.bs b o e).1
theorem Inv.mod (I : Inv X pins σ H s) : Mod X.K X.mg X.base := I.ok.mod
theorem Inv.kIn (I : Inv X pins σ H s) : X.K.In s.heap := I.ok.mod.kin.keeps I.bk
theorem Inv.lt (I : Inv X pins σ H s) : X.env.locals < s.heap.objs.size := let ⟨_, hn, _⟩ := I.loc; hn.lt
theorem Inv.sz (I : Inv X pins σ H s) : X.s₀.heap.objs.size ≤ s.heap.objs.size := Nat.le_trans I.ok.above (Nat.le_of_lt I.lt)
theorem Inv.nofs (I : Inv X pins σ H s) {a : Addr} (h : s.heap.objs.size ≤ a) : a ∉ X.fs := fun hb => by
  obtain ⟨_, o, ho, _⟩ := I.ok.funs.mem hb
  exact absurd (Nat.lt_of_lt_of_le (Heap.lt_size ho) (Nat.le_trans I.sz h)) (Nat.lt_irrefl _)
theorem Inv.cne (I : Inv X pins σ H s) : ∀ x c, X.env.cells.lookup x = some c → c ≠ X.env.locals := fun x c e z => by
  obtain ⟨v, o, ho, hd⟩ := I.cell x c e
  obtain ⟨m, ⟨o', es, ep, ho', hd', _⟩, _⟩ := I.loc
  rw [z, ho'] at ho; cases ho; rw [hd'] at hd; cases hd
theorem Inv.funs (I : Inv X pins σ H s) : s.heap.FunFrames X.base X.outer := by
  have all : ∀ (l : List Env), (∀ b ∈ frs l, b ∈ X.fs) → X.s₀.heap.FunFrames X.base l → s.heap.FunFrames X.base l := by
    intro l
    induction l with
    | nil => intro _ _; trivial
    | cons env r ih =>
      intro hs hl
      obtain ⟨hk, ⟨L, o, hf, hn, ho, hd⟩, hr⟩ := hl
      have hL : L ∈ X.fs := hs L (by unfold frs; rw [List.filterMap_cons, hf]; exact List.mem_cons_self)
      obtain ⟨sl, e⟩ := I.base.slot L o ho (I.ok.frf L hL) hL fun z => I.ok.exfs L z hL
      exact ⟨hk, ⟨L, _, hf, hn, e, hd⟩, ih (fun b hb => hs b (by unfold frs; rw [List.filterMap_cons, hf]; exact List.mem_cons_of_mem _ hb)) hr⟩
  exact all X.outer (fun _ hb => hb) I.ok.funs

theorem Inv.stack (I : Inv X pins σ H s) : s.heap.FunFrames X.base X.stack := by
  rcases I.ok.stk with e | ⟨e, hf⟩
  · rw [e]; exact I.funs
  · rw [e]
    obtain ⟨m, hn, _⟩ := I.loc
    refine .cons (by rw [I.ok.kind]; decide) hf hn ?_ I.funs
    exact Heap.get?_none_of_le (Nat.le_trans I.ok.bsz I.ok.above)
theorem Inv.stkSub (I : Inv X pins σ H s) : ∀ b ∈ frs X.stack, b ∈ X.env.locals :: X.fs := fun b hb => by
  rcases I.ok.stk with e | ⟨e, hf⟩
  · rw [e] at hb; exact List.mem_cons_of_mem _ hb
  · rw [e] at hb
    unfold frs at hb
    rw [List.filterMap_cons, hf] at hb
    exact hb
theorem Inv.stkFree (I : Inv X pins σ H s) : ∀ b ∈ frs X.stack, H b = none := fun b hb => by
  rcases List.mem_cons.mp (I.stkSub b hb) with e | hb
  · rw [e]; exact I.free
  · obtain ⟨_, o, ho, _⟩ := I.ok.funs.mem hb
    exact I.base.free b o ho (I.ok.frf b hb) fun z => I.ok.exfs b z hb

theorem Inv.step {g' : Array GenState} {t' : Nat} {d' : Drawn} {ch : List Addr} (I : Inv X pins σ H s)
    (hch : ∀ b ∈ ch, (b ∈ X.ex ∨ X.s₀.heap.objs.size ≤ b) ∧ b ≠ X.env.locals ∧ (∀ x c, X.env.cells.lookup x = some c → c ≠ b) ∧ ∀ p ∈ X.pn ++ pins, p.1 ≠ b)
    (keep : ∀ b o, b ≠ X.env.locals → b ∉ X.fs → b ∉ ch → s.heap.get? b = some o → H b = none → h'.get? b = some o)
    (slot : ∀ b o, b ≠ X.env.locals → b ∈ X.fs → b ∉ ch → s.heap.get? b = some o → H b = none → ∃ sl, h'.get? b = some { o with slots := sl }) (free : ∀ b o, b ∉ ch → s.heap.get? b = some o → H b = none → H' b = none)
    (there : ∀ b o, b ∉ ch → s.heap.get? b = some o → ∃ o', h'.get? b = some o')
    (tups : ∀ b xs, H b = some (.tup xs) → H' b = some (.tup xs)) (frzs : ∀ b o u, H b = some (.frz o u) → H' b = some (.frz o u)) (tbls : ∀ b ps, H b = some (.tbl ps) → ∃ more, H' b = some (.tbl (ps ++ more)))
    (ns : ∀ m, s.heap.Ns X.env.locals m → h'.Ns X.env.locals m) (hok : HOk X.prog X.w H' h') (hg : AllBare g') :
    Inv X pins σ H' { s with heap := h', gens := g', drawn := d', toks := t' } := by
  have neL : ∀ b o, X.s₀.heap.get? b = some o → b ≠ X.env.locals := fun b o e => Nat.ne_of_lt (Nat.lt_of_lt_of_le (Heap.lt_size e) I.ok.above)
  have neC : ∀ b o, X.s₀.heap.get? b = some o → b ∉ X.ex → b ∉ ch := fun b o e hx hb => by
    rcases (hch b hb).1 with z | z
    · exact hx z
    · exact absurd (Nat.lt_of_lt_of_le (Heap.lt_size e) z) (Nat.lt_irrefl _)
  have cellK : ∀ x c, X.env.cells.lookup x = some c → ∀ v, s.heap.IsCell c v → h'.IsCell c v := fun x c e v ⟨o, ho, hd⟩ => by
    have nch : c ∉ ch := fun z => (hch c z).2.2.1 x c e rfl
    by_cases hc : c ∈ X.fs
    · obtain ⟨sl, q⟩ := slot c o (I.cne x c e) hc nch ho (I.freeC x c e)
      exact ⟨_, q, hd⟩
    · exact ⟨o, keep c o (I.cne x c e) hc nch ho (I.freeC x c e), hd⟩
  refine ⟨I.ok, I.os, hg, ⟨fun b o e n hb hx => ?_, fun b o e n hb hx => ?_, fun b o e n hx => ?_, fun b o e hx => ?_, fun b xs e => tups b xs (I.base.tups b xs e), fun b o xs e => frzs b o xs (I.base.frzs b o xs e), fun b ps e => ?_⟩, ?_, fun x c e => ?_, ?_, fun x c e => ?_, fun p hp => ?_, hok, I.len⟩
  · exact keep b o (neL b o e) hb (neC b o e hx) (I.base.keep b o e n hb hx) (I.base.free b o e n hx)
  · obtain ⟨sl, e1⟩ := I.base.slot b o e n hb hx
    obtain ⟨sl', e2⟩ := slot b _ (neL b o e) hb (neC b o e hx) e1 (I.base.free b o e n hx)
    exact ⟨sl', e2⟩
  · obtain ⟨o', e1⟩ := I.base.there b o e hx
    exact free b o' (neC b o e hx) e1 (I.base.free b o e n hx)
  · obtain ⟨o', e1⟩ := I.base.there b o e hx
    exact there b o' (neC b o e hx) e1
  · obtain ⟨m1, e1⟩ := I.base.tbls b ps e
    obtain ⟨m2, e2⟩ := tbls b _ e1
    exact ⟨m1 ++ m2, by rw [e2, Array.append_assoc]⟩
  · obtain ⟨m, hn, hl⟩ := I.loc
    refine ⟨m, ns m hn, fun i x v e1 e2 e3 => ?_⟩
    obtain ⟨u, r, l⟩ := hl i x v e1 e2 e3
    refine ⟨u, r, ?_⟩
    rcases l with l | ⟨k, c, e, z⟩
    · exact .inl l
    · exact .inr ⟨k, c, e, cellK x c e _ z⟩
  · obtain ⟨v, z⟩ := I.cell x c e
    exact ⟨v, cellK x c e v z⟩
  · obtain ⟨m, ⟨o, _, _, ho, _⟩, _⟩ := I.loc
    exact free _ o (fun z => (hch _ z).2.1 rfl) ho I.free
  · obtain ⟨v, o, ho, hd⟩ := I.cell x c e
    exact free c o (fun z => (hch c z).2.2.1 x c e rfl) ho (I.freeC x c e)
  · obtain ⟨e, n, ne, nf, d⟩ := I.pin p hp
    have nch : p.1 ∉ ch := fun z => (hch p.1 z).2.2.2 p hp rfl
    exact ⟨keep p.1 p.2 ne nf nch e n, free p.1 p.2 nch e n, ne, nf, d⟩
theorem Inv.un {t' : Nat} (I : Inv X pins σ H s) (u : Un X.fs [] H H' s.heap h') (hok : HOk X.prog X.w H' h') : Inv X pins σ H' { s with heap := h', toks := t' } := by
  obtain ⟨m, ⟨o, es, ep, ho, r⟩, _⟩ := id I.loc
  obtain ⟨sl, hL⟩ := u.any ho I.free (by simp)
  exact I.step (g' := s.gens) (d' := s.drawn) (ch := []) (fun _ z => nomatch z) (fun b o _ hb _ e n => u.keep b o e n hb (by simp)) (fun b o _ hb _ e n => u.slot b o e n hb (by simp)) (fun b o _ e n => u.free b o e n (by simp)) (fun b o _ e => u.there b o e (by simp)) u.tups u.frzs u.tbls (fun m' hm => by
    obtain ⟨o', es', ep', ho', r'⟩ := hm
    rw [ho] at ho'; cases ho'
    exact ⟨_, es', ep', hL, r'⟩) hok I.bare
theorem Inv.call {g' : Array GenState} {t' : Nat} {d' : Drawn} {ch : List Addr} (I : Inv X pins σ H s) (u : Un (frs X.stack) ch H H' s.heap h') (hok : HOk X.prog X.w H' h') (hg : AllBare g')
    (hch : ∀ b ∈ ch, (b ∈ X.ex ∨ X.s₀.heap.objs.size ≤ b) ∧ b ≠ X.env.locals ∧ (∀ x c, X.env.cells.lookup x = some c → c ≠ b) ∧ ∀ p ∈ X.pn ++ pins, p.1 ≠ b) :
    Inv X pins σ H' { s with heap := h', gens := g', drawn := d', toks := t' } := by
  obtain ⟨m, ⟨o, es, ep, ho, r⟩, _⟩ := id I.loc
  obtain ⟨sl, hL⟩ := u.any ho I.free fun z => (hch _ z).2.1 rfl
  exact I.step (ch := ch) hch (fun b o hL hb hc e n => u.keep b o e n (fun z => (List.mem_cons.mp (I.stkSub b z)).elim hL hb) hc) (fun b o _ _ hc e n => u.any e n hc) (fun b o hc e n => u.free b o e n hc) (fun b o hc e => u.there b o e hc) u.tups u.frzs u.tbls (fun m' hm => by
    obtain ⟨o', es', ep', ho', r'⟩ := hm
    rw [ho] at ho'; cases ho'
    exact ⟨_, es', ep', hL, r'⟩) hok hg
theorem Inv.turned {t' : Nat} {it : Addr} (I : Inv X pins σ H s) (k : ∀ b o, b ≠ it → s.heap.get? b = some o → h'.get? b = some o) (hn : H it = none) (hL : it ≠ X.env.locals)
    (h1 : it ∈ X.ex ∨ X.s₀.heap.objs.size ≤ it) (h2 : ∀ x c, X.env.cells.lookup x = some c → c ≠ it) (h3 : ∀ p ∈ X.pn ++ pins, p.1 ≠ it) : Inv X pins σ H { s with heap := h', toks := t' } := by
  have nit : ∀ b u, H b = some u → b ≠ it := fun b u e z => by rw [z, hn] at e; cases e
  refine I.step (g' := s.gens) (d' := s.drawn) (ch := [it]) (fun b hb => ?_) (fun b o _ _ hc e _ => k b o (fun z => hc (by simp [z])) e) (fun b o _ _ hc e _ => ⟨o.slots, k b o (fun z => hc (by simp [z])) e⟩) (fun _ _ _ _ n => n)
    (fun b o hc e => ⟨o, k b o (fun z => hc (by simp [z])) e⟩) (fun _ _ e => e) (fun _ _ _ e => e) (fun b ps e => ⟨#[], by rw [e]; simp⟩) (fun m hm => ?_) (fun b u e => ?_) I.bare
  · have e : b = it := by simpa using hb
    subst e
    exact ⟨h1, hL, h2, h3⟩
  · obtain ⟨o, es, ep, ho, r⟩ := hm
    exact ⟨o, es, ep, k _ o (Ne.symm hL) ho, r⟩
  · refine (I.hok b u e).stay (fun c v hc q => k c v ?_ q) (fun _ q => q) fun _ _ q => q
    rcases hc with z | z
    · rw [z]; exact nit b u e
    · exact nit c _ z
theorem Inv.tok (I : Inv X pins σ H s) (t : Nat) : Inv X pins σ H { s with toks := t } := I.un (h' := s.heap) (t' := t) Un.refl I.hok
theorem Inv.kept {t' : Nat} (I : Inv X pins σ H s) (k : ∀ b u, s.heap.get? b = some u → h'.get? b = some u) : Inv X pins σ H { s with heap := h', toks := t' } := I.un (Un.kept k) (I.hok.kept k)
theorem Inv.laid {a : Addr} {o : HO} {t' : Nat} (I : Inv X pins σ H s) (k : ∀ b u, s.heap.get? b = some u → h'.get? b = some u) (hp : s.heap.objs.size ≤ a) (new : ObjOk X.prog X.w (upd H a o) h' a o) :
    Inv X pins σ (upd H a o) { s with heap := h', toks := t' } := I.un (Un.laid k hp (I.hok.fresh hp)) (I.hok.laid k hp new)
theorem Inv.write {x e : Addr} {o : HO} {t' : Nat} (I : Inv X pins σ H s) (mu : Mut (H x)) (he : e = x ∨ H e = some (.own x)) (k : ∀ b u, b ≠ e → s.heap.get? b = some u → h'.get? b = some u) (heo : ∃ u, h'.get? e = some u)
    (new : ObjOk X.prog X.w (upd H x o) h' x o) : Inv X pins σ (upd H x o) { s with heap := h', toks := t' } := I.un (Un.write mu he k heo) (I.hok.write mu he k heo new)
theorem Inv.pins_of {pins' : List (Addr × Obj)} (I : Inv X pins σ H s) (h : ∀ p ∈ pins', s.heap.get? p.1 = some p.2 ∧ H p.1 = none ∧ p.1 ≠ X.env.locals ∧ p.1 ∉ X.fs ∧ ∀ v, p.2.data ≠ .cell v) : Inv X pins' σ H s :=
  ⟨I.ok, I.os, I.bare, I.base, I.loc, I.cell, I.free, I.freeC, fun p hp => (List.mem_append.mp hp).elim (fun z => I.pin p (List.mem_append_left _ z)) (h p), I.hok, I.len⟩

theorem nodup_ix {N : List Str} (hN : N.Nodup) {i j : Nat} {x : Str} (a : N[i]? = some x) (b : N[j]? = some x) : i = j := by
  obtain ⟨h1, e1⟩ := List.getElem?_eq_some_iff.mp a
  obtain ⟨h2, e2⟩ := List.getElem?_eq_some_iff.mp b
  exact (List.getElem_inj hN).mp (e1.trans e2.symm)

theorem store_ok2 {M : Model} {A : Around} {E : Value → Shared → Prop} {i : Nat} {x : Str} {v : V} {u : Value} {Q : Unit → Shared → Prop} (I : Inv X pins σ H s) (hN : X.N.Nodup) (hi : X.N[i]? = some x) (hx : Loc X.env.scope x) (r : RelV v u)
    (h : ∀ s', Inv X pins (σ.set i (some v)) H s' → (∃ a, Heap.SameBut a s.heap s'.heap ∧ (a = X.env.locals ∨ X.env.cells.lookup x = some a)) → Q () s') (hf : X.fn x = true ∨ X.env.scope.names.lookup x = some .local := by first | exact .inl rfl | exact .inr rfl | assumption) : wpAny M A (storeName X.env x u) Q E s := by
  obtain ⟨m, hn, hl⟩ := id I.loc
  have hcls : (X.env.scope.kind == .class || (X.env.scope.kind == .module && X.env.locals != X.env.globals)) = false := by rw [I.ok.kind]; rfl
  have hiσ : i < σ.length := by rw [I.len]; exact (List.getElem?_eq_some_iff.mp hi).1
  have cne := I.cne
  have tracked : ∀ {a : Addr} {h' : Heap}, (∃ o, s.heap.get? a = some o ∧ H a = none) → Heap.SameBut a s.heap h' → HOk X.prog X.w H h' := fun {a h'} ha hs b ob e => by
    obtain ⟨_, _, hfree⟩ := ha
    refine (I.hok b ob e).stay (fun c w' hc q => (hs.2 c ?_).trans q) (fun _ q => q) fun _ _ q => q
    rintro rfl
    rcases hc with rfl | hc
    · rw [hfree] at e; cases e
    · rw [hfree] at hc; cases hc
  rcases hx with hk | hk
  · refine wpAny_storeName_local hk hn (fun h' hn' hs => ?_) hcls
    obtain ⟨oL, _, _, hoL, _⟩ := id hn
    refine h _ ⟨I.ok, I.os, I.bare, ⟨fun b o e n hb hx => ?_, fun b o e n hb hx => ?_, I.base.free, fun b o e hx => ?_, I.base.tups, I.base.frzs, I.base.tbls⟩, ⟨_, hn', fun j y v' e1 e2 e3 => ?_⟩, fun y c e => ?_, I.free, I.freeC, fun p hp => ?_, tracked ⟨oL, hoL, I.free⟩ hs, by simpa using I.len⟩ ⟨_, hs, .inl rfl⟩
    · exact (hs.2 b (Nat.ne_of_lt (Nat.lt_of_lt_of_le (Heap.lt_size e) I.ok.above))).trans (I.base.keep b o e n hb hx)
    · obtain ⟨sl, e1⟩ := I.base.slot b o e n hb hx
      exact ⟨sl, (hs.2 b (Nat.ne_of_lt (Nat.lt_of_lt_of_le (Heap.lt_size e) I.ok.above))).trans e1⟩
    · obtain ⟨o', e1⟩ := I.base.there b o e hx
      exact ⟨o', (hs.2 b (Nat.ne_of_lt (Nat.lt_of_lt_of_le (Heap.lt_size e) I.ok.above))).trans e1⟩
    · by_cases hj : j = i
      · subst hj
        rw [hi] at e1; cases e1
        rw [List.getElem?_set_self hiσ] at e2
        cases e2
        exact ⟨u, r, .inl ⟨hk, by simp⟩⟩
      · rw [List.getElem?_set_ne (Ne.symm hj)] at e2
        obtain ⟨u', r', q⟩ := hl j y v' e1 e2 e3
        refine ⟨u', r', ?_⟩
        rcases q with ⟨k, e⟩ | ⟨k, c, e, z⟩
        · refine .inl ⟨k, ?_⟩
          have : y ≠ x := fun e => hj (nodup_ix hN e1 (e ▸ hi))
          simp [this, e]
        · exact .inr ⟨k, c, e, z.sameBut hs (cne y c e)⟩
    · obtain ⟨w', z⟩ := I.cell y c e
      exact ⟨w', z.sameBut hs (cne y c e)⟩
    · obtain ⟨e, n, ne, nf, d⟩ := I.pin p hp
      exact ⟨(hs.2 p.1 ne).trans e, n, ne, nf, d⟩
  · have hfn : X.fn x = true := by
      rcases hf with z | z
      · exact z
      · rw [z] at hk; cases hk
    obtain ⟨c, hc⟩ := I.ok.has x (.inl hk)
    obtain ⟨w', z⟩ := I.cell x c hc
    refine wpAny_storeName_cell I.ok.kind hk hc z (fun h' hc' hs => ?_)
    obtain ⟨oc, hoc, hocd⟩ := id z
    refine h { s with heap := h' } ⟨I.ok, I.os, I.bare, ⟨fun b o e n hb hx => ?_, fun b o e n hb hx => ?_, I.base.free, fun b o e hx => ?_, I.base.tups, I.base.frzs, I.base.tbls⟩, ⟨m, hn.sameBut hs (Ne.symm (cne x c hc)), fun j y v' e1 e2 e3 => ?_⟩, fun y c' e => ?_, I.free, I.freeC, fun p hp => ?_, tracked ⟨oc, hoc, I.freeC x c hc⟩ hs, by simpa using I.len⟩ ⟨c, hs, .inr hc⟩
    · exact (hs.2 b (Nat.ne_of_lt (Nat.lt_of_lt_of_le (Heap.lt_size e) (I.ok.cab x c hfn hc)))).trans (I.base.keep b o e n hb hx)
    · obtain ⟨sl, e1⟩ := I.base.slot b o e n hb hx
      exact ⟨sl, (hs.2 b (Nat.ne_of_lt (Nat.lt_of_lt_of_le (Heap.lt_size e) (I.ok.cab x c hfn hc)))).trans e1⟩
    · obtain ⟨o', e1⟩ := I.base.there b o e hx
      exact ⟨o', (hs.2 b (Nat.ne_of_lt (Nat.lt_of_lt_of_le (Heap.lt_size e) (I.ok.cab x c hfn hc)))).trans e1⟩
    · by_cases hj : j = i
      · subst hj
        rw [hi] at e1; cases e1
        rw [List.getElem?_set_self hiσ] at e2
        cases e2
        exact ⟨u, r, .inr ⟨.inl hk, c, hc, hc'⟩⟩
      · rw [List.getElem?_set_ne (Ne.symm hj)] at e2
        obtain ⟨u', r', q⟩ := hl j y v' e1 e2 e3
        refine ⟨u', r', ?_⟩
        rcases q with q | ⟨k, c', e, z'⟩
        · exact .inl q
        · refine .inr ⟨k, c', e, z'.sameBut hs ?_⟩
          rintro rfl
          exact hj (nodup_ix hN e1 (I.ok.inj _ _ _ e hc ▸ hi))
    · by_cases hcc : c' = c
      · subst hcc; exact ⟨_, hc'⟩
      · obtain ⟨w2, z2⟩ := I.cell y c' e
        exact ⟨w2, z2.sameBut hs hcc⟩
    · obtain ⟨e, n, ne, nf, d⟩ := I.pin p hp
      refine ⟨(hs.2 p.1 ?_).trans e, n, ne, nf, d⟩
      intro q
      rw [q, hoc] at e
      have q' : oc = p.2 := Option.some.inj e
      exact d w' (by rw [← q']; exact hocd)
theorem store_ok {M : Model} {A : Around} {E : Value → Shared → Prop} {i : Nat} {x : Str} {v : V} {u : Value} {Q : Unit → Shared → Prop} (I : Inv X pins σ H s) (hN : X.N.Nodup) (hi : X.N[i]? = some x) (hx : Loc X.env.scope x) (r : RelV v u)
    (h : ∀ s', Inv X pins (σ.set i (some v)) H s' → Q () s') (hf : X.fn x = true ∨ X.env.scope.names.lookup x = some .local := by first | exact .inl rfl | exact .inr rfl | assumption) : wpAny M A (storeName X.env x u) Q E s :=
  store_ok2 I hN hi hx r (fun s' I' _ => h s' I') hf
theorem Inv.call' {s' : Shared} {ch : List Addr} (I : Inv X pins σ H s) (ho : s'.os = s.os) (u : Un (frs X.stack) ch H H' s.heap s'.heap) (hok : HOk X.prog X.w H' s'.heap) (hg : AllBare s'.gens)
    (hch : ∀ b ∈ ch, (b ∈ X.ex ∨ X.s₀.heap.objs.size ≤ b) ∧ b ≠ X.env.locals ∧ (∀ x c, X.env.cells.lookup x = some c → c ≠ b) ∧ ∀ p ∈ X.pn ++ pins, p.1 ≠ b) : Inv X pins σ H' s' := by
  obtain ⟨h', g', d', t', o'⟩ := s'
  have e : o' = s.os := ho
  subst e
  exact I.call (g' := g') (t' := t') (d' := d') u hok hg hch
end

noncomputable abbrev XK := Value → Option Addr → Hp → Prop
noncomputable abbrev St := List (Option V)
noncomputable abbrev VK := V → Hp → Prop
noncomputable abbrev TE := St → Hp → VK → Prop
noncomputable abbrev TT := St → Hp → (Bool → Hp → Prop) → Prop
noncomputable abbrev TA := St → Hp → (List V → Hp → Prop) → Prop
structure Ends where
  nx : St → Hp → Prop
  rt : VK
  bk : St → Hp → Prop := fun _ _ => False
  ct : St → Hp → Prop := fun _ _ => False
noncomputable abbrev TS := Ends → St → Hp → Prop

noncomputable def EP (X : Cx) (pins : List (Addr × Obj)) (σ : St) (Q : VK) (u : Value) (s' : Shared) : Prop := ∃ v H', Inv X pins σ H' s' ∧ RelV v u ∧ Q v H'
noncomputable def TP (X : Cx) (pins : List (Addr × Obj)) (σ : St) (Q : Bool → Hp → Prop) (b : Bool) (s' : Shared) : Prop := ∃ H', Inv X pins σ H' s' ∧ Q b H'
noncomputable def AP (X : Cx) (pins : List (Addr × Obj)) (σ : St) (Q : List V → Hp → Prop) (us : List Value) (s' : Shared) : Prop := ∃ vs H', Inv X pins σ H' s' ∧ Vals vs us ∧ Q vs H'
noncomputable def SP (X : Cx) (pins : List (Addr × Obj)) (D : Ends) (f : Flow) (s' : Shared) : Prop :=
  match f with
  | .next => ∃ σ' H', Inv X pins σ' H' s' ∧ D.nx σ' H'
  | .brk => ∃ σ' H', Inv X pins σ' H' s' ∧ D.bk σ' H'
  | .cont => ∃ σ' H', Inv X pins σ' H' s' ∧ D.ct σ' H'
  | .ret u => ∃ v σ' H', Inv X pins σ' H' s' ∧ RelV v u ∧ D.rt v H'

noncomputable def PE (X : Cx) (e : Expr) (t : TE) : Prop :=
  ∀ (pins : List (Addr × Obj)) (s : Shared) (σ : St) (H : Hp) (Q : VK), Inv X pins σ H s → t σ H Q → wpAny (model X.prog X.w) X.A (eval e X.env) (EP X pins σ Q) X.xe s
noncomputable def PT (X : Cx) (e : Expr) (t : TT) : Prop :=
  ∀ (pins : List (Addr × Obj)) (s : Shared) (σ : St) (H : Hp) (Q : Bool → Hp → Prop), Inv X pins σ H s → t σ H Q → wpAny (model X.prog X.w) X.A (isTrue e X.env (eval e X.env)) (TP X pins σ Q) X.xe s
noncomputable def PW (X : Cx) (e : Expr) (t : TT) : Prop :=
  ∀ (whole : Sem Value) (pins : List (Addr × Obj)) (s : Shared) (σ : St) (H : Hp) (Q : Bool → Hp → Prop), Inv X pins σ H s → t σ H Q → wpAny (model X.prog X.w) X.A (isTrue e X.env whole) (TP X pins σ Q) X.xe s
theorem PW.pt {X : Cx} {e : Expr} {t : TT} (h : PW X e t) : PT X e t := h _
noncomputable def PA (X : Cx) (es : List Expr) (t : TA) : Prop :=
  ∀ (pos : Pos) (pins : List (Addr × Obj)) (s : Shared) (σ : St) (H : Hp) (Q : List V → Hp → Prop), Inv X pins σ H s → t σ H Q → wpAny (model X.prog X.w) X.A (spliced (backTo pos (starEach es X.env))) (AP X pins σ Q) X.xe s
noncomputable def PS (X : Cx) (st : Stmt) (t : TS) : Prop :=
  ∀ (pins : List (Addr × Obj)) (s : Shared) (σ : St) (H : Hp) (D : Ends), Inv X pins σ H s → t D σ H → wpAny (model X.prog X.w) X.A (exec st X.env) (SP X pins D) X.xe s
noncomputable def PSs (X : Cx) (st : List Stmt) (t : TS) : Prop :=
  ∀ (pins : List (Addr × Obj)) (s : Shared) (σ : St) (H : Hp) (D : Ends), Inv X pins σ H s → t D σ H → wpAny (model X.prog X.w) X.A (execs st X.env) (SP X pins D) X.xe s
theorem thn {α : Type} {t : Sem α} {Q Q' : α → Shared → Prop} {M : Model} {A : Around} {E : Value → Shared → Prop} {s : Shared} (h : wpAny M A t Q E s) (hQ : ∀ a s, Q a s → Q' a s) : wpAny M A t Q' E s := wpAny_mono h hQ fun _ _ x => x
end L2

namespace L2
open PySem PySem.Spec PyProof.Rows
section
variable {X : Cx}

theorem bin {a b : Expr} {ta tb : TE} (ha : PE X a ta) (hb : PE X b tb) {pins : List (Addr × Obj)} {s : Shared} {σ : St} {H : Hp} {R : V → V → Hp → Prop} (I : Inv X pins σ H s) (h : ta σ H fun x H1 => tb σ H1 fun y H2 => R x y H2)
    {α : Type} {Q : α → Shared → Prop} {f : Value → Value → Sem α}
    (hf : ∀ v u s2 x y H2, Inv X pins σ H2 s2 → RelV x v → RelV y u → R x y H2 → wpAny (model X.prog X.w) X.A (f v u) Q X.xe s2) :
    wpAny (model X.prog X.w) X.A (eval a X.env) (fun v s₁ => wpAny (model X.prog X.w) X.A (eval b X.env) (fun u s₂ => wpAny (model X.prog X.w) X.A (f v u) Q X.xe s₂) X.xe s₁) X.xe s := by
  refine thn (ha pins s σ H _ I h) fun v s1 ⟨x, H1, I1, r1, q1⟩ => ?_
  refine thn (hb pins s1 σ H1 _ I1 q1) fun u s2 ⟨y, H2, I2, r2, q2⟩ => ?_
  exact hf v u s2 x y H2 I2 r1 r2 q2

noncomputable def tVar (i : Nat) : TE := fun σ H Q => ∃ v, σ[i]? = some (some v) ∧ Q v H
noncomputable def tC (v : V) : TE := fun _ H Q => Q v H
theorem pe_var {i : Nat} {x : Str} {pos : Pos} (hN : X.N[i]? = some x) (hv : Vis X.env.scope x) (hd : (x == ("__debug__" : Str)) = false := by decide) (hcd : (x == ("__classdict__" : Str)) = false := by decide) : PE X (.Name x pos) (tVar i) := by
  intro pins s σ H Q I h
  obtain ⟨v, e, h⟩ := h
  obtain ⟨m, hn, hl⟩ := I.loc
  obtain ⟨u, r, l⟩ := hl i x v hN e hv
  have fin : EP X pins σ Q u s := ⟨v, H, I, r, h⟩
  rcases l with ⟨hk, hm⟩ | ⟨hk, c, hc, hcell⟩
  · exact wpAny_Name (wpAny_loadName_local I.ok.kind hk hn hm fin) hd
  · rcases hk with hk | hk
    · exact wpAny_Name (wpAny_loadName_cell I.ok.kind hk hc hcell fin) hd
    · exact wpAny_Name (wpAny_loadName_free I.ok.kind hk hc hcell fin hcd) hd
theorem pe_int {i j pos} : PE X (.Constant (.int i) j pos) (tC (.int i)) := fun _ _ _ H _ I h => wpAny_Constant_int ⟨.int i, H, I.tok _, ⟨_, rfl⟩, h⟩
theorem pe_bl {b j pos} : PE X (.Constant (.bool b) j pos) (tC (.bl b)) := fun _ _ _ H _ I h => Constant_bool ⟨.bl b, H, I, rfl, h⟩
theorem pe_non {j pos} : PE X (.Constant .none j pos) (tC .non) := fun _ _ _ H _ I h => Constant_none ⟨.non, H, I, rfl, h⟩
theorem pe_str {x j pos} : PE X (.Constant (.str x) j pos) (tC (.str x)) := fun _ _ _ H _ I h => Calls.Constant_str ⟨.str x, H, I.tok _, ⟨_, rfl⟩, h⟩

noncomputable def Gl (X : Cx) (x : Str) : Prop := X.env.kindOf x = some .globalImplicit
theorem ld_glob {E : Value → Shared → Prop} {pins : List (Addr × Obj)} {s : Shared} {σ : St} {H : Hp} {x : Str} {u : Value} {pos : Pos} {Q : Value → Shared → Prop} (I : Inv X pins σ H s) (hg : Gl X x) (hm : X.mg x = some u) (h : Q u s)
    (hd : (x == ("__debug__" : Str)) = false := by decide) : wpAny (model X.prog X.w) X.A (eval (.Name x pos) X.env) Q E s :=
  Calls.Name_function_global I.ok.kind hg (Calls.loadGlobal_global (by rw [I.ok.glob]; exact I.mod.glob.keeps I.bk) hm h) hd
theorem ld_blt {E : Value → Shared → Prop} {pins : List (Addr × Obj)} {s : Shared} {σ : St} {H : Hp} {x : Str} {u : Value} {pos : Pos} {Q : Value → Shared → Prop} (I : Inv X pins σ H s) (hg : Gl X x) (hm : X.mg x = none) (hv : bootBuiltins x = some u) (h : Q u s)
    (hn : x ≠ "__name__" := by decide) (hd : (x == ("__debug__" : Str)) = false := by decide) : wpAny (model X.prog X.w) X.A (eval (.Name x pos) X.env) Q E s := by
  obtain ⟨mb, h1, h2⟩ := I.mod.blt
  exact Calls.Name_function_global I.ok.kind hg (Calls.loadGlobal_builtin (by rw [I.ok.glob]; exact I.mod.glob.keeps I.bk) hm (by rw [I.ok.blt]; exact h1.keeps I.bk) ((h2 x hn).trans hv) h) hd
theorem pe_glob {x : Str} {v : V} {u : Value} {pos : Pos} (hg : Gl X x) (hm : X.mg x = some u) (r : RelV v u) (hd : (x == ("__debug__" : Str)) = false := by decide) : PE X (.Name x pos) (tC v) :=
  fun _ _ _ H _ I h => ld_glob I hg hm ⟨v, H, I, r, h⟩ hd
theorem pe_bltn {x : Str} {v : V} {u : Value} {pos : Pos} (hg : Gl X x) (hm : X.mg x = none) (hv : bootBuiltins x = some u) (r : RelV v u) (hn : x ≠ "__name__" := by decide) (hd : (x == ("__debug__" : Str)) = false := by decide) : PE X (.Name x pos) (tC v) :=
  fun _ _ _ H _ I h => ld_blt I hg hm hv ⟨v, H, I, r, h⟩ hn hd

variable {a b : Expr} {ta tb : TE} {pos : Pos}
noncomputable def PC (X : Cx) (op : CmpOp) (a b : Expr) (t : TE) : Prop :=
  ∀ (pins : List (Addr × Obj)) (s : Shared) (σ : St) (H : Hp) (Q : VK), Inv X pins σ H s → t σ H Q →
    wpAny (model X.prog X.w) X.A (eval a X.env) (fun v s₁ => wpAny (model X.prog X.w) X.A (eval b X.env) (fun u s₂ => wpAny (model X.prog X.w) X.A (compareOp op v u) (EP X pins σ Q) X.xe s₂) X.xe s₁) X.xe s
theorem nobehind (b : Expr) {op : CmpOp} (h : op ≠ .In) (h2 : op ≠ .NotIn) : behindInMarks op b = false := by
  have e1 : (op == CmpOp.In) = false := by cases op <;> first | rfl | exact absurd rfl h
  have e2 : (op == CmpOp.NotIn) = false := by cases op <;> first | rfl | exact absurd rfl h2
  cases b <;> simp [behindInMarks, e1, e2]
noncomputable def tB (t : TE) : TT := fun σ H Q => t σ H fun x H1 => ∃ c, x = .bl c ∧ Q c H1
theorem pt_cmp {op : CmpOp} {t : TE} (h : PC X op a b t) (h1 : behindInMarks op b = false := by first | exact nobehind _ (by decide) (by decide) | rfl) : PT X (.Compare a [op] [b] pos) (tB t) := by
  intro pins s σ H Q I hw
  refine wpAny_isTrue_Compare1 (thn (h pins s σ H _ I hw) fun v s1 h1 => thn h1 fun u s2 h2 => thn h2 fun c s3 ⟨x, H1, I1, r1, q1⟩ => ?_) h1
  obtain ⟨d, rfl, q⟩ := q1
  cases r1
  exact wpAny_truthy_bool ⟨H1, I1, q⟩
theorem pt_val {e : Expr} {t : TE} (h : PE X e t) (he : ∀ whole, isTrue e X.env whole = (do let v ← whole; standAt e.pos; holding [v] (truthy v)) := by intro _; rfl) : PT X e (tB t) := by
  intro pins s σ H Q I hw
  refine isTrue_plain (thn (h pins s σ H _ I hw) fun v s1 ⟨x, H1, I1, r1, q1⟩ => ?_) (he _)
  obtain ⟨d, rfl, q⟩ := q1
  cases r1
  exact wpAny_truthy_bool ⟨H1, I1, q⟩

variable {tA tB' : TT} {rest : List Expr}
noncomputable def tOr (t u : TT) : TT := fun σ H Q => t σ H fun c H1 => if c = true then Q true H1 else u σ H1 Q
noncomputable def tNot (t : TT) : TT := fun σ H Q => t σ H fun c H1 => Q (!c) H1
theorem pw_or1 (ha : PT X a tA) : PW X (.BoolOp .Or [a] pos) tA := by
  intro wh pins s σ H Q I h
  refine isTrue_or (thn (ha pins s σ H Q I h) fun c s1 e => ?_)
  cases c with
  | false => exact isTrue_or_nil e
  | true => exact e
theorem pw_or (ha : PT X a tA) (hb : PW X (.BoolOp .Or (b :: rest) pos) tB') : PW X (.BoolOp .Or (a :: b :: rest) pos) (tOr tA tB') := by
  intro wh pins s σ H Q I h
  refine isTrue_or (thn (ha pins s σ H _ I h) fun c s1 ⟨H1, I1, q1⟩ => ?_)
  cases c with
  | true => exact ⟨H1, I1, q1⟩
  | false => exact hb wh pins s1 σ H1 Q I1 q1
theorem pt_not (ha : PT X a tA) : PT X (.UnaryOp .Not a pos) (tNot tA) := by
  intro pins s σ H Q I h
  exact isTrue_not (ha pins s σ H (fun c H1 => Q (!c) H1) I h)
noncomputable def tAndV (ta tb : TE) : TE := fun σ H Q => ta σ H fun x H1 => ∃ c, x = .bl c ∧ if c = true then tb σ H1 Q else Q (.bl false) H1
noncomputable def tNotV (ta : TE) : TE := fun σ H Q => ta σ H fun x H1 => ∃ c, x = .bl c ∧ Q (.bl (!c)) H1
theorem pe_one {op} {t : TE} (h : PE X a t) : PE X (.BoolOp op [a] pos) t := fun pins s σ H Q I hw => BoolOp_one (h pins s σ H Q I hw)
theorem pe_and (ha : PE X a ta) (hb : PE X (.BoolOp .And (b :: rest) pos) tb) : PE X (.BoolOp .And (a :: b :: rest) pos) (tAndV ta tb) := by
  intro pins s σ H Q I h
  refine BoolOp_and (thn (ha pins s σ H _ I h) fun v s1 ⟨x, H1, I1, r1, q1⟩ => ?_)
  obtain ⟨c, rfl, q1⟩ := q1
  cases r1
  refine wpAny_truthy_bool ?_
  cases c with
  | true => exact hb pins s1 σ H1 Q I1 q1
  | false => exact ⟨.bl false, H1, I1, rfl, q1⟩
theorem pe_not (ha : PE X a ta) : PE X (.UnaryOp .Not a pos) (tNotV ta) := by
  intro pins s σ H Q I h
  refine UnaryOp_ (thn (ha pins s σ H _ I h) fun v s1 ⟨x, H1, I1, r1, q1⟩ => ?_)
  obtain ⟨c, rfl, q1⟩ := q1
  cases r1
  exact not_of (wpAny_truthy_bool ⟨.bl (!c), H1, I1, rfl, q1⟩)
end
end L2

namespace L2
open PySem PySem.Spec PyProof.Rows

noncomputable def SqL (K : PySem.W.Frag) (H : Hp) (a : Addr) (xs : List V) : Prop :=
  Rd H a (.lst xs) ∨
    ∃ (o : Obj) (its : Array Value) (n : Nat), K.lookup a = some o ∧ o.cls = .type "list" ∧ o.dict = none ∧ o.data = .seq its n ∧ its.size ≤ sizeLine ∧ Vals xs its.toList
noncomputable def SqT (K : PySem.W.Frag) (H : Hp) (a : Addr) (xs : List V) : Prop :=
  Rd H a (.tup xs) ∨
    ∃ (o : Obj) (its : Array Value) (n : Nat), K.lookup a = some o ∧ o.cls = .type "tuple" ∧ o.data = .seq its n ∧ its.size ≤ sizeLine ∧ Vals xs its.toList
noncomputable def absV : Value → Option V
  | .none => some .non
  | .bool b => some (.bl b)
  | .int i _ => some (.int i)
  | .str x _ => some (.str x)
  | .bytes b _ => some (.byt b)
  | .float b _ => some (.flt b)
  | .ref a => some (.ref a)
  | .type n => some (.ty n)
  | _ => none
theorem RelV.abs {x : V} {u : Value} (r : RelV x u) : absV u = some x := by
  cases x with
  | non => cases r; rfl
  | bl _ => cases r; rfl
  | int _ => obtain ⟨t, rfl⟩ := r; rfl
  | str _ => obtain ⟨t, rfl⟩ := r; rfl
  | byt _ => obtain ⟨t, rfl⟩ := r; rfl
  | flt _ => obtain ⟨t, rfl⟩ := r; rfl
  | ref _ => cases r; rfl
  | ty _ => cases r; rfl
theorem RelV.inj {x y : V} {u : Value} (r : RelV x u) (q : RelV y u) : x = y := Option.some.inj (r.abs.symm.trans q.abs)
theorem Vals.inj : ∀ {xs ys : List V} {us : List Value}, Vals xs us → Vals ys us → xs = ys
  | _, _, _, .nil, .nil => rfl
  | _, _, _, .cons r t, .cons r' t' => by rw [r.inj r', Vals.inj t t']
section
variable {X : Cx} {pins : List (Addr × Obj)} {σ : St} {H : Hp} {s : Shared} {a : Addr} {xs ys : List V}
theorem SqL.of {K : PySem.W.Frag} (h : H a = some (.lst xs)) : SqL K H a xs := .inl (.inl h)
theorem SqT.of {K : PySem.W.Frag} (h : H a = some (.tup xs)) : SqT K H a xs := .inl (.inl h)
theorem Inv.list (I : Inv X pins σ H s) (h : SqL X.K H a xs) : ∃ its : List Value, Vals xs its ∧ PlainL s.heap a its.toArray ∧ xs.length ≤ sizeLine := by
  rcases h with h | ⟨o, its, n, hk, hc, hd, hs, hz, r⟩
  · obtain ⟨z, its, n, r, e⟩ := h.ok I.hok
    exact ⟨its, r, ⟨_, n, e, rfl, rfl, rfl⟩, z⟩
  · refine ⟨its.toList, r, ⟨o, n, I.kIn a o hk, hc, hd, by simpa using hs⟩, ?_⟩
    have e := r.length
    simp only [Array.length_toList] at e
    omega
theorem Inv.tuple (I : Inv X pins σ H s) (h : SqT X.K H a xs) : ∃ its : List Value, Vals xs its ∧ IsTup s.heap a its.toArray ∧ xs.length ≤ sizeLine := by
  rcases h with h | ⟨o, its, n, hk, hc, hs, hz, r⟩
  · obtain ⟨z, its, r, p⟩ := h.ok I.hok
    exact ⟨its, r, p, z⟩
  · refine ⟨its.toList, r, ⟨o, I.kIn a o hk, hc, n, by simpa using hs⟩, ?_⟩
    have e := r.length
    simp only [Array.length_toList] at e
    omega
theorem Inv.list_inj (I : Inv X pins σ H s) (h : SqL X.K H a xs) (h' : SqL X.K H a ys) : xs = ys := by
  obtain ⟨its, r, ⟨o, n, e, _, _, d⟩, _⟩ := I.list h
  obtain ⟨its', r', ⟨o', n', e', _, _, d'⟩, _⟩ := I.list h'
  rw [e] at e'; cases e'
  rw [d] at d'
  injection d' with d1 _
  have : its = its' := by simpa using congrArg Array.toList d1
  subst this
  exact r.inj r'
end

noncomputable abbrev Cx.wish (X : Cx) (E : Value → Shared → Prop) : Cx := { X with xe := E }
noncomputable abbrev Cx.nox (X : Cx) : Cx := X.wish fun _ _ => False
theorem Cx.Ok.wish {X : Cx} (ok : X.Ok) (E : Value → Shared → Prop) : (X.wish E).Ok :=
  ⟨ok.mod, ok.kind, ok.glob, ok.blt, ok.above, ok.inj, ok.has, ok.cab, ok.hd, ok.frames, ok.stk, ok.exf, ok.bs, ok.bsz, ok.noex, ok.exfs, ok.funs, ok.frf⟩
theorem Cx.Ok.unwish {X : Cx} {E : Value → Shared → Prop} (ok : (X.wish E).Ok) : X.Ok :=
  ⟨ok.mod, ok.kind, ok.glob, ok.blt, ok.above, ok.inj, ok.has, ok.cab, ok.hd, ok.frames, ok.stk, ok.exf, ok.bs, ok.bsz, ok.noex, ok.exfs, ok.funs, ok.frf⟩
section
variable {X : Cx} {pins : List (Addr × Obj)} {σ : St} {H : Hp} {s : Shared} {E : Value → Shared → Prop}
theorem Inv.wish (I : Inv X pins σ H s) (E : Value → Shared → Prop) : Inv (X.wish E) pins σ H s := ⟨I.ok.wish E, I.os, I.bare, I.base, I.loc, I.cell, I.free, I.freeC, I.pin, I.hok, I.len⟩
theorem Inv.unwish (I : Inv (X.wish E) pins σ H s) : Inv X pins σ H s := ⟨I.ok.unwish, I.os, I.bare, I.base, I.loc, I.cell, I.free, I.freeC, I.pin, I.hok, I.len⟩
theorem SP.unwish {D : Ends} {f : Flow} {s' : Shared} (h : SP (X.wish E) pins D f s') : SP X pins D f s' := by
  cases f with
  | next => obtain ⟨σ', H', I, q⟩ := h; exact ⟨σ', H', I.unwish, q⟩
  | brk => obtain ⟨σ', H', I, q⟩ := h; exact ⟨σ', H', I.unwish, q⟩
  | cont => obtain ⟨σ', H', I, q⟩ := h; exact ⟨σ', H', I.unwish, q⟩
  | ret u => obtain ⟨v, σ', H', I, r, q⟩ := h; exact ⟨v, σ', H', I.unwish, r, q⟩
theorem PSs.nox {st : List Stmt} {t : TS} (h : PSs X.nox st t) : PSs X st t := fun pins s σ H D I hw =>
  wpAny_mono (h pins s σ H D (I.wish _) hw) (fun _ _ q => q.unwish) fun _ _ z => False.elim z
end

section
variable {X : Cx} {st : Stmt} {rest : List Stmt} {t u : TS} {e : Expr} {te : TE} {pos : Pos}
noncomputable def tNext : TS := fun D σ H => D.nx σ H
noncomputable def tSeq (t u : TS) : TS := fun D σ H => t { D with nx := u D } σ H
theorem pss_nil : PSs X [] tNext := fun _ _ σ H _ I h => wpAny_execs_nil ⟨σ, H, I, h⟩
theorem pss_cons (h1 : PS X st t) (h2 : PSs X rest u) : PSs X (st :: rest) (tSeq t u) := by
  intro pins s σ H D I h
  refine wpAny_execs_cons (thn (h1 pins s σ H { D with nx := u D } I h) fun f s1 q => ?_)
  cases f with
  | next =>
    obtain ⟨σ', H', I', q⟩ := q
    exact h2 pins s1 σ' H' D I' q
  | ret v => exact q
  | brk => exact q
  | cont => exact q
theorem pss_one (h1 : PS X st t) : PSs X [st] t := by
  intro pins s σ H D I h
  refine wpAny_execs_cons (thn (h1 pins s σ H D I h) fun f s1 q => ?_)
  cases f with
  | next => exact wpAny_execs_nil q
  | ret v => exact q
  | brk => exact q
  | cont => exact q
theorem Inv.quiet {pins : List (Addr × Obj)} {σ : St} {H : Hp} {s : Shared} (I : Inv X pins σ H s) : interactive X.env = false := by simp [interactive, I.ok.kind]
noncomputable def tDrop (te : TE) : TS := fun D σ H => te σ H fun _ H1 => D.nx σ H1
theorem ps_expr (he : PE X e te) (hs : swapsWith e none pos.line X.env = pure false := by rfl) : PS X (.Expr e pos) (tDrop te) := by
  intro pins s σ H D I h
  exact wpAny_Expr_any (thn (he pins s σ H _ I h) fun v s1 ⟨x, H1, I1, r1, q1⟩ => ⟨σ, H1, I1, q1⟩) I.quiet hs
noncomputable def tRet (te : TE) : TS := fun D σ H => te σ H D.rt
theorem ps_ret (he : PE X e te) : PS X (.Return (some e) pos) (tRet te) := by
  intro pins s σ H D I h
  exact wpAny_Return_some (thn (he pins s σ H _ I h) fun v s1 ⟨x, H1, I1, r1, q1⟩ => ⟨x, σ, H1, I1, r1, q1⟩)
noncomputable def tIfS (c : TT) (t u : TS) : TS := fun D σ H => c σ H fun b H1 => if b = true then t D σ H1 else u D σ H1
theorem ps_if {c : Expr} {a b : List Stmt} {tc : TT} (hc : PT X c tc) (ha : PSs X a t) (hb : PSs X b u) : PS X (.If c a b pos) (tIfS tc t u) := by
  intro pins s σ H D I h
  refine wpAny_If (thn (hc pins s σ H _ I h) fun d s1 ⟨H1, I1, q1⟩ => ?_)
  cases d with
  | true => exact ha pins s1 σ H1 D I1 q1
  | false => exact hb pins s1 σ H1 D I1 q1
noncomputable def tNever : TS := fun _ _ _ => False
theorem ps_never : PS X st tNever := fun _ _ _ _ _ _ h => h.elim
theorem pss_never {sts : List Stmt} : PSs X sts tNever := fun _ _ _ _ _ _ h => h.elim
end

noncomputable abbrev TG := V → St → Hp → (St → Hp → Prop) → Prop
noncomputable def PG (X : Cx) (target : Expr) (t : TG) : Prop :=
  ∀ (pins : List (Addr × Obj)) (s : Shared) (σ : St) (H : Hp) (v : V) (u : Value) (Q : St → Hp → Prop), Inv X pins σ H s → RelV v u → t v σ H Q →
    wpAny (model X.prog X.w) X.A (assign target X.env u) (fun _ s' => ∃ σ' H', Inv X pins σ' H' s' ∧ Q σ' H') X.xe s
section
variable {X : Cx} {pos : Pos}
noncomputable def gName (i : Nat) : TG := fun v σ H Q => Q (σ.set i (some v)) H
theorem pg_name {i : Nat} {x : Str} (hN : X.N.Nodup) (hi : X.N[i]? = some x) (hx : Loc X.env.scope x) (hf : X.fn x = true ∨ X.env.scope.names.lookup x = some .local := by first | exact .inl rfl | exact .inr rfl | assumption) : PG X (.Name x pos) (gName i) := by
  intro pins s σ H v u Q I r h
  exact wpAny_assign_Name (store_ok I hN hi hx r (fun s' I' => ⟨_, H, I', h⟩) hf)
noncomputable def tAsg (te : TE) (g : TG) : TS := fun D σ H => te σ H fun x H1 => g x σ H1 D.nx
theorem ps_set {i : Nat} {x : Str} {e : Expr} {te : TE} {pos' : Pos} (hN : X.N.Nodup) (hi : X.N[i]? = some x) (hx : Loc X.env.scope x) (he : PE X e te) (hs : swapsWith e (some (.Name x pos')) pos.line X.env = pure false := by rfl) (hf : X.fn x = true ∨ X.env.scope.names.lookup x = some .local := by first | exact .inl rfl | exact .inr rfl | assumption) :
    PS X (.Assign [.Name x pos'] e pos) (tAsg te (gName i)) := by
  intro pins s σ H D I h
  refine wpAny_Assign_Name (thn (he pins s σ H _ I h) fun v s1 ⟨y, H1, I1, r1, q1⟩ => ?_) hs
  exact store_ok I1 hN hi hx r1 (fun s2 I2 => ⟨_, H1, I2, q1⟩) hf
end

section
variable {X : Cx} {pos : Pos}
end

structure It where
  go : Nat → Hp → Prop
  yld : Nat → Hp → V → Hp → Prop
  stop : Nat → Hp → Prop
noncomputable def FpOk (X : Cx) (pins : List (Addr × Obj)) (H : Hp) (b : Addr) : Prop :=
  H b = none ∧ b ≠ X.env.locals ∧ b ∉ X.fs ∧ (b ∈ X.ex ∨ X.s₀.heap.objs.size ≤ b) ∧ (∀ x c, X.env.cells.lookup x = some c → c ≠ b) ∧ ∀ p ∈ X.pn ++ pins, p.1 ≠ b
theorem Inv.fpOk {X : Cx} {pins : List (Addr × Obj)} {σ : St} {H H' : Hp} {s : Shared} {b : Addr} (I : Inv X pins σ H s) (hb : s.heap.objs.size ≤ b) (hn : H' b = none) : FpOk X pins H' b := by
  refine ⟨hn, Nat.ne_of_gt (Nat.lt_of_lt_of_le I.lt hb), I.nofs hb, .inr (Nat.le_trans I.sz hb), fun x c e z => ?_, fun p hp z => ?_⟩
  · obtain ⟨v, q⟩ := I.cell x c e
    exact absurd (Nat.lt_of_lt_of_le q.lt (by rw [z]; exact hb)) (Nat.lt_irrefl _)
  · exact absurd (Nat.lt_of_lt_of_le (Heap.lt_size (I.pin p hp).1) (by rw [z]; exact hb)) (Nat.lt_irrefl _)
structure Turn (P : Program) (w : World) (K : PySem.W.Frag) (tg : Expr) (J : It) (fp : List Addr) (it : Addr) (tn : Nat → Heap → Prop) : Prop where
  mem : it ∈ fp
  obj : ∀ i h, tn i h → ∀ b ∈ fp, ∃ o, h.get? b = some o ∧ ∀ v, o.data ≠ .cell v
  keep : ∀ i h h', tn i h → (∀ b ∈ fp, ∀ o, h.get? b = some o → h'.get? b = some o) → tn i h'
  item : ∀ (X : Cx), X.prog = P → X.w = w → X.K = K → X.calm = true → ∀ (i : Nat) (pins : List (Addr × Obj)) (s : Shared) (σ : St) (H : Hp) (E : Value → Shared → Prop), Inv X pins σ H s → (∀ b ∈ fp, FpOk X pins H b) → tn i s.heap → J.go i H →
    wpAny (model P w) X.A (pyNext (.ref it)) (fun r s1 => ∃ u, r = some u ∧
      wpAny (model P w) X.A (letOwnedTupleGo tg (.ref it) u) (fun _ s2 => ∃ x H', Inv X pins σ H' s2 ∧ RelV x u ∧ J.yld i H x H' ∧ tn (i + 1) s2.heap ∧ ∀ b ∈ fp, H' b = none) E s1) E s
  done : ∀ (X : Cx), X.prog = P → X.w = w → X.K = K → X.calm = true → ∀ (i : Nat) (pins : List (Addr × Obj)) (s : Shared) (σ : St) (H : Hp) (E : Value → Shared → Prop), Inv X pins σ H s → (∀ b ∈ fp, FpOk X pins H b) → tn i s.heap → J.stop i H →
    wpAny (model P w) X.A (pyNext (.ref it)) (fun r s1 => r = none ∧ Inv X pins σ H s1) E s
  self : ∀ (A : Around) (i : Nat) (s : Shared) (Q : Value → Shared → Prop) (E : Value → Shared → Prop), tn i s.heap → Q (.ref it) s → wpAny (model P w) A (pyIter (.ref it)) Q E s
noncomputable abbrev TI := St → Hp → (It → Hp → Prop) → Prop
noncomputable def PIE (X : Cx) (pins : List (Addr × Obj)) (σ : St) (tg : Expr) (R : It → Hp → Prop) (itv : Value) (s2 : Shared) : Prop :=
  ∃ (it : Addr) (fp : List Addr) (tn : Nat → Heap → Prop) (J : It) (H' : Hp), itv = .ref it ∧ Inv X pins σ H' s2 ∧ Turn X.prog X.w X.K tg J fp it tn ∧ tn 0 s2.heap ∧ (∀ b ∈ fp, FpOk X pins H' b) ∧ R J H'
noncomputable def PI (X : Cx) (tg iter : Expr) (wi : TI) : Prop :=
  ∀ (pins : List (Addr × Obj)) (s : Shared) (σ : St) (H : Hp) (R : It → Hp → Prop), Inv X pins σ H s → wi σ H R →
    wpAny (model X.prog X.w) X.A (eval iter X.env) (fun v s1 => wpAny (model X.prog X.w) X.A (pyIter v) (PIE X pins σ tg R) X.xe s1) X.xe s

theorem go_of {M : Model} {A : Around} {E : Value → Shared → Prop} {s : Shared} {tg : Expr} {it : Addr} {u : Value} {o : Obj} {n : String} {vs : Array Value} {Q : Unit → Shared → Prop} (ho : s.heap.get? it = some o) (hc : o.cls = .type n) (hd : o.data = .fields vs)
    (hn : ["enumerate", "zip", "dict_itemiterator", "dict_reverseitemiterator", "odict_iterator", "itertools.zip_longest", "itertools.pairwise"].contains n = false) (hQ : Q () s) : wpAny M A (letOwnedTupleGo tg (.ref it) u) Q E s := by
  unfold letOwnedTupleGo
  cases tg <;> first
    | exact wpAny_pure hQ
    | (cases u <;> first
        | exact wpAny_pure hQ
        | (refine wpAny_bind (wpAny_load ho ?_)
           rw [hc, hd]
           show wpAny M A (if (["enumerate", "zip", "dict_itemiterator", "dict_reverseitemiterator", "odict_iterator", "itertools.zip_longest", "itertools.pairwise"].contains n && vs[0]? == some (rawInt _)) = true then _ else _) Q E s
           rw [if_neg (by intro h; rw [hn, Bool.false_and] at h; cases h)]
           exact wpAny_pure hQ))

noncomputable def Itl (K : PySem.W.Frag) (a : Addr) : It :=
  ⟨fun i H => ∃ xs x, SqL K H a xs ∧ xs[i]? = some x, fun i H x H' => H' = H ∧ ∀ xs, SqL K H a xs → xs[i]? = some x, fun i H => ∃ xs, SqL K H a xs ∧ xs.length ≤ i⟩
noncomputable def Itr (lo : Int) (n : Nat) : It := ⟨fun i _ => i < n, fun i H x H' => H' = H ∧ x = .int (lo + i), fun i _ => n ≤ i⟩
theorem turn_list {P : Program} {w : World} {K : PySem.W.Frag} {tg : Expr} (a it : Addr) : Turn P w K tg (Itl K a) [it] it (fun i h => h.IsListIter it a i) where
  mem := by simp
  obj := fun i h st b hb => by
    have e : b = it := by simpa using hb
    subst e
    obtain ⟨o, e, c, d⟩ := st
    exact ⟨o, e, fun v z => by rw [d] at z; cases z⟩
  keep := fun i h h' st k => st.at fun o e => k it (by simp) o e
  item := by
    intro X hP hw hK hc i pins s σ H E I hf st hg
    subst hP hw hK
    obtain ⟨xs, x, hq, hx⟩ := hg
    obtain ⟨its, rv, p, hz⟩ := I.list hq
    obtain ⟨u, hu, ru⟩ := rv.get hx
    obtain ⟨f0, f1, f2, f3, f4, f5⟩ := hf it (by simp)
    refine wpAny_pyNext_list_item st p.isList (x := u) (by simpa using hu) fun h' st' sb => ?_
    have I1 : Inv X pins σ H { s with heap := h' } := I.turned (t' := s.toks) (fun b o hb e => (sb.2 b hb).trans e) f0 f1 f3 f4 f5
    obtain ⟨o, e, c, d⟩ := id st'
    exact ⟨u, rfl, go_of (s := { s with heap := h' }) e c d (by decide) ⟨x, H, I1, ru, ⟨rfl, fun ys hy => by rw [I.list_inj hy hq]; exact hx⟩, st', fun b hb => (hf b hb).1⟩⟩
  done := by
    intro X hP hw hK hc i pins s σ H E I hf st hg
    subst hP hw hK
    obtain ⟨xs, hq, hx⟩ := hg
    obtain ⟨its, rv, p, hz⟩ := I.list hq
    obtain ⟨f0, f1, f2, f3, f4, f5⟩ := hf it (by simp)
    have hl := rv.length
    exact wpAny_pyNext_list_end (I.ok.hd hc) st p.isList (by simp; omega) fun h' eb => ⟨rfl, I.turned (t' := s.toks) (fun b o hb e => eb b o hb e) f0 f1 f3 f4 f5⟩
  self := fun _ _ _ _ _ st h => wpAny_pyIter_listiter st h
theorem turn_range {P : Program} {w : World} {K : PySem.W.Frag} {tg : Expr} (it : Addr) (lo : Int) (n : Nat) : Turn P w K tg (Itr lo n) [it] it (fun i h => IsRangeIter h it (lo + (i : Nat) * 1) ((n : Int) - (i : Nat)) 1) where
  mem := by simp
  obj := fun i h st b hb => by
    have e : b = it := by simpa using hb
    subst e
    exact ⟨_, st, fun v z => by
      have z' : Data.fields _ = Data.cell v := z
      cases z'⟩
  keep := fun i h h' st k => k it (by simp) _ st
  item := by
    intro X hP hw hK hc i pins s σ H E I hf st hg
    subst hP hw hK
    obtain ⟨f0, f1, f2, f3, f4, f5⟩ := hf it (by simp)
    have W := Walks.range (prog := X.prog) (w := X.w) (I.ok.hd hc) it lo 1 n
    refine W.item i s _ _ hg st fun v h' tk hv st' kk => ?_
    obtain ⟨t, rfl⟩ := hv
    have I1 : Inv X pins σ H { s with heap := h', toks := tk } := I.turned (fun b o hb e => kk b o (by simpa using hb) e) f0 f1 f3 f4 f5
    refine ⟨_, rfl, go_of (s := { s with heap := h', toks := tk }) (n := "range_iterator") st' rfl rfl (by decide) ⟨.int (lo + i), H, I1, ⟨t, ?_⟩, ⟨rfl, rfl⟩, st', fun b hb => (hf b hb).1⟩⟩
    rw [Int.mul_one]
  done := by
    intro X hP hw hK hc i pins s σ H E I hf st hg
    subst hP hw hK
    obtain ⟨f0, f1, f2, f3, f4, f5⟩ := hf it (by simp)
    exact wpAny_pyNext_range_end (I.ok.hd hc) st (by have : n ≤ i := hg; omega) fun h' eb => ⟨rfl, I.turned (t' := s.toks) (fun b o hb e => eb b o hb e) f0 f1 f3 f4 f5⟩
  self := fun _ _ _ _ _ st h => wpAny_pyIter_rangeiter st h
end L2

namespace L2
open PySem PySem.Spec PyProof.Rows
section
variable {X : Cx} {tg : Expr}
noncomputable def iList (K : PySem.W.Frag) (tl : TE) : TI := fun σ H R => tl σ H fun x H1 => ∃ a, x = .ref a ∧ (∃ xs, SqL K H1 a xs) ∧ R (Itl K a) H1
theorem pi_list {l : Expr} {tl : TE} (hl : PE X l tl) : PI X tg l (iList X.K tl) := by
  intro pins s σ H R I h
  refine thn (hl pins s σ H _ I h) fun v s1 ⟨x, H1, I1, r1, q1⟩ => ?_
  obtain ⟨a, e, ⟨xs, hq⟩, q⟩ := q1
  subst e
  cases r1
  obtain ⟨its, rv, p, hz⟩ := I1.list hq
  refine wpAny_pyIter_list p.isList ?_
  refine ⟨s1.heap.objs.size, [s1.heap.objs.size], _, _, H1, rfl, I1.kept (t' := s1.toks) fun b o e => Heap.get?_push_of_some _ e, turn_list a _, ⟨_, Heap.get?_push_size _ rfl, rfl, rfl⟩, fun b hb => ?_, q⟩
  have e : b = s1.heap.objs.size := by simpa using hb
  subst e
  exact I1.fpOk (Nat.le_refl _) (I1.hok.fresh (Nat.le_refl _))
theorem range_it {pins : List (Addr × Obj)} {σ : St} {H : Hp} {s : Shared} {R : It → Hp → Prop} {E : Value → Shared → Prop} {lo hi : Int} {t u v : Tok} {tk : Nat} (I : Inv X pins σ H s) (h1 : -(2 ^ 62) ≤ lo) (h2 : lo < 2 ^ 62) (h3 : -(2 ^ 62) ≤ hi) (h4 : hi < 2 ^ 62)
    (q : R (Itr lo (hi - lo).toNat) H) : wpAny (model X.prog X.w) X.A (pyIter (.ref s.heap.objs.size)) (PIE X pins σ tg R) E { s with heap := s.heap.push { cls := .type "range", data := .fields #[.int lo t, .int hi u, .int 1 v] }, toks := tk } := by
  refine wpAny_pyIter_range (IsRange.new ..) (small_one h1 h2 h3 h4) ?_
  have I1 : Inv X pins σ H { s with heap := s.heap.push { cls := .type "range", data := .fields #[.int lo t, .int hi u, .int 1 v] }, toks := tk } := I.kept fun b o e => Heap.get?_push_of_some _ e
  refine ⟨(s.heap.push { cls := .type "range", data := .fields #[.int lo t, .int hi u, .int 1 v] }).objs.size, [(s.heap.push { cls := .type "range", data := .fields #[.int lo t, .int hi u, .int 1 v] }).objs.size], _, _, H, rfl,
    I1.kept (t' := tk) fun b o e => Heap.get?_push_of_some _ e, turn_range _ lo (hi - lo).toNat, ?_, fun b hb => ?_, q⟩
  · have e1 : lo + ((0 : Nat) : Int) * 1 = lo := by simp
    have e2 : (((hi - lo).toNat : Nat) : Int) - ((0 : Nat) : Int) = Builtin.Range.rangeSize lo hi 1 := by rw [rangeSize_one]; split <;> omega
    show IsRangeIter _ _ (lo + ((0 : Nat) : Int) * 1) ((((hi - lo).toNat : Nat) : Int) - ((0 : Nat) : Int)) 1
    rw [e1, e2]
    exact Heap.get?_push_size _ rfl
  · have e : b = (s.heap.push { cls := .type "range", data := .fields #[.int lo t, .int hi u, .int 1 v] }).objs.size := by simpa using hb
    subst e
    exact I1.fpOk (Nat.le_refl _) (I1.hok.fresh (Nat.le_refl _))
noncomputable def iRng1 (ta : TA) : TI := fun σ H R => ta σ H fun vs H1 => ∃ j : Int, vs = [.int j] ∧ -(2 ^ 62) ≤ j ∧ j < 2 ^ 62 ∧ R (Itr 0 j.toNat) H1
theorem pi_range1 {a : Expr} {ta : TA} {p pos : Pos} (hg : Gl X "range") (hm : X.mg "range" = none) (ha : PA X [a] ta) (hs : starEach [a] X.env = [(false, eval a X.env)] := by rfl) : PI X tg (.Call (.Name "range" p) [a] [] pos) (iRng1 ta) := by
  intro pins s σ H R I h
  refine Call_ (ld_blt I hg hm boot_range (PyProof.Rows.callWith_type1 (thn (ha pos pins s σ H _ I h) fun us s1 ⟨vs, H1, I1, r1, q1⟩ => ?_) hs rfl))
  obtain ⟨j, e, q1, q2, q⟩ := q1
  subst e
  cases r1 with
  | cons r rr =>
    cases rr
    obtain ⟨t, rfl⟩ := r
    exact call_range_1 (range_it I1 (by omega) (by omega) q1 q2 (by simpa using q))
noncomputable def tFor (wi : TI) (g : TG) (tb : TS) : TS := fun D σ H => wi σ H fun J H1 => ∃ W : Nat → Nat → St → Hp → Prop, (∃ m, W 0 m σ H1) ∧ ∀ i m σ H, W i m σ H →
  (J.stop i H ∧ D.nx σ H) ∨ (J.go i H ∧ ∃ N : St → Hp → Prop, (∀ σ' H', N σ' H' → ∃ m', m' < m ∧ W (i + 1) m' σ' H') ∧ ∀ x H', J.yld i H x H' → g x σ H' fun σ2 H2 => tb { D with nx := N, ct := N, bk := D.nx } σ2 H2)
noncomputable def pinsAt (fp : List Addr) (h : Heap) : List (Addr × Obj) := fp.filterMap fun b => (h.get? b).map fun o => (b, o)
theorem mem_pinsAt {fp : List Addr} {h : Heap} {b : Addr} {o : Obj} (hb : b ∈ fp) (e : h.get? b = some o) : (b, o) ∈ pinsAt fp h := List.mem_filterMap.mpr ⟨b, hb, by rw [e]; rfl⟩
theorem of_pinsAt {fp : List Addr} {h : Heap} {p : Addr × Obj} (hp : p ∈ pinsAt fp h) : p.1 ∈ fp ∧ h.get? p.1 = some p.2 := by
  obtain ⟨b, hb, e⟩ := List.mem_filterMap.mp hp
  cases q : h.get? b with
  | none => rw [q] at e; cases e
  | some o =>
    rw [q] at e
    have e' : (b, o) = p := Option.some.inj e
    subst e'
    exact ⟨hb, q⟩
theorem Inv.pinned {pins : List (Addr × Obj)} {σ : St} {H : Hp} {s : Shared} {fp : List Addr} (I : Inv X pins σ H s) (hf : ∀ b ∈ fp, FpOk X pins H b) (ho : ∀ b ∈ fp, ∃ o, s.heap.get? b = some o ∧ ∀ v, o.data ≠ .cell v) : Inv X (pins ++ pinsAt fp s.heap) σ H s :=
  I.pins_of fun p hp => (List.mem_append.mp hp).elim (fun z => I.pin p (List.mem_append_right _ z)) fun z => by
    obtain ⟨hb, e⟩ := of_pinsAt z
    obtain ⟨f0, f1, f2, _⟩ := hf p.1 hb
    obtain ⟨o, e', d⟩ := ho p.1 hb
    rw [e] at e'; cases e'
    exact ⟨e, f0, f1, f2, d⟩
theorem Inv.unpinned {pins pl : List (Addr × Obj)} {σ : St} {H : Hp} {s : Shared} (I : Inv X (pins ++ pl) σ H s) : Inv X pins σ H s := I.pins_of fun p hp => I.pin p (List.mem_append_right _ (List.mem_append_left _ hp))
theorem ps_for {iter : Expr} {body : List Stmt} {wi : TI} {g : TG} {tb : TS} {pos : Pos} (hp : PassesOwn (model X.prog X.w) X.A X.env X.xe) (hc : X.calm = true) (hi : PI X tg iter wi) (hg : PG X tg g) (hb : PSs X body tb)
    (hs : ∀ x, foldedSetIterable iter X.env x = pure x := by intro _; rfl) : PS X (.For tg iter body [] pos) (tFor wi g tb) := by
  intro pins s σ H D I h
  refine wpAny_For (thn (hi pins s σ H _ I h) fun v s1 h1 => thn h1 fun itv s2 h2 => ?_) hs
  obtain ⟨it, fp, tn, J, H2, e, I2, T, st2, f2, W, ⟨m0, w0⟩, turn⟩ := h2
  subst e
  -- what stays true of the iterator's objects through the loop
  have stat : ∀ {H' : Hp}, (∀ b ∈ fp, H' b = none) → ∀ b ∈ fp, FpOk X pins H' b := fun hn b hb => ⟨hn b hb, (f2 b hb).2⟩
  refine codeAny_forLoop_any (fun n s' => ∃ i σ' H', Inv X pins σ' H' s' ∧ tn i s'.heap ∧ (∀ b ∈ fp, H' b = none) ∧ W i n σ' H') ?_ m0 ⟨0, σ, H2, I2, st2, fun b hb => (f2 b hb).1, w0⟩
  rintro n s3 ⟨i, σ3, H3, I3, st3, fr3, w3⟩
  rcases turn i n σ3 H3 w3 with ⟨stop, qn⟩ | ⟨go, N, hN, step⟩
  · refine wpAny_passesOwn hp (thn (T.done X rfl rfl rfl hc i pins s3 σ3 H3 X.xe I3 (stat fr3) st3 stop) fun r s4 ⟨hr, I4⟩ => ?_)
    subst hr
    exact wpAny_execs_nil ⟨σ3, H3, I4, qn⟩
  · refine wpAny_passesOwn hp (thn (T.item X rfl rfl rfl hc i pins s3 σ3 H3 X.xe I3 (stat fr3) st3 go) fun r s4 ⟨u, hr, h4⟩ => ?_)
    subst hr
    refine wpAny_passesOwn hp (thn h4 fun _ s5 ⟨x, H5, I5, r5, y5, st5, fr5⟩ => ?_)
    have I5' := I5.pinned (stat fr5) (T.obj _ _ st5)
    refine wpAny_passesOwn hp (thn (hg _ s5 σ3 H5 x u _ I5' r5 (step x H5 y5)) fun _ s6 ⟨σ6, H6, I6, q6⟩ => ?_)
    refine wpAny_passesOwn hp (thn (hb _ s6 σ6 H6 _ I6 q6) fun f s7 q7 => ?_)
    have again : ∀ {σ7 : St} {H7 : Hp}, Inv X (pins ++ pinsAt fp s5.heap) σ7 H7 s7 → N σ7 H7 → ∃ m, m < n ∧ ∃ i σ' H', Inv X pins σ' H' s7 ∧ tn i s7.heap ∧ (∀ b ∈ fp, H' b = none) ∧ W i m σ' H' := fun {σ7 H7} I7 n7 => by
      obtain ⟨m', hm, w7⟩ := hN σ7 H7 n7
      refine ⟨m', hm, i + 1, σ7, H7, I7.unpinned, T.keep _ _ _ st5 fun b hb o e => (I7.pin (b, o) (List.mem_append_right _ (List.mem_append_right _ (mem_pinsAt hb e)))).1, fun b hb => ?_, w7⟩
      obtain ⟨o, e, d⟩ := T.obj _ _ st5 b hb
      exact (I7.pin (b, o) (List.mem_append_right _ (List.mem_append_right _ (mem_pinsAt hb e)))).2.1
    cases f with
    | next => obtain ⟨σ7, H7, I7, n7⟩ := q7; exact again I7 n7
    | cont => obtain ⟨σ7, H7, I7, n7⟩ := q7; exact again I7 n7
    | brk => obtain ⟨σ7, H7, I7, q7⟩ := q7; exact ⟨σ7, H7, I7.unpinned, q7⟩
    | ret v => obtain ⟨x7, σ7, H7, I7, r7, q7⟩ := q7; exact ⟨x7, σ7, H7, I7.unpinned, r7, q7⟩
end

theorem for_list {K : PySem.W.Frag} {a : Addr} {xs : List V} {g : TG} {tb : TS} {D : Ends} {σ : St} {H : Hp} (Pv : Nat → St → Hp → Prop) (h0 : Pv 0 σ H) (hl : ∀ i σ H, i ≤ xs.length → Pv i σ H → SqL K H a xs)
    (hs : ∀ i x σ H, xs[i]? = some x → Pv i σ H → g x σ H fun σ2 H2 => tb { D with nx := Pv (i + 1), ct := Pv (i + 1), bk := D.nx } σ2 H2) (hd : ∀ σ H, Pv xs.length σ H → D.nx σ H) :
    ∃ W : Nat → Nat → St → Hp → Prop, (∃ m, W 0 m σ H) ∧ ∀ i m σ H, W i m σ H →
      ((Itl K a).stop i H ∧ D.nx σ H) ∨ ((Itl K a).go i H ∧ ∃ N : St → Hp → Prop, (∀ σ' H', N σ' H' → ∃ m', m' < m ∧ W (i + 1) m' σ' H') ∧ ∀ x H', (Itl K a).yld i H x H' → g x σ H' fun σ2 H2 => tb { D with nx := N, ct := N, bk := D.nx } σ2 H2) := by
  refine ⟨fun i m σ H => m = xs.length - i ∧ i ≤ xs.length ∧ Pv i σ H, ⟨xs.length, by simp, Nat.zero_le _, h0⟩, ?_⟩
  rintro i m σ H ⟨rfl, hi, p⟩
  have q := hl i σ H hi p
  by_cases hlt : i < xs.length
  · refine .inr ⟨⟨xs, xs[i], q, by simp [hlt]⟩, Pv (i + 1), fun σ' H' p' => ⟨xs.length - (i + 1), by omega, rfl, hlt, p'⟩, fun x H' y => ?_⟩
    obtain ⟨e, y⟩ := y
    subst e
    exact hs i x σ _ (y xs q) p
  · have e : i = xs.length := by omega
    subst e
    exact .inl ⟨⟨xs, q, Nat.le_refl _⟩, hd σ H p⟩
theorem for_range {lo : Int} {n : Nat} {g : TG} {tb : TS} {D : Ends} {σ : St} {H : Hp} (Pv : Nat → St → Hp → Prop) (h0 : Pv 0 σ H)
    (hs : ∀ i σ H, i < n → Pv i σ H → g (.int (lo + i)) σ H fun σ2 H2 => tb { D with nx := Pv (i + 1), ct := Pv (i + 1), bk := D.nx } σ2 H2) (hd : ∀ σ H, Pv n σ H → D.nx σ H) :
    ∃ W : Nat → Nat → St → Hp → Prop, (∃ m, W 0 m σ H) ∧ ∀ i m σ H, W i m σ H →
      ((Itr lo n).stop i H ∧ D.nx σ H) ∨ ((Itr lo n).go i H ∧ ∃ N : St → Hp → Prop, (∀ σ' H', N σ' H' → ∃ m', m' < m ∧ W (i + 1) m' σ' H') ∧ ∀ x H', (Itr lo n).yld i H x H' → g x σ H' fun σ2 H2 => tb { D with nx := N, ct := N, bk := D.nx } σ2 H2) := by
  refine ⟨fun i m σ H => m = n - i ∧ i ≤ n ∧ Pv i σ H, ⟨n, by simp, Nat.zero_le _, h0⟩, ?_⟩
  rintro i m σ H ⟨rfl, hi, p⟩
  by_cases hlt : i < n
  · refine .inr ⟨hlt, Pv (i + 1), fun σ' H' p' => ⟨n - (i + 1), by omega, rfl, hlt, p'⟩, fun x H' y => ?_⟩
    obtain ⟨e, y⟩ := y
    subst e y
    exact hs i σ _ hlt p
  · have e : i = n := by omega
    subst e
    exact .inl ⟨Nat.le_refl _, hd σ H p⟩
end L2

namespace L2
open PySem PySem.Spec PyProof.Rows

noncomputable abbrev R2 := V → V → Hp → VK → Prop
noncomputable def OpR (X : Cx) (f : Value → Value → Sem Value) (r : R2) : Prop :=
  ∀ (pins : List (Addr × Obj)) (s : Shared) (σ : St) (H : Hp) (x y : V) (v u : Value) (Q : VK), Inv X pins σ H s → RelV x v → RelV y u → r x y H Q →
    wpAny (model X.prog X.w) X.A (f v u) (EP X pins σ Q) X.xe s
noncomputable def UnR (X : Cx) (f : Value → Sem Value) (r : V → Hp → VK → Prop) : Prop :=
  ∀ (pins : List (Addr × Obj)) (s : Shared) (σ : St) (H : Hp) (x : V) (v : Value) (Q : VK), Inv X pins σ H s → RelV x v → r x H Q →
    wpAny (model X.prog X.w) X.A (f v) (EP X pins σ Q) X.xe s
noncomputable def CallR (X : Cx) (f : Value) (r : List V → Hp → VK → Prop) : Prop :=
  ∀ (pins : List (Addr × Obj)) (s : Shared) (σ : St) (H : Hp) (xs : List V) (us : List Value) (Q : VK), Inv X pins σ H s → Vals xs us → r xs H Q →
    wpAny (model X.prog X.w) X.A (call f us) (EP X pins σ Q) X.xe s
noncomputable def tOp (r : R2) (ta tb : TE) : TE := fun σ H Q => ta σ H fun x H1 => tb σ H1 fun y H2 => r x y H2 Q
noncomputable def tUn (r : V → Hp → VK → Prop) (ta : TE) : TE := fun σ H Q => ta σ H fun x H1 => r x H1 Q
noncomputable def rI (C : Int → Int → Prop) (g : Int → Int → V) : R2 := fun x y H Q => ∃ i j, x = .int i ∧ y = .int j ∧ C i j ∧ Q (g i j) H
noncomputable def rI0 (g : Int → Int → V) : R2 := fun x y H Q => ∃ i j, x = .int i ∧ y = .int j ∧ Q (g i j) H
noncomputable def rU (g : Int → V) : V → Hp → VK → Prop := fun x H Q => ∃ i, x = .int i ∧ Q (g i) H

section
variable {X : Cx} {a b c : Expr} {ta tb tc : TE} {pos : Pos}

theorem binT (ha : PE X a ta) (hb : PE X b tb) {pins : List (Addr × Obj)} {s : Shared} {σ : St} {H : Hp} {R : V → V → Hp → Prop} (I : Inv X pins σ H s)
    (h : ta σ H fun x H1 => tb σ H1 fun y H2 => R x y H2) {Q : Value → Shared → Prop} {f : Value → Value → Sem Value}
    (hf : ∀ v u s2 x y H2, Inv X pins σ H2 s2 → RelV x v → RelV y u → R x y H2 → wpAny (model X.prog X.w) X.A (f v u) Q X.xe s2) :
    wpAny (model X.prog X.w) X.A (eval a X.env) (fun v s₁ => wpAny (model X.prog X.w) X.A (eval b X.env) (fun u s₂ => wpAny (model X.prog X.w) X.A (f v u) Q X.xe s₂) X.xe s₁) X.xe s := by
  refine thn (ha pins s σ H _ I h) fun v s1 ⟨x, H1, I1, r1, q1⟩ => ?_
  refine thn (hb pins s1 σ H1 _ I1 q1) fun u s2 ⟨y, H2, I2, r2, q2⟩ => ?_
  exact hf v u s2 x y H2 I2 r1 r2 q2

theorem pe_op {op : Operator} {r : R2} (ho : OpR X (binaryOp op) r) (ha : PE X a ta) (hb : PE X b tb) : PE X (.BinOp a op b pos) (tOp r ta tb) := by
  intro pins s σ H Q I h
  exact wpAny_BinOp (binT ha hb I h fun v u s2 x y H2 I2 rx ry q => ho pins s2 σ H2 x y v u Q I2 rx ry q)
theorem pe_un {op : UnaryOp} {r : V → Hp → VK → Prop} (ho : UnR X (unaryOp op) r) (ha : PE X a ta) : PE X (.UnaryOp op a pos) (tUn r ta) := by
  intro pins s σ H Q I h
  exact UnaryOp_ (thn (ha pins s σ H _ I h) fun v s1 ⟨x, H1, I1, r1, q1⟩ => ho pins s1 σ H1 x v Q I1 r1 q1)
theorem opI {f : Value → Value → Sem Value} {C : Int → Int → Prop} {g : Int → Int → Int}
    (rule : ∀ (i j : Int) (t u : Tok) (s : Shared) (Q : Value → Shared → Prop) (E : Value → Shared → Prop), C i j → Q (.int (g i j) s.toks) { s with toks := s.toks + 1 } → wpAny (model X.prog X.w) X.A (f (.int i t) (.int j u)) Q E s) :
    OpR X f (rI C fun i j => .int (g i j)) := by
  intro pins s σ H x y v u Q I rx ry h
  obtain ⟨i, j, rfl, rfl, hc, q⟩ := h
  obtain ⟨t, rfl⟩ := rx
  obtain ⟨t', rfl⟩ := ry
  exact rule i j t t' s _ _ hc ⟨.int (g i j), H, I.tok _, ⟨_, rfl⟩, q⟩
theorem opI0 {f : Value → Value → Sem Value} {g : Int → Int → Int}
    (rule : ∀ (i j : Int) (t u : Tok) (s : Shared) (Q : Value → Shared → Prop) (E : Value → Shared → Prop), Q (.int (g i j) s.toks) { s with toks := s.toks + 1 } → wpAny (model X.prog X.w) X.A (f (.int i t) (.int j u)) Q E s) :
    OpR X f (rI0 fun i j => .int (g i j)) := by
  intro pins s σ H x y v u Q I rx ry h
  obtain ⟨i, j, rfl, rfl, q⟩ := h
  obtain ⟨t, rfl⟩ := rx
  obtain ⟨t', rfl⟩ := ry
  exact rule i j t t' s _ _ ⟨.int (g i j), H, I.tok _, ⟨_, rfl⟩, q⟩
theorem opB0 {f : Value → Value → Sem Value} {g : Int → Int → Bool}
    (rule : ∀ (i j : Int) (t u : Tok) (s : Shared) (Q : Value → Shared → Prop) (E : Value → Shared → Prop), Q (.bool (g i j)) s → wpAny (model X.prog X.w) X.A (f (.int i t) (.int j u)) Q E s) :
    OpR X f (rI0 fun i j => .bl (g i j)) := by
  intro pins s σ H x y v u Q I rx ry h
  obtain ⟨i, j, rfl, rfl, q⟩ := h
  obtain ⟨t, rfl⟩ := rx
  obtain ⟨t', rfl⟩ := ry
  exact rule i j t t' s _ _ ⟨.bl (g i j), H, I, rfl, q⟩

noncomputable def CDiv (i j : Int) : Prop := 0 < j ∧ j < 1073741824
noncomputable def CPow (i j : Int) : Prop := 0 ≤ j ∧ j ≤ 1000000 ∧ i.natAbs < 2 ^ 64
noncomputable def CMul (i j : Int) : Prop := (-(2 ^ 64) < i ∧ i < 2 ^ 64) ∨ (-(2 ^ 64) < j ∧ j < 2 ^ 64)
theorem CMul.ok {i j : Int} (h : CMul i j) : IntMulOk i j := by
  rcases h with ⟨h1, h2⟩ | ⟨h1, h2⟩
  · exact .of_left (intBits_le_64 h1 h2)
  · exact .of_right (intBits_le_64 h1 h2)
theorem op_add : OpR X (binaryOp .Add) (rI0 fun i j => .int (i + j)) := opI0 fun _ _ _ _ _ _ _ q => add_int q
theorem op_sub : OpR X (binaryOp .Sub) (rI0 fun i j => .int (i - j)) := opI0 fun _ _ _ _ _ _ _ q => sub_int q
theorem op_mul : OpR X (binaryOp .Mult) (rI CMul fun i j => .int (i * j)) := opI fun _ _ _ _ _ _ _ hc q => mul_int q hc.ok
theorem op_fdiv : OpR X (binaryOp .FloorDiv) (rI CDiv fun i j => .int (i / j)) := opI fun i j _ _ _ _ _ hc q => by
  have h1 : (0 : Int) < j := hc.1
  have h2 : j < 1073741824 := hc.2
  exact floordiv_int (by omega) (by rw [Int.fdiv_eq_ediv_of_nonneg i (by omega)]; exact q) (.inl (PyProof.noPylong_small (by omega)))
theorem op_mod : OpR X (binaryOp .Mod) (rI (fun _ j => 0 < j) fun i j => .int (i % j)) := opI fun i j _ _ _ _ _ hc q => by
  have h1 : (0 : Int) < j := hc
  exact mod_int' (by omega) (by rw [Int.fmod_eq_emod_of_nonneg i (by omega)]; exact q)
theorem op_pow : OpR X (binaryOp .Pow) (rI CPow fun i j => .int (i ^ j.toNat)) := opI fun _ _ _ _ _ _ _ hc q => pow_int_small hc.1 hc.2.1 hc.2.2 q
theorem unI {f : Value → Sem Value} {g : Int → Int}
    (rule : ∀ (i : Int) (t : Tok) (s : Shared) (Q : Value → Shared → Prop) (E : Value → Shared → Prop), Q (.int (g i) s.toks) { s with toks := s.toks + 1 } → wpAny (model X.prog X.w) X.A (f (.int i t)) Q E s) :
    UnR X f (rU fun i => .int (g i)) := by
  intro pins s σ H x v Q I rx h
  obtain ⟨i, rfl, q⟩ := h
  obtain ⟨t, rfl⟩ := rx
  exact rule i t s _ _ ⟨.int (g i), H, I.tok _, ⟨_, rfl⟩, q⟩
theorem un_neg : UnR X (unaryOp .USub) (rU fun i => .int (-i)) := unI fun _ _ _ _ _ q => neg_int q
end

noncomputable def scal : V → V → Bool
  | .non, .non => true | .non, .int _ => true | .int _, .non => true | .non, .bl _ => true | .bl _, .non => true | .non, .str _ => true | .str _, .non => true
  | .int _, .int _ => true | .bl _, .bl _ => true | .str _, .str _ => true | .byt _, .byt _ => true
  | .int _, .str _ => true | .str _, .int _ => true | .bl _, .str _ => true | .str _, .bl _ => true
  | _, _ => false
noncomputable def rEq : R2 := fun x y H Q => scal x y = true ∧ Q (.bl (decide (x = y))) H
theorem dec_int {i j : Int} : decide (V.int i = V.int j) = (i == j) := by
  rw [Bool.eq_iff_iff]
  simp
theorem dec_bl {i j : Bool} : decide (V.bl i = V.bl j) = (i == j) := by
  rw [Bool.eq_iff_iff]
  simp
theorem dec_str {i j : Str} : decide (V.str i = V.str j) = (i == j) := by
  rw [Bool.eq_iff_iff]
  simp
theorem dec_byt {i j : Array UInt8} : decide (V.byt i = V.byt j) = (i.toList == j.toList) := by
  rw [Bool.eq_iff_iff]
  cases i
  cases j
  simp

section
variable {X : Cx} {a b c : Expr} {ta tb tc : TE} {pos : Pos}
theorem fin_bl {pins : List (Addr × Obj)} {σ : St} {H : Hp} {s : Shared} {Q : VK} {k k' : Bool} (I : Inv X pins σ H s) (q : Q (.bl k) H) (e : k = k') : EP X pins σ Q (.bool k') s := by
  subst e
  exact ⟨.bl k, H, I, rfl, q⟩
theorem op_eq : OpR X (compareOp .Eq) rEq := by
  intro pins s σ H x y v u Q I rx ry h
  obtain ⟨hs, q⟩ := h
  cases x with
  | non =>
    cases rx
    cases y with
    | non => cases ry; exact PySem.EqNone.eq_none_none (fin_bl I q (by simp))
    | bl j => cases ry; exact PySem.EqNone.eq_none_bool (fin_bl I q (by simp))
    | int j => obtain ⟨t', rfl⟩ := ry; exact PySem.EqNone.eq_none_int (fin_bl I q (by simp))
    | str j => obtain ⟨t', rfl⟩ := ry; exact PySem.EqNone.eq_none_str (fin_bl I q (by simp))
    | _ => exact absurd (show false = true from hs) Bool.false_ne_true
  | bl i =>
    cases rx
    cases y with
    | non => cases ry; exact PySem.EqNone.eq_bool_none (fin_bl I q (by simp))
    | bl j => cases ry; exact eq_bool (fin_bl I q dec_bl)
    | str j => obtain ⟨t', rfl⟩ := ry; exact PySem.EqMixed.eq_bool_str (fin_bl I q (by simp))
    | _ => exact absurd (show false = true from hs) Bool.false_ne_true
  | int i =>
    obtain ⟨t, rfl⟩ := rx
    cases y with
    | non => cases ry; exact PySem.EqNone.eq_int_none (fin_bl I q (by simp))
    | int j => obtain ⟨t', rfl⟩ := ry; exact eq_int (fin_bl I q dec_int)
    | str j => obtain ⟨t', rfl⟩ := ry; exact PySem.EqMixed.eq_int_str (fin_bl I q (by simp))
    | _ => exact absurd (show false = true from hs) Bool.false_ne_true
  | str i =>
    obtain ⟨t, rfl⟩ := rx
    cases y with
    | non => cases ry; exact PySem.EqNone.eq_str_none (fin_bl I q (by simp))
    | bl j => cases ry; exact PySem.EqMixed.eq_str_bool (fin_bl I q (by simp))
    | int j => obtain ⟨t', rfl⟩ := ry; exact PySem.EqMixed.eq_str_int (fin_bl I q (by simp))
    | str j => obtain ⟨t', rfl⟩ := ry; exact eq_str (fin_bl I q dec_str)
    | _ => exact absurd (show false = true from hs) Bool.false_ne_true
  | byt i =>
    obtain ⟨t, rfl⟩ := rx
    cases y with
    | byt j => obtain ⟨t', rfl⟩ := ry; exact PySem.W.eq_bytes (fin_bl I q dec_byt)
    | _ => exact absurd (show false = true from hs) Bool.false_ne_true
  | _ => cases y <;> exact absurd (show false = true from hs) Bool.false_ne_true
theorem op_lt : OpR X (compareOp .Lt) (rI0 fun i j => .bl (decide (i < j))) := opB0 fun _ _ _ _ _ _ _ q => lt_int q
theorem op_le : OpR X (compareOp .LtE) (rI0 fun i j => .bl (decide (i ≤ j))) := opB0 fun _ _ _ _ _ _ _ q => le_int q
theorem op_gt : OpR X (compareOp .Gt) (rI0 fun i j => .bl (decide (j < i))) := opB0 fun _ _ _ _ _ _ _ q => gt_int q
theorem nomark (b : Expr) {op : CmpOp} (h : op ≠ .In := by decide) (h2 : op ≠ .NotIn := by decide) : behindInMarks op b = false := by
  have e1 : (op == CmpOp.In) = false := by cases op <;> first | rfl | exact absurd rfl h
  have e2 : (op == CmpOp.NotIn) = false := by cases op <;> first | rfl | exact absurd rfl h2
  cases b <;> simp [behindInMarks, e1, e2]
theorem pe_cmpR {op : CmpOp} {r : R2} (ho : OpR X (compareOp op) r) (ha : PE X a ta) (hb : PE X b tb) (hm : behindInMarks op b = false) : PE X (.Compare a [op] [b] pos) (tOp r ta tb) := by
  intro pins s σ H Q I h
  exact wpAny_Compare1 (binT ha hb I h fun v u s2 x y H2 I2 rx ry q => ho pins s2 σ H2 x y v u Q I2 rx ry q) hm
noncomputable def tTest (t : TE) : TT := fun σ H Q => t σ H fun x H' => ∃ k, x = .bl k ∧ Q k H'
theorem pt_cmpR {op : CmpOp} {r : R2} (ho : OpR X (compareOp op) r) (ha : PE X a ta) (hb : PE X b tb) (hm : behindInMarks op b = false) : PT X (.Compare a [op] [b] pos) (tTest (tOp r ta tb)) := by
  intro pins s σ H Q I h
  refine wpAny_isTrue_Compare1 (thn (ha pins s σ H _ I h) fun v s1 ⟨x, H1, I1, r1, q1⟩ => thn (hb pins s1 σ H1 _ I1 q1) fun u s2 ⟨y, H2, I2, r2, q2⟩ =>
    thn (ho pins s2 σ H2 x y v u _ I2 r1 r2 q2) fun c s3 ⟨z, H3, I3, r3, k, e, q3⟩ => ?_) hm
  subst e
  cases r3
  exact wpAny_truthy_bool ⟨H3, I3, q3⟩
noncomputable def tChain (r r' : R2) (ta tb tc : TE) : TE := fun σ H Q => ta σ H fun x H1 => tb σ H1 fun y H2 => r x y H2 fun z H3 => ∃ k, z = .bl k ∧
  (if k = true then tc σ H3 fun w' H4 => r' y w' H4 Q else Q (.bl false) H3)
theorem pe_chain {op op' : CmpOp} {r r' : R2} (ho : OpR X (compareOp op) r) (ho' : OpR X (compareOp op') r') (ha : PE X a ta) (hb : PE X b tb) (hc : PE X c tc)
    (hm : lastMarks [op, op'] [b, c] = false := by with_unfolding_all rfl) : PE X (.Compare a [op, op'] [b, c] pos) (tChain r r' ta tb tc) := by
  intro pins s σ H Q I h
  refine Compare_chain (thn (ha pins s σ H _ I h) fun v s1 ⟨x, H1, I1, r1, q1⟩ => chain_link (thn (hb pins s1 σ H1 _ I1 q1) fun u s2 ⟨y, H2, I2, r2, q2⟩ =>
    thn (ho pins s2 σ H2 x y v u _ I2 r1 r2 q2) fun d s3 ⟨z, H3, I3, r3, k, e, q3⟩ => ?_)) hm
  subst e
  cases r3
  refine wpAny_truthy_bool ?_
  cases k with
  | false => exact ite_ff ⟨.bl false, H3, I3, rfl, q3⟩
  | true => exact ite_tt (chain_last (thn (hc pins s3 σ H3 _ I3 q3) fun w' s4 ⟨z', H4, I4, r4, q4⟩ => ho' pins s4 σ H4 y z' u w' Q I4 r2 r4 q4))
theorem pt_chain {op op' : CmpOp} {r r' : R2} (ho : OpR X (compareOp op) r) (ho' : OpR X (compareOp op') r') (ha : PE X a ta) (hb : PE X b tb) (hc : PE X c tc)
    (hm : lastMarks [op, op'] [b, c] = false := by with_unfolding_all rfl) : PT X (.Compare a [op, op'] [b, c] pos) (tTest (tChain r r' ta tb tc)) := by
  intro pins s σ H Q I h
  refine isTrue_chain (thn (ha pins s σ H _ I h) fun v s1 ⟨x, H1, I1, r1, q1⟩ => test_link (thn (hb pins s1 σ H1 _ I1 q1) fun u s2 ⟨y, H2, I2, r2, q2⟩ =>
    thn (ho pins s2 σ H2 x y v u _ I2 r1 r2 q2) fun d s3 ⟨z, H3, I3, r3, k, e, q3⟩ => ?_)) hm
  subst e
  cases r3
  refine wpAny_truthy_bool ?_
  cases k with
  | false =>
    obtain ⟨k', e', q'⟩ := q3
    cases e'
    exact ite_ff ⟨H3, I3, q'⟩
  | true =>
    refine ite_tt (test_last (thn (hc pins s3 σ H3 _ I3 q3) fun w' s4 ⟨z', H4, I4, r4, q4⟩ => thn (ho' pins s4 σ H4 y z' u w' _ I4 r2 r4 q4) fun d' s5 ⟨z2, H5, I5, r5, k2, e2, q5⟩ => ?_))
    subst e2
    cases r5
    exact wpAny_truthy_bool ⟨H5, I5, q5⟩

theorem line63 : (sizeLine : Nat) < 2 ^ 63 := by rw [sizeLine_eq]; decide
theorem op_add_str : OpR X (binaryOp .Add) (fun x y H Q => ∃ i j, x = .str i ∧ y = .str j ∧ i.length + j.length ≤ sizeLine ∧ Q (.str (i ++ j)) H) := by
  intro pins s σ H x y v u Q I rx ry h
  obtain ⟨i, j, rfl, rfl, hz, q⟩ := h
  obtain ⟨t, rfl⟩ := rx
  obtain ⟨t', rfl⟩ := ry
  exact add_str (fun t' tk => ⟨.str (i ++ j), H, I.tok _, ⟨_, rfl⟩, q⟩) hz
theorem vals1 {x : V} {us : List Value} (r : Vals [x] us) : ∃ u, us = [u] ∧ RelV x u := by
  cases r with
  | cons r1 r2 => cases r2; exact ⟨_, rfl, r1⟩
theorem vals2 {x y : V} {us : List Value} (r : Vals [x, y] us) : ∃ u w', us = [u, w'] ∧ RelV x u ∧ RelV y w' := by
  cases r with
  | cons r1 r2 =>
    cases r2 with
    | cons r3 r4 => cases r4; exact ⟨_, _, rfl, r1, r3⟩
end
end L2

namespace L2
open PySem PySem.Spec PyProof.Rows

structure ObjM (h : Heap) (x dx C : Addr) (mA : Str → Option Value) : Prop where
  obj : h.get? x = some (PySem.W.instObj C dx)
  ns : h.Ns1 dx mA
  ne : dx ≠ x

theorem lookIn_ns {h : Heap} {dx : Addr} {mA : Str → Option Value} (n : h.Ns1 dx mA) : ∃ od, h.get? dx = some od ∧ ∀ name, PySem.W.lookIn name od = some (mA name) := by
  obtain ⟨o, es, ep, ho, hd, hk, _, hm⟩ := n
  refine ⟨o, ho, fun name => ?_⟩
  have e := hm name
  unfold nsFind findBy at e
  rw [← Array.find?_toList] at e
  unfold PySem.W.lookIn
  rw [hd]
  dsimp only
  split
  · rename_i y q
    rw [q] at e
    exact congrArg some e
  · rename_i q
    rw [q] at e
    have a : es.toList.any (·.refKey) = false := by
      rw [List.any_eq_false]
      intro y hy
      obtain ⟨z, t, hkey⟩ := hk y (Array.mem_toList_iff.mp hy)
      simp [DictEntry.refKey, hkey]
    have a' : ¬ es.toList.any (·.refKey) = true := by rw [a]; exact Bool.false_ne_true
    rw [if_neg a']
    exact congrArg some e

theorem ObjM.look {h : Heap} {x dx C : Addr} {mA : Str → Option Value} (I : ObjM h x dx C mA) : ∃ od, PySem.W.InstAt h x (PySem.W.instObj C dx) C (some od) ∧ ∀ name, PySem.W.lookIn name od = some (mA name) :=
  let ⟨od, ho, hl⟩ := lookIn_ns I.ns
  ⟨od, ⟨I.obj, rfl, rfl, ho⟩, hl⟩

section
variable {prog : Program} {w : World} {A : Around} {E : Value → Shared → Prop} {s : Shared} {K : PySem.W.Frag} {x dx C f : Addr} {mA : Str → Option Value} {name : Str} {v : Value}

theorem get_map {expr : Bool} {Q : Value → Shared → Prop} (X : K.In s.heap) (I : ObjM s.heap x dx C mA) (hg : PySem.W.plainGet K C name = true) (hh : PySem.W.hasDictIn K C = true)
    (ha : PySem.W.findIn K (.ref C) name = some none) (hv : mA name = some v) (hv' : PySem.W.handedIn v = true) (h : Q v { s with toks := s.toks + 1 }) :
    wpAny (model prog w) A (getAttr (.ref x) name expr) Q E s := by
  obtain ⟨od, J, hl⟩ := I.look
  exact PySem.W.get_value X J (PySem.W.plainGet_of hg).1 (PySem.W.findObj_own hh ha rfl (by rw [hl, hv])) hv' h

theorem get_meth {pl : Sem Bool} {Q : Value × List Value → Shared → Prop} (X : K.In s.heap) (I : ObjM s.heap x dx C mA) (hg : PySem.W.plainGet K C name = true)
    (hf : PySem.W.findIn K (.ref C) name = some (some (.ref f))) (ht : PySem.W.isFn K (.ref f) = true) (hv : mA name = none) (h : Q (.ref f, [.ref x]) s) :
    wpAny (model prog w) A (getMethod (.ref x) name pl) Q E s := by
  obtain ⟨od, J, hl⟩ := I.look
  exact PySem.W.method_fn X J (PySem.W.plainGet_of hg).1 (PySem.W.plainGet_of hg).2 hf (beq_iff_eq.mp ht) (by show (PySem.W.lookIn name od).map (·.isSome) = some false; rw [hl, hv]; rfl) h

theorem set_map {ns : List Str} {Q : Unit → Shared → Prop} (X : K.In s.heap) (I : ObjM s.heap x dx C mA)
    (hs : PySem.W.findIn K (.ref C) "__setattr__" = some (some (.builtin "object.__setattr__"))) (hp : PySem.W.plainOver K C = true) (ht : PySem.W.takerIn K C name = some none) (hh : PySem.W.hasDictIn K C = true)
    (hw : PySem.Within mA ns) (hsz : ns.length ≤ sizeLine)
    (h : ∀ h', ObjM h' x dx C (fun y => if y = name then some v else mA y) → Heap.SameBut dx s.heap h' → Q () { s with heap := h', toks := s.toks + 2 }) :
    wpAny (model prog w) A (setAttr (.ref x) name v) Q E s := by
  obtain ⟨od, J, hl⟩ := I.look
  refine PySem.W.set_plain X J hs (PySem.W.osa_open (s := { s with toks := s.toks + 1 }) (r := none) X J hp ht fun b => ?_)
  obtain ⟨cd, hc, hd'⟩ := PySem.W.any_some hh
  have hx : s.heap.get? x = some ⟨.ref C, some dx, .plain, #[]⟩ := I.obj
  refine wpAny_bind (wpAny_pure (wpAny_bind (wpAny_bind (wpAny_loadPart hx (wpAny_bind (PySem.W.Looks.here (s := { s with toks := s.toks + 1 }) (PySem.W.looks_clsIn X hc) ?_))))))
  rw [hd']
  refine wpAny_pure (a := some dx) (wpAny_bind (wpAny_pure (wpAny_bind ?_)))
  refine wpAny_nsSet1 (s := { s with toks := s.toks + 1 }) I.ns fun h' hn2 hs2 => ?_
  obtain ⟨oD, esD, epD, hoD, hdD, hcD⟩ := hn2.count (PySem.Within.cons name v hw)
  refine wpAny_bind (wpAny_lookBehind hoD (by rw [hdD]; exact pastItsLine_dict (Nat.le_trans hcD (by rw [List.length_cons]; omega))) ?_)
  exact wpAny_pure (h _ ⟨(hs2.2 _ (Ne.symm I.ne)).trans I.obj, hn2, I.ne⟩ hs2)

theorem make_map {R : Result → Shared → Prop} {vs : List Value} {kw : List (Str × Value)} (X : K.In s.heap) (hm : PySem.W.makesIn K C = true)
    (hi : PySem.W.findIn K (.ref C) "__init__" = some (some (.ref f))) (hf : PySem.W.typeIn K (.ref f) = some (.type "function"))
    (h : codeAny (model prog w) (A.under (.builtin "type.__call__" ⟨.ref C :: vs, kw⟩)) (.call (.ref f) ⟨.ref (s.heap.objs.size + 1) :: vs, kw⟩) (PySem.W.InitBack (s.heap.objs.size + 1) R)
      { s with heap := (s.heap.push PySem.W.emptyDict).push (PySem.W.instObj C s.heap.objs.size) }) :
    codeAny (model prog w) A (.call (.ref C) ⟨vs, kw⟩) R s := by
  obtain ⟨hh, g, d, t, os⟩ := s
  exact PySem.W.make_core (PySem.W.makes_of X hm) (PySem.W.looks_findIn X hi) (fun self => PySem.W.bind_fn X self hf) (.inl rfl) h
end

noncomputable def putF (f : Str) (v : V) : List (Str × V) → List (Str × V)
  | [] => [(f, v)]
  | (g, x) :: r => if g = f then (g, v) :: r else (g, x) :: putF f v r
theorem lookup_putF (f g : Str) (v : V) : ∀ fs : List (Str × V), (putF f v fs).lookup g = if g = f then some v else fs.lookup g
  | [] => by
    show List.lookup g [(f, v)] = _
    by_cases h : g = f
    · have hb : (g == f) = true := beq_iff_eq.mpr h
      simp only [List.lookup, hb, if_pos h]
    · have hb : (g == f) = false := beq_eq_false_iff_ne.mpr h
      simp only [List.lookup, hb, if_neg h]
  | (k, x) :: r => by
    have ih := lookup_putF f g v r
    rw [show putF f v ((k, x) :: r) = (if k = f then (k, v) :: r else (k, x) :: putF f v r) from rfl]
    by_cases hk : k = f
    · rw [if_pos hk]
      by_cases h : g = k
      · have hb : (g == k) = true := beq_iff_eq.mpr h
        simp only [List.lookup, hb, if_pos (h.trans hk)]
      · have hb : (g == k) = false := beq_eq_false_iff_ne.mpr h
        simp only [List.lookup, hb, if_neg (fun e : g = f => h (e.trans hk.symm))]
    · rw [if_neg hk]
      by_cases h : g = k
      · have hb : (g == k) = true := beq_iff_eq.mpr h
        simp only [List.lookup, hb, if_neg (fun e : g = f => hk (h.symm.trans e))]
      · have hb : (g == k) = false := beq_eq_false_iff_ne.mpr h
        simp only [List.lookup, hb]
        exact ih
theorem keys_putF (f : Str) (v : V) : ∀ fs : List (Str × V), f ∈ (putF f v fs).map (·.1) ∧ ∀ g, g ∈ fs.map (·.1) → g ∈ (putF f v fs).map (·.1)
  | [] => ⟨by simp [putF], fun g h => by simp at h⟩
  | (k, x) :: r => by
    obtain ⟨i1, i2⟩ := keys_putF f v r
    rw [show putF f v ((k, x) :: r) = (if k = f then (k, v) :: r else (k, x) :: putF f v r) from rfl]
    by_cases hk : k = f
    · rw [if_pos hk]
      subst hk
      exact ⟨by simp, fun g h => by simpa using h⟩
    · rw [if_neg hk]
      refine ⟨?_, fun g h => ?_⟩
      · rw [List.map_cons]
        exact List.mem_cons_of_mem _ i1
      · rw [List.map_cons] at h ⊢
        rcases List.mem_cons.mp h with e | e
        · exact List.mem_cons.mpr (.inl e)
        · exact List.mem_cons_of_mem _ (i2 g e)
theorem length_putF (f : Str) (v : V) : ∀ fs : List (Str × V), (putF f v fs).length ≤ fs.length + 1
  | [] => by simp [putF]
  | (k, x) :: r => by
    have ih := length_putF f v r
    rw [show putF f v ((k, x) :: r) = (if k = f then (k, v) :: r else (k, x) :: putF f v r) from rfl]
    by_cases hk : k = f
    · rw [if_pos hk, List.length_cons, List.length_cons]; omega
    · rw [if_neg hk, List.length_cons, List.length_cons]; omega

theorem RelO.some_of {v : V} {o : Option Value} (r : RelO (some v) o) : ∃ u, o = some u ∧ RelV v u := by
  cases o with
  | none => exact (show False from r).elim
  | some u => exact ⟨u, rfl, r⟩
theorem RelO.none_of {o : Option Value} (r : RelO none o) : o = none := by
  cases o with
  | none => rfl
  | some u => exact (show False from r).elim
theorem handed_of {v : V} {u : Value} (r : RelV v u) : PySem.W.handedIn u = true := by
  cases v with
  | non => cases (show u = Value.none from r); rfl
  | bl b => cases (show u = Value.bool b from r); rfl
  | int i => obtain ⟨t, e⟩ := (show ∃ t, u = Value.int i t from r); cases e; rfl
  | str x => obtain ⟨t, e⟩ := (show ∃ t, u = Value.str x t from r); cases e; rfl
  | byt b => obtain ⟨t, e⟩ := (show ∃ t, u = Value.bytes b t from r); cases e; rfl
  | flt b => obtain ⟨t, e⟩ := (show ∃ t, u = Value.float b t from r); cases e; rfl
  | ref a => cases (show u = Value.ref a from r); rfl
  | ty n => cases (show u = Value.type n from r); rfl

section
variable {P : Program} {w : World} {H H' : Hp} {h h' : Heap} {a C dx : Addr} {fs fs' : List (Str × V)}
theorem ins_get (hok : HOk P w H h) (e : H a = some (.ins C dx fs)) : ∃ mA, ObjM h a dx C mA ∧ (∀ f, RelO (fs.lookup f) (mA f)) ∧ PySem.Within mA (fs.map (·.1)) ∧ fs.length ≤ 1000 ∧ H dx = some (.own a) := by
  obtain ⟨d, z, ne, ob, mA, n, r, q⟩ := (show ObjOk P w H h a (.ins C dx fs) from hok a _ e)
  exact ⟨mA, ⟨ob, n, ne⟩, r, q, z, d⟩
end

structure Cls (K : PySem.W.Frag) (C : Addr) : Prop where
  pg : PySem.W.plainGet K C Str.empty = true
  hd : PySem.W.hasDictIn K C = true
  po : PySem.W.plainOver K C = true
  sa : PySem.W.findIn K (.ref C) "__setattr__" = some (some (.builtin "object.__setattr__"))
theorem Cls.get {K : PySem.W.Frag} {C : Addr} (c : Cls K C) (f : Str) : PySem.W.plainGet K C f = true := c.pg
noncomputable def NoAttr (K : PySem.W.Frag) (C : Addr) (f : Str) : Prop := PySem.W.findIn K (.ref C) f = some none
theorem NoAttr.taker {K : PySem.W.Frag} {C : Addr} {f : Str} (n : NoAttr K C f) : PySem.W.takerIn K C f = some none := by
  unfold PySem.W.takerIn
  rw [show PySem.W.findIn K (.ref C) f = some none from n]
  rfl
structure Meth (K : PySem.W.Frag) (C : Addr) (m : Str) (f : Addr) : Prop where
  at_ : PySem.W.findIn K (.ref C) m = some (some (.ref f))
  fn : PySem.W.isFn K (.ref f) = true
  kp : PySem.W.keepIn K (.ref f) = true

section
variable {X : Cx} {pins : List (Addr × Obj)} {σ : St} {H : Hp} {s : Shared} {a C dx : Addr} {fs : List (Str × V)} {f : Str} {v : V} {A : Around} {E : Value → Shared → Prop}

theorem getattr_ok {b : Bool} {Q : Value → Shared → Prop} (I : Inv X pins σ H s) (e : H a = some (.ins C dx fs)) (c : Cls X.K C) (n : NoAttr X.K C f) (l : fs.lookup f = some v)
    (h : ∀ u s', Inv X pins σ H s' → RelV v u → Q u s') : wpAny (model X.prog X.w) A (getAttr (.ref a) f b) Q E s := by
  obtain ⟨mA, O, r, _, _, _⟩ := ins_get I.hok e
  obtain ⟨u, hu, ru⟩ := RelO.some_of (v := v) (o := mA f) (by rw [← l]; exact r f)
  exact get_map I.kIn O (c.get f) c.hd n hu (handed_of ru) (h u _ (I.tok _) ru)

theorem getmeth_ok {m : Str} {g : Addr} {pl : Sem Bool} {Q : Value × List Value → Shared → Prop} (I : Inv X pins σ H s) (e : H a = some (.ins C dx fs)) (c : Cls X.K C) (k : Meth X.K C m g) (l : fs.lookup m = none)
    (h : Q (.ref g, [.ref a]) s) : wpAny (model X.prog X.w) A (getMethod (.ref a) m pl) Q E s := by
  obtain ⟨mA, O, r, _, _, _⟩ := ins_get I.hok e
  have hn : mA m = none := RelO.none_of (by rw [← l]; exact r m)
  exact get_meth I.kIn O (c.get m) k.at_ k.fn hn h

theorem setattr_ok {y : V} {u : Value} {Q : Unit → Shared → Prop} (I : Inv X pins σ H s) (e : H a = some (.ins C dx fs)) (c : Cls X.K C) (n : NoAttr X.K C f) (hl : fs.length < 1000) (ry : RelV y u)
    (h : ∀ s', Inv X pins σ (upd H a (.ins C dx (putF f y fs))) s' → Q () s') : wpAny (model X.prog X.w) A (setAttr (.ref a) f u) Q E s := by
  obtain ⟨mA, O, r, wi, _, ho⟩ := ins_get I.hok e
  have hz : (fs.map (·.1)).length ≤ sizeLine := by rw [List.length_map, sizeLine_eq]; omega
  refine set_map I.kIn O c.sa c.po n.taker c.hd wi hz fun h' O' sb => h _ ?_
  have hd : ∃ o, h'.get? dx = some o := let ⟨o, _, _, e', _⟩ := O'.ns; ⟨o, e'⟩
  refine I.write (x := a) (e := dx) (by rw [e]; exact True.intro) (.inr ho) (fun b q hb z => (sb.2 b hb).trans z) hd ?_
  refine ⟨by rw [upd_ne O.ne]; exact ho, ?_, O.ne, O'.obj, _, O'.ns, fun g => ?_, fun g hg => ?_⟩
  · have := length_putF f y fs; omega
  · show RelO ((putF f y fs).lookup g) (if g = f then some u else mA g)
    rw [lookup_putF]
    by_cases q : g = f
    · rw [if_pos q, if_pos q]; exact ry
    · rw [if_neg q, if_neg q]; exact r g
  · by_cases q : g = f
    · rw [q]; exact (keys_putF f y fs).1
    · refine (keys_putF f y fs).2 g (wi g fun z => hg ?_)
      show (if g = f then some u else mA g) = none
      rw [if_neg q]; exact z

theorem Inv.made (I : Inv X pins σ H s) : Inv X pins σ (upd (upd H s.heap.objs.size (.own (s.heap.objs.size + 1))) (s.heap.objs.size + 1) (.ins C s.heap.objs.size []))
    { s with heap := (s.heap.push PySem.W.emptyDict).push (PySem.W.instObj C s.heap.objs.size) } := by
  have e1 : (s.heap.push PySem.W.emptyDict).get? s.heap.objs.size = some PySem.W.emptyDict := Heap.get?_push_size s.heap rfl
  have e2 : ((s.heap.push PySem.W.emptyDict).push (PySem.W.instObj C s.heap.objs.size)).get? (s.heap.objs.size + 1) = some (PySem.W.instObj C s.heap.objs.size) := by
    have := Heap.get?_push_size (s.heap.push PySem.W.emptyDict) (o := PySem.W.instObj C s.heap.objs.size) rfl
    rwa [Heap.size_push] at this
  have e3 : (s.heap.push PySem.W.emptyDict).Ns s.heap.objs.size (fun _ => none) := ⟨PySem.W.emptyDict, #[], _, e1, rfl, (fun e he => absurd he (by simp)), fun _ => rfl⟩
  have I1 := I.laid (a := s.heap.objs.size) (o := .own (s.heap.objs.size + 1)) (h' := s.heap.push PySem.W.emptyDict) (t' := s.toks) (fun b u q => Heap.get?_push_of_some _ q) (Nat.le_refl _) ⟨_, e1⟩
  refine I1.laid (a := s.heap.objs.size + 1) (o := .ins C s.heap.objs.size []) (t' := s.toks) (fun b u q => Heap.get?_push_of_some _ q) (Nat.le_of_eq (Heap.size_push _ _)) ?_
  have ne : s.heap.objs.size ≠ s.heap.objs.size + 1 := Nat.ne_of_lt (Nat.lt_succ_self _)
  refine ⟨by rw [upd_ne ne, upd_same], Nat.zero_le _, ne, e2, fun _ => none, (Heap.Ns1.of_empty e3).at fun o q => Heap.get?_push_of_some _ q, fun _ => True.intro, fun y hy => absurd rfl hy⟩

theorem attr_of {prog : Program} {w : World} {env : Env} {e : Expr} {f : Str} {pos : Pos} {s : Shared} {Q : Value → Shared → Prop} (hb : attributeBase e f env (eval e env) = eval e env)
    (h : wpAny (model prog w) A (eval e env) (fun o s₁ => wpAny (model prog w) A (getAttr o f true) Q E s₁) E s) : wpAny (model prog w) A (eval (.Attribute e f pos) env) Q E s :=
  Attribute_any_ h (by rw [arm_eval_Attribute, hb])
end

noncomputable def tFld (K : PySem.W.Frag) (ta : TE) (f : Str) : TE := fun σ H Q => ta σ H fun x H1 => ∃ a C dx fs v, x = .ref a ∧ H1 a = some (.ins C dx fs) ∧ Cls K C ∧ NoAttr K C f ∧ fs.lookup f = some v ∧ Q v H1
noncomputable def sFld (K : PySem.W.Frag) (ta tv : TE) (f : Str) : TS := fun D σ H => tv σ H fun y H1 => ta σ H1 fun x H2 => ∃ a C dx fs, x = .ref a ∧ H2 a = some (.ins C dx fs) ∧ Cls K C ∧ NoAttr K C f ∧ fs.length < 1000 ∧
  D.nx σ (upd H2 a (.ins C dx (putF f y fs)))
section
variable {X : Cx} {o e value : Expr} {f : Str} {pos pos' tpos : Pos} {ta tv : TE}
theorem pe_fld (he : PE X e ta) (hb : attributeBase e f X.env (eval e X.env) = eval e X.env) : PE X (.Attribute e f pos) (tFld X.K ta f) := by
  intro pins s σ H Q I h
  refine attr_of hb (thn (he pins s σ H _ I h) fun u s1 ⟨x, H1, I1, rx, a, C, dx, fs, v, ex, ea, c, n, l, q⟩ => ?_)
  subst ex
  obtain rfl : u = Value.ref a := rx
  exact getattr_ok I1 ea c n l fun u' s2 I2 ru => ⟨v, H1, I2, ru, q⟩
theorem ps_fld (ha : PE X o ta) (hv : PE X value tv) (hs : swapsWith value (some (.Attribute o f pos')) pos.line X.env = pure false) : PS X (.Assign [.Attribute o f pos'] value pos) (sFld X.K ta tv f) := by
  intro pins s σ H D I h
  refine plainObj_wpAny_Assign_Attribute (thn (hv pins s σ H _ I h) fun u s1 ⟨y, H1, I1, ry, q⟩ => thn (ha pins s1 σ H1 _ I1 q) fun ov s2 ⟨x, H2, I2, rx, a, C, dx, fs, ex, ea, c, n, l, q2⟩ => ?_) hs
  subst ex
  obtain rfl : ov = Value.ref a := rx
  exact setattr_ok I2 ea c n l ry fun s3 I3 => ⟨σ, _, I3, q2⟩
theorem methcall_of {pl : Sem Bool} {m : Str} {apos : Pos} {args : List Expr} {pins : List (Addr × Obj)} {s : Shared} {σ : St} {H : Hp} {Q : Value → Shared → Prop} {te : TE} (he : PE X e te) (I : Inv X pins σ H s)
    (h : te σ H fun x H1 => ∃ a C dx fs g, x = .ref a ∧ H1 a = some (.ins C dx fs) ∧ Cls X.K C ∧ Meth X.K C m g ∧ fs.lookup m = none ∧
      ∀ s1, Inv X pins σ H1 s1 → wpAny (model X.prog X.w) X.A (callWith pos (.ref g) [.ref a] (backTo pos (starEach args X.env)) (backToKw pos (keywordEach [] X.env))) Q X.xe s1)
    (ht : eval (.Call (.Attribute e m apos) args [] pos) X.env = (do
      let ov ← eval e X.env
      standAt apos.atName
      let (f, first) ← holding [ov] (getMethod ov m pl)
      callWith pos f first (backTo pos (starEach args X.env)) (backToKw pos (keywordEach [] X.env)))) :
    wpAny (model X.prog X.w) X.A (eval (.Call (.Attribute e m apos) args [] pos) X.env) Q X.xe s := by
  refine PySem.W.methodCall_KW (pl := pl) (thn (he pins s σ H _ I h) fun u s1 ⟨x, H1, I1, rx, a, C, dx, fs, g, ex, ea, c, k, l, q⟩ => ?_) ht
  subst ex
  obtain rfl : u = Value.ref a := rx
  exact getmeth_ok I1 ea c k l (q s1 I1)
end

section
variable {X : Cx} {pins : List (Addr × Obj)} {σ : St} {H : Hp} {s : Shared} {A : Around} {E : Value → Shared → Prop} {Q : Value → Shared → Prop} {c : Value} {b : Bool}
inductive TyOf (K : PySem.W.Frag) (H : Hp) : V → Value → Prop where
  | non : TyOf K H .non (.type "NoneType")
  | bl (x : Bool) : TyOf K H (.bl x) (.type "bool")
  | int (i : Int) : TyOf K H (.int i) (.type "int")
  | str (x : Str) : TyOf K H (.str x) (.type "str")
  | flt (x : UInt64) : TyOf K H (.flt x) (.type "float")
  | lst {a : Addr} {xs : List V} (e : H a = some (.lst xs)) : TyOf K H (.ref a) (.type "list")
  | frz {a : Addr} {o : Obj} {xs : List V} (e : H a = some (.frz o (.lst xs))) : TyOf K H (.ref a) (.type "list")
  | tup {a : Addr} {xs : List V} (e : H a = some (.tup xs)) : TyOf K H (.ref a) (.type "tuple")
  | dK {a : Addr} {kvs : List (Key × V)} (e : H a = some (.dK kvs)) : TyOf K H (.ref a) (.type "dict")
  | dT {a : Addr} {kvs : List (List Key × V)} (e : H a = some (.dT kvs)) : TyOf K H (.ref a) (.type "dict")
  | ins {a C dx : Addr} {fs : List (Str × V)} (e : H a = some (.ins C dx fs)) (cl : Cls K C) (ha : PySem.W.findIn K (.ref C) "__class__" = some (some (.builtin "object.__class__")))
      (hn : PySem.W.specialIn K (.builtin "object.__class__") "__get__" = some (some (.builtin "getset_descriptor.__get__"))) (htk : PySem.W.takesIn K (.builtin "object.__class__") = some true)
      (hm : PySem.W.mroIn K C (.type "object") = some true) : TyOf K H (.ref a) (.ref C)
theorem isinst_ok {x : V} {u t : Value} (I : Inv X pins σ H s) (rx : RelV x u) (ty : TyOf X.K H x t) (e : PySem.W.kitOne X.K t c = some b) (h : ∀ tk, Q (.bool b) { s with toks := tk }) :
    wpAny (model X.prog X.w) A (call (.builtin "isinstance") [u, c]) Q E s := by
  cases ty with
  | non => cases (show u = Value.none from rx); exact PySem.W.kia_one PySem.W.kitx_none I.kIn True.intro e (fun z => nomatch z) h
  | bl y => cases (show u = Value.bool y from rx); exact PySem.W.kia_one PySem.W.kitx_bool I.kIn True.intro e (fun z => nomatch z) h
  | int i => obtain ⟨t, q⟩ := (show ∃ t, u = Value.int i t from rx); cases q; exact PySem.W.kia_one PySem.W.kitx_int I.kIn True.intro e (fun z => nomatch z) h
  | str y => obtain ⟨t, q⟩ := (show ∃ t, u = Value.str y t from rx); cases q; exact PySem.W.kia_one PySem.W.kitx_str I.kIn True.intro e (fun z => nomatch z) h
  | flt y => obtain ⟨t, q⟩ := (show ∃ t, u = Value.float y t from rx); cases q; exact PySem.W.kia_one PySem.W.kitx_float I.kIn True.intro e (fun z => nomatch z) h
  | @lst a xs ea =>
    cases (show u = Value.ref a from rx)
    obtain ⟨_, _, n, _, h1⟩ := (show ObjOk X.prog X.w H s.heap a (.lst xs) from I.hok a _ ea)
    exact PySem.W.kia_one PySem.W.kitx_list I.kIn ⟨_, h1, rfl⟩ e (fun z => nomatch z) h
  | @frz a ob xs ea =>
    cases (show u = Value.ref a from rx)
    obtain ⟨_, _, _, n, _, h1⟩ := (show ObjOk X.prog X.w H s.heap a (.frz ob (.lst xs)) from I.hok a _ ea)
    exact PySem.W.kia_one PySem.W.kitx_list I.kIn ⟨_, h1, rfl⟩ e (fun z => nomatch z) h
  | @tup a xs ea =>
    cases (show u = Value.ref a from rx)
    obtain ⟨_, _, _, p⟩ := (show ObjOk X.prog X.w H s.heap a (.tup xs) from I.hok a _ ea)
    obtain ⟨o, h1, h2, _⟩ := p
    exact PySem.W.kia_one PySem.W.kitx_tuple I.kIn ⟨o, h1, h2⟩ e (fun z => nomatch z) h
  | @dK a kvs ea =>
    cases (show u = Value.ref a from rx)
    obtain ⟨_, _, vs, _, p⟩ := (show ObjOk X.prog X.w H s.heap a (.dK kvs) from I.hok a _ ea)
    obtain ⟨o, es, ep, h1, h2, _⟩ := p
    exact PySem.W.kia_one PySem.W.kitx_dict I.kIn ⟨o, h1, h2.1⟩ e (fun z => nomatch z) h
  | @dT a kvs ea =>
    cases (show u = Value.ref a from rx)
    obtain ⟨_, _, xs, _, o, es, ep, h1, h2, _⟩ := (show ObjOk X.prog X.w H s.heap a (.dT kvs) from I.hok a _ ea)
    exact PySem.W.kia_one PySem.W.kitx_dict I.kIn ⟨o, h1, h2.1⟩ e (fun z => nomatch z) h
  | @ins a C dx fs ea cl ha hn htk hm =>
    cases (show u = Value.ref a from rx)
    obtain ⟨mA, O, _⟩ := ins_get I.hok ea
    obtain ⟨od, J, _⟩ := O.look
    exact PySem.W.kia_one (PySem.W.kitx_own (cl.get _) cl.hd ha hn htk hm) I.kIn J e (fun z => nomatch z) h
end
end L2

namespace L2
open PySem PySem.Spec PyProof.Rows

structure Room (k : Nat) (A : Around) : Prop where
  hd : A.handled = none
  dp : A.depth + 3 * k + 5 < recursionLimit
  un : A.units + 16 * k + 200 < cLine
theorem Room.mono {j k : Nat} {A : Around} (r : Room k A) (h : j ≤ k) : Room j A := ⟨r.hd, by have := r.dp; omega, by have := r.un; omega⟩
theorem Room.deeper {k : Nat} {A : Around} (r : Room (k + 1) A) (env : Env) : Room k (A.deeper env) :=
  ⟨r.hd, by have := r.dp; show A.depth + 1 + 3 * k + 5 < _; omega, by have := r.un; show A.units + 3 + 16 * k + 200 < _; omega⟩
theorem make_depth {A : Around} {C : Addr} {us : List Value} {kw : List (Str × Value)} : (A.under (.builtin "type.__call__" ⟨.ref C :: us, kw⟩)).depth = A.depth + 1 := by
  first | rfl | simp [Around.under, Code.weight, Code.isCreation, Code.isGuard, Code.isCaller, Code.frames, Code.isFrame, guardIds]
theorem make_units {A : Around} {C : Addr} {us : List Value} {kw : List (Str × Value)} : (A.under (.builtin "type.__call__" ⟨.ref C :: us, kw⟩)).units = A.units + 1 := by
  first | rfl | simp [Around.under, Code.cUnits, Code.frames, Code.isFrame]
theorem Room.make {k : Nat} {A : Around} (r : Room (k + 1) A) (C : Addr) (us : List Value) (kw : List (Str × Value)) : Room k (A.under (.builtin "type.__call__" ⟨.ref C :: us, kw⟩)) :=
  ⟨r.hd, by have := r.dp; rw [make_depth]; omega, by have := r.un; rw [make_units]; omega⟩
theorem Room.depth {k : Nat} {A : Around} (r : Room k A) : A.depth < recursionLimit := by have := r.dp; omega
theorem Room.units {k : Nat} {A : Around} (r : Room k A) : A.units + 64 < cLine := by have := r.un; omega
noncomputable def tNil : TA := fun _ H Q => Q [] H
noncomputable def tCons (ta : TE) (tr : TA) : TA := fun σ H Q => ta σ H fun x H1 => tr σ H1 fun xs H2 => Q (x :: xs) H2
section
variable {X : Cx} {e : Expr} {es : List Expr} {te : TE} {t : TA} {pos : Pos}
theorem pa_nil : PA X [] tNil := fun _ _ _ _ H Q I h => Calls.spliced_nil ⟨[], H, I, .nil, h⟩
theorem pa_cons (ha : PE X e te) (hr : PA X es t) (hs : starEach (e :: es) X.env = (false, eval e X.env) :: starEach es X.env := by rfl) : PA X (e :: es) (tCons te t) := by
  intro pos pins s σ H Q I h
  rw [hs]
  show wpAny _ _ (spliced ((false, eval e X.env) :: backTo pos (starEach es X.env))) _ _ s
  refine Calls.spliced_cons (thn (ha pins s σ H _ I h) fun u s1 ⟨x, H1, I1, r1, q1⟩ => ?_)
  exact thn (hr pos pins s1 σ H1 _ I1 q1) fun us s2 ⟨xs, H2, I2, r2, q2⟩ => ⟨x :: xs, H2, I2, .cons r1 r2, q2⟩

noncomputable def tTup (t : TA) : TE := fun σ H Q => t σ H fun xs H1 => xs.length ≤ sizeLine ∧ ∀ p, H1 p = none → Q (.ref p) (upd H1 p (.tup xs))
noncomputable def tLst (t : TA) : TE := fun σ H Q => t σ H fun xs H1 => xs.length ≤ sizeLine ∧ ∀ p, H1 p = none → Q (.ref p) (upd H1 p (.lst xs))
theorem pe_tup {x1} (h : PA X es t) : PE X (.Tuple es x1 pos) (tTup t) := by
  intro pins s σ H Q I hq
  refine wpAny_Tuple_spliced (thn (h pos pins s σ H _ I hq) fun us s1 ⟨xs, H1, I1, r, z, q⟩ => ⟨by rw [← r.length]; exact z, ?_⟩)
  have hf : H1 s1.heap.objs.size = none := I1.hok.fresh (Nat.le_refl _)
  refine ⟨.ref s1.heap.objs.size, upd H1 s1.heap.objs.size (.tup xs), I1.laid (t' := s1.toks) (fun b u e => Heap.get?_push_of_some _ e) (Nat.le_refl _) ?_, rfl, q _ hf⟩
  exact ⟨z, us, r, ⟨_, Heap.get?_push_size _ rfl, rfl, _, rfl⟩⟩
theorem pe_lst (h : PA X es t) : PE X (.List es pos) (tLst t) := by
  intro pins s σ H Q I hq
  refine wpAny_List_spliced (thn (h pos pins s σ H _ I hq) fun us s1 ⟨xs, H1, I1, r, z, q⟩ => ⟨by rw [← r.length]; exact z, ?_⟩)
  have hf : H1 s1.heap.objs.size = none := I1.hok.fresh (Nat.le_refl _)
  refine ⟨.ref s1.heap.objs.size, upd H1 s1.heap.objs.size (.lst xs), I1.laid (t' := s1.toks) (fun b u e => Heap.get?_push_of_some _ e) (Nat.le_refl _) ?_, rfl, q _ hf⟩
  exact ⟨z, us, 0, r, Heap.get?_push_size _ rfl⟩
end

noncomputable abbrev Sp := List V → Hp → VK → XK → Prop
noncomputable abbrev CXT := List Env → Hp → Shared → XK → Value → Shared → Prop

structure Env0 (P : Program) (w : World) (K : PySem.W.Frag) (mg : Str → Option Value) (base : Heap) (A : Around) (outer : List Env) (s : Shared) (H : Hp) : Prop where
  frames : A.frames = some outer
  mod : Mod K mg base
  bs : ∀ b o, base.get? b = some o → s.heap.get? b = some o ∧ H b = none
  bsz : base.objs.size ≤ s.heap.objs.size
  funs : s.heap.FunFrames base outer
  frf : ∀ b ∈ frs outer, H b = none
  hok : HOk P w H s.heap
  bare : AllBare s.gens
noncomputable def CE (outer : List Env) (P : Program) (w : World) (H : Hp) (s : Shared) (Q : VK) (u : Value) (s' : Shared) : Prop :=
  ∃ v H', s'.os = s.os ∧ AllBare s'.gens ∧ Un (frs outer) [] H H' s.heap s'.heap ∧ HOk P w H' s'.heap ∧ RelV v u ∧ Q v H'
noncomputable def CR (CX : CXT) (outer : List Env) (P : Program) (w : World) (H : Hp) (s : Shared) (Q : VK) (E : XK) (r : Result) (s' : Shared) : Prop :=
  match r with
  | .ok (.ret u) => CE outer P w H s Q u s'
  | .ok _ => False
  | .error e => CX outer H s E e s'
structure FnOk (P : Program) (w : World) (K : PySem.W.Frag) (mg : Str → Option Value) (base : Heap) (CX : CXT) (k : Nat) (f : Addr) (fd : FuncData) (ps : List Str) (sp : Sp) : Prop where
  len : ∀ vs H Q E, sp vs H Q E → vs.length = ps.length
  run : ∀ (A : Around) (outer : List Env) (s : Shared) (H : Hp) (args : Args) (us : List Value) (vs : List V) (Q : VK) (E : XK), Room k A → Env0 P w K mg base A outer s H → BindsTo s fd args (ps.zip us) → Vals vs us → sp vs H Q E →
    codeAny (model P w) A (.call (.ref f) args) (CR CX outer P w H s Q E) s
theorem FnOk.imp {P : Program} {w : World} {K : PySem.W.Frag} {mg : Str → Option Value} {base : Heap} {CX : CXT} {k : Nat} {f : Addr} {fd : FuncData} {ps : List Str} {sp sp' : Sp} (F : FnOk P w K mg base CX k f fd ps sp)
    (h : ∀ vs H Q E, sp' vs H Q E → sp vs H Q E) : FnOk P w K mg base CX k f fd ps sp' :=
  ⟨fun vs H Q E q => F.len vs H Q E (h _ _ _ _ q), fun A outer s H args us vs Q E hr he hb hv hs => F.run A outer s H args us vs Q E hr he hb hv (h _ _ _ _ hs)⟩

theorem Env0.make {P : Program} {w : World} {K : PySem.W.Frag} {mg : Str → Option Value} {base : Heap} {A : Around} {outer : List Env} {s : Shared} {H : Hp} (e : Env0 P w K mg base A outer s H) (C : Addr) (us : List Value) (kw : List (Str × Value)) :
    Env0 P w K mg base (A.under (.builtin "type.__call__" ⟨.ref C :: us, kw⟩)) outer s H := ⟨by first | exact e.frames | (simpa [Around.under, Code.envs, Code.isFrame, pushEnvs] using e.frames), e.mod, e.bs, e.bsz, e.funs, e.frf, e.hok, e.bare⟩
section
variable {X : Cx} {pins : List (Addr × Obj)} {σ : St} {H : Hp} {s s' : Shared}
theorem Inv.env0 (I : Inv X pins σ H s) : Env0 X.prog X.w X.K X.mg X.base X.A X.stack s H :=
  ⟨I.ok.frames, I.ok.mod, I.bs, Nat.le_trans I.ok.bsz I.sz, I.stack, I.stkFree, I.hok, I.bare⟩
theorem Inv.after {Q : VK} {u : Value} (I : Inv X pins σ H s) (h : CE X.stack X.prog X.w H s Q u s') : EP X pins σ Q u s' := by
  obtain ⟨v, H', os, bare, un, hok, r, q⟩ := h
  obtain ⟨hh, g, d, t, os'⟩ := s'
  obtain rfl : os' = s.os := os
  exact ⟨v, H', I.call (h' := hh) (g' := g) (d' := d) (t' := t) (ch := []) un hok bare (fun b z => absurd z (by simp)), r, q⟩
end

noncomputable def tCall (sp : Sp) (dvs : List V) (E : XK) (t : TA) : TE := fun σ H Q => t σ H fun vs H1 => sp (vs ++ dvs) H1 Q E
noncomputable def tMeth (C : Addr) (m : Str) (sp : Sp) (dvs : List V) (E : XK) (ta : TE) (t : TA) : TE := fun σ H Q => ta σ H fun x H1 => ∃ a dx fs, x = .ref a ∧ H1 a = some (.ins C dx fs) ∧ fs.lookup m = none ∧
  t σ H1 fun vs H2 => sp (x :: (vs ++ dvs)) H2 Q E
noncomputable def tMake (C : Addr) (sp : Sp) (dvs : List V) (E : XK) (t : TA) : TE := fun σ H Q => t σ H fun vs H1 => ∀ x dx, H1 x = none → H1 dx = none → dx ≠ x →
  sp (.ref x :: (vs ++ dvs)) (upd (upd H1 dx (.own x)) x (.ins C dx [])) (fun v H2 => v = .non ∧ Q (.ref x) H2) E

noncomputable def Binds (K : PySem.W.Frag) (fd : FuncData) (ps : List Str) (ds : List Value) : Prop :=
  ∀ (s : Shared) (us : List Value), K.In s.heap → (us ++ ds).length = ps.length → BindsTo s fd ⟨us, []⟩ (ps.zip (us ++ ds))
theorem Binds.all {K : PySem.W.Frag} {fd : FuncData} {ps : List Str} (h : ∀ us : List Value, us.length = ps.length → bindArgs fd ⟨us, []⟩ = pure (ps.zip us)) : Binds K fd ps [] := fun s us _ hl => by
  rw [List.append_nil] at hl ⊢
  exact .of_eq (h us hl)

noncomputable def Passes (CX : CXT) (X : Cx) (E : XK) : Prop := ∀ (pins : List (Addr × Obj)) (σ : St) (H : Hp) (s : Shared) (e : Value) (s' : Shared), Inv X pins σ H s → CX X.stack H s E e s' → X.xe e s'

section
variable {X : Cx} {CX : CXT} {k : Nat} {f C : Addr} {fd : FuncData} {ps : List Str} {sp : Sp} {dvs : List V} {ds : List Value} {E : XK} {x m : Str} {p pos apos : Pos} {e o : Expr} {es : List Expr} {ta : TE} {t : TA}

theorem run_fn {pins : List (Addr × Obj)} {σ : St} {H : Hp} {s : Shared} {Q : VK} {us : List Value} {vs : List V} (F : FnOk X.prog X.w X.K X.mg X.base CX k f fd ps sp) (hr : Room k X.A) (hb : Binds X.K fd ps ds) (hd : Vals dvs ds) (hx : Passes CX X E)
    (I : Inv X pins σ H s) (r : Vals vs us) (h : sp (vs ++ dvs) H Q E) : wpAny (model X.prog X.w) X.A (call (.ref f) us) (EP X pins σ Q) X.xe s := by
  have r2 : Vals (vs ++ dvs) (us ++ ds) := r.append hd
  have hl : (us ++ ds).length = ps.length := by rw [← r2.length]; exact F.len _ _ _ _ h
  refine wpAny_call (codeAny_mono (F.run X.A X.stack s H ⟨us, []⟩ (us ++ ds) (vs ++ dvs) Q E hr I.env0 (hb s us I.kIn hl) r2 h) fun r s' hq => ?_)
  cases r with
  | error e => exact hx pins σ H s e s' I hq
  | ok fl =>
    cases fl with
    | ret u => exact I.after hq
    | next => exact False.elim hq
    | brk => exact False.elim hq
    | cont => exact False.elim hq

theorem pe_call (F : FnOk X.prog X.w X.K X.mg X.base CX k f fd ps sp) (hr : Room k X.A) (hg : Gl X x) (hm : X.mg x = some (.ref f)) (hk : PySem.W.keepIn X.K (.ref f) = true) (hb : Binds X.K fd ps ds) (hd : Vals dvs ds) (hx : Passes CX X E)
    (ha : PA X (e :: es) t) (hdb : (x == ("__debug__" : Str)) = false := by decide) (he : starEach (e :: es) X.env = (false, eval e X.env) :: starEach es X.env := by rfl) (hpl : (backTo pos (starEach es X.env)).any (·.1) = false := by rfl) :
    PE X (.Call (.Name x p) (e :: es) [] pos) (tCall sp dvs E t) := by
  intro pins s σ H Q I h
  refine wpAny_Call_Name_kw (ld_glob I hg hm ?_ hdb)
  refine PySem.W.callWith_K (h₀ := X.base) I.ok.mod.kin hk (thn (ha pos pins s σ H _ I h) fun us s1 ⟨vs, H1, I1, r, q⟩ => ⟨I1.kIn, ?_⟩) he hpl
  exact run_fn F hr hb hd hx I1 r q
theorem pe_meth0 {pl : Sem Bool} (he : PE X o ta) (c : Cls X.K C) (hm : Meth X.K C m f) (F : FnOk X.prog X.w X.K X.mg X.base CX k f fd ps sp) (hr : Room k X.A) (hb : Binds X.K fd ps ds) (hd : Vals dvs ds) (hx : Passes CX X E)
    (ht : eval (.Call (.Attribute o m apos) [] [] pos) X.env = (do
      let ov ← eval o X.env
      standAt apos.atName
      let (f, first) ← holding [ov] (getMethod ov m pl)
      callWith pos f first (backTo pos (starEach [] X.env)) (backToKw pos (keywordEach [] X.env))) := by rfl) :
    PE X (.Call (.Attribute o m apos) [] [] pos) (tMeth C m sp dvs E ta tNil) := by
  intro pins s σ H Q I h
  refine PySem.W.methodCall_KW (pl := pl) (thn (he pins s σ H _ I h) fun u s1 ⟨x, H1, I1, rx, a, dx, fs, ex, ea, l, q⟩ => ?_) ht
  subst ex
  obtain rfl : u = Value.ref a := rx
  refine getmeth_ok I1 ea c hm l ?_
  exact PySem.W.callWith_K0 (first := [.ref a]) I1.kIn hm.kp (run_fn (us := [.ref a]) (vs := [.ref a]) F hr hb hd hx I1 (.cons rfl .nil) q)

structure Mk (K : PySem.W.Frag) (C f : Addr) : Prop where
  makes : PySem.W.makesIn K C = true
  init : PySem.W.findIn K (.ref C) "__init__" = some (some (.ref f))
  fn : PySem.W.isFn K (.ref f) = true
  kp : PySem.W.keepIn K (.ref C) = true

theorem run_make {pins : List (Addr × Obj)} {σ : St} {H : Hp} {s : Shared} {Q : VK} {us : List Value} {vs : List V} (M : Mk X.K C f) (F : FnOk X.prog X.w X.K X.mg X.base CX k f fd ps sp) (hr : Room (k + 1) X.A) (hb : Binds X.K fd ps ds) (hd : Vals dvs ds)
    (hx : Passes CX X E) (I : Inv X pins σ H s) (r : Vals vs us)
    (h : ∀ x dx, H x = none → H dx = none → dx ≠ x → sp (.ref x :: (vs ++ dvs)) (upd (upd H dx (.own x)) x (.ins C dx [])) (fun v H2 => v = .non ∧ Q (.ref x) H2) E) :
    wpAny (model X.prog X.w) X.A (call (.ref C) us) (EP X pins σ Q) X.xe s := by
  have hq := h (s.heap.objs.size + 1) s.heap.objs.size (I.hok.fresh (Nat.le_succ _)) (I.hok.fresh (Nat.le_refl _)) (Nat.ne_of_lt (Nat.lt_succ_self _))
  have I2 := Inv.made (C := C) I
  have r2 : Vals (V.ref (s.heap.objs.size + 1) :: (vs ++ dvs)) (Value.ref (s.heap.objs.size + 1) :: (us ++ ds)) := .cons rfl (r.append hd)
  have hl : (Value.ref (s.heap.objs.size + 1) :: us ++ ds).length = ps.length := by
    have e := r2.length
    rw [F.len _ _ _ _ hq] at e
    exact e.symm
  refine wpAny_call (make_map (f := f) I.kIn M.makes M.init (beq_iff_eq.mp M.fn) (codeAny_mono (F.run _ X.stack _ _ ⟨Value.ref (s.heap.objs.size + 1) :: us, []⟩ (Value.ref (s.heap.objs.size + 1) :: (us ++ ds)) _ _ E (hr.make C us [])
    (I2.env0.make C us []) (hb _ (Value.ref (s.heap.objs.size + 1) :: us) I2.kIn hl) r2 hq) fun r s' hq' => ?_))
  cases r with
  | error e => exact hx pins σ _ _ e s' I2 hq'
  | ok fl =>
    cases fl with
    | ret u =>
      obtain ⟨v, H', I3, rv, ev, q3⟩ := I2.after hq'
      subst ev
      exact ⟨rv, ⟨V.ref (s.heap.objs.size + 1), H', I3, rfl, q3⟩⟩
    | next => exact False.elim hq'
    | brk => exact False.elim hq'
    | cont => exact False.elim hq'
theorem pe_make (M : Mk X.K C f) (F : FnOk X.prog X.w X.K X.mg X.base CX k f fd ps sp) (hr : Room (k + 1) X.A) (hg : Gl X x) (hm : X.mg x = some (.ref C)) (hb : Binds X.K fd ps ds) (hd : Vals dvs ds) (hx : Passes CX X E)
    (ha : PA X (e :: es) t) (hdb : (x == ("__debug__" : Str)) = false := by decide) (he : starEach (e :: es) X.env = (false, eval e X.env) :: starEach es X.env := by rfl) (hpl : (backTo pos (starEach es X.env)).any (·.1) = false := by rfl) :
    PE X (.Call (.Name x p) (e :: es) [] pos) (tMake C sp dvs E t) := by
  intro pins s σ H Q I h
  refine wpAny_Call_Name_kw (ld_glob I hg hm ?_ hdb)
  refine PySem.W.callWith_K (h₀ := X.base) I.ok.mod.kin M.kp (thn (ha pos pins s σ H _ I h) fun us s1 ⟨vs, H1, I1, r, q⟩ => ⟨I1.kIn, ?_⟩) he hpl
  exact run_make M F hr hb hd hx I1 r q
end

section
variable {X : Cx} {CX : CXT} {k : Nat} {f C : Addr} {fd : FuncData} {ps ks : List Str} {sp : Sp} {E : XK} {x m : Str} {p pos apos kpos : Pos} {e o : Expr} {es : List Expr} {kws : List Keyword} {te ta : TE} {t tk : TA} {nm : Option Str}
variable {g : List Value → List Value → List Value} {gV : List V → List V → List V}
end

structure FnScope (N P : List Str) (sc : Scope) : Prop where
  kind : sc.kind = .function
  co : sc.isCoroutine = false
  gen : sc.isGenerator = false
  nd : N.Nodup
  pre : N.take P.length = P
  par : ∀ x ∈ P, sc.names.lookup x = some .local ∨ sc.names.lookup x = some .cell
  nofree : ∀ y ∈ sc.names, y.2 ≠ .free

theorem bindL_out {kindOf : Str → Option NameKind} {x : Str} : ∀ {binds : List (Str × Value)} {m : Str → Option Value}, (∀ v, (x, v) ∉ binds) → bindL kindOf binds m x = m x
  | [], _, _ => rfl
  | (n, v) :: r, m, h => by
    unfold bindL
    rw [bindL_out fun w hw => h w (List.mem_cons_of_mem _ hw)]
    split
    · have : x ≠ n := by rintro rfl; exact h v List.mem_cons_self
      simp [this]
    · rfl
theorem bindC_out {kindOf : Str → Option NameKind} {x : Str} : ∀ {binds : List (Str × Value)} {m : Str → Option Value}, (∀ v, (x, v) ∉ binds) → bindC kindOf binds m x = m x
  | [], _, _ => rfl
  | (n, v) :: r, m, h => by
    unfold bindC
    rw [bindC_out fun w hw => h w (List.mem_cons_of_mem _ hw)]
    split
    · rfl
    · have : x ≠ n := by rintro rfl; exact h v List.mem_cons_self
      simp [this]
theorem bindL_get {kindOf : Str → Option NameKind} {x : Str} {v : Value} : ∀ {P : List Str} {vs : List Value} {i : Nat} {m : Str → Option Value}, P.Nodup → P[i]? = some x → vs[i]? = some v → kindOf x = some .local →
    bindL kindOf (P.zip vs) m x = some v
  | [], _, _, _, _, h, _, _ => by simp at h
  | _ :: _, [], _, _, _, _, h, _ => by simp at h
  | p :: P, w :: vs, 0, m, nd, h1, h2, hk => by
    simp at h1 h2; subst h1; subst h2
    show bindL kindOf ((p, w) :: P.zip vs) m p = _
    unfold bindL
    rw [bindL_out fun v hv => (List.nodup_cons.mp nd).1 (List.of_mem_zip hv).1, if_pos hk]
    simp
  | p :: P, w :: vs, i + 1, m, nd, h1, h2, hk => by
    show bindL kindOf ((p, w) :: P.zip vs) m x = _
    unfold bindL
    exact bindL_get (i := i) (List.nodup_cons.mp nd).2 (by simpa using h1) (by simpa using h2) hk
theorem bindC_get {kindOf : Str → Option NameKind} {x : Str} {v : Value} : ∀ {P : List Str} {vs : List Value} {i : Nat} {m : Str → Option Value}, P.Nodup → P[i]? = some x → vs[i]? = some v → kindOf x ≠ some .local →
    bindC kindOf (P.zip vs) m x = some v
  | [], _, _, _, _, h, _, _ => by simp at h
  | _ :: _, [], _, _, _, _, h, _ => by simp at h
  | p :: P, w :: vs, 0, m, nd, h1, h2, hk => by
    simp at h1 h2; subst h1; subst h2
    show bindC kindOf ((p, w) :: P.zip vs) m p = _
    unfold bindC
    rw [bindC_out fun v hv => (List.nodup_cons.mp nd).1 (List.of_mem_zip hv).1, if_neg hk]
    simp
  | p :: P, w :: vs, i + 1, m, nd, h1, h2, hk => by
    show bindC kindOf ((p, w) :: P.zip vs) m x = _
    unfold bindC
    exact bindC_get (i := i) (List.nodup_cons.mp nd).2 (by simpa using h1) (by simpa using h2) hk

noncomputable def start (N : List Str) (vs : List V) : St := vs.map some ++ List.replicate (N.length - vs.length) none

noncomputable def cxOf (CX : CXT) (P : Program) (w : World) (K : PySem.W.Frag) (mg : Str → Option Value) (base : Heap) (N : List Str) (qual : Str) (scope : Scope) (f : Addr) (cd : Value) (A : Around) (outer : List Env) (s : Shared) (H : Hp) (E : XK) : Cx where
  prog := P
  w := w
  K := K
  mg := mg
  base := base
  A := A.deeper (envOfC qual scope s.heap.objs.size f cd)
  N := N
  s₀ := s
  H₀ := H
  env := envOfC qual scope s.heap.objs.size f cd
  outer := outer
  stack := envOfC qual scope s.heap.objs.size f cd :: outer
  ex := []
  calm := true
  fn := fun _ => true
  pn := []
  xe := fun e s' => wpAny (model P w) (A.deeper (envOfC qual scope s.heap.objs.size f cd)) (leaving (envOfC qual scope s.heap.objs.size f cd) e) (fun _ s'' => CX outer H s E e s'') (fun e' s'' => CX outer H s E e' s'') s'

theorem cell_has {sc : Scope} {n : Nat} {x : Str} (h : sc.names.lookup x = some .cell) : ∃ c, (cellsFrom n sc.names []).lookup x = some c := by
  have q := PySem.W.cellsFrom_some sc.names n [] (.inl h)
  exact Option.isSome_iff_exists.mp q

theorem inv_start {CX : CXT} {P : Program} {w : World} {K : PySem.W.Frag} {mg : Str → Option Value} {base : Heap} {N ps : List Str} {qual : Str} {scope : Scope} {f : Addr} {cd : Value} {A : Around} {outer : List Env} {s s1 : Shared} {H : Hp} {E : XK} {us : List Value} {vs : List V}
    (S : FnScope N ps scope) (hd : A.handled = none) (e0 : Env0 P w K mg base A outer s H) (hl : vs.length = ps.length) (r : Vals vs us)
    (x : InCallC s s.heap.objs.size (bindL (envOfC qual scope s.heap.objs.size f cd).kindOf (ps.zip us) fun _ => none) (cellsFrom (s.heap.objs.size + 1) scope.names []) (bindC (envOfC qual scope s.heap.objs.size f cd).kindOf (ps.zip us) fun _ => none) s1) :
    Inv (cxOf CX P w K mg base N qual scope f cd A outer s H E) [] (start N vs) H s1 := by
  have hpl : ps.length ≤ N.length := by have := congrArg List.length S.pre; rw [List.length_take] at this; omega
  obtain ⟨h1, tk, rfl, hk⟩ := x.done
  have noA : ∀ b : Addr, b ∉ (cxOf CX P w K mg base N qual scope f cd A outer s H E).ex := fun b z => absurd (show b ∈ ([] : List Addr) from z) (by simp)
  refine ⟨⟨e0.mod, S.kind, rfl, rfl, Nat.le_refl _, fun y z c h1 h2 => ?_, fun y hy => ?_, fun y c _ h => ?_, fun _ => hd, Around.frames_deeper e0.frames, .inr ⟨rfl, rfl⟩, fun b z => absurd z (noA b), e0.bs, e0.bsz, fun b _ _ => noA b, fun b z => absurd z (noA b), e0.funs, e0.frf⟩,
    rfl, e0.bare, Un.kept hk, ⟨_, x.toInCall.ns, fun i y v h1 h2 h3 => ?_⟩, fun y c h => ⟨_, x.cell y c h⟩, e0.hok.fresh (Nat.le_refl _), fun y c h => ?_, fun p hp => absurd (show p ∈ ([] : List (Addr × Obj)) from hp) (by simp), e0.hok.kept hk, ?_⟩
  · exact name_of_addr x.apart (PySem.mem_of_lookup h1) (PySem.mem_of_lookup h2)
  · have hy : scope.names.lookup y = some .cell ∨ scope.names.lookup y = some .free := hy
    rcases hy with hy | hy
    · exact cell_has hy
    · exact absurd rfl (S.nofree _ (PySem.mem_of_lookup hy))
  · exact Nat.le_of_lt (x.above y c (PySem.mem_of_lookup h))
  · have hi : i < vs.length := by
      unfold start at h2
      by_cases hi : i < vs.length
      · exact hi
      · rw [List.getElem?_append_right (by simpa using hi)] at h2
        rw [List.getElem?_replicate] at h2
        split at h2 <;> cases h2
    have ha : vs[i]? = some v := by
      unfold start at h2
      rw [List.getElem?_append_left (by simpa using hi), List.getElem?_map] at h2
      cases e : vs[i]? with
      | none => rw [e] at h2; cases h2
      | some a => rw [e] at h2; cases h2; rfl
    obtain ⟨u, hu, rv⟩ := r.get ha
    have hp : ps[i]? = some y := by
      rw [← S.pre, List.getElem?_take_of_lt (by omega)]; exact h1
    have ndP : ps.Nodup := by rw [← S.pre]; exact S.nd.sublist (List.take_sublist _ _)
    refine ⟨u, rv, ?_⟩
    rcases S.par y (List.mem_of_getElem? hp) with k | k
    · exact .inl ⟨k, bindL_get ndP hp hu k⟩
    · obtain ⟨c, e⟩ := cell_has (n := s.heap.objs.size + 1) k
      refine .inr ⟨.inl k, c, e, ?_⟩
      have q := x.cell y c e
      rw [bindC_get ndP hp hu (by show scope.names.lookup y ≠ _; rw [k]; decide)] at q
      exact q
  · exact e0.hok.fresh (Nat.le_of_lt (x.above y c (PySem.mem_of_lookup h)))
  · unfold start
    show _ = N.length
    rw [List.length_append, List.length_map, List.length_replicate]
    omega

theorem fn_of {CX : CXT} {P : Program} {w : World} {K : PySem.W.Frag} {mg : Str → Option Value} {base : Heap} {k : Nat} {f : Addr} {name qual : Str} {params : Arguments} {body : List Stmt} {scope : Scope} {dV kV doc pm cdv ct oc : Value} {an od : Option Addr}
    {osl : Array (Option Value)} {N ps : List Str} {sp : Sp} (lk : K.lookup f = some ⟨oc, od, .func (PySem.W.fnOf name qual params body scope dV kV doc pm an cdv ct), osl⟩) (hcd : PySem.W.codeIn K cdv qual = true) (S : FnScope N ps scope)
    (len : ∀ vs H Q E, sp vs H Q E → vs.length = ps.length)
    (hbody : ∀ (A : Around) (outer : List Env) (s : Shared) (H : Hp) (vs : List V) (Q : VK) (E : XK), Room k (A.deeper (envOfC qual scope s.heap.objs.size f cdv)) → sp vs H Q E →
      ∃ t, PSs (cxOf CX P w K mg base N qual scope f cdv A outer s H E) body t ∧ t { nx := fun _ H' => Q .non H', rt := Q } (start N vs) H) :
    FnOk P w K mg base CX (k + 1) f (PySem.W.fnOf name qual params body scope dV kV doc pm an cdv ct) ps sp := by
  refine ⟨len, fun A outer s H args us vs Q E hr e0 hb r hsp => ?_⟩
  have hl := len _ _ _ _ hsp
  have KX : K.In s.heap := e0.mod.kin.keeps fun b o e => (e0.bs b o e).1
  have lim : s.heap.NoLimit := e0.mod.nolimit.keeps fun b o e => (e0.bs b o e).1
  have hkind : ∀ y ∈ ps.zip us, scope.names.lookup y.1 = some .local ∨ (scope.names.lookup y.1 = some .cell ∧ ((cellsFrom (s.heap.objs.size + 1) scope.names []).lookup y.1).isSome = true) := fun ⟨n, v⟩ hy => by
    rcases S.par n (List.of_mem_zip hy).1 with q | q
    · exact .inl q
    · exact .inr ⟨q, PySem.W.cellsFrom_some _ _ _ (.inl q)⟩
  refine codeAny_call_function hr.depth (KX _ _ lk) rfl S.co S.gen rfl (PySem.W.codeRec_of KX hcd) (hb _ _ _ _ ?_)
  refine wpAny_newFunctionEnv_cells S.kind hkind fun env he s1 x => ?_
  subst he
  refine ⟨lim.keeps x.toInCall.keep, codeAny_func ?_⟩
  obtain ⟨t, ht, hq⟩ := hbody A outer s H vs Q E (hr.deeper _) hsp
  have I : Inv (cxOf CX P w K mg base N qual scope f cdv A outer s H E) [] (start N vs) H s1 := inv_start S hr.hd e0 hl r x
  refine wpAny_mono (ht [] s1 (start N vs) H _ I hq) (fun fl s' hs => ?_) fun e s' hs => hs
  have fin : ∀ {σ' : St} {H' : Hp} {v : V} {u : Value}, Inv (cxOf CX P w K mg base N qual scope f cdv A outer s H E) [] σ' H' s' → RelV v u → Q v H' → CE outer P w H s Q u s' :=
    fun {σ' H' v u} J rv q => ⟨v, H', J.os, J.bare, J.base, J.hok, rv, q⟩
  cases fl with
  | ret u =>
    obtain ⟨v, σ', H', J, rv, q⟩ := hs
    exact fin J rv q
  | next =>
    obtain ⟨σ', H', J, q⟩ := hs
    exact fin (v := V.non) (u := Value.none) J rfl q
  | brk =>
    obtain ⟨_, _, _, q⟩ := hs
    exact False.elim q
  | cont =>
    obtain ⟨_, _, _, q⟩ := hs
    exact False.elim q
end L2

namespace L2
open PySem PySem.Spec PyProof.Rows
section
variable {X : Cx} {x : Str} {p pos : Pos} {e : Expr} {es : List Expr} {t : TA} {id T : String} {r : List V → Hp → VK → Prop}

noncomputable def tCB (r : List V → Hp → VK → Prop) (t : TA) : TE := fun σ H Q => t σ H fun vs H1 => r vs H1 Q
theorem pe_callB (hc : CallR X (.builtin id) r) (hg : Gl X x) (hm : X.mg x = none) (hv : bootBuiltins x = some (.builtin id)) (ha : PA X (e :: es) t) (hn : x ≠ "__name__" := by decide) (hdb : (x == ("__debug__" : Str)) = false := by decide)
    (he : starEach (e :: es) X.env = (false, eval e X.env) :: starEach es X.env := by rfl) (hpl : (backTo pos (starEach es X.env)).any (·.1) = false := by rfl) : PE X (.Call (.Name x p) (e :: es) [] pos) (tCB r t) := by
  intro pins s σ H Q I h
  refine wpAny_Call_Name_kw (ld_blt I hg hm hv ?_ hn hdb)
  exact PyProof.Rows.callWith_builtin1 (thn (ha pos pins s σ H _ I h) fun us s1 ⟨vs, H1, I1, r1, q1⟩ => hc pins s1 σ H1 vs us Q I1 r1 q1) he hpl
theorem pe_callTy (hc : CallR X (.type T) r) (hg : Gl X x) (hm : X.mg x = none) (hv : bootBuiltins x = some (.type T)) (ha : PA X (e :: es) t) (hn : x ≠ "__name__" := by decide) (hdb : (x == ("__debug__" : Str)) = false := by decide)
    (he : starEach (e :: es) X.env = (false, eval e X.env) :: starEach es X.env := by rfl) (hpl : (backTo pos (starEach es X.env)).any (·.1) = false := by rfl) : PE X (.Call (.Name x p) (e :: es) [] pos) (tCB r t) := by
  intro pins s σ H Q I h
  refine wpAny_Call_Name_kw (ld_blt I hg hm hv ?_ hn hdb)
  exact PyProof.Rows.callWith_type1 (thn (ha pos pins s σ H _ I h) fun us s1 ⟨vs, H1, I1, r1, q1⟩ => hc pins s1 σ H1 vs us Q I1 r1 q1) he hpl
end
end L2

namespace HT
open PySem PyProof.Rows

section
open PySem.SeqAt
open PySem.AutoSeq1 (wpAny_loadPart')
open PySem.MeetsSeq PySem.MeetsSeq2 PySem.MeetsSeq3

end

section
variable {prog : Program} {w : World} {A : Around} {E : Value → Shared → Prop} {s : Shared}

theorem cat_tup {t b : Addr} {vs ws : List Value} {Q : Value → Shared → Prop} (ht : IsTup s.heap t vs.toArray) (hb : IsTup s.heap b ws.toArray) (hv : vs ≠ [])
    (h1 : ws = [] → Q (.ref t) s) (h2 : ws ≠ [] → Q (.ref s.heap.objs.size) { s with heap := s.heap.push { cls := .type "tuple", data := .seq (vs ++ ws).toArray } })
    (hsz : vs.length + ws.length ≤ sizeLine) : wpAny (model prog w) A (binaryOp .Add (.ref t) (.ref b)) Q E s := by
  obtain ⟨⟨cls, dd, data, sl⟩, ho, hc, n, hd⟩ := id ht
  obtain ⟨⟨cls2, dd2, data2, sl2⟩, ho2, hc2, n2, hd2⟩ := id hb
  simp only at hc hd hc2 hd2
  subst hc hd hc2 hd2
  have e : vs.toArray ++ ws.toArray = (vs ++ ws).toArray := by simp
  by_cases hw : ws = []
  · exact concat_meets ⟨_, ho, rfl⟩ ⟨_, ho2, rfl⟩ noFill_tuple_add seq_tuple_add PySem.F.slot_tuple_add PySem.F.entry_tuple_add (PySem.F.args_tuple_add_2 _ _)
      (tuple_addW1 t b vs.toArray ws.toArray n n2 dd dd2 sl sl2 (by simpa using hv) (by simp [hw])) ⟨ho, ho2, h1 hw⟩
  · refine concat_meets ⟨_, ho, rfl⟩ ⟨_, ho2, rfl⟩ noFill_tuple_add seq_tuple_add PySem.F.slot_tuple_add PySem.F.entry_tuple_add (PySem.F.args_tuple_add_2 _ _)
      (tuple_addW2 t b vs.toArray ws.toArray n n2 dd dd2 sl sl2 (by simpa using hv) (by simpa using hw) (by rw [List.size_toArray, List.size_toArray]; exact hsz)) ⟨ho, ho2, ?_⟩
    rw [e]
    exact h2 hw

noncomputable def sIx (n d : Nat) : Option Int → Nat
  | none => d
  | some v => if v < 0 then (v + (n : Int)).toNat else min v.toNat n
theorem sIx_none (n d : Nat) : sIx n d none = d := rfl
theorem sIx_nat (n d k : Nat) : sIx n d (some (k : Int)) = min k n := by
  show (if (k : Int) < 0 then ((k : Int) + (n : Int)).toNat else min (k : Int).toNat n) = min k n
  rw [if_neg (by omega), Int.toNat_natCast]
theorem sIx_le (n d : Nat) (hd : d ≤ n) (o : Option Int) : sIx n d o ≤ n := by
  cases o with
  | none => exact hd
  | some v =>
    show (if v < 0 then (v + (n : Int)).toNat else min v.toNat n) ≤ n
    by_cases hv : v < 0
    · rw [if_pos hv]; omega
    · rw [if_neg hv]; exact Nat.min_le_right _ _
theorem clip_eq (v : Int) (n d : Nat) : (if v < 0 then max (v + (n : Int)) 0 else min v (n : Int)) = ((sIx n d (some v) : Nat) : Int) := by
  show (if v < 0 then max (v + (n : Int)) 0 else min v (n : Int)) = (((if v < 0 then (v + (n : Int)).toNat else min v.toNat n) : Nat) : Int)
  by_cases hv : v < 0
  · simp only [if_pos hv]; omega
  · simp only [if_neg hv]; omega
theorem adjust_gen (lo hi : Option Int) (n : Nat) : Builtin.Slice.sliceAdjust lo hi 1 (n : Int) = (((sIx n 0 lo : Nat) : Int), ((sIx n n hi : Nat) : Int)) := by
  have h1 : ¬ ((1 : Int) < 0) := by omega
  unfold Builtin.Slice.sliceAdjust
  simp only [h1, if_false]
  refine Prod.ext ?_ ?_
  · cases lo with
    | none => rfl
    | some v => exact clip_eq v n 0
  · cases hi with
    | none => rfl
    | some v => exact clip_eq v n n
theorem places_gen (i j : Nat) : Builtin.Slice.slicePlaces (i : Int) (j : Int) 1 = j - i := by
  unfold Builtin.Slice.slicePlaces
  have h1 : (1 : Int) > 0 := by omega
  simp only [h1, if_true, Int.ediv_one]
  split <;> omega
theorem slicePart_ {v : Value} {o : Option Int} {Q : Option Int → Shared → Prop} (p : IsPart v o) (h : Q o s) : wpAny (model prog w) A (Builtin.Slice.slicePartIndex v) Q E s := by
  cases p with
  | none => exact slicePart_none h
  | int i t => exact slicePart_int h
theorem sliceApplied_gen {sl : Addr} {vl vu : Value} {lo hi : Option Int} {n : Nat} {Q : Int × Int × Nat → Shared → Prop} (hs : s.heap.IsSliceOf sl vl vu .none) (pl : IsPart vl lo) (pu : IsPart vu hi)
    (h : Q (((sIx n 0 lo : Nat) : Int), 1, sIx n n hi - sIx n 0 lo) s) : wpAny (model prog w) A (Builtin.Slice.sliceApplied (.ref sl) (pure (n : Int))) Q E s := by
  obtain ⟨os, hos, hcs, hds⟩ := id hs
  unfold Builtin.Slice.sliceApplied Builtin.Slice.sliceFields
  refine wpAny_bind (wpAny_bind (wpAny_field hos hds (x := vl) rfl (wpAny_bind (wpAny_field hos hds (x := vu) rfl (wpAny_bind (wpAny_field hos hds (x := .none) rfl (wpAny_pure ?_)))))))
  refine wpAny_bind (slicePart_none ?_)
  show wpAny _ _ (if ((1 : Int) == 0) = true then _ else _) _ _ s
  rw [if_neg (by decide)]
  refine wpAny_bind (slicePart_ pl (wpAny_bind (slicePart_ pu (wpAny_bind (wpAny_pure ?_)))))
  show wpAny _ _ (match Builtin.Slice.sliceAdjust lo hi 1 (n : Int) with | (lo, hi) => pure (lo, (1 : Int), Builtin.Slice.slicePlaces lo hi 1)) _ _ s
  rw [adjust_gen lo hi n]
  show wpAny _ _ (pure (((sIx n 0 lo : Nat) : Int), (1 : Int), Builtin.Slice.slicePlaces ((sIx n 0 lo : Nat) : Int) ((sIx n n hi : Nat) : Int) 1)) _ _ s
  rw [places_gen]
  exact wpAny_pure h
theorem pick_gen (xs : Array Value) (i k : Nat) : ((List.range k).filterMap fun (m : Nat) => xs[((i : Int) + (m : Int) * 1).toNat]?).toArray = ((xs.toList.drop i).take k).toArray := by
  have e : (fun (m : Nat) => xs[((i : Int) + (m : Int) * 1).toNat]?) = fun m => xs[i + m]? := by
    funext m
    have : ((i : Int) + (m : Int) * 1).toNat = i + m := by omega
    rw [this]
  rw [e]
  have := pick_run xs i k
  rw [List.filterMap_map] at this
  have e2 : ((fun x => xs[x]?) ∘ fun x => i + x) = fun m => xs[i + m]? := rfl
  rw [e2] at this
  rw [this]

theorem getItem_tuple_cut {t sl : Addr} {items : Array Value} {vl vu : Value} {lo hi : Option Int} {Q : Value → Shared → Prop} (ht : IsTup s.heap t items) (hs : s.heap.IsSliceOf sl vl vu .none) (pl : IsPart vl lo) (pu : IsPart vu hi)
    (hw : ¬ (sIx items.size 0 lo = 0 ∧ sIx items.size items.size hi = items.size))
    (h : Q (.ref s.heap.objs.size) { s with heap := s.heap.push { cls := .type "tuple", data := .seq ((items.toList.drop (sIx items.size 0 lo)).take (sIx items.size items.size hi - sIx items.size 0 lo)).toArray } })
    (hsz : items.size ≤ sizeLine) : wpAny (model prog w) A (getItem (.ref t) (.ref sl)) Q E s := by
  have htake : sizeOk (.seq ((items.toList.drop (sIx items.size 0 lo)).take (sIx items.size items.size hi - sIx items.size 0 lo)).toArray) := by
    show ((items.toList.drop (sIx items.size 0 lo)).take (sIx items.size items.size hi - sIx items.size 0 lo)).toArray.size ≤ sizeLine
    rw [List.size_toArray, List.length_take, List.length_drop, Array.length_toList]
    omega
  have hj : sIx items.size items.size hi ≤ items.size := sIx_le _ _ (Nat.le_refl _) hi
  obtain ⟨os, hos, hcs, hds⟩ := id hs
  have hTs : s.TypeIs (.ref sl) "slice" := ⟨os, hos, hcs⟩
  unfold getItem
  try with_reducible refine wpAny_holding ?_
  first | refine wpAny_bind (wpAny_pure ?_) | skip
  refine wpAny_bind (wpAny_sequenceKey ht.typeIs (by decide) ?_)
  refine wpAny_bind (wpAny_callSpecial?_slot (name := Str.ofString "__getitem__") ht.typeIs PyProof.Rows.slot_tuple_getitem
    (wpAny_call_entry PyProof.Rows.slot_tuple_getitem ht.typeIs entry_tuple_getitem ?_ (args_tuple_getitem _ _)))
  show wpAny _ _ (Builtin.Tuple.tupleItemsOf (.ref t) >>= _) _ _ s
  refine wpAny_bind (tupleItemsOf_ ht ?_)
  refine wpAny_bind (wpAny_typeOf hTs ?_)
  rw [if_pos (by decide)]
  refine wpAny_bind (sliceApplied_gen hs pl pu ?_)
  have hno : ¬ ((((sIx items.size 0 lo : Nat) : Int) == 0 && (1 : Int) == 1 && (sIx items.size items.size hi - sIx items.size 0 lo) == items.size) = true) := by
    intro q
    rw [Bool.and_eq_true, Bool.and_eq_true] at q
    have q1 : ((sIx items.size 0 lo : Nat) : Int) = 0 := eq_of_beq q.1.1
    have q2 : sIx items.size items.size hi - sIx items.size 0 lo = items.size := eq_of_beq q.2
    exact hw ⟨by omega, by omega⟩
  show wpAny _ _ (if (((sIx items.size 0 lo : Nat) : Int) == 0 && (1 : Int) == 1 && (sIx items.size items.size hi - sIx items.size 0 lo) == items.size) = true then _ else _) _ _ s
  rw [if_neg hno, pick_gen]
  first
    | exact wpAny_bind (m := Builtin.Tuple.tupleExact _) (wpAny_newObj_type (wpAny_pure ⟨_, rfl, wpAny_pure h⟩) htake)
    | exact wpAny_bind (m := Builtin.Tuple.tupleExact _) (wpAny_newObj_type (wpAny_bind (wpAny_pure (wpAny_pure ⟨_, rfl, wpAny_pure h⟩))) htake)
    | exact wpAny_bind (wpAny_bind (m := Builtin.Tuple.tupleExact _) (wpAny_newObj_type (wpAny_pure (wpAny_pure ⟨_, rfl, wpAny_pure h⟩)) htake))
    | exact wpAny_bind (wpAny_bind (m := Builtin.Tuple.tupleExact _) (wpAny_newObj_type (wpAny_pure ⟨_, rfl, wpAny_pure h⟩) htake))
end
end HT

namespace L2
open PySem PySem.Spec PyProof.Rows

noncomputable abbrev TO := St → Hp → (Option Int → Hp → Prop) → Prop
noncomputable def PO (X : Cx) (e : Option Expr) (t : TO) : Prop :=
  ∀ (pins : List (Addr × Obj)) (s : Shared) (σ : St) (H : Hp) (Q : Option Int → Hp → Prop), Inv X pins σ H s → t σ H Q →
    wpAny (model X.prog X.w) X.A (evalPart e X.env) (fun u s' => ∃ o H', Inv X pins σ H' s' ∧ IsPart u o ∧ Q o H') X.xe s
noncomputable def tNoPart : TO := fun _ H Q => Q none H
noncomputable def tPart (t : TE) : TO := fun σ H Q => t σ H fun x H1 => ∃ i, x = .int i ∧ Q (some i) H1

section
variable {X : Cx} {e : Expr} {te : TE} {lo hi : Option Expr} {tl th : TO} {pos p2 : Pos}

theorem po_none : PO X none tNoPart := by
  intro pins s σ H Q I h
  rw [evalPart_none]
  exact wpAny_pure ⟨none, H, I, .none, h⟩
theorem po_some (h : PE X e te) : PO X (some e) (tPart te) := by
  intro pins s σ H Q I hw
  rw [evalPart_some]
  refine thn (h pins s σ H _ I hw) fun u s1 ⟨x, H1, I1, r1, q1⟩ => ?_
  obtain ⟨i, rfl, q⟩ := q1
  obtain ⟨t, rfl⟩ := r1
  exact ⟨some i, H1, I1, .int i t, q⟩

noncomputable def SlR (X : Cx) (r : V → Option Int → Option Int → Hp → VK → Prop) : Prop :=
  ∀ (pins : List (Addr × Obj)) (s : Shared) (σ : St) (H : Hp) (x : V) (v vl vu : Value) (lo hi : Option Int) (sl : Addr) (Q : VK), Inv X pins σ H s → RelV x v → s.heap.IsSliceOf sl vl vu .none → IsPart vl lo → IsPart vu hi → r x lo hi H Q →
    ∃ T id, typeLookup (.type T) "__getitem__" = pure (some (.builtin id)) ∧ s.TypeIs v T ∧ wpAny (model X.prog X.w) X.A (getItem v (.ref sl)) (EP X pins σ Q) X.xe s
noncomputable def tSl (r : V → Option Int → Option Int → Hp → VK → Prop) (te : TE) (tl th : TO) : TE := fun σ H Q => te σ H fun x H1 => tl σ H1 fun l H2 => th σ H2 fun u H3 => r x l u H3 Q
theorem pe_slice {r : V → Option Int → Option Int → Hp → VK → Prop} (hr : SlR X r) (he : PE X e te) (hl : PO X lo tl) (hu : PO X hi th) : PE X (.Subscript e (.Slice lo hi none p2) pos) (tSl r te tl th) := by
  intro pins s σ H Q I h
  refine Subscript_ (thn (he pins s σ H _ I h) fun v s1 ⟨x, H1, I1, r1, q1⟩ => ?_)
  refine wpAny_Slice (thn (hl pins s1 σ H1 _ I1 q1) fun vl s2 ⟨l, H2, I2, pl, q2⟩ => thn (hu pins s2 σ H2 _ I2 q2) fun vu s3 ⟨u, H3, I3, pu, q3⟩ => ?_)
  rw [evalPart_none]
  refine wpAny_pure ?_
  have I4 : Inv X pins σ H3 { s3 with heap := s3.heap.push { cls := .type "slice", data := .fields #[vl, vu, .none] } } := I3.kept (t' := s3.toks) fun b ob q => Heap.get?_push_of_some _ q
  obtain ⟨T, id, hT, ht, hg⟩ := hr pins { s3 with heap := s3.heap.push { cls := .type "slice", data := .fields #[vl, vu, .none] } } σ H3 x v vl vu l u s3.heap.objs.size Q I4 r1 (Heap.IsSliceOf.new ..) pl pu q3
  show wpAny (model X.prog X.w) X.A (subscriptTail e (.Slice lo hi none p2) v (.ref s3.heap.objs.size)) (EP X pins σ Q) X.xe { s3 with heap := s3.heap.push { cls := .type "slice", data := .fields #[vl, vu, .none] } }
  exact tail_any (ops := [.ref s3.heap.objs.size, v]) ht hT hg (by with_unfolding_all rfl)

noncomputable def cutV (xs : List V) (lo hi : Option Int) : List V := (xs.drop (HT.sIx xs.length 0 lo)).take (HT.sIx xs.length xs.length hi - HT.sIx xs.length 0 lo)
theorem cutV_length (xs : List V) (lo hi : Option Int) : (cutV xs lo hi).length ≤ xs.length := by
  unfold cutV
  rw [List.length_take, List.length_drop]
  omega
noncomputable def rSlT (K : PySem.W.Frag) : V → Option Int → Option Int → Hp → VK → Prop := fun x lo hi H Q => ∃ a xs, x = .ref a ∧ SqT K H a xs ∧
  ¬ (HT.sIx xs.length 0 lo = 0 ∧ HT.sIx xs.length xs.length hi = xs.length) ∧ ∀ p, H p = none → Q (.ref p) (upd H p (.tup (cutV xs lo hi)))
theorem sl_tup : SlR X (rSlT X.K) := by
  intro pins s σ H x v vl vu lo hi sl Q I rx hs pl pu h
  obtain ⟨a, xs, rfl, hx, hw, q⟩ := h
  cases rx
  obtain ⟨its, r, ht, hz⟩ := I.tuple hx
  have hlen : its.toArray.size = xs.length := by rw [List.size_toArray]; exact r.length.symm
  refine ⟨"tuple", _, PyProof.Rows.slot_tuple_getitem.lookup, ht.typeIs, ?_⟩
  refine HT.getItem_tuple_cut ht hs pl pu (by rw [hlen]; exact hw) ?_ (by rw [hlen]; exact hz)
  rw [hlen]
  refine ⟨.ref s.heap.objs.size, _, I.laid (t' := s.toks) (o := .tup (cutV xs lo hi)) (fun b ob q => Heap.get?_push_of_some _ q) (Nat.le_refl _) ?_, rfl, q _ (I.hok.fresh (Nat.le_refl _))⟩
  exact ⟨Nat.le_trans (cutV_length xs lo hi) hz, _, (r.drop (HT.sIx xs.length 0 lo)).take (HT.sIx xs.length xs.length hi - HT.sIx xs.length 0 lo), IsTup.new _ _⟩

noncomputable def rCatT (K : PySem.W.Frag) : R2 := fun x y H Q => ∃ a b xs ys, x = .ref a ∧ y = .ref b ∧ SqT K H a xs ∧ SqT K H b ys ∧ xs ≠ [] ∧ xs.length + ys.length ≤ sizeLine ∧
  (ys = [] → Q (.ref a) H) ∧ (ys ≠ [] → ∀ p, H p = none → Q (.ref p) (upd H p (.tup (xs ++ ys))))
theorem Vals.nil_iff {xs : List V} {us : List Value} (r : Vals xs us) : us = [] ↔ xs = [] := by
  cases r with
  | nil => simp
  | cons _ _ => simp
theorem op_catT : OpR X (binaryOp .Add) (rCatT X.K) := by
  intro pins s σ H x y v u Q I rx ry h
  obtain ⟨a, b, xs, ys, rfl, rfl, ha, hb, hx, hz, q1, q2⟩ := h
  cases rx
  cases ry
  obtain ⟨its, r1, p1, _⟩ := I.tuple ha
  obtain ⟨its2, r2, p2, _⟩ := I.tuple hb
  refine HT.cat_tup p1 p2 (fun z => hx (r1.nil_iff.mp z)) (fun z => ⟨.ref a, H, I, rfl, q1 (r2.nil_iff.mp z)⟩) (fun z => ?_) (by rw [← r1.length, ← r2.length]; exact hz)
  refine ⟨.ref s.heap.objs.size, _, I.laid (t' := s.toks) (o := .tup (xs ++ ys)) (fun b ob q => Heap.get?_push_of_some _ q) (Nat.le_refl _) ?_, rfl, q2 (fun w => z (r2.nil_iff.mpr w)) _ (I.hok.fresh (Nat.le_refl _))⟩
  exact ⟨by rw [List.length_append]; exact hz, _, r1.append r2, IsTup.new _ _⟩
end
end L2

namespace L2
open PySem PySem.Spec PyProof.Rows

noncomputable def ixN (n : Nat) (i : Int) : Option Nat := if 0 ≤ i then (if i < n then some i.toNat else none) else if -(n : Int) ≤ i then some (i + n).toNat else none
noncomputable def atI {α : Type} (xs : List α) (i : Int) : Option α := (ixN xs.length i).bind fun j => xs[j]?
theorem ixN_seq {n : Nat} {i : Int} {j : Nat} (h : ixN n i = some j) : seqIndex? i n = some j ∧ j < n ∧ -(n : Int) ≤ i ∧ i < n := by
  unfold ixN at h
  by_cases h0 : 0 ≤ i
  · rw [if_pos h0] at h
    by_cases h1 : i < n
    · rw [if_pos h1] at h
      have e : i.toNat = j := Option.some.inj h
      exact ⟨by rw [seqIndex_of h0 h1, e], by omega, by omega, h1⟩
    · rw [if_neg h1] at h; cases h
  · rw [if_neg h0] at h
    by_cases h1 : -(n : Int) ≤ i
    · rw [if_pos h1] at h
      have e : (i + n).toNat = j := Option.some.inj h
      exact ⟨by rw [seqIndex_neg (by omega) h1, e], by omega, h1, by omega⟩
    · rw [if_neg h1] at h; cases h
theorem atI_get {α : Type} {xs : List α} {i : Int} {v : α} (h : atI xs i = some v) : ∃ j, seqIndex? i xs.length = some j ∧ xs[j]? = some v ∧ j < xs.length ∧ -(xs.length : Int) ≤ i ∧ i < xs.length := by
  unfold atI at h
  cases e : ixN xs.length i with
  | none => rw [e] at h; cases h
  | some j =>
    rw [e] at h
    obtain ⟨h1, h2, h3, h4⟩ := ixN_seq e
    exact ⟨j, h1, h, h2, h3, h4⟩
theorem atI_nat {α : Type} {xs : List α} {j : Nat} {v : α} (h : xs[j]? = some v) : atI xs (j : Int) = some v := by
  have hj : j < xs.length := (List.getElem?_eq_some_iff.mp h).1
  have e : ixN xs.length (j : Int) = some j := by
    unfold ixN
    rw [if_pos (by omega), if_pos (by omega)]; simp
  unfold atI; rw [e]; exact h
noncomputable def PlainIx (b : Expr) : Prop := ∀ o i, subscripted b false o i = operate [o, i] (getItem o i)
noncomputable def IxR (X : Cx) (r : R2) : Prop :=
  ∀ (value slice : Expr) (pins : List (Addr × Obj)) (s : Shared) (σ : St) (H : Hp) (x y : V) (v u : Value) (Q : VK), Inv X pins σ H s → RelV x v → RelV y u → r x y H Q →
    subscripted slice false v u = operate [v, u] (getItem v u) → wpAny (model X.prog X.w) X.A (subscriptTail value slice v u) (EP X pins σ Q) X.xe s
noncomputable def MtR (X : Cx) (id : String) (r : V → List V → Hp → VK → Prop) : Prop :=
  ∀ (pins : List (Addr × Obj)) (s : Shared) (σ : St) (H : Hp) (x : V) (xs : List V) (v : Value) (us : List Value) (Q : VK), Inv X pins σ H s → RelV x v → Vals xs us → r x xs H Q →
    wpAny (model X.prog X.w) X.A (call (.builtin id) (v :: us)) (EP X pins σ Q) X.xe s
section
variable {X : Cx} {a b : Expr} {ta tb : TE} {pos : Pos}
theorem pe_ix {r : R2} (hr : IxR X r) (ha : PE X a ta) (hb : PE X b tb) (hs : PlainIx b) : PE X (.Subscript a b pos) (tOp r ta tb) := by
  intro pins s σ H Q I h
  exact Subscript_ (binT ha hb I h fun v u s2 x y H2 I2 rx ry q => hr a b pins s2 σ H2 x y v u Q I2 rx ry q (hs _ _))

noncomputable def rIxL (K : PySem.W.Frag) : R2 := fun x y H Q => ∃ p xs i v, x = .ref p ∧ y = .int i ∧ SqL K H p xs ∧ atI xs i = some v ∧ Q v H
noncomputable def rIxT (K : PySem.W.Frag) : R2 := fun x y H Q => ∃ p xs i v, x = .ref p ∧ y = .int i ∧ SqT K H p xs ∧ atI xs i = some v ∧ Q v H
noncomputable def rIxS : R2 := fun x y H Q => ∃ z i c, x = .str z ∧ y = .int i ∧ z.length ≤ sizeLine ∧ atI z.cps.toList i = some c ∧ Q (.str ⟨#[c]⟩) H
theorem ix_list : IxR X (rIxL X.K) := by
  intro value slice pins s σ H x y v u Q I rx ry h hs
  obtain ⟨p, xs, i, z, rfl, rfl, hq, he, q⟩ := h
  cases rx
  obtain ⟨t, rfl⟩ := ry
  obtain ⟨its, r, pl, hz⟩ := I.list hq
  obtain ⟨j, h1, h2, h3, h4, h5⟩ := atI_get he
  obtain ⟨w, ew, rw'⟩ := r.get h2
  have hl := r.length
  have hn := line63
  have fin : EP X pins σ Q w s := ⟨z, H, I, rw', q⟩
  by_cases h0 : 0 ≤ i
  · have hj : i.toNat = j := by
      rw [seqIndex_of h0 h5] at h1
      exact Option.some.inj h1
    exact item_listR pl.isList h0 (by omega) (by rw [hj]; simpa using ew) fin hs
  · have hj : (i + (its.toArray.size : Int)).toNat = j := by
      rw [seqIndex_neg (by omega) h4] at h1
      rw [List.size_toArray, ← hl]
      exact Option.some.inj h1
    exact subscriptTail_builtinR (x := w) pl.isList.typeIs slot_list_getitem.lookup
      (wpAny_getItem_list_neg (Q := fun r s' => r = w ∧ EP X pins σ Q r s') pl.isList (by omega) (by rw [List.size_toArray] <;> omega) (by omega) (by rw [hj]; simpa using ew) ⟨rfl, fin⟩) hs
theorem ix_tup : IxR X (rIxT X.K) := by
  intro value slice pins s σ H x y v u Q I rx ry h hs
  obtain ⟨p, xs, i, z, rfl, rfl, hq, he, q⟩ := h
  cases rx
  obtain ⟨t, rfl⟩ := ry
  obtain ⟨its, r, pl, hz⟩ := I.tuple hq
  obtain ⟨j, h1, h2, h3, h4, h5⟩ := atI_get he
  obtain ⟨w, ew, rw'⟩ := r.get h2
  have hl := r.length
  have hn := line63
  have fin : EP X pins σ Q w s := ⟨z, H, I, rw', q⟩
  exact subscriptTail_builtinR (x := w) pl.typeIs slot_tuple_getitem.lookup
    (getItem_tuple (j := j) (Q := fun r s' => r = w ∧ EP X pins σ Q r s') pl (by omega) (by omega) (by rw [List.size_toArray, ← hl]; exact h1) (by simpa using ew) ⟨rfl, fin⟩) hs
theorem ix_str : IxR X rIxS := by
  intro value slice pins s σ H x y v u Q I rx ry h hs
  obtain ⟨z, i, c, rfl, rfl, hz, he, q⟩ := h
  obtain ⟨t, rfl⟩ := rx
  obtain ⟨t', rfl⟩ := ry
  obtain ⟨j, h1, h2, h3, h4, h5⟩ := atI_get he
  have hl : z.cps.toList.length = z.length := by simp [Str.length]
  rw [hl] at h1 h4 h5
  have hn := line63
  exact tail_any (typeIs_str s z t) slot_str_getitem.lookup (getItem_str (c := c) (by
    have e1 : decide (i < -(2 ^ 63 : Int)) = false := decide_eq_false (by omega)
    have e2 : decide (i ≥ 2 ^ 63) = false := decide_eq_false (by omega)
    rw [e1, e2, Bool.or_false]) (by rw [h1]; simpa using h2) ⟨.str ⟨#[c]⟩, H, I.tok _, ⟨_, rfl⟩, q⟩) hs
theorem slice_bounds (lo hi : Option Int) (n : Nat) : (sliceBounds lo hi none n).1 = ((HT.sIx n 0 lo : Nat) : Int) ∧ (sliceBounds lo hi none n).2.1 = ((HT.sIx n n hi : Nat) : Int) ∧ (sliceBounds lo hi none n).2.2 = 1 := by
  refine ⟨?_, ?_, rfl⟩
  · cases lo with
    | none => simp [sliceBounds, HT.sIx]
    | some i =>
      simp only [sliceBounds, HT.sIx, Option.getD_none, show (1 : Int) > 0 by decide, if_true]
      by_cases h : i < 0
      · simp only [h, if_true] <;> omega
      · simp only [h, if_false] <;> omega
  · cases hi with
    | none => simp [sliceBounds, HT.sIx]
    | some i =>
      simp only [sliceBounds, HT.sIx, Option.getD_none, show (1 : Int) > 0 by decide, if_true]
      by_cases h : i < 0
      · simp only [h, if_true] <;> omega
      · simp only [h, if_false] <;> omega
theorem slicePick_cut (its : List Value) (lo hi : Option Int) : slicePick its.toArray lo hi none = ((its.drop (HT.sIx its.length 0 lo)).take (HT.sIx its.length its.length hi - HT.sIx its.length 0 lo)).toArray := by
  obtain ⟨h1, h2, h3⟩ := slice_bounds lo hi its.toArray.size
  unfold slicePick
  rw [h1, h2, h3]
  simp only [sliceRange_one, pick_run, List.size_toArray] <;> rfl
noncomputable def rSlL (K : PySem.W.Frag) : V → Option Int → Option Int → Hp → VK → Prop := fun x lo hi H Q => ∃ a xs, x = .ref a ∧ SqL K H a xs ∧ ∀ p, H p = none → Q (.ref p) (upd H p (.lst (cutV xs lo hi)))
theorem sl_list : SlR X (rSlL X.K) := by
  intro pins s σ H x v vl vu lo hi sl Q I rx hs pl pu h
  obtain ⟨a, xs, rfl, hx, q⟩ := h
  cases rx
  obtain ⟨its, r, ht, hz⟩ := I.list hx
  have hlen := r.length
  refine ⟨"list", _, slot_list_getitem.lookup, ht.isList.typeIs, ?_⟩
  refine wpAny_getItem_list_slice ht.isList hs pl pu .none (by simp) ?_ (by rw [List.size_toArray] <;> omega)
  rw [slicePick_cut, ← hlen]
  refine ⟨.ref s.heap.objs.size, _, I.laid (t' := s.toks) (o := .lst (cutV xs lo hi)) (fun b ob q => Heap.get?_push_of_some _ q) (Nat.le_refl _) ?_, rfl, q _ (I.hok.fresh (Nat.le_refl _))⟩
  exact ⟨Nat.le_trans (cutV_length xs lo hi) hz, _, 0, (r.drop (HT.sIx xs.length 0 lo)).take (HT.sIx xs.length xs.length hi - HT.sIx xs.length 0 lo), Heap.get?_push_size _ rfl⟩

theorem call_len_seq : CallR X (.builtin "len") (fun xs H Q => ∃ p ys, xs = [.ref p] ∧ (SqL X.K H p ys ∨ SqT X.K H p ys) ∧ Q (.int ys.length) H) := by
  intro pins s σ H xs us Q I r h
  obtain ⟨p, ys, rfl, hq, q⟩ := h
  obtain ⟨u, rfl, rx⟩ := vals1 r
  cases rx
  have hn := line63
  rcases hq with hq | hq
  · obtain ⟨its, r', pl, hz⟩ := I.list hq
    have hlen := r'.length
    exact Calls.call_len_list pl.isList (by simp only [List.size_toArray] <;> omega) ⟨.int ys.length, H, I.tok _, ⟨s.toks + 1, by rw [List.size_toArray, hlen]⟩, q⟩
  · obtain ⟨its, r', pl, hz⟩ := I.tuple hq
    have hlen := r'.length
    exact len_tuple pl (by simp only [List.size_toArray] <;> omega) ⟨.int ys.length, H, I.tok _, ⟨s.toks + 1, by rw [List.size_toArray, hlen]⟩, q⟩
theorem call_len_str : CallR X (.builtin "len") (fun xs H Q => ∃ z, xs = [.str z] ∧ z.length ≤ sizeLine ∧ Q (.int z.length) H) := by
  intro pins s σ H xs us Q I r h
  obtain ⟨z, rfl, hz, q⟩ := h
  obtain ⟨u, rfl, t, rfl⟩ := vals1 r
  have hn := line63
  exact len_str (by omega) ⟨.int z.length, H, I.tok _, ⟨_, rfl⟩, q⟩
theorem call_list_of : CallR X (.type "list") (fun xs H Q => ∃ p ys, xs = [.ref p] ∧ (SqL X.K H p ys ∨ SqT X.K H p ys) ∧ ∀ l, H l = none → Q (.ref l) (upd H l (.lst ys))) := by
  intro pins s σ H xs us Q I r h
  obtain ⟨p, ys, rfl, hq, q⟩ := h
  obtain ⟨u, rfl, rx⟩ := vals1 r
  cases rx
  have fin : ∀ (its : List Value), Vals ys its → ys.length ≤ sizeLine → ∀ (h' : Heap) (c' : Nat), (∀ b o', s.heap.get? b = some o' → h'.get? b = some o') →
      h'.get? s.heap.objs.size = some { cls := .type "list", dict := none, data := .seq its.toArray c', slots := #[] } → EP X pins σ Q (.ref s.heap.objs.size) { s with heap := h' } := fun its r' hz h' c' kp e =>
    ⟨.ref s.heap.objs.size, _, I.laid (t' := s.toks) kp (Nat.le_refl _) (show ObjOk X.prog X.w _ h' _ (.lst ys) from ⟨hz, its, c', r', e⟩), rfl, q _ (I.hok.fresh (Nat.le_refl _))⟩
  rcases hq with hq | hq
  · obtain ⟨its, r', pl, hz⟩ := I.list hq
    have hlen := r'.length
    obtain ⟨o, ho, hc, n, hd⟩ := pl.isList
    exact call_list_seq p (.inl rfl) ho hc hd (fun h' c' kp e => fin its r' hz h' c' kp e) (by simp only [List.size_toArray] <;> omega)
  · obtain ⟨its, r', pl, hz⟩ := I.tuple hq
    have hlen := r'.length
    obtain ⟨o, ho, hc, n, hd⟩ := pl
    exact call_list_seq p (.inr rfl) ho hc hd (fun h' c' kp e => fin its r' hz h' c' kp e) (by simp only [List.size_toArray] <;> omega)
theorem call_tuple_of : CallR X (.type "tuple") (fun xs H Q => ∃ p ys, xs = [.ref p] ∧ ((SqL X.K H p ys ∧ ∀ l, H l = none → Q (.ref l) (upd H l (.tup ys))) ∨ (SqT X.K H p ys ∧ Q (.ref p) H))) := by
  intro pins s σ H xs us Q I r h
  obtain ⟨p, ys, rfl, h⟩ := h
  obtain ⟨u, rfl, rx⟩ := vals1 r
  cases rx
  rcases h with ⟨hq, q⟩ | ⟨hq, q⟩
  · obtain ⟨its, r', pl, hz⟩ := I.list hq
    have hlen := r'.length
    refine call_tuple_list pl.isList (fun h' kp => ?_) (by simp only [List.size_toArray] <;> omega)
    have I1 : Inv X pins σ H { s with heap := h' } := I.kept (t' := s.toks) kp
    have I2 : Inv X pins σ (upd H h'.objs.size (.tup ys)) { s with heap := h'.push { cls := .type "tuple", data := .seq its.toArray } } :=
      I1.laid (t' := s.toks) (fun b o e => Heap.get?_push_of_some _ e) (Nat.le_refl _) (show ObjOk X.prog X.w _ _ _ (.tup ys) from ⟨hz, its, r', IsTup.new _ _⟩)
    exact ⟨.ref h'.objs.size, _, I2, rfl, q _ (I1.hok.fresh (Nat.le_refl _))⟩
  · obtain ⟨its, r', pl, hz⟩ := I.tuple hq
    exact call_tuple_same pl ⟨.ref p, H, I, rfl, q⟩

noncomputable def tyV (K : PySem.W.Frag) (T : String) (x : V) (H : Hp) : Prop := match x with
  | .str _ => T = "str"
  | .int _ => T = "int"
  | .ref p => (T = "list" ∧ ∃ xs, SqL K H p xs) ∨ (T = "tuple" ∧ ∃ o, K.lookup p = some o ∧ o.cls = .type "tuple" ∧ o.dict = none) ∨
      (T = "dict" ∧ ((∃ kvs, H p = some (.dK kvs)) ∨ ∃ kvs, H p = some (.dT kvs))) ∨ (T = "set" ∧ ∃ S n, H p = some (.set S n))
  | _ => False
theorem tyV_is {pins : List (Addr × Obj)} {σ : St} {H : Hp} {s : Shared} {T : String} {x : V} {v : Value} (I : Inv X pins σ H s) (r : RelV x v) (ty : tyV X.K T x H) :
    s.TypeIs v T ∧ ∀ a, v = .ref a → ∃ ob, s.heap.get? a = some ob ∧ ob.dict = none := by
  cases x with
  | str z =>
    obtain ⟨t, rfl⟩ := r
    cases (show T = "str" from ty)
    exact ⟨typeIs_str s z t, fun _ e => nomatch e⟩
  | int i =>
    obtain ⟨t, rfl⟩ := r
    cases (show T = "int" from ty)
    exact ⟨typeIs_int s i t, fun _ e => nomatch e⟩
  | ref p =>
    cases r
    rcases ty with ⟨rfl, xs, hq⟩ | ⟨rfl, o, hk, hc, hd⟩ | ⟨rfl, hk⟩ | ⟨rfl, S, n, hk⟩
    · obtain ⟨its, _, pl, _⟩ := I.list hq
      refine ⟨pl.isList.typeIs, fun a e => ?_⟩
      cases e
      obtain ⟨o, n, e, c, hd, _⟩ := pl
      exact ⟨o, e, hd⟩
    · refine ⟨⟨o, I.kIn p o hk, hc⟩, fun a e => ?_⟩
      cases e
      exact ⟨o, I.kIn _ o hk, hd⟩
    · have z : ∃ o, s.heap.get? p = some o ∧ o.ExactDict := by
        rcases hk with ⟨kvs, hk⟩ | ⟨kvs, hk⟩
        · obtain ⟨_, _, _, _, o, _, _, e, ex, _⟩ := I.hok p _ hk
          exact ⟨o, e, ex⟩
        · obtain ⟨_, _, _, _, o, _, _, e, ex, _⟩ := I.hok p _ hk
          exact ⟨o, e, ex⟩
      obtain ⟨o, e, ex⟩ := z
      refine ⟨⟨o, e, ex.1⟩, fun a e2 => ?_⟩
      cases e2
      exact ⟨o, e, ex.2.1⟩
    · obtain ⟨o, _, _, _, e, ex, _⟩ := I.hok p _ hk
      refine ⟨⟨o, e, ex.1⟩, fun a e2 => ?_⟩
      cases e2
      exact ⟨o, e, ex.2.1⟩
  | _ => exact False.elim ty
noncomputable def tBM (K : PySem.W.Frag) (T : String) (r : V → List V → Hp → VK → Prop) (to : TE) (t : TA) : TE := fun σ H Q => to σ H fun x H1 => tyV K T x H1 ∧ t σ H1 fun xs H2 => r x xs H2 Q
variable {o e : Expr} {es : List Expr} {to : TE} {t : TA} {name : Str} {apos cpos : Pos} {T id : String} {r : V → List V → Hp → VK → Prop}
theorem pe_bm (pa : PlainAttrs T) (slot : Slot T name id) (hty : typeOf (.builtin id) = pure (.type "method_descriptor")) (hm : MtR X id r) (ho : PE X o to) (ha : PA X (e :: es) t)
    (hbase : attributeBase o name X.env (eval o X.env) = eval o X.env := by rfl)
    (hfew : ((backTo cpos (starEach (e :: es) X.env)).all (fun x => !x.1) && (backToKw cpos (keywordEach [] X.env)).all (fun x => x.1.isSome)
      && decide ((e :: es).length + ([] : List Keyword).length + (if ([] : List Keyword).isEmpty then 0 else 1) < 30)) = true := by rfl)
    (hline : (apos.endLine == cpos.line) = true := by rfl) (hs : starEach (e :: es) X.env = (false, eval e X.env) :: starEach es X.env := by rfl) (hplain : (backTo cpos (starEach es X.env)).any (·.1) = false := by rfl) :
    PE X (.Call (.Attribute o name apos) (e :: es) [] cpos) (tBM X.K T r to t) := by
  intro pins s σ H Q I h
  refine wpAny_Call_method_late hbase hfew hline rfl (thn (ho pins s σ H _ I h) fun v s1 ⟨x, H1, I1, r1, ty, q1⟩ => ?_)
  obtain ⟨h1, h2⟩ := tyV_is I1 r1 ty
  refine ⟨T, id, pa, slot, hty, h1, h2, ?_⟩
  have hA := ha cpos pins s1 σ H1 _ I1 q1
  rw [hs] at hA ⊢
  refine Calls.callWith_builtin (by show (false || (backTo cpos (starEach es X.env)).any (·.1)) = false; rw [hplain] <;> rfl) (Calls.evalArgs_plain ?_)
  exact thn hA fun us s2 ⟨vs, H2, I2, r2, q2⟩ => hm pins s2 σ H2 x vs v us Q I2 r1 r2 q2
/- xs.append(e), list.index on a module's tuple .. are MtR facts of 06m -/
end
end L2

namespace L2
open PySem PySem.Spec PyProof.Rows

noncomputable def MtM (X : Cx) (id : String) (r : V → List V → Hp → VK → Prop) : Prop :=
  ∀ (pins : List (Addr × Obj)) (s : Shared) (σ : St) (H : Hp) (x : V) (xs : List V) (v : Value) (us : List Value) (Q : VK), Inv X pins σ H s → RelV x v → Vals xs us → r x xs H Q →
    wpAny (model X.prog X.w) X.A (call (.builtin id) (v :: us)) (EP X pins σ Q) X.xe s

theorem Vals.one : ∀ {x : V} {us : List Value}, Vals [x] us → ∃ u, us = [u] ∧ RelV x u
  | _, _, .cons r .nil => ⟨_, rfl, r⟩
theorem Vals.rep {xs : List V} {us : List Value} (h : Vals xs us) : ∀ k : Nat, Vals (List.replicate k xs).flatten (List.replicate k us).flatten
  | 0 => .nil
  | k + 1 => by
    rw [List.replicate_succ, List.replicate_succ, List.flatten_cons, List.flatten_cons]
    exact Vals.append h (Vals.rep h k)
theorem foldl_rep (its : List Value) : ∀ (k : Nat) (acc : List Value),
    List.foldl (fun x1 x2 => x1 ++ x2) acc.toArray (List.replicate k its.toArray) = (acc ++ (List.replicate k its).flatten).toArray
  | 0, acc => by simp
  | k + 1, acc => by
    have e : acc.toArray ++ its.toArray = (acc ++ its).toArray := by simp
    have e2 : (acc ++ its) ++ (List.replicate k its).flatten = acc ++ (List.replicate (k + 1) its).flatten := by
      rw [List.replicate_succ, List.flatten_cons, List.append_assoc]
    rw [← e2, ← foldl_rep its k (acc ++ its), ← e, List.replicate_succ, List.foldl_cons]

section
variable {X : Cx} {pins : List (Addr × Obj)} {σ : St} {H : Hp} {s : Shared} {l b : Addr} {xs ys zs : List V}

theorem Inv.lset {its its' : List Value} {n : Nat} {f : Array Value → Array Value} {t' : Nat} (I : Inv X pins σ H s) (hH : H l = some (.lst xs))
    (e : s.heap.get? l = some { cls := .type "list", data := .seq its.toArray n }) (hf : f its.toArray = its'.toArray) (hv : Vals ys its') (hz : ys.length ≤ sizeLine) :
    Inv X pins σ (upd H l (.lst ys)) { s with heap := s.heap.update l (Obj.mapSeq f), toks := t' } := by
  have q := PySem.IsL.update e f
  rw [hf] at q
  refine I.write (x := l) (e := l) (by rw [hH]; exact trivial) (.inl rfl) (fun b' u hb hu => (Heap.get?_update_other s.heap (Obj.mapSeq f) (Ne.symm hb)).trans hu) ⟨_, q⟩ ?_
  exact ⟨hz, its', _, hv, q⟩
theorem Inv.lnew {its : List Value} {t' : Nat} (I : Inv X pins σ H s) (hv : Vals ys its) (hz : ys.length ≤ sizeLine) :
    Inv X pins σ (upd H s.heap.objs.size (.lst ys)) { s with heap := s.heap.push { cls := .type "list", data := .seq its.toArray }, toks := t' } :=
  I.laid (fun _ _ q => Heap.get?_push_of_some _ q) (Nat.le_refl _) ⟨hz, its, 0, hv, Heap.get?_push_size _ rfl⟩
theorem Inv.fresh (I : Inv X pins σ H s) : H s.heap.objs.size = none := I.hok.fresh (Nat.le_refl _)
theorem Inv.lstM (I : Inv X pins σ H s) (hH : H l = some (.lst xs)) : xs.length ≤ sizeLine ∧ ∃ (its : List Value) (n : Nat), Vals xs its ∧ xs.length = its.length ∧ s.heap.get? l = some { cls := .type "list", data := .seq its.toArray n } := by
  obtain ⟨z, its, n, r, e⟩ := I.hok l _ hH
  exact ⟨z, its, n, r, r.length, e⟩

theorem notLongL {n : Nat} (h : n ≤ sizeLine) : Builtin.List.listTooLong n = false := by
  unfold Builtin.List.listTooLong
  exact decide_eq_false (by omega)
end

section
variable {X : Cx}

noncomputable def rAppend : V → List V → Hp → VK → Prop := fun x vs H Q => ∃ l xs y, x = .ref l ∧ vs = [y] ∧ H l = some (.lst xs) ∧ xs.length < sizeLine ∧ Q .non (upd H l (.lst (xs ++ [y])))
theorem mt_append : MtM X "list.append" rAppend := by
  intro pins s σ H x vs v us Q I rx rv h
  obtain ⟨l, xs, y, rfl, rfl, hH, hz, q⟩ := h
  cases rx
  obtain ⟨u, rfl, ru⟩ := rv.one
  obtain ⟨z, its, n, r, hl, e⟩ := I.lstM hH
  refine call_meets F.slot_list_append ⟨_, e, rfl⟩ F.entry_list_append (F.args_list_append_2 _ _) (PySem.list_append l its.toArray n u (by rw [List.size_toArray]; omega)) ⟨e, ?_⟩
  refine ⟨.non, _, I.lset (its' := its ++ [u]) hH e (by simp) (r.append (.cons ru .nil)) ?_, rfl, q⟩
  rw [List.length_append, List.length_singleton]
  omega

noncomputable def rExtend : V → List V → Hp → VK → Prop := fun x vs H Q => ∃ l b xs zs, x = .ref l ∧ vs = [.ref b] ∧ H l = some (.lst xs) ∧ H b = some (.lst zs) ∧ xs.length + zs.length ≤ sizeLine ∧ Q .non (upd H l (.lst (xs ++ zs)))
theorem mt_extend : MtM X "list.extend" rExtend := by
  intro pins s σ H x vs v us Q I rx rv h
  obtain ⟨l, b, xs, zs, rfl, rfl, hH, hB, hz, q⟩ := h
  cases rx
  obtain ⟨u, rfl, ru⟩ := rv.one
  cases ru
  obtain ⟨z, its, n, r, hl, e⟩ := I.lstM hH
  obtain ⟨z2, its2, n2, r2, hl2, e2⟩ := I.lstM hB
  have hsz : its.toArray.size + its2.toArray.size ≤ sizeLine := by rw [List.size_toArray, List.size_toArray]; omega
  have hlong : ¬ (!its.toArray.isEmpty && Builtin.List.listTooLong (its.toArray.size + its2.toArray.size)) = true := by
    rw [notLongL hsz, Bool.and_false]
    exact Bool.false_ne_true
  refine call_meets F.slot_list_extend ⟨_, e, rfl⟩ F.entry_list_extend (F.args_list_extend_2 _ _)
    (AutoSeq1.list_extend_list_list_0 l its.toArray n b its2.toArray n2 hlong (by rw [List.size_toArray]; omega) (by omega)) ⟨e, e2, ?_⟩
  refine ⟨.non, _, I.lset (its' := its ++ its2) hH e (by simp) (r.append r2) ?_, rfl, q⟩
  rw [List.length_append]
  omega

noncomputable def rCat : R2 := fun x y H Q => ∃ l b xs zs, x = .ref l ∧ y = .ref b ∧ H l = some (.lst xs) ∧ H b = some (.lst zs) ∧ xs.length + zs.length ≤ sizeLine ∧ ∀ p, H p = none → Q (.ref p) (upd H p (.lst (xs ++ zs)))
theorem op_cat : OpR X (binaryOp .Add) rCat := by
  intro pins s σ H x y v u Q I rx ry h
  obtain ⟨l, b, xs, zs, rfl, rfl, hH, hB, hz, q⟩ := h
  cases rx
  cases ry
  obtain ⟨z, its, n, r, hl, e⟩ := I.lstM hH
  obtain ⟨z2, its2, n2, r2, hl2, e2⟩ := I.lstM hB
  refine PySem.P.add_list e e2 ?_ (by rw [List.size_toArray, List.size_toArray]; omega)
  have ea : its.toArray ++ its2.toArray = (its ++ its2).toArray := by simp
  rw [ea]
  exact ⟨.ref _, _, I.lnew (t' := s.toks) (r.append r2) (by rw [List.length_append]; omega), rfl, q _ I.fresh⟩
noncomputable def rRep : R2 := fun x y H Q => ∃ l k xs, x = .ref l ∧ y = .int k ∧ H l = some (.lst xs) ∧ -(2 ^ 63) ≤ k ∧ k < 2 ^ 63 ∧ xs.length * k.toNat ≤ sizeLine ∧
  ∀ p, H p = none → Q (.ref p) (upd H p (.lst (List.replicate k.toNat xs).flatten))
theorem len_rep {α : Type} (xs : List α) (k : Nat) : (List.replicate k xs).flatten.length = k * xs.length := by
  induction k with
  | zero => simp
  | succ k ih => rw [List.replicate_succ, List.flatten_cons, List.length_append, ih, Nat.succ_mul, Nat.add_comm]
theorem op_rep : OpR X (binaryOp .Mult) rRep := by
  intro pins s σ H x y v u Q I rx ry h
  obtain ⟨l, k, xs, rfl, rfl, hH, h1, h2, hz, q⟩ := h
  cases rx
  obtain ⟨t, rfl⟩ := ry
  obtain ⟨z, its, n, r, hl, e⟩ := I.lstM hH
  have hlen : its.toArray.size * k.toNat ≤ sizeLine := by rw [List.size_toArray, ← hl]; exact hz
  have hcap : ¬ its.toArray.size * k.toNat > (2 ^ 63 - 1) / 8 := by
    have : (sizeLine : Nat) ≤ (2 ^ 63 - 1) / 8 := by decide
    omega
  have hfit : ¬ (!Builtin.List.listFitsIndex k) = true := by
    rw [fitsIndex_both h1 h2]
    exact Bool.false_ne_true
  have hlong : ¬ Builtin.List.listTooLong (its.toArray.size * k.toNat) = true := by
    rw [notLongL hlen]
    exact Bool.false_ne_true
  have hnew : List.foldl (fun x1 x2 => x1 ++ x2) #[] (List.replicate (if its.toArray.isEmpty = true then 0 else k.toNat) its.toArray) = (List.replicate k.toNat its).flatten.toArray := by
    have f0 : ∀ m : Nat, List.foldl (fun x1 x2 => x1 ++ x2) #[] (List.replicate m its.toArray) = (List.replicate m its).flatten.toArray := fun m => by
      have := foldl_rep its m []
      rw [List.nil_append] at this
      exact this
    rw [f0]
    cases its with
    | nil => simp
    | cons a r' => rw [if_neg (by simp)]
  refine wpAny_binaryOp_repeat_ref (T := "list") (U := "int") (by decide) ⟨_, e, rfl⟩ (fun s' => typeIs_int s' k t) noFill_list_mul F.fills_int_mul F.slot_int_rmul repeat_list F.slot_int_index.lookup
    (call_meets F.slot_int_rmul (typeIs_int s k t) F.entry_int_rmul (F.args_int_rmul_2 _ _) (int___rmul___int_list k t l its.toArray n)
      ⟨e, rfl, ⟨_, e, rfl⟩, call_meets F.slot_list_mul ⟨_, e, rfl⟩ F.entry_list_mul (F.args_list_mul_2 _ _) (AutoListH.list___mul___list_int_3 l its.toArray n k t hfit hcap hlong) ⟨e, ?_⟩⟩)
  rw [hnew]
  exact ⟨.ref _, _, I.lnew (t' := s.toks) (r.rep k.toNat) (by rw [len_rep, Nat.mul_comm]; exact hz), rfl, q _ I.fresh⟩

end

section
variable {prog : Program} {w : World} {A : Around} {E : Value → Shared → Prop} {s : Shared}
end

section
variable {X : Cx}
end
end L2

namespace Att
open PySem PySem.W PySem.Calls PyProof.Rows

theorem ints_of_wellAll {P : Params} {h : Heap} : ∀ (ns : List Int) (vs : List Value), WellAll P h vs (ns.map WData.int) → IntsAre vs ns := by
  intro ns
  induction ns with
  | nil =>
    intro vs w
    rw [List.map_nil] at w
    cases w
    exact .nil
  | cons n ns ih =>
    intro vs w
    rw [List.map_cons] at w
    cases w with
    | cons a b =>
      cases a
      exact .cons _ _ (ih _ b)

theorem script_of {l : OpenLaw} {n : Nat} (hn : l.most = some n) {P : Params} {h : Heap} {args : List WData} {vals : List Value}
    (hpre : l.row.toRowW.claim.pre args = true) (hwl : WellAll P h vals args) :
    ∃ a vs ns, vals = [Value.ref a] ∧ args = [WData.list (ns.map WData.int)] ∧ h.get? a = some { cls := .type "list", data := .seq vs.toArray } ∧ IntsAre vs ns ∧ ns.length ≤ n := by
  have hsh : WShape.hasAll [] args [.list .int] = true := (pre_splitW hpre).1
  have hc : l.pre.holds [] { args := args } = true := (pre_splitW hpre).2
  obtain ⟨d, r, rfl, h1, h2⟩ := hasAllW_cons hsh
  obtain rfl := hasAllW_nil h2
  obtain ⟨xs, rfl, h3⟩ := hasW_list h1
  obtain ⟨ns, rfl⟩ := items_int h3
  have hlen : ns.length ≤ n := by
    unfold OpenLaw.pre at hc
    have h4 : (WTm.not (.lt (.lit (.int (n : Int))) (.len (.arg 0)))).holds [] { args := [.list (ns.map .int)] } = true := by
      have h4 := (holds_andW hc).1
      rw [hn] at h4
      exact h4
    have h5 := condW_of h4 (w_not (w_lt w_lit (w_len_list (w_arg rfl))))
    rw [List.length_map] at h5
    refine Nat.le_of_not_lt fun q => ?_
    have q' : (n : Int) < ((ns.length : Nat) : Int) := by omega
    first
      | (rw [decide_eq_true q'] at h5; exact absurd h5 (by decide))
      | (simp at h5; omega)
  cases hwl with
  | cons w1 w2 =>
    cases w2
    cases w1 with
    | list ho hall => exact ⟨_, _, ns, rfl, rfl, ho, ints_of_wellAll ns _ hall, hlen⟩

theorem post_true (l : OpenLaw) (args : List WData) : l.row.toRowW.claim.post args (.bool true) args = true :=
  postW_of (r := l.row.toRowW) (X := (true == true))
    (show WShape.has [] (.bool true) .bool = true by first | rfl | decide | simp [WShape.has, WShape.arms, WShape.armsAll])
    (show (WTm.eq .res (.lit (.bool true))).value [] { args := args, res := some (.bool true), after := args } = some (.bool (true == true)) from w_eq_bool (w_res rfl) w_lit) rfl

theorem attach_call {l : OpenLaw} {n : Nat} {q : Program} {loose : List Str} {XP : (Str → Option Value) → Heap → Prop} {YP : World → Heap → Prop} {d : DefRec}
    (hn : l.most = some n) (hdf : d.params.defaults = [])
    (call : ∀ (w : World) (s₀ s₁ : Shared) (mg mb : Str → Option Value) (fa : Addr) (o : Obj) (pm cd doc : Value) (a : Addr) (vs : List Value) (ns : List Int),
      Ground q loose [] XP w s₀ mg mb s₁.heap → YP w s₁.heap →
      s₁.heap.get? fa = some o → o.data = .func (docDef d.name d.params d.body d.scope pm cd doc) → s₁.heap.CodeRec cd d.name → mg d.name = some (.ref fa) →
      s₁.heap.get? a = some { cls := .type "list", data := .seq vs.toArray } → IntsAre vs ns → ns.length ≤ n → s₁.gens = #[] →
      codeAny (model l.prog w) callerA (.call (.ref fa) ⟨[.ref a], []⟩) (fun r s' => r = .ok (.ret (.bool true)) ∧ OldK s₁.heap s'.heap ∧ s'.os = s₁.os ∧ AllBare s'.gens) s₁) :
    WalkO q loose XP YP l.row.toRowW d [] (fun f vs => PySem.call f vs) := by
  intro w s₀ s₁ mg mb G Y fa o pm cd doc dV kV ho hd hcd hD hmg hg args vals as hpre hlay hrd hwl hlo
  obtain rfl : dV = .none := Dflts.none hD hdf
  obtain rfl : kV = .none := Dflts.noKw hD
  obtain ⟨a, vs, ns, rfl, rfl, hobj, hints, hlen⟩ := script_of hn hpre hwl
  refine enter_call (codeAny_mono (call w s₀ s₁ mg mb fa o pm cd doc a vs ns G Y ho (fd_plain hd) hcd hmg hobj hints hlen hg) fun r s' hq => ?_)
  obtain ⟨rfl, h2, h3, h4⟩ := hq
  exact ⟨.inl ⟨.bool true, .bool true, [], rfl, fun _ => rfl, .bool true, post_true l _, fun _ => ⟨List.Pairwise.nil, fun _ hm => (nomatch hm)⟩⟩, h2, h3, h4⟩

section
variable {prog : Program} {w : World} {A : Around} {E : Value → Shared → Prop} {s : Shared} {K : Frag}

end
end Att

namespace L2
open PySem PySem.Spec PyProof.Rows

theorem vals_ints : ∀ {vs : List Value} {ns : List Int}, IntsAre vs ns → Vals (ns.map V.int) vs
  | _, _, .nil => .nil
  | _, _, .cons n t h => .cons ⟨t, rfl⟩ (vals_ints h)

noncomputable def Only (H : Hp) : Prop := ∀ b, H b = none ∨ ∃ o xs, H b = some (.frz o (.lst xs))

theorem law_call {P : Program} {w : World} {K : PySem.W.Frag} {mg mb : Str → Option Value} {CX : CXT} {k : Nat} {fa a : Addr} {fd : FuncData} {x : Str} {sp : Sp} {s₁ : Shared} {vs : List Value} {ns : List Int}
    (KX : K.In s₁.heap) (hns : s₁.heap.Ns mainGlobals mg) (hb : s₁.heap.Ns builtinsNs mb) (hbb : ∀ x : Str, x ≠ "__name__" → mb x = bootBuiltins x) (hlim : s₁.heap.NoLimit) (hg : s₁.gens = #[])
    (ha : s₁.heap.get? a = some { cls := .type "list", data := .seq vs.toArray }) (hi : IntsAre vs ns) (hl : ns.length ≤ sizeLine) (hr : Room k callerA)
    (F : ∀ base : Heap, K.In base → base.Ns mainGlobals mg → FnOk P w K mg base CX k fa fd [x] sp) (hbind : ∀ (s : Shared) (u : Value), BindsTo s fd ⟨[u], []⟩ [(x, u)])
    (hsp : ∀ H : Hp, Only H → SqL K H a (ns.map V.int) → sp [.ref a] H (fun v _ => v = .bl true) fun _ _ _ => False)
    (hCX : ∀ H e s', CX [] H s₁ (fun _ _ _ => False) e s' → False) :
    codeAny (model P w) callerA (.call (.ref fa) ⟨[.ref a], []⟩) (fun r s' => r = .ok (.ret (.bool true)) ∧ OldK s₁.heap s'.heap ∧ s'.os = s₁.os ∧ AllBare s'.gens) s₁ := by
  have rv := vals_ints hi
  have lenV := hi.length
  -- from an abstract heap in which nothing but the script may be tracked
  have core : ∀ H : Hp, Only H → SqL K H a (ns.map V.int) → HOk P w H s₁.heap → (∀ b, H b ≠ none → b = a) → (H a ≠ none → K.lookup a = none) →
      codeAny (model P w) callerA (.call (.ref fa) ⟨[.ref a], []⟩) (fun r s' => r = .ok (.ret (.bool true)) ∧ OldK s₁.heap s'.heap ∧ s'.os = s₁.os ∧ AllBare s'.gens) s₁ := by
    intro H hO hS hok hA hK
    have base_of : ∀ {b : Addr} {o : Obj}, s₁.heap.get? b = some o → H b = none → (hidT s₁.heap H).get? b = some o := fun e n => hidT_get e n
    have noA : ∀ {b : Addr} {o : Obj} {es : Array DictEntry} {ep : Nat}, s₁.heap.get? b = some o → o.data = .dict es ep → H b = none := fun {b o es ep} e d => by
      cases q : H b with
      | none => rfl
      | some u =>
        have e' : b = a := hA b (by rw [q]; simp)
        subst e'
        rw [ha] at e; cases e
        have d' : Data.seq vs.toArray _ = Data.dict es ep := d
        cases d'
    have nsK : ∀ {b : Addr} {m : Str → Option Value}, s₁.heap.Ns b m → (hidT s₁.heap H).Ns b m := fun {b m} ⟨o, es, ep, e, d, r⟩ => ⟨o, es, ep, base_of e (noA e d), d, r⟩
    have hKb : K.In (hidT s₁.heap H) := fun b o e => base_of (KX b o e) (by
      cases q : H b with
      | none => rfl
      | some u =>
        have e' : b = a := hA b (by rw [q]; simp)
        subst e'
        rw [hK (by rw [q]; simp)] at e; cases e)
    have hM : Mod K mg (hidT s₁.heap H) := ⟨hKb, nsK hns, ⟨mb, nsK hb, hbb⟩, let ⟨mc, h1, h2⟩ := hlim; ⟨mc, nsK h1, h2⟩⟩
    have e0 : Env0 P w K mg (hidT s₁.heap H) callerA [] s₁ H := ⟨rfl, hM, fun b o e => of_hidT e, Nat.le_of_eq (hidT_size _ _), trivial, fun b hb => absurd (show b ∈ ([] : List Addr) from hb) (by simp), hok, .of_eq hg⟩
    refine codeAny_mono ((F _ hKb (nsK hns)).run callerA [] s₁ H ⟨[.ref a], []⟩ [.ref a] [.ref a] _ _ hr e0 (hbind s₁ (.ref a)) (.cons rfl .nil) (hsp H hO hS)) fun r s' h => ?_
    cases r with
    | error e => exact (hCX H e s' h).elim
    | ok fl =>
      cases fl with
      | next => exact False.elim h
      | brk => exact False.elim h
      | cont => exact False.elim h
      | ret u =>
        obtain ⟨v, H', os, bare, un, hok', r', q⟩ := h
        have q' : v = .bl true := q
        subst q'
        obtain rfl : u = Value.bool true := r'
        refine ⟨rfl, OldK.of_keep fun b o e => ?_, os, bare⟩
        cases q : H b with
        | none => exact un.keep b o e q (by intro z; exact absurd (show b ∈ ([] : List Addr) from z) (by simp)) (by simp)
        | some u =>
          rcases hO b with z | ⟨ob, xs, z⟩
          · rw [q] at z; cases z
          · have z2 := un.frzs b ob _ z
            obtain ⟨e1, _⟩ := hok b _ z
            obtain ⟨e2, _⟩ := hok' b _ z2
            rw [e] at e1; cases e1
            exact e2
  cases hk : K.lookup a with
  | some o =>
    -- the script is one of the module's own objects
    have e := KX a o hk
    rw [ha] at e
    cases e
    refine core (fun _ => none) (fun _ => .inl rfl) (.inr ⟨_, vs.toArray, _, hk, rfl, rfl, rfl, by rw [List.size_toArray, lenV]; exact hl, by simpa using rv⟩) (fun b u z => by have z' : (none : Option HO) = some u := z; cases z') (fun b z => absurd rfl z) fun z => absurd rfl z
  | none =>
    refine core (fun b => if b = a then some (.frz { cls := .type "list", data := .seq vs.toArray } (.lst (ns.map V.int))) else none) (fun b => ?_) (.inl (.inr ⟨{ cls := .type "list", data := .seq vs.toArray }, if_pos rfl⟩)) (fun b u z => ?_) (fun b z => ?_) fun _ => hk
    · by_cases hb : b = a
      · exact .inr ⟨_, _, if_pos hb⟩
      · exact .inl (if_neg hb)
    · by_cases hb : b = a
      · have z' := (if_pos hb).symm.trans z
        cases z'
        subst hb
        exact ⟨ha, by rw [List.length_map]; exact hl, vs, _, rv, ha⟩
      · have z' := (if_neg hb).symm.trans z
        cases z'
    · by_cases hb : b = a
      · exact hb
      · exact absurd (if_neg hb) z
end L2

namespace L2
open PySem PySem.Spec PyProof.Rows

noncomputable abbrev KOf {K : PySem.W.Frag} {h : Heap} (_ : K.In h) : PySem.W.Frag := K

theorem walk_of {l : PySem.W.OpenLaw} {n k : Nat} {q : Program} {loose : List Str} {XP : (Str → Option Value) → Heap → Prop} {YP : World → Heap → Prop} {d : DefRec} {K : Params → PySem.W.Frag} {CX : World → CXT} {sp : World → Sp} {x : Str}
    (hn : l.most = some n) (hn2 : n ≤ sizeLine) (hdf : d.params.defaults = []) (hr : Room k callerA)
    (hY : ∀ (w : World) (h : Heap), YP w h → (K w.params).In h)
    (F : ∀ (w : World) (mg : Str → Option Value) (fa : Addr) (h : Heap), (K w.params).In h → h.Ns mainGlobals mg → mg d.name = some (.ref fa) →
      ∃ fd : FuncData, (∀ (s : Shared) (u : Value), BindsTo s fd ⟨[u], []⟩ [(x, u)]) ∧
        ∀ base : Heap, (K w.params).In base → base.Ns mainGlobals mg → FnOk l.prog w (K w.params) mg base (CX w) k fa fd [x] (sp w))
    (hsp : ∀ (w : World) (H : Hp) (a : Addr) (ns : List Int), ns.length ≤ n → Only H → SqL (K w.params) H a (ns.map V.int) → sp w [.ref a] H (fun v _ => v = .bl true) fun _ _ _ => False)
    (hCX : ∀ (w : World) (H : Hp) (s : Shared) (e : Value) (s' : Shared), CX w [] H s (fun _ _ _ => False) e s' → False) :
    PySem.W.WalkO q loose XP YP l.row.toRowW d [] (fun f vs => PySem.call f vs) := by
  refine Att.attach_call hn hdf fun w s₀ s₁ mg mb fa o pm cd doc a vs ns G Y ho hd hcd hmg hobj hints hlen hg => ?_
  have KX := hY w _ Y
  obtain ⟨fd, hb, hF⟩ := F w mg fa _ KX G.T.g hmg
  exact law_call KX G.T.g G.T.b G.T.builtins G.T.nolimit hg hobj hints (Nat.le_trans hlen hn2) hr hF hb (fun H hO hS => hsp w H a ns hlen hO hS) fun H e s' => hCX w H s₁ e s'
end L2

/- THE LAST THEOREM (shape; LID, My.* are yours):
   My.Adr: a structure of the addresses that your layer names (classes, functions); My.Txt K t: a structure (Prop) of the equations over K;
   My.txt_mk : {K} {implicit addresses ..} (e1 : nsIn K mainGlobals "law" = some (some (.ref f))) (e2 : K.lookup f = some ⟨oc, od, .func (fnOf "law" "law" params body scope dV kV doc pm an cdv ct), sl⟩) (e3 : codeIn K cdv "law" = true) .. : ∃ t, My.Txt K t

set_option maxRecDepth 100000 in
set_option maxHeartbeats 0 in
theorem PySem.Challenge.cw_LID_holds : PySem.Challenge.rw_LID.Holds := by
  w_on; o_law; k_head; (case hw => w_witness2)
  k_fill
  refine L2.walk_of (l := PySem.Challenge.rw_LID) (n := 63) (k := 40) (x := "script") (CX := fun w => ..) (sp := fun _ => My.sp_law) rfl (by decide) rfl ⟨rfl, by decide, by decide⟩ (fun w h Y => PySem.W.kIn_of Y) ?F ?S ?C
  case F =>
    intro w mg fa h KX G hmg
    have T : ∃ t, My.Txt (L2.KOf KX) t := by
      dsimp only [L2.KOf]                          -- K must stand as «<heap const> w.params» for k_is
      refine' My.txt_mk ?e1 ?e2 ?e3 ..
      (case e1 => PySem.W.k_is)                    -- in the order: a name -> its address -> its object -> its parts
      (case e2 => PySem.W.k_is)
      ..
    obtain ⟨t, T⟩ := T
    have e0 := hmg.symm.trans (PySem.W.mg_of KX G T.law)
    cases e0                                       -- fa is the law's own address
    exact ⟨_, fun s u => .of_eq rfl, fun base kb nb => My.law_fn T kb nb⟩     -- if «.of_eq rfl» comes too early: refine' ⟨_, ?b, fun base kb nb => My.law_fn T kb nb⟩; exact fun s u => .of_eq rfl
  case S => exact fun w H a ns hl hO hS => ..
  case C => exact ..
(the tactic k_is has no namespace: write k_is) -/

namespace L2
open PySem PySem.Spec PyProof.Rows

noncomputable def inClass (s : Stmt) (j : Nat) : Stmt := match s with
  | .ClassDef _ _ _ body _ _ _ _ _ _ _ => body.getD j (.Pass ⟨0, 0, 0, 0⟩)
  | _ => .Pass ⟨0, 0, 0, 0⟩
noncomputable def defArgs (s : Stmt) : Arguments := match s with
  | .FunctionDef _ a _ _ _ _ _ _ _ _ => a
  | _ => { posonlyargs := [], args := [], vararg := none, kwonlyargs := [], kw_defaults := [], kwarg := none, defaults := [] }
noncomputable def defBody (s : Stmt) : List Stmt := match s with
  | .FunctionDef _ _ b _ _ _ _ _ _ _ => b
  | _ => []
noncomputable def defScope (s : Stmt) : Scope := match s with
  | .FunctionDef _ _ _ _ _ _ sc _ _ _ => sc
  | _ => { kind := .function, names := [], isGenerator := false, isCoroutine := false }

noncomputable abbrev CX0 : CXT := fun _ _ _ _ _ _ => False
noncomputable abbrev E0 : XK := fun _ _ _ => False
theorem pass0 {X : Cx} : Passes CX0 X E0 := fun _ _ _ _ _ _ _ h => h.elim

structure Fun (K : PySem.W.Frag) (x qual : Str) (st : Stmt) (f : Addr) (fd : FuncData) : Prop where
  ex : ∃ (oc : Value) (od : Option Addr) (kV doc pm : Value) (an : Option Addr) (cdv ct : Value) (osl : Array (Option Value)),
    fd = PySem.W.fnOf x qual (defArgs st) (defBody st) (defScope st) .none kV doc pm an cdv ct ∧ K.lookup f = some ⟨oc, od, .func fd, osl⟩ ∧ PySem.W.codeIn K cdv qual = true
  kp : PySem.W.keepIn K (.ref f) = true
section
variable {P : Program} {w : World} {K : PySem.W.Frag} {mg : Str → Option Value} {base : Heap}
theorem Fun.ok {x qual : Str} {st : Stmt} {f : Addr} {fd : FuncData} {N ps : List Str} {k : Nat} {sp : Sp} (F : Fun K x qual st f fd) (S : FnScope N ps (defScope st)) (len : ∀ vs H Q E, sp vs H Q E → vs.length = ps.length)
    (hbody : ∀ (cdv : Value) (A : Around) (outer : List Env) (s : Shared) (H : Hp) (vs : List V) (Q : VK) (E : XK), Room k (A.deeper (envOfC qual (defScope st) s.heap.objs.size f cdv)) → sp vs H Q E →
      ∃ t, PSs (cxOf CX0 P w K mg base N qual (defScope st) f cdv A outer s H E).nox (defBody st) t ∧ t { nx := fun _ H' => Q .non H', rt := Q } (start N vs) H) : FnOk P w K mg base CX0 (k + 1) f fd ps sp := by
  obtain ⟨oc, od, kV, doc, pm, an, cdv, ct, osl, rfl, lk, hcd⟩ := F.ex
  refine fn_of lk hcd S len fun A outer s H vs Q E hr hsp => ?_
  obtain ⟨t, h, q⟩ := hbody cdv A outer s H vs Q E hr hsp
  exact ⟨t, h.nox, q⟩
theorem Fun.binds {x qual : Str} {st : Stmt} {f : Addr} {fd : FuncData} {ps : List Str} (F : Fun K x qual st f fd)
    (h : ∀ (kV doc pm : Value) (an : Option Addr) (cdv ct : Value) (us : List Value), us.length = ps.length → bindArgs (PySem.W.fnOf x qual (defArgs st) (defBody st) (defScope st) .none kV doc pm an cdv ct) ⟨us, []⟩ = pure (ps.zip us)) : Binds K fd ps [] := by
  obtain ⟨oc, od, kV, doc, pm, an, cdv, ct, osl, rfl, lk, hcd⟩ := F.ex
  exact .all (h kV doc pm an cdv ct)
theorem fun_mk {x qual : Str} {st : Stmt} {f : Addr} {oc : Value} {od an : Option Addr} {osl : Array (Option Value)} {kV doc pm cdv ct : Value} (l : K.lookup f = some ⟨oc, od, .func (PySem.W.fnOf x qual (defArgs st) (defBody st) (defScope st) .none kV doc pm an cdv ct), osl⟩)
    (c : PySem.W.codeIn K cdv qual = true) (k : PySem.W.keepIn K (.ref f) = true) : Fun K x qual st f (PySem.W.fnOf x qual (defArgs st) (defBody st) (defScope st) .none kV doc pm an cdv ct) := ⟨⟨oc, od, kV, doc, pm, an, cdv, ct, osl, rfl, l, c⟩, k⟩
end
theorem small1000 {n : Nat} (h : n ≤ 1000) : n < sizeLine := Nat.lt_of_le_of_lt h (by decide)

section
variable {X : Cx}
theorem pv (i : Nat) {x : Str} {pos : Pos} (hN : X.N[i]? = some x := by rfl) (hv : Vis X.env.scope x := by first | exact Or.inl rfl | exact Or.inr (Or.inl rfl) | exact Or.inr (Or.inr rfl)) (hd : (x == ("__debug__" : Str)) = false := by decide)
    (hcd : (x == ("__classdict__" : Str)) = false := by decide) : PE X (.Name x pos) (tVar i) := pe_var hN hv hd hcd
end

theorem iteF {A B : Prop} (h : B) : if false = true then A else B := by
  rw [if_neg Bool.false_ne_true]
  exact h
theorem iteT {A B : Prop} (h : A) : if true = true then A else B := by
  rw [if_pos rfl]
  exact h
theorem ite2 {c A B : Prop} [Decidable c] (h1 : c → A) (h2 : ¬ c → B) : if c then A else B := by
  by_cases h : c
  · rw [if_pos h]
    exact h1 h
  · rw [if_neg h]
    exact h2 h
theorem iteNS {c A B : Prop} [Decidable c] (hc : c) (h : B) : if (!decide c) = true then A else B := by
  rw [decide_eq_true hc]
  exact iteF h

noncomputable def Same (H H' : Hp) : Prop := ∀ b o, H b = some o → H' b = some o
theorem Same.refl (H : Hp) : Same H H := fun _ _ h => h
theorem Same.trans {H H1 H2 : Hp} (a : Same H H1) (b : Same H1 H2) : Same H H2 := fun c o h => b c o (a c o h)
theorem Same.free {H H' : Hp} (e : Same H H') {l : Addr} (h : H' l = Option.none) : H l = Option.none := by
  cases q : H l with
  | none => rfl
  | some o =>
    rw [e l o q] at h
    cases h
theorem Same.seq {K : PySem.W.Frag} {H H' : Hp} {a : Addr} {xs : List V} (e : Same H H') (h : SqL K H a xs) : SqL K H' a xs := by
  rcases h with (h | ⟨o, h⟩) | h
  · exact .inl (.inl (e _ _ h))
  · exact .inl (.inr ⟨o, e _ _ h⟩)
  · exact .inr h

end L2
set_option Elab.async false
set_option linter.all false
set_option maxRecDepth 100000
namespace L2
open PySem PySem.Spec PyProof.Rows

section
variable {κ : Type} [DecidableEq κ]
end


noncomputable abbrev KT (H : Hp) : List (List Key × V) → List (List Key × Addr × Value) → Prop := Paired fun p q => p.1 = q.1 ∧ H q.2.1 = some (.tup (p.1.map kV)) ∧ RelV p.2 q.2.2
section
variable {P : Program} {w : World} {H : Hp} {h : Heap} {a : Addr}
end

section
variable {X : Cx} {pins : List (Addr × Obj)} {σ : St} {H : Hp} {s : Shared} {a : Addr} {y v : V} {u r : Value} {o : Option V} {A : Around} {E : Value → Shared → Prop}

end

section
variable {X : Cx} {pins : List (Addr × Obj)} {σ : St} {H : Hp} {s : Shared} {a : Addr} {kvs : List (Key × V)} {k : Key} {u : Value} {A : Around} {E : Value → Shared → Prop}
end


section
variable {X : Cx} {o i e value : Expr} {pos pos' tpos : Pos} {td ty tv : TE}
end


section
variable {X : Cx} {pos : Pos}
end

structure M1 (X : Cx) (o : Expr) (m : Str) (apos : Pos) (e : Expr) (cpos : Pos) : Prop where
  base : attributeBase o m X.env (eval o X.env) = eval o X.env
  few : ((backTo cpos (starEach [e] X.env)).all (fun x => !x.1) && (backToKw cpos (keywordEach [] X.env)).all (fun x => x.1.isSome)
    && decide (([e] : List Expr).length + ([] : List Keyword).length + (if ([] : List Keyword).isEmpty then 0 else 1) < 30)) = true
  line : (apos.endLine == cpos.line) = true
  trees : backTo cpos (starEach [e] X.env) = [(false, eval e X.env)]
section
variable {X : Cx} {pins : List (Addr × Obj)} {σ : St} {H : Hp} {s : Shared} {a : Addr} {y d : V} {u r : Value} {o : Option V} {A : Around} {E : Value → Shared → Prop}
end

section
variable {X : Cx} {o e f : Expr} {apos cpos : Pos} {td ty tx : TE}
end

section
variable {X : Cx} {pins : List (Addr × Obj)} {σ : St} {H : Hp} {s : Shared} {a : Addr} {kvs : List (Key × V)} {A : Around} {E : Value → Shared → Prop}
end


section
variable {X : Cx} {pins : List (Addr × Obj)} {σ : St} {H : Hp} {s : Shared} {a : Addr} {y : V} {u : Value} {A : Around} {E : Value → Shared → Prop}
end
end L2
namespace L2
open PySem PySem.Spec PyProof.Rows
section
variable {X : Cx}
end
section
variable {κ : Type} [DecidableEq κ]
end
end L2
set_option Elab.async false
set_option linter.all false
set_option maxRecDepth 100000
set_option maxHeartbeats 4000000
namespace L3
open PySem PySem.Spec PyProof.Rows L2
noncomputable abbrev St := L2.St
noncomputable abbrev V := L2.V

noncomputable abbrev NoX : Value → Shared → Prop := fun _ _ => False
theorem noX_any {α : Type} {M : Model} {A : Around} {t : Sem α} {Q : α → Shared → Prop} {E : Value → Shared → Prop} {s : Shared} (h : wpAny M A t Q NoX s) : wpAny M A t Q E s :=
  wpAny_mono h (fun _ _ q => q) fun _ _ z => False.elim z

theorem comp_turns {prog : Program} {w : World} {A : Around} {R : Result → Shared → Prop} {s : Shared} {elt tg iter : Expr} {ifs : List Expr} {scope : Scope} {pos : Pos} {it acc : Value} {env : Env} (I : Nat → Shared → Prop)
    (turn : ∀ n s, I n s → wpAny (model prog w) A (pyNext it) (fun r s1 => match r with
      | none => R (.ok .next) s1
      | some v => wpAny (model prog w) A (letOwnedTupleGo tg it v) (fun _ s2 => wpAny (model prog w) A (assign tg env v) (fun _ s3 =>
          wpAny (model prog w) A (forIn ifs true fun c r => if r = true then do let ok ← isTrue c env (eval c env); pure (ForInStep.yield ok) else pure (ForInStep.yield r)) (fun ok s4 =>
            if ok = true then wpAny (model prog w) A (eval elt env) (fun x s5 => wpAny (model prog w) A (call (.builtin "list.append") [acc, x]) (fun _ s6 => ∃ m, m < n ∧ I m s6) NoX s5) NoX s4
            else ∃ m, m < n ∧ I m s4) NoX s3) NoX s2) NoX s1) NoX s)
    (n : Nat) (h : I n s) : codeAny (model prog w) A (.compLoop (.ListComp elt [⟨tg, iter, ifs, 0⟩] scope pos) 0 it acc env) R s := by
  refine codeAny_loop rfl I (fun n s hI => ?_) n h
  show wpAny _ A ((compTurn (.ListComp elt [⟨tg, iter, ifs, 0⟩] scope pos) 0 it acc env).onRaise (fun x => do noteFrame x env; theTreesLotGoes x)) _ _ s
  refine wpAny_noted (noX_any ?_)
  rw [compTurn_list]
  refine wpAny_bind (wpAny_standAt (wpAny_bind (wpAny_mono (turn n s hI) (fun r s1 h1 => ?_) fun _ _ z => z)))
  cases r with
  | none => exact wpAny_pure h1
  | some v =>
    refine wpAny_bind (wpAny_mono h1 (fun _ s2 h2 => wpAny_bind (wpAny_mono h2 (fun _ s3 h3 => wpAny_bind (wpAny_mono h3 (fun ok s4 h4 => ?_) fun _ _ z => z)) fun _ _ z => z)) fun _ _ z => z)
    cases ok with
    | false => exact wpAny_pure ⟨rfl, h4⟩
    | true => exact wpAny_bind (wpAny_bind (wpAny_mono h4 (fun x s5 h5 => wpAny_bind (wpAny_mono h5 (fun _ s6 h6 => wpAny_pure (wpAny_pure ⟨rfl, h6⟩)) fun _ _ z => z)) fun _ _ z => z))

noncomputable def caps (cs : List (Option Nat)) (σ : St) : St := cs.map fun o => o.bind fun j => (σ[j]?).bind id
noncomputable def cxComp (X : Cx) (N' : List Str) (scope : Scope) (cl : List (Str × Addr)) (C : Addr) (s3 : Shared) (H3 : Hp) (fp : List Addr) (pn : List (Addr × Obj)) : Cx :=
  { X with N := N', s₀ := s3, H₀ := H3, env := compEnvC scope cl C X.env, outer := X.stack, stack := X.stack, ex := fp, fn := fun _ => false, pn := pn, xe := fun _ _ => False }
noncomputable def CellK (k : Option NameKind) : Prop := k = some .cell ∨ k = some .free
inductive Caps (X : Cx) (scope : Scope) (cl : List (Str × Addr)) : List Str → List (Option Nat) → Prop
  | nil : Caps X scope cl [] []
  | own {x N cs} : Caps X scope cl N cs → Caps X scope cl (x :: N) (none :: cs)
  | cap {x j N cs} (h1 : X.N[j]? = some x) (h2 : CellK (X.env.kindOf x)) (h3 : CellK ((relabel scope X.env).names.lookup x)) (h4 : cl.lookup x = X.env.cells.lookup x) :
      Caps X scope cl N cs → Caps X scope cl (x :: N) (some j :: cs)
theorem Caps.len {X : Cx} {scope : Scope} {cl : List (Str × Addr)} {N cs} (h : Caps X scope cl N cs) : cs.length = N.length := by
  induction h with
  | nil => rfl
  | own _ ih => simp [ih]
  | cap _ _ _ _ _ ih => simp [ih]
theorem Caps.get {X : Cx} {scope : Scope} {cl : List (Str × Addr)} {N cs} (h : Caps X scope cl N cs) {σ : St} : ∀ {i : Nat} {x : Str} {v : V}, N[i]? = some x → (caps cs σ)[i]? = some (some v) →
    ∃ j : Nat, X.N[j]? = some x ∧ σ[j]? = some (some v) ∧ CellK (X.env.kindOf x) ∧ CellK ((relabel scope X.env).names.lookup x) ∧ cl.lookup x = X.env.cells.lookup x := by
  induction h with
  | nil => intro i x v h1 h2; simp at h1
  | own _ ih =>
    intro i x v h1 h2
    cases i with
    | zero => simp [caps] at h2
    | succ i => exact ih (i := i) (by simpa using h1) (by simpa [caps] using h2)
  | @cap y j N cs a1 a2 a3 a4 _ ih =>
    intro i x v h1 h2
    cases i with
    | zero =>
      simp at h1
      subst h1
      refine ⟨j, a1, ?_, a2, a3, a4⟩
      simp [caps] at h2
      cases q : σ[j]? with
      | none => rw [q] at h2; simp at h2
      | some o =>
        rw [q] at h2
        simp at h2
        rw [h2]
    | succ i => exact ih (i := i) (by simpa using h1) (by simpa [caps] using h2)
noncomputable def clOk (cl : List (Str × Addr)) (names : List (Str × NameKind)) : Bool := names.all fun y => (y.2 != .cell && y.2 != .free) || (cl.lookup y.1).isSome
theorem clOk_has {cl : List (Str × Addr)} {names : List (Str × NameKind)} (h : clOk cl names = true) {x : Str} (k : CellK (names.lookup x)) : ∃ c, cl.lookup x = some c := by
  have key : ∀ q : NameKind, names.lookup x = some q → (q = .cell ∨ q = .free) → ∃ c, cl.lookup x = some c := fun q e hq => by
    have m := List.all_eq_true.mp h (x, q) (PySem.mem_of_lookup e)
    rcases hq with rfl | rfl
    · exact Option.isSome_iff_exists.mp (by simpa using m)
    · exact Option.isSome_iff_exists.mp (by simpa using m)
  rcases k with k | k
  · exact key _ k (.inl rfl)
  · exact key _ k (.inr rfl)

noncomputable def PIfs (X : Cx) (ifs : List Expr) (t : TT) : Prop :=
  ∀ (pins : List (Addr × Obj)) (s : Shared) (σ : St) (H : Hp) (Q : Bool → Hp → Prop), Inv X pins σ H s → t σ H Q →
    wpAny (model X.prog X.w) X.A (forIn ifs true fun c r => if r = true then do let ok ← isTrue c X.env (eval c X.env); pure (ForInStep.yield ok) else pure (ForInStep.yield r)) (TP X pins σ Q) X.xe s
noncomputable def tAll : TT := fun _ H Q => Q true H
theorem pif_nil {X : Cx} : PIfs X [] tAll := fun _ _ _ H _ I h => wpAny_tests_nil ⟨H, I, h⟩
noncomputable def tLC (wi : TI) (cs : List (Option Nat)) (g : TG) (tt : TT) (te : TE) : TE := fun σ H Q => wi σ H fun J H1 => ∀ D, H1 D = none →
  ∃ W : Nat → Nat → List V → St → Hp → Prop, (∃ m, W 0 m [] (caps cs σ) (upd H1 D (.lst []))) ∧ ∀ i m ys σ' H', W i m ys σ' H' → H' D = some (.lst ys) ∧ ys.length < sizeLine ∧
    ((J.stop i H' ∧ Q (.ref D) H') ∨ (J.go i H' ∧ ∀ x H2, J.yld i H' x H2 → g x σ' H2 fun σ3 H3 => tt σ3 H3 fun b H4 =>
      if b = true then te σ3 H4 fun y H5 => H5 D = some (.lst ys) ∧ ∃ m', m' < m ∧ W (i + 1) m' (ys ++ [y]) σ3 (upd H5 D (.lst (ys ++ [y])))
      else ∃ m', m' < m ∧ W (i + 1) m' ys σ3 H4))

section
variable {X : Cx} {elt tg iter : Expr} {ifs : List Expr} {scope : Scope} {pos : Pos} {N' : List Str} {cs : List (Option Nat)} {cl : List (Str × Addr)} {wi : TI} {g : TG} {tt : TT} {te : TE}

theorem hok_but {P : Program} {w : World} {H : Hp} {h h' : Heap} {C : Addr} (ok : HOk P w H h) (hC : H C = none) (hs : Heap.SameBut C h h') : HOk P w H h' := fun b ob e => by
  refine (ok b ob e).stay (fun c u hc q => (hs.2 c ?_).trans q) (fun _ q => q) fun _ _ q => q
  rintro rfl
  rcases hc with rfl | hc
  · rw [hC] at e; cases e
  · rw [hC] at hc; cases hc

theorem lc_any {use : Option (Value → Sem Unit)} {QQ : Value → Shared → Prop} {pins : List (Addr × Obj)} {s : Shared} {σ : St} {H : Hp} {Q : VK} {fpos : Pos} (hc : X.calm = true) (hi : PI X tg iter wi) (hclos : closureFor scope X.env = pure cl) (hcell : ∀ y ∈ scope.names, y.2 ≠ .cell) (hkind : scope.kind = .function)
    (hnames : ∀ y ∈ scope.names, y.2 = .local → scope.names.lookup y.1 = some .local) (hsub : ∀ x c, cl.lookup x = some c → X.env.cells.lookup x = some c)
    (hok : clOk cl (relabel scope X.env).names = true) (hcaps : Caps X scope cl N' cs)
    (hb : ∀ (C : Addr) (s3 : Shared) (H3 : Hp) (fp : List Addr) (pn : List (Addr × Obj)), PG (cxComp X N' scope cl C s3 H3 fp pn) tg g ∧ PIfs (cxComp X N' scope cl C s3 H3 fp pn) ifs tt ∧ PE (cxComp X N' scope cl C s3 H3 fp pn) elt te)
    (hs : ∀ x, foldedSetIterable iter X.env x = pure x := by intro _; rfl) (I : Inv X pins σ H s) (h : tLC wi cs g tt te σ H Q)
    (post : ∀ (D C : Addr) (s4 : Shared) (H' : Hp) (m : Str → Option Value), Inv X pins σ H' s4 → s4.heap.Ns C m → FpOk X pins H' C → Q (.ref D) H' → compPost (model X.prog X.w) X.A X.xe use QQ (.ref D) C (.ok .next) s4) :
    wpAny (model X.prog X.w) X.A (comprehension (.ListComp elt [⟨tg, iter, ifs, 0⟩] scope pos) scope X.env fpos (newList []) false (eval iter X.env) use) QQ X.xe s := by
  refine wpAny_comprehension_free (use := use) rfl hs hclos hkind hnames (thn (hi pins s σ H _ I h) fun v s1 h1 => thn h1 fun itv s2 h2 => ?_)
  obtain ⟨it, fp, tn, J, H2, rfl, I2, T, st2, f2, q2⟩ := h2
  refine wpAny_newObj_type (wpAny_newFunctionEnv hcell (by intro y hy; simp at hy) (fun h1 hns1 hsb1 => ?_) hkind)
  dsimp only at hns1 hsb1 ⊢
  have I3 : Inv X pins σ (upd H2 s2.heap.objs.size (.lst [])) { s2 with heap := s2.heap.push { cls := .type "list", data := .seq ([] : List Value).toArray }, toks := s2.toks } := I2.lnew (its := []) (ys := []) .nil (Nat.zero_le _)
  have hDf : H2 s2.heap.objs.size = none := I2.fresh
  obtain ⟨W, ⟨m0, w0⟩, turn⟩ := q2 _ hDf
  generalize hH3 : s2.heap.push { cls := .type "list", dict := none, data := .seq ([] : List Value).toArray } = h3 at hns1 hsb1 I3 ⊢
  have hsz3 : h3.objs.size = s2.heap.objs.size + 1 := by rw [← hH3, Heap.size_push]
  generalize hD : s2.heap.objs.size = D at *
  have kept : ∀ b o, h3.get? b = some o → h1.get? b = some o := fun b o e => hsb1.extBut b o (Nat.ne_of_lt (Heap.lt_size e)) (Heap.get?_push_of_some _ e)
  have old : ∀ b o, s2.heap.get? b = some o → h3.get? b = some o := fun b o e => by rw [← hH3]; exact Heap.get?_push_of_some _ e
  have fpo : ∀ b ∈ fp, b < D := fun b hb' => by
    obtain ⟨o, e, _⟩ := T.obj 0 _ st2 b hb'
    rw [← hD]
    exact Heap.lt_size e
  have fpfs : ∀ b ∈ fp, b ∉ frs X.stack := fun b hb' z => by
    obtain ⟨_, f1, f3, _⟩ := f2 b hb'
    rcases List.mem_cons.mp (I2.stkSub b z) with e | e
    · exact f1 e
    · exact f3 e
  -- the block's context
  generalize hX : cxComp X N' scope cl h3.objs.size { s2 with heap := h3, toks := s2.toks } (upd H2 D (.lst [])) fp (X.pn ++ pins) = X'
  obtain ⟨hg, hif, he⟩ := hb h3.objs.size { s2 with heap := h3, toks := s2.toks } (upd H2 D (.lst [])) fp (X.pn ++ pins)
  rw [hX] at hg hif he
  have eP : X'.prog = X.prog := by rw [← hX]; rfl
  have eW : X'.w = X.w := by rw [← hX]; rfl
  have eK : X'.K = X.K := by rw [← hX]; rfl
  have eC : X'.calm = X.calm := by rw [← hX]; rfl
  have I4 : Inv X' [] (caps cs σ) (upd H2 D (.lst [])) { s2 with heap := h1, toks := s2.toks + 0 } := by
    rw [← hX]
    refine ⟨⟨I3.ok.mod, hkind, I3.ok.glob, I3.ok.blt, Nat.le_refl _, fun x y c e1 e2 => I3.ok.inj x y c (hsub _ _ e1) (hsub _ _ e2), fun x hx => clOk_has hok hx, fun x c z _ => absurd (show false = true from z) Bool.false_ne_true, I3.ok.hd, I3.ok.frames, .inl rfl,
      fun b hb' => ⟨fun e => ?_, fun x c e => (f2 b hb').2.2.2.2.1 x c (hsub _ _ e)⟩, I3.bs, Nat.le_trans I3.ok.bsz I3.sz, fun b o e hb' => ?_, fpfs, I3.stack, I3.stkFree⟩, rfl, I3.bare, Un.kept kept, ⟨_, hns1, fun i x v e1 e2 e3 => ?_⟩, fun x c e => ?_, I3.hok.fresh (Nat.le_refl _), fun x c e => I3.freeC x c (hsub _ _ e),
      fun p hp => ?_, I3.hok.kept kept, ?_⟩
    · have l := fpo b hb'
      rw [show b = h3.objs.size from e, hsz3] at l
      exact Nat.lt_irrefl _ (Nat.lt_of_succ_lt l)
    · have l := fpo b hb'
      rcases (f2 b hb').2.2.2.1 with z | z
      · exact I2.ok.noex b o e z
      · exact absurd (Nat.lt_of_lt_of_le (Heap.lt_size (I2.ok.bs b o e).1) z) (Nat.lt_irrefl _)
    · obtain ⟨j, a1, a2, a3, a4, a5⟩ := hcaps.get e1 e2
      obtain ⟨m, hn, hl⟩ := I3.loc
      obtain ⟨u, ru, l⟩ := hl j x v a1 a2 (by rcases a3 with z | z; exact .inr (.inl z); exact .inr (.inr z))
      refine ⟨u, ru, .inr ⟨a4, ?_⟩⟩
      rcases l with ⟨k, _⟩ | ⟨k, c, e, z⟩
      · rcases a3 with q | q <;> (rw [k] at q; cases q)
      · obtain ⟨o, ho, hd⟩ := z
        exact ⟨c, a5.trans e, o, kept c o ho, hd⟩
    · obtain ⟨v, o, ho, hd⟩ := I3.cell x c (hsub _ _ e)
      exact ⟨v, o, kept c o ho, hd⟩
    · have hp' : p ∈ X.pn ++ pins := by simpa [cxComp] using hp
      obtain ⟨e, n, ne, nf, d⟩ := I3.pin p hp'
      refine ⟨kept _ _ e, n, Nat.ne_of_lt (Heap.lt_size e), fun z => ?_, d⟩
      rcases List.mem_cons.mp (I3.stkSub p.1 z) with q | q
      · exact ne q
      · exact nf q
    · show (caps cs σ).length = N'.length
      rw [caps, List.length_map]
      exact hcaps.len
  have tn1 : tn 0 h1 := T.keep 0 _ _ st2 fun b hb' o e => kept b o (old b o e)
  have stat : ∀ {H' : Hp}, (∀ b ∈ fp, H' b = none) → ∀ b ∈ fp, FpOk X' [] H' b := fun {H'} hn b hb' => by
    rw [← hX]
    refine ⟨hn b hb', fun e => ?_, fpfs b hb', .inl hb', fun x c e => (f2 b hb').2.2.2.2.1 x c (hsub _ _ e), fun p hp => (f2 b hb').2.2.2.2.2 p (by simpa [cxComp] using hp)⟩
    have l := fpo b hb'
    rw [show b = h3.objs.size from e, hsz3] at l
    exact Nat.lt_irrefl _ (Nat.lt_of_succ_lt l)
  have fr0 : ∀ b ∈ fp, (upd H2 D (.lst [])) b = none := fun b hb' => by
    rw [upd_ne (Nat.ne_of_lt (fpo b hb'))]
    exact (f2 b hb').1
  have xA : X'.A = X.A := by rw [← hX]; rfl
  have xE : X'.env = compEnvC scope cl h3.objs.size X.env := by rw [← hX]; rfl
  have xX : X'.xe = NoX := by rw [← hX]; rfl
  have loop : codeAny (model X.prog X.w) X.A (.compLoop (.ListComp elt [⟨tg, iter, ifs, 0⟩] scope pos) 0 (.ref it) (.ref D) (compEnvC scope cl h3.objs.size X.env))
      (compPost (model X.prog X.w) X.A X.xe use QQ (.ref D) h3.objs.size) { s2 with heap := h1, toks := s2.toks + 0 } := by
    refine comp_turns (fun n s' => ∃ i ys σ' H', Inv X' [] σ' H' s' ∧ tn i s'.heap ∧ (∀ b ∈ fp, H' b = none) ∧ W i n ys σ' H') ?_ m0 ⟨0, [], _, _, I4, tn1, fr0, w0⟩
    rintro n s' ⟨i, ys, σ', H', I', st', fr', w'⟩
    obtain ⟨hHD, hyl, hor⟩ := turn i n ys σ' H' w'
    rcases hor with ⟨stop, q⟩ | ⟨go, step⟩
    · have hd := T.done X' eP eW eK (eC.trans hc) i [] s' σ' H' NoX I' (stat fr') st' stop
      rw [xA] at hd
      refine thn hd fun r s4 hr => ?_
      obtain ⟨rfl, I5⟩ := hr
      obtain ⟨m, hn, _⟩ := id I5.loc
      have eL : X'.env.locals = h3.objs.size := by rw [xE]; rfl
      have hfree : H' h3.objs.size = none := by rw [← eL]; exact I5.free
      have bu := I5.base
      rw [← hX] at bu
      have hos : s4.os = s2.os := by
        have z := I5.os
        rw [← hX] at z
        exact z
      have hk5 := I5.hok
      rw [eP, eW] at hk5
      have Iout : Inv X pins σ H' s4 := I3.call' (s' := s4) (ch := fp) hos ⟨bu.keep, bu.slot, bu.free, bu.there, bu.tups, bu.frzs, bu.tbls⟩ hk5 I5.bare fun b hb' => by
        obtain ⟨_, g1, _, g3, g4, g5⟩ := f2 b hb'
        exact ⟨g3, g1, g4, g5⟩
      exact post D h3.objs.size s4 H' m Iout (by rw [eL] at hn; exact hn) (I3.fpOk (Nat.le_refl _) hfree) q
    · have hit := T.item X' eP eW eK (eC.trans hc) i [] s' σ' H' NoX I' (stat fr') st' go
      rw [xA] at hit
      refine thn hit fun r s4 hr => ?_
      obtain ⟨u, rfl, h4⟩ := hr
      refine thn h4 fun _ s5 h5 => ?_
      obtain ⟨x, H5, I5, r5, y5, st5, fr5⟩ := h5
      have I5' := I5.pinned (stat fr5) (T.obj _ _ st5)
      have ha := hg _ s5 σ' H5 x u _ I5' r5 (step x H5 y5)
      rw [xA, xE, xX, eP, eW] at ha
      refine thn ha fun _ s6 h6 => ?_
      obtain ⟨σ6, H6, I6, q6⟩ := h6
      have ht := hif _ s6 σ6 H6 _ I6 q6
      rw [xA, xE, xX, eP, eW] at ht
      refine thn ht fun ok s7 h7 => ?_
      obtain ⟨H7, I7, q7⟩ := h7
      have back : ∀ {σ8 : St} {H8 : Hp} {s8 : Shared} {ys' : List V} {m' : Nat}, Inv X' ([] ++ pinsAt fp s5.heap) σ8 H8 s8 → m' < n → W (i + 1) m' ys' σ8 H8 →
          ∃ m, m < n ∧ ∃ i ys σ' H', Inv X' [] σ' H' s8 ∧ tn i s8.heap ∧ (∀ b ∈ fp, H' b = none) ∧ W i m ys σ' H' := fun {σ8 H8 s8 ys' m'} I8 hm w8 => by
        refine ⟨m', hm, i + 1, ys', σ8, H8, I8.unpinned, T.keep _ _ _ st5 fun b hb' o e => (I8.pin (b, o) (List.mem_append_right _ (List.mem_append_right _ (mem_pinsAt hb' e)))).1, fun b hb' => ?_, w8⟩
        obtain ⟨o, e, d⟩ := T.obj _ _ st5 b hb'
        exact (I8.pin (b, o) (List.mem_append_right _ (List.mem_append_right _ (mem_pinsAt hb' e)))).2.1
      cases ok with
      | false =>
        rw [if_neg Bool.false_ne_true] at q7 ⊢
        obtain ⟨m', hm, w7⟩ := q7
        exact back I7 hm w7
      | true =>
        rw [if_pos rfl] at q7 ⊢
        have hel := he _ s7 σ6 H7 _ I7 q7
        rw [xA, xE, xX, eP, eW] at hel
        refine thn hel fun yv s8 h8 => ?_
        obtain ⟨y, H8, I8, r8, hD8, m', hm, w8⟩ := h8
        have hap := mt_append (X := X') _ s8 σ6 H8 (.ref D) [y] (.ref D) [yv] (fun _ H9 => H9 = upd H8 D (.lst (ys ++ [y]))) I8 rfl (.cons r8 .nil) ⟨D, ys, y, rfl, rfl, hD8, hyl, rfl⟩
        rw [xA, xX, eP, eW] at hap
        refine thn hap fun _ s9 h9 => ?_
        obtain ⟨_, H9, I9, _, rfl⟩ := h9
        exact back I9 hm w8
  exact codeAny_compStart_list loop (T.self _ 0 _ _ _ tn1 loop)
theorem pe_lc (hc : X.calm = true) (hi : PI X tg iter wi) (hclos : closureFor scope X.env = pure cl) (hcell : ∀ y ∈ scope.names, y.2 ≠ .cell) (hkind : scope.kind = .function)
    (hnames : ∀ y ∈ scope.names, y.2 = .local → scope.names.lookup y.1 = some .local) (hsub : ∀ x c, cl.lookup x = some c → X.env.cells.lookup x = some c)
    (hok : clOk cl (relabel scope X.env).names = true) (hcaps : Caps X scope cl N' cs)
    (hb : ∀ (C : Addr) (s3 : Shared) (H3 : Hp) (fp : List Addr) (pn : List (Addr × Obj)), PG (cxComp X N' scope cl C s3 H3 fp pn) tg g ∧ PIfs (cxComp X N' scope cl C s3 H3 fp pn) ifs tt ∧ PE (cxComp X N' scope cl C s3 H3 fp pn) elt te)
    (hs : ∀ x, foldedSetIterable iter X.env x = pure x := by intro _; rfl) : PE X (.ListComp elt [⟨tg, iter, ifs, 0⟩] scope pos) (tLC wi cs g tt te) := by
  intro pins s σ H Q I h
  rw [eval_ListComp]
  refine lc_any hc hi hclos hcell hkind hnames hsub hok hcaps hb hs I h fun D C s4 H' m I4 hn fC q => ⟨m, hn, fun h' hsb => ⟨.ref D, H', ?_, rfl, q⟩⟩
  obtain ⟨f0, f1, f2, f3, f4, f5⟩ := fC
  exact I4.turned (t' := s4.toks) (fun b o hb e => (hsb.2 b hb).trans e) f0 f1 f3 f4 f5
end

noncomputable def Wk (J : It) (H1 : Hp) (xs : List V) : Prop := ∀ H', Same H1 H' → J.stop xs.length H' ∧ (∀ i, i < xs.length → J.go i H') ∧ ∀ i x H2, i < xs.length → J.yld i H' x H2 → H2 = H' ∧ xs[i]? = some x
theorem wk_list {K : PySem.W.Frag} {a : Addr} {xs : List V} {H1 : Hp} (h : SqL K H1 a xs) : Wk (Itl K a) H1 xs := fun H' sm =>
  ⟨⟨xs, sm.seq h, Nat.le_refl _⟩, fun i hi => ⟨xs, xs[i], sm.seq h, by simp [hi]⟩, fun i x H2 _ y => ⟨y.1, y.2 xs (sm.seq h)⟩⟩
theorem wk_range {H1 : Hp} (lo : Int) (n : Nat) : Wk (Itr lo n) H1 ((List.range n).map fun i : Nat => V.int (lo + i)) := fun H' _ =>
  ⟨by show n ≤ _; simp, fun i hi => (by simpa using hi : i < n), fun i x H2 hi y => by
    obtain ⟨e1, e2⟩ := y
    have hi' : i < n := by simpa using hi
    refine ⟨e1, ?_⟩
    rw [e2]
    simp [hi']⟩
theorem for_wk {J : It} {xs : List V} {g : TG} {tb : TS} {D : Ends} {σ : St} {H : Hp} (Pv : Nat → St → Hp → Prop) (wk : Wk J H xs) (h0 : Pv 0 σ H) (hm : ∀ i σ' H', Pv i σ' H' → Same H H')
    (hs : ∀ i x σ' H', xs[i]? = some x → Pv i σ' H' → g x σ' H' fun σ2 H2 => tb { D with nx := Pv (i + 1), ct := Pv (i + 1), bk := D.nx } σ2 H2) (hd : ∀ σ' H', Pv xs.length σ' H' → D.nx σ' H') :
    ∃ W : Nat → Nat → St → Hp → Prop, (∃ m, W 0 m σ H) ∧ ∀ i m σ H, W i m σ H →
      (J.stop i H ∧ D.nx σ H) ∨ (J.go i H ∧ ∃ N : St → Hp → Prop, (∀ σ' H', N σ' H' → ∃ m', m' < m ∧ W (i + 1) m' σ' H') ∧ ∀ x H', J.yld i H x H' → g x σ H' fun σ2 H2 => tb { D with nx := N, ct := N, bk := D.nx } σ2 H2) := by
  refine ⟨fun i m σ' H' => m = xs.length - i ∧ i ≤ xs.length ∧ Pv i σ' H', ⟨xs.length, by simp, Nat.zero_le _, h0⟩, ?_⟩
  rintro i m σ' H' ⟨rfl, hi, p⟩
  obtain ⟨w1, w2, w3⟩ := wk H' (hm i σ' H' p)
  by_cases hlt : i < xs.length
  · refine .inr ⟨w2 i hlt, Pv (i + 1), fun σ2 H2 p' => ⟨xs.length - (i + 1), by omega, rfl, hlt, p'⟩, fun x H2 y => ?_⟩
    obtain ⟨rfl, ex⟩ := w3 i x H2 hlt y
    exact hs i x σ' _ ex p
  · have e : i = xs.length := by omega
    subst e
    exact .inl ⟨w1, hd σ' H' p⟩
theorem lc_wk {J : It} {xs : List V} {cs : List (Option Nat)} {σ rest : St} {tt : TT} {te : TE} {Q : VK} {H1 : Hp} (hcs : caps cs σ = none :: rest) (wk : Wk J H1 xs) (hl : xs.length < sizeLine) (p : V → Bool) (f : V → V)
    (test : ∀ (i : Nat) (x : V) (H2 : Hp) (R : Bool → Hp → Prop), xs[i]? = some x → Same H1 H2 → (∀ H5, Same H2 H5 → R (p x) H5) → tt (some x :: rest) H2 R)
    (elt : ∀ (i : Nat) (x : V) (H2 : Hp) (R : VK), xs[i]? = some x → p x = true → Same H1 H2 → (∀ H5, Same H2 H5 → R (f x) H5) → te (some x :: rest) H2 R)
    (fin : ∀ (D : Addr) (H' : Hp), H1 D = none → H' D = some (.lst ((xs.filter p).map f)) → Same H1 H' → Q (.ref D) H') :
    ∀ D, H1 D = none → ∃ W : Nat → Nat → List V → St → Hp → Prop, (∃ m, W 0 m [] (caps cs σ) (upd H1 D (.lst []))) ∧ ∀ i m ys σ' H', W i m ys σ' H' → H' D = some (.lst ys) ∧ ys.length < sizeLine ∧
      ((J.stop i H' ∧ Q (.ref D) H') ∨ (J.go i H' ∧ ∀ x H2, J.yld i H' x H2 → gName 0 x σ' H2 fun σ3 H3 => tt σ3 H3 fun b H4 =>
        if b = true then te σ3 H4 fun y H5 => H5 D = some (.lst ys) ∧ ∃ m', m' < m ∧ W (i + 1) m' (ys ++ [y]) σ3 (upd H5 D (.lst (ys ++ [y])))
        else ∃ m', m' < m ∧ W (i + 1) m' ys σ3 H4)) := by
  intro D hD
  refine ⟨fun i m ys σ' H' => m = xs.length - i ∧ i ≤ xs.length ∧ ys = ((xs.take i).filter p).map f ∧ (∃ o, σ' = o :: rest) ∧ Same H1 H' ∧ H' D = some (.lst ys), ⟨xs.length, by simp, Nat.zero_le _, by simp, ⟨none, hcs⟩, fun b o e => ?_, upd_same⟩, ?_⟩
  · rw [upd_ne (ne_of_none e hD)]
    exact e
  · rintro i m ys σ' H' ⟨rfl, hi, rfl, ⟨o, rfl⟩, sm, hHD⟩
    obtain ⟨w1, w2, w3⟩ := wk H' sm
    refine ⟨hHD, Nat.lt_of_le_of_lt ?_ hl, ?_⟩
    · rw [List.length_map]
      refine Nat.le_trans (List.length_filter_le _ _) ?_
      rw [List.length_take]
      exact Nat.min_le_right _ _
    by_cases hlt : i < xs.length
    · refine .inr ⟨w2 i hlt, fun x H2 y => ?_⟩
      obtain ⟨rfl, ex⟩ := w3 i x H2 hlt y
      show tt (some x :: rest) H2 _
      refine test i x H2 _ ex sm fun H4 s4 => ?_
      have tk : xs.take (i + 1) = xs.take i ++ [x] := by rw [List.take_add_one, ex]; rfl
      cases hp : p x with
      | true =>
        refine iteT ?_
        refine elt i x H4 _ ex hp (sm.trans s4) fun H5 s5 => ⟨s5 _ _ (s4 _ _ hHD), xs.length - (i + 1), by omega, rfl, hlt, ?_, ⟨_, rfl⟩, fun b ob e => ?_, upd_same⟩
        · rw [tk, List.filter_append, List.map_append]
          simp [hp]
        · rw [upd_ne (ne_of_none e hD)]
          exact s5 _ _ (s4 _ _ (sm _ _ e))
      | false =>
        refine iteF ⟨xs.length - (i + 1), by omega, rfl, hlt, ?_, ⟨_, rfl⟩, sm.trans s4, s4 _ _ hHD⟩
        rw [tk, List.filter_append, List.map_append]
        simp [hp]
    · have e : i = xs.length := by omega
      subst e
      exact .inl ⟨w1, fin D H' hD (by rw [hHD, List.take_length]) sm⟩
theorem lc_map {J : It} {xs : List V} {cs : List (Option Nat)} {σ rest : St} {te : TE} {Q : VK} {H1 : Hp} (hcs : caps cs σ = none :: rest) (wk : Wk J H1 xs) (hl : xs.length < sizeLine) (f : V → V)
    (elt : ∀ (i : Nat) (x : V) (H2 : Hp) (R : VK), xs[i]? = some x → Same H1 H2 → (∀ H5, Same H2 H5 → R (f x) H5) → te (some x :: rest) H2 R)
    (fin : ∀ (D : Addr) (H' : Hp), H1 D = none → H' D = some (.lst (xs.map f)) → Same H1 H' → Q (.ref D) H') :
    ∀ D, H1 D = none → ∃ W : Nat → Nat → List V → St → Hp → Prop, (∃ m, W 0 m [] (caps cs σ) (upd H1 D (.lst []))) ∧ ∀ i m ys σ' H', W i m ys σ' H' → H' D = some (.lst ys) ∧ ys.length < sizeLine ∧
      ((J.stop i H' ∧ Q (.ref D) H') ∨ (J.go i H' ∧ ∀ x H2, J.yld i H' x H2 → gName 0 x σ' H2 fun σ3 H3 => tAll σ3 H3 fun b H4 =>
        if b = true then te σ3 H4 fun y H5 => H5 D = some (.lst ys) ∧ ∃ m', m' < m ∧ W (i + 1) m' (ys ++ [y]) σ3 (upd H5 D (.lst (ys ++ [y])))
        else ∃ m', m' < m ∧ W (i + 1) m' ys σ3 H4)) :=
  lc_wk hcs wk hl (fun _ => true) f (fun i x H2 R _ _ h => h H2 (Same.refl _)) (fun i x H2 R ex _ sm h => elt i x H2 R ex sm h) fun D H' h1 h2 h3 => fin D H' h1 (by rw [h2, List.filter_eq_self.mpr fun _ _ => rfl]) h3
end L3
set_option Elab.async false
set_option linter.all false
set_option maxRecDepth 100000
set_option maxHeartbeats 4000000
namespace L3
open PySem PySem.Spec PyProof.Rows L2

noncomputable def signs (x : Str) : List V := x.cps.toList.map fun c => V.str ⟨#[c]⟩
noncomputable def Its (x : Str) : It := ⟨fun i _ => i < x.cps.size, fun i H v H' => H' = H ∧ ∃ c, x.cps[i]? = some c ∧ v = .str ⟨#[c]⟩, fun i _ => i = x.cps.size⟩
theorem wk_str {H1 : Hp} (x : Str) : Wk (Its x) H1 (signs x) := fun H' _ => by
  have hl : (signs x).length = x.cps.size := by simp [signs]
  refine ⟨hl, fun i hi => by rw [hl] at hi; exact hi, fun i v H2 hi y => ?_⟩
  obtain ⟨e1, c, e2, e3⟩ := y
  refine ⟨e1, ?_⟩
  subst e3
  have e4 : x.cps.toList[i]? = some c := by simpa using e2
  simp [signs, e4]
theorem turn_str {P : Program} {w : World} {K : PySem.W.Frag} {tg : Expr} (it : Addr) (x : Str) (t : Tok) {ty : String} (hty : ty = "str_ascii_iterator" ∨ ty = "str_iterator") : Turn P w K tg (Its x) [it] it (fun i h => h.IsStrIter it ty x t i) where
  mem := by simp
  obj := fun i h st b hb => by
    have e : b = it := by simpa using hb
    subst e
    obtain ⟨o, e, c, d⟩ := st
    exact ⟨o, e, fun v z => by rw [d] at z; cases z⟩
  keep := fun i h h' st k => by
    obtain ⟨o, e, r⟩ := st
    exact ⟨o, k it (by simp) o e, r⟩
  item := by
    intro X hP hw hK hc i pins s σ H E I hf st hg
    subst hP hw hK
    obtain ⟨f0, f1, f2, f3, f4, f5⟩ := hf it (by simp)
    have hi : i < x.cps.size := hg
    have ec : x.cps[i]? = some x.cps[i] := by simp [hi]
    rcases hty with rfl | rfl
    · refine wpAny_pyNext_ascii_item st ec fun h' st' sb => ?_
      have I1 : Inv X pins σ H { s with heap := h', toks := s.toks + 1 } := I.turned (fun b o hb e => (sb.2 b hb).trans e) f0 f1 f3 f4 f5
      obtain ⟨o, e, c, d⟩ := id st'
      exact ⟨_, rfl, go_of (s := { s with heap := h', toks := s.toks + 1 }) e c d (by decide) ⟨.str ⟨#[x.cps[i]]⟩, H, I1, ⟨_, rfl⟩, ⟨rfl, _, ec, rfl⟩, st', fun b hb => (hf b hb).1⟩⟩
    · refine wpAny_pyNext_wide_item st ec fun h' st' sb => ?_
      have I1 : Inv X pins σ H { s with heap := h', toks := s.toks + 1 } := I.turned (fun b o hb e => (sb.2 b hb).trans e) f0 f1 f3 f4 f5
      obtain ⟨o, e, c, d⟩ := id st'
      exact ⟨_, rfl, go_of (s := { s with heap := h', toks := s.toks + 1 }) e c d (by decide) ⟨.str ⟨#[x.cps[i]]⟩, H, I1, ⟨_, rfl⟩, ⟨rfl, _, ec, rfl⟩, st', fun b hb => (hf b hb).1⟩⟩
  done := by
    intro X hP hw hK hc i pins s σ H E I hf st hg
    subst hP hw hK
    obtain ⟨f0, f1, f2, f3, f4, f5⟩ := hf it (by simp)
    have ec : x.cps[i]? = none := by
      have e : i = x.cps.size := hg
      simp [e]
    rcases hty with rfl | rfl
    · exact wpAny_pyNext_ascii_end (I.ok.hd hc) st ec fun h' eb => ⟨rfl, I.turned (t' := s.toks) (fun b o hb e => eb b o hb e) f0 f1 f3 f4 f5⟩
    · exact wpAny_pyNext_wide_end (I.ok.hd hc) st ec fun h' eb => ⟨rfl, I.turned (t' := s.toks) (fun b o hb e => eb b o hb e) f0 f1 f3 f4 f5⟩
  self := fun _ _ _ _ _ st h => by
    rcases hty with rfl | rfl
    · exact wpAny_pyIter_striter_ascii st h
    · exact wpAny_pyIter_striter_wide st h
section
variable {X : Cx} {tg : Expr}
noncomputable def iStr (tl : TE) : TI := fun σ H R => tl σ H fun x H1 => ∃ z, x = .str z ∧ R (Its z) H1
theorem pi_str {l : Expr} {tl : TE} (hl : PE X l tl) : PI X tg l (iStr tl) := by
  intro pins s σ H R I h
  refine thn (hl pins s σ H _ I h) fun v s1 ⟨x, H1, I1, r1, q1⟩ => ?_
  obtain ⟨z, e, q⟩ := q1
  subst e
  obtain ⟨t, rfl⟩ := r1
  have fin : ∀ (ty : String) (_ : ty = "str_ascii_iterator" ∨ ty = "str_iterator"), PIE X pins σ tg R (.ref s1.heap.objs.size) { s1 with heap := s1.heap.push { cls := .type ty, data := .fields #[.str z t, .int 0 0] } } := fun ty hty => by
    refine ⟨s1.heap.objs.size, [s1.heap.objs.size], _, _, H1, rfl, I1.kept (t' := s1.toks) fun b o e => Heap.get?_push_of_some _ e, turn_str _ z t hty, ⟨_, Heap.get?_push_size _ rfl, rfl, rfl⟩, fun b hb => ?_, q⟩
    have e : b = s1.heap.objs.size := by simpa using hb
    subst e
    exact I1.fpOk (Nat.le_refl _) (I1.hok.fresh (Nat.le_refl _))
  cases ha : z.cps.all (· < 128) with
  | true => exact wpAny_pyIter_ascii ha (fin _ (.inl rfl))
  | false => exact wpAny_pyIter_wide ha (fin _ (.inr rfl))
end

section
variable {X : Cx} {e : Expr} {te : TE} {lo hi : Option Expr} {tl th : TO} {pos p2 : Pos}
theorem op_le_str : OpR X (compareOp .LtE) (fun x y H Q => ∃ i j, x = .str i ∧ y = .str j ∧ Q (.bl (!decide (j.cps.toList < i.cps.toList))) H) := by
  intro pins s σ H x y v u Q I rx ry h
  obtain ⟨i, j, rfl, rfl, q⟩ := h
  obtain ⟨t, rfl⟩ := rx
  obtain ⟨t', rfl⟩ := ry
  exact PySem.P.le_str (fin_bl I q rfl)
theorem le_one (c a : Nat) : (!decide ((⟨#[c]⟩ : Str).cps.toList < (⟨#[a]⟩ : Str).cps.toList)) = decide (a ≤ c) := by
  have h : ((⟨#[c]⟩ : Str).cps.toList < (⟨#[a]⟩ : Str).cps.toList) ↔ c < a := by
    show ([c] : List Nat) < [a] ↔ c < a
    simp [List.cons_lt_cons_iff]
  by_cases q : c < a
  · rw [decide_eq_true (h.mpr q), decide_eq_false (by omega)]
    rfl
  · rw [decide_eq_false fun z => q (h.mp z), decide_eq_true (by omega)]
    rfl

noncomputable def cutS (x : Str) (lo hi : Option Int) : Str := ⟨((x.cps.toList.drop (HT.sIx x.cps.size 0 lo)).take (HT.sIx x.cps.size x.cps.size hi - HT.sIx x.cps.size 0 lo)).toArray⟩
theorem clipI (i : Int) (n d : Nat) : max 0 (min (if i < 0 then i + (n : Int) else i) (n : Int)) = ((HT.sIx n d (some i) : Nat) : Int) := by
  show max 0 (min (if i < 0 then i + (n : Int) else i) (n : Int)) = (((if i < 0 then (i + (n : Int)).toNat else min i.toNat n) : Nat) : Int)
  by_cases h : i < 0
  · simp only [if_pos h]
    omega
  · simp only [if_neg h]
    omega
theorem strIx (lo hi : Option Int) (n : Nat) : Builtin.Str.strSliceIndices lo hi 1 n = (List.range (HT.sIx n n hi - HT.sIx n 0 lo)).map (HT.sIx n 0 lo + ·) := by
  rw [← sliceRange_one]
  unfold Builtin.Str.strSliceIndices
  have h1 : (1 : Int) > 0 := by decide
  simp only [h1, if_true]
  congr 1
  · cases lo with
    | none => rfl
    | some i => exact clipI i n 0
  · cases hi with
    | none => rfl
    | some i => exact clipI i n n
theorem slice_cut (x : Str) (lo hi : Option Int) : Txt.slice x lo hi = cutS x lo hi := by
  unfold Txt.slice cutS
  have hx : x.length = x.cps.size := rfl
  rw [hx, strIx, pick_run]
  by_cases h : ((1 : Int) == 1 && ((List.range (HT.sIx x.cps.size x.cps.size hi - HT.sIx x.cps.size 0 lo)).map (HT.sIx x.cps.size 0 lo + ·)).length == x.cps.size) = true
  · rw [if_pos h]
    simp at h
    have a := HT.sIx_le x.cps.size x.cps.size (Nat.le_refl _) hi
    have b := HT.sIx_le x.cps.size 0 (Nat.zero_le _) lo
    have e0 : x.cps.size = 0 ∨ HT.sIx x.cps.size 0 lo = 0 := by omega
    rcases e0 with e0 | e0
    · have : x.cps = #[] := Array.eq_empty_of_size_eq_zero e0
      obtain ⟨c⟩ := x
      simp only at this
      subst this
      simp
    · have e1 : HT.sIx x.cps.size x.cps.size hi = x.cps.size := by omega
      rw [e0, e1]
      obtain ⟨c⟩ := x
      obtain ⟨l⟩ := c
      simp
  · rw [if_neg h]
noncomputable def rSlS : V → Option Int → Option Int → Hp → VK → Prop := fun x lo hi H Q => ∃ z, x = .str z ∧ z.length ≤ sizeLine ∧ Q (.str (cutS z lo hi)) H
theorem sl_str : SlR X rSlS := by
  intro pins s σ H x v vl vu lo hi sl Q I rx hs pl pu h
  obtain ⟨z, rfl, hz, q⟩ := h
  obtain ⟨t, rfl⟩ := rx
  obtain ⟨l, hl1, hl2⟩ : ∃ l : Option (Int × Tok), vl = partValue l ∧ l.map (·.1) = lo := by
    cases pl with
    | none => exact ⟨none, rfl, rfl⟩
    | int i t => exact ⟨some (i, t), rfl, rfl⟩
  obtain ⟨u, hu1, hu2⟩ : ∃ u : Option (Int × Tok), vu = partValue u ∧ u.map (·.1) = hi := by
    cases pu with
    | none => exact ⟨none, rfl, rfl⟩
    | int i t => exact ⟨some (i, t), rfl, rfl⟩
  subst hl1 hu1
  refine ⟨"str", _, PySem.F.slot_str_getitem.lookup, typeIs_str s z t, ?_⟩
  refine wpAny_getItem_str_slice (l := l) (u := u) (st := none) hs rfl (post_val_or_str ?_)
  have e : ∀ (y : Str), y = Txt.slice z lo hi → y = cutS z lo hi := fun y hy => hy.trans (slice_cut z lo hi)
  have key : (if (((none : Option (Int × Tok)).map (·.1)).getD 1 == 1 && (slicePicked z l u none).length == z.length) = true then z else (⟨((slicePicked z l u none).filterMap (z.cps[·]?)).toArray⟩ : Str)) = cutS z lo hi := by
    refine e _ ?_
    unfold Txt.slice slicePicked
    rw [hl2, hu2]
    rfl
  rw [key]
  refine ⟨?_, fun t' k => ⟨.str (cutS z lo hi), H, I.tok k, ⟨t', rfl⟩, q⟩⟩
  rw [← slice_cut]
  exact Nat.le_trans (Txt.slice_le z _ _) hz

theorem call_all (hc : X.calm = true) : CallR X (.builtin "all") (fun xs H Q => ∃ (p : Addr) (bs : List Bool), xs = [.ref p] ∧ SqL X.K H p (bs.map V.bl) ∧ Q (.bl (bs.all id)) H) := by
  intro pins s σ H xs us Q I r h
  obtain ⟨p, bs, rfl, hq, q⟩ := h
  obtain ⟨u, rfl, ru⟩ := vals1 r
  cases ru
  obtain ⟨its, rv, pl, hz⟩ := I.list hq
  have hlen : bs.length = its.length := by have := rv.length; rwa [List.length_map] at this
  obtain ⟨o, n, eo, _⟩ := id pl
  have hne : p ≠ s.heap.objs.size := Nat.ne_of_lt (Heap.lt_size eo)
  have hh : X.A.in1.handled = none := I.ok.hd hc
  refine call_all_walk (wpAny_pyIter_list pl.isList ?_)
  refine ⟨s.heap.objs.size, [s.heap.objs.size, p], [s.heap.objs.size], its.toArray.size, _, _, fun i => bs.getD i false, rfl, Walks.list hh _ p hne its.toArray, ⟨⟨_, Heap.get?_push_size _ rfl, rfl, rfl⟩, pl.isList.push _⟩, ?_, fun h' tk k => ?_⟩
  · intro i v s' Q' E' hP hQ
    have hP' : its[i]? = some v := by simpa using hP
    have hi : i < its.length := (List.getElem?_eq_some_iff.mp hP').1
    have hb : (bs.map V.bl)[i]? = some (V.bl (bs.getD i false)) := by
      rw [List.getElem?_map, List.getElem?_eq_getElem (by omega : i < bs.length)]
      simp [List.getD, hlen ▸ hi]
    obtain ⟨u', e', r'⟩ := rv.get hb
    rw [hP'] at e'
    cases e'
    cases r'
    exact wpAny_truthy_bool hQ
  · have e : (List.range its.toArray.size).all (fun i => bs.getD i false) = bs.all id := by
      rw [List.size_toArray, ← hlen, Bool.eq_iff_iff]
      simp only [List.all_eq_true, List.mem_range]
      constructor
      · intro a b hb
        obtain ⟨i, hi, rfl⟩ := List.mem_iff_getElem.mp hb
        have := a i hi
        simpa [List.getD, hi] using this
      · intro a i hi
        have := a bs[i] (List.getElem_mem hi)
        simpa [List.getD, hi] using this
    rw [e]
    exact ⟨.bl (bs.all id), H, I.kept fun b ob z => k b ob (by simpa using Nat.ne_of_lt (Heap.lt_size z)) (Heap.get?_push_of_some _ z), rfl, q⟩

theorem call_isi : CallR X (.builtin "isinstance") (fun xs H Q => ∃ x c cv t b, xs = [x, c] ∧ (c = .ty cv ∧ TyOf X.K H x t ∧ PySem.W.kitOne X.K t (.type cv) = some b) ∧ Q (.bl b) H) := by
  intro pins s σ H xs us Q I r h
  obtain ⟨x, c, cv, t, b, rfl, ⟨rfl, ty, e⟩, q⟩ := h
  obtain ⟨u, w', rfl, ru, rw'⟩ := vals2 r
  cases rw'
  exact isinst_ok I ru ty e fun tk => ⟨.bl b, H, I.tok tk, rfl, q⟩
end

mutual
inductive Dt (K : PySem.W.Frag) (H : Hp) : V → PyData → Prop
  | non : Dt K H .non .none
  | bl (b : Bool) : Dt K H (.bl b) (.bool b)
  | int (i : Int) : Dt K H (.int i) (.int i)
  | str (x : Str) : Dt K H (.str x) (.str x)
  | lst {a : Addr} {xs : List V} {ds : List PyData} : SqL K H a xs → Dts K H xs ds → Dt K H (.ref a) (.list ds)
  | tup {a : Addr} {xs : List V} {ds : List PyData} : SqT K H a xs → Dts K H xs ds → Dt K H (.ref a) (.tuple ds)
inductive Dts (K : PySem.W.Frag) (H : Hp) : List V → List PyData → Prop
  | nil : Dts K H [] []
  | cons {v : V} {d : PyData} {vs : List V} {ds : List PyData} : Dt K H v d → Dts K H vs ds → Dts K H (v :: vs) (d :: ds)
end
section
variable {X : Cx} {pins : List (Addr × Obj)} {σ : St} {H : Hp} {s : Shared}
mutual
theorem dt_reads (I : Inv X pins σ H s) : ∀ {v : V} {d : PyData} {u : Value}, Dt X.K H v d → RelV v u → ∃ as, Reads s.heap u d as
  | _, _, _, .non, r => by cases r; exact ⟨_, .none⟩
  | _, _, _, .bl b, r => by cases r; exact ⟨_, .bool b⟩
  | _, _, _, .int i, r => by obtain ⟨t, rfl⟩ := r; exact ⟨_, .int i t⟩
  | _, _, _, .str x, r => by obtain ⟨t, rfl⟩ := r; exact ⟨_, .str x t⟩
  | _, _, _, .lst h ds, r => by
    cases r
    obtain ⟨its, rv, ⟨o, n, e, c, _, d⟩, _⟩ := I.list h
    obtain ⟨as, q⟩ := dts_reads I ds rv
    exact ⟨_, .list e c d (by simpa using q)⟩
  | _, _, _, .tup h ds, r => by
    cases r
    obtain ⟨its, rv, ⟨o, e, c, n, d⟩, _⟩ := I.tuple h
    obtain ⟨as, q⟩ := dts_reads I ds rv
    exact ⟨_, .tuple e c d (by simpa using q)⟩
theorem dts_reads (I : Inv X pins σ H s) : ∀ {vs : List V} {ds : List PyData} {us : List Value}, Dts X.K H vs ds → Vals vs us → ∃ as, ReadsAll s.heap us ds as
  | _, _, _, .nil, .nil => ⟨_, .nil⟩
  | _, _, _, .cons a b, .cons r t => by
    obtain ⟨as, q⟩ := dt_reads I a r
    obtain ⟨bs, q'⟩ := dts_reads I b t
    exact ⟨_, .cons q q'⟩
end
end
theorem dts_strs {K : PySem.W.Frag} {H : Hp} : ∀ xs : List Str, Dts K H (xs.map V.str) (xs.map PyData.str)
  | [] => .nil
  | x :: r => .cons (.str x) (dts_strs r)
section
variable {X : Cx}
noncomputable def rEqD (K : PySem.W.Frag) (neg : Bool) : R2 := fun x y H Q => ∃ d e, Dt K H x d ∧ Dt K H y e ∧ SeqAt.shaped d = true ∧ SeqAt.shaped e = true ∧ Q (.bl (if neg then !PyData.eqv d e else PyData.eqv d e)) H
theorem op_neD (hu : X.A.units + 64 < cLine) : OpR X (compareOp .NotEq) (rEqD X.K true) := by
  intro pins s σ H x y v u Q I rx ry h
  obtain ⟨d, e, hd, he, sd, se, q⟩ := h
  obtain ⟨as, ra⟩ := dt_reads I hd rx
  obtain ⟨bs, rb⟩ := dt_reads I he ry
  exact ne_dataH ra rb sd se hu ⟨.bl _, H, I, rfl, q⟩
end
mutual
theorem eqv_self : ∀ d : PyData, d.canLay0 = true → PyData.eqv d d = true
  | .none, _ => rfl
  | .bool b, _ => by simp [PyData.eqv]
  | .int i, _ => by simp [PyData.eqv]
  | .str x, _ => by simp [PyData.eqv]
  | .list xs, h => by simp only [PyData.eqv]; exact eqvAll_self xs h
  | .tuple xs, h => by simp only [PyData.eqv]; exact eqvAll_self xs h
  | .dict _, h => by cases h
theorem eqvAll_self : ∀ ds : List PyData, PyData.canLayAll0 ds = true → PyData.eqvAll ds ds = true
  | [], _ => rfl
  | d :: r, h => by
    simp only [PyData.canLayAll0, Bool.and_eq_true] at h
    simp only [PyData.eqvAll, eqv_self d h.1, eqvAll_self r h.2, Bool.and_self]
end
end L3
set_option Elab.async false
set_option linter.all false
set_option maxRecDepth 100000
set_option maxHeartbeats 4000000
namespace L3
open PySem PySem.Spec PyProof.Rows L2
section
variable {X : Cx} {e : Expr} {te : TE} {pos p2 : Pos}
end
end L3
set_option Elab.async false
set_option linter.all false
set_option maxRecDepth 100000
set_option maxHeartbeats 4000000
namespace L3
open PySem PySem.Spec PyProof.Rows L2

noncomputable def metS (val : Nat → Str) : Nat → Str → Bool
  | 0 => fun _ => false
  | i + 1 => fun k => metS val i k || decide (k = val i)
noncomputable def cntS (val : Nat → Str) : Nat → Nat
  | 0 => 0
  | i + 1 => if metS val i (val i) then cntS val i else cntS val i + 1
theorem cntS_le (val : Nat → Str) : ∀ i, cntS val i ≤ i
  | 0 => Nat.le_refl _
  | i + 1 => by
    have := cntS_le val i
    unfold cntS
    split <;> omega
theorem metS_iff (val : Nat → Str) (k : Str) : ∀ i, metS val i k = true ↔ ∃ j, j < i ∧ val j = k
  | 0 => by simp [metS]
  | i + 1 => by
    simp only [metS, Bool.or_eq_true, metS_iff val k i, decide_eq_true_eq]
    constructor
    · rintro (⟨j, hj, e⟩ | e)
      · exact ⟨j, by omega, e⟩
      · exact ⟨i, by omega, e.symm⟩
    · rintro ⟨j, hj, e⟩
      by_cases h : j = i
      · subst h
        exact .inr e.symm
      · exact .inl ⟨j, by omega, e⟩
theorem cntS_all (val : Nat → Str) : ∀ n, (∀ i j, i < j → j < n → val i ≠ val j) → cntS val n = n
  | 0, _ => rfl
  | n + 1, h => by
    have ih := cntS_all val n fun i j a b => h i j a (by omega)
    have hm : ¬ metS val n (val n) = true := fun z => by
      obtain ⟨j, hj, e⟩ := (metS_iff val (val n) n).mp z
      exact h j n hj (by omega) e
    unfold cntS
    rw [if_neg hm, ih]
theorem cntS_less (val : Nat → Str) : ∀ n i j, i < j → j < n → val i = val j → cntS val n < n
  | 0, _, _, _, h, _ => absurd h (Nat.not_lt_zero _)
  | n + 1, i, j, hij, hj, e => by
    have hl := cntS_le val n
    by_cases hjn : j = n
    · subst hjn
      have hm : metS val j (val j) = true := (metS_iff val (val j) j).mpr ⟨i, hij, e⟩
      unfold cntS
      rw [if_pos hm]
      omega
    · have ih := cntS_less val n i j hij (by omega) e
      unfold cntS
      split <;> omega

theorem isS (x : Str) (t : Tok) : Value.isStrOf x (.str x t) = true := by simp [Value.isStrOf]
theorem set_turns {prog : Program} {w : World} {A : Around} {R : Result → Shared → Prop} {I : Addr} {fp wr : List Addr} {n : Nat} {Pv : Nat → Value → Prop} {St' : Nat → Heap → Prop} (W : Walks prog w A.in1 I fp wr n Pv St') (S : Addr) (hSf : S ∉ fp)
    (val : Nat → Str) (hval : ∀ i v, Pv i v → ∃ t, v = .str (val i) t) (hb : n + 1 < scanBound) : ∀ (k i : Nat) (s : Shared), n - i = k → i ≤ n → St' i s.heap → s.heap.SetOf (strKind prog w) S (metS val i) (cntS val i) →
      (∀ h' tk, (∀ b o, b ≠ S → b ∉ wr → s.heap.get? b = some o → h'.get? b = some o) → h'.SetOf (strKind prog w) S (metS val n) (cntS val n) → R (.ok (.ret .none)) { s with heap := h', toks := tk }) →
      codeAny (model prog w) A (.builtin "set.update.loop" ⟨[.ref S, .ref I], []⟩) R s := by
  have hSw : S ∉ wr := fun z => hSf (W.sub _ z)
  have stays : ∀ {h h' : Heap} {S' : Str → Bool} {m : Nat}, (∀ o, h.get? S = some o → h'.get? S = some o) → h.SetOf (strKind prog w) S S' m → h'.SetOf (strKind prog w) S S' m := fun kk ⟨o, es, ep, t, ho, r⟩ => ⟨o, es, ep, t, kk o ho, r⟩
  intro k
  induction k with
  | zero =>
    intro i s hk hi st hS hR
    obtain rfl : i = n := by omega
    refine codeAny_builtin PyProof.Rows.F.entry_set_update_loop ?_
    rw [Around.under_plainId PyProof.Rows.F.plain_set_update_loop _]
    show wpAny _ A.in1 (pyNext (.ref I) >>= _) _ _ s
    refine wpAny_bind (W.done s _ _ st fun h' tk kk => ?_)
    show wpAny _ A.in1 (ret Value.none) _ _ _
    exact wpAny_pure (hR h' tk (fun b o _ hb e => kk b o hb e) (stays (fun o e => kk S o hSw e) hS))
  | succ k ih =>
    intro i s hk hi st hS hR
    have hlt : i < n := by omega
    refine codeAny_builtin PyProof.Rows.F.entry_set_update_loop ?_
    rw [Around.under_plainId PyProof.Rows.F.plain_set_update_loop _]
    show wpAny _ A.in1 (pyNext (.ref I) >>= _) _ _ s
    refine wpAny_bind (W.item i s _ _ hlt st fun v h1 tk hP st1 kk => ?_)
    obtain ⟨t, rfl⟩ := hval i v hP
    have hS1 := stays (fun o e => kk S o hSw e) hS
    show wpAny _ A.in1 (holding [Value.str (val i) t] (setAdd S (.str (val i) t)) >>= _) _ _ _
    refine wpAny_bind (wpAny_holding ?_)
    unfold setAdd
    refine wpAny_holding (wpAny_bind ((strKind prog w).pyHash (k := val i) (isS (val i) t) ?_))
    have hroom : cntS val i + 1 < scanBound := by have := cntS_le val i; omega
    refine wpAny_setAddHashed_of (knd := strKind prog w) (isS (val i) t) rfl hS1 hroom fun h2 sb hS2 => ?_
    refine wpAny_pure ⟨plainId_quiet PyProof.Rows.F.plain_set_update_loop _, ih (i + 1) _ (by omega) hlt (W.frame _ _ _ st1 fun b hb' o e => (sb.2 b fun z => hSf (z ▸ hb')).trans e) hS2 fun h3 tk3 kk3 hS3 => ?_⟩
    exact hR h3 tk3 (fun b o hb1 hb2 e => kk3 b o hb1 hb2 ((sb.2 b hb1).trans (kk b o hb2 e))) hS3

set_option maxHeartbeats 8000000 in
theorem set_of_texts {prog : Program} {w : World} {A : Around} {E : Value → Shared → Prop} {s : Shared} {l : Addr} {items : Array Value} {val : Nat → Str} {Q : Value → Shared → Prop} (hh : A.handled = none) (hl : s.heap.IsList l items)
    (hval : ∀ (i : Nat) (v : Value), items[i]? = some v → ∃ t, v = .str (val i) t) (hb : items.size + 1 < scanBound)
    (h : ∀ (h' : Heap) (tk : Nat), h'.SetOf (strKind prog w) s.heap.objs.size (metS val items.size) (cntS val items.size) → (∀ b o, s.heap.get? b = some o → h'.get? b = some o) → Q (.ref s.heap.objs.size) { s with heap := h', toks := tk }) :
    wpAny (model prog w) A (call (.type "set") [.ref l]) Q E s := by
  obtain ⟨c, tl, hmro⟩ := F.called_set.mro
  have m1 := F.called_set.made
  have m2 := F.called_set.sub
  have m3 := F.called_set.notType
  have m4 := F.called_set.canCreate
  have m5 := F.typeCall_set_1 (.ref l)
  refine wpAny_call (codeAny_of_tree ?_)
  show wpAny _ _ (callAny (.type "set") _) _ _ _
  refine wpAny_pure ⟨Code.quiet_builtin _ (by decide +kernel), codeAny_builtin F.entry_type_call ?_⟩
  rw [Around.under_plain (weight_type_call_type "set" [.ref l] []) rfl]
  repeat (any_goals (first | assumption | wp_step))
  generalize hS0 : s.heap.objs.size = S at *
  refine codeAny_mono (code_set_new_1 (.ref l) (E := E) (Q₁ := fun ob s1 => ∃ led : Bool, ob = .ref S ∧ s1 = { s with heap := s.heap.push { cls := .type "set", dict := none, data := .set #[] 0 (.fresh 0 0 led) } }) fun led => ⟨led, by rw [hS0], rfl⟩) fun r s1 hr => ?_
  cases r with
  | error e => exact hr
  | ok fl =>
    cases fl with
    | ret ob =>
      obtain ⟨led, rfl, rfl⟩ := hr
      have hget : (s.heap.push { cls := .type "set", dict := none, data := .set #[] 0 (.fresh 0 0 led) }).get? S = some { cls := .type "set", dict := none, data := .set #[] 0 (.fresh 0 0 led) } := by
        rw [← hS0]
        exact Heap.get?_push_size _ rfl
      have hT : Shared.TypeIs { s with heap := s.heap.push { cls := .type "set", dict := none, data := .set #[] 0 (.fresh 0 0 led) } } (.ref S) "set" := ⟨_, hget, rfl⟩
      have n1 := F.called_set.init.lookup
      have n2 := F.called_set.init.bind (.ref S)
      repeat (any_goals (first | assumption | wp_step))
      refine codeAny_mono (codeAny_call_builtin (R := wants (fun r s2 => r = .none ∧ ∃ h' tk, s2 = { s with heap := h', toks := tk } ∧ h'.SetOf (strKind prog w) S (metS val items.size) (cntS val items.size) ∧ (∀ b o, s.heap.get? b = some o → h'.get? b = some o)) E)
        F.called_set.init.plain F.entry_set_init (check_set_init_1 hT ?_)) fun r2 s2 hr2 => ?_
      · obtain ⟨⟨oc, od, odt, osl⟩, hol, hcl, nl, hdl⟩ := id hl
        simp only at hcl hdl
        subst hcl hdl
        have hol' := Heap.get?_push_of_some (h := s.heap) { cls := .type "set", dict := none, data := .set #[] 0 (.fresh 0 0 led) } hol
        have p1 := F.sub_list_set
        have p2 := F.sub_list_frozenset
        have p3 : (Value.type "list" == Value.type "dict") = false := by decide
        have hl1 := hl.push (o := { cls := .type "set", dict := none, data := .set #[] 0 (.fresh 0 0 led) })
        unfold Builtin.«set.__init__» noKeywords Builtin.Frozenset.updateFrom
        generalize hPI : pyIter = PI
        wp_walk
        subst hPI
        refine wpAny_pyIter_list hl1 (wpAny_bind (wpAny_runValue ?_))
        have hlS : l < S := by rw [← hS0]; exact Heap.lt_size hol
        have hsz : (s.heap.push { cls := .type "set", dict := none, data := .set #[] 0 (.fresh 0 0 led) }).objs.size = S + 1 := by rw [Heap.size_push, hS0]
        refine set_turns (Walks.list (A := A.in1.in1.in1) (by simp [hh]) _ l (by rw [hsz]; exact Nat.ne_of_lt (Nat.lt_succ_of_lt hlS)) items) S ?_ val hval hb (items.size - 0) 0 _ (by omega) (Nat.zero_le _) ⟨⟨_, Heap.get?_push_size _ rfl, rfl, rfl⟩, hl1.push _⟩ ?_ ?_
        · rw [hsz]
          simp only [List.mem_cons, List.not_mem_nil, or_false, not_or]
          exact ⟨Nat.ne_of_lt (Nat.lt_succ_self _), Nat.ne_of_gt hlS⟩
        · have hg2 := Heap.get?_push_of_some (h := s.heap.push { cls := .type "set", dict := none, data := .set #[] 0 (.fresh 0 0 led) }) { cls := .type "list_iterator", data := .fields #[.ref l, .int 0 0] } hget
          exact (PyProof.Rows.setObjOf_fresh (knd := strKind prog w) led).setOf hg2 (by unfold scanBound; omega)
        · intro h' tk kk hS'
          show wpAny _ _ _ _ _ _
          refine wpAny_pure ?_
          show wpAny _ _ (ret Value.none) _ _ _
          refine wpAny_pure ⟨rfl, h', tk, rfl, hS', fun b o e => ?_⟩
          have hbl : b < S := by rw [← hS0]; exact Heap.lt_size e
          exact kk b o (Nat.ne_of_lt hbl) (fun z => Nat.ne_of_lt (Nat.lt_succ_of_lt hbl) (by rw [hsz] at z; simpa using z)) (Heap.get?_push_of_some _ (Heap.get?_push_of_some _ e))
      · cases r2 with
        | error e => exact hr2
        | ok fl2 =>
          cases fl2 with
          | ret r =>
            obtain ⟨rfl, h', tk, rfl, hS', kk⟩ := hr2
            repeat (any_goals (first | assumption | wp_step))
            exact h _ _ hS' kk
          | _ => exact hr2.elim
    | _ => exact hr.elim

noncomputable def setO (P : Program) (w : World) (a : Addr) (n : Nat) : HO := .ext fun h => ∃ S, h.SetOf (strKind P w) a S n
section
variable {X : Cx}
theorem call_set (hc : X.calm = true) : CallR X (.type "set") (fun xs H Q => ∃ (p : Addr) (ys : List Str), xs = [.ref p] ∧ SqL X.K H p (ys.map V.str) ∧ ys.length < 1000 ∧ ∀ q, H q = none → Q (.ref q) (upd H q (setO X.prog X.w q (cntS (fun i => ys.getD i Str.empty) ys.length)))) := by
  intro pins s σ H xs us Q I r h
  obtain ⟨p, ys, rfl, hq, hl, q⟩ := h
  obtain ⟨u, rfl, ru⟩ := vals1 r
  cases ru
  obtain ⟨its, rv, pl, hz⟩ := I.list hq
  have hlen : ys.length = its.length := by have := rv.length; rwa [List.length_map] at this
  have hsz : its.toArray.size = ys.length := by
    rw [hlen]
    rfl
  refine set_of_texts (val := fun i => ys.getD i Str.empty) (I.ok.hd hc) pl.isList (fun i v e => ?_) (by rw [hsz]; unfold scanBound; omega) fun h' tk hS kk => ?_
  · have e' : its[i]? = some v := by simpa using e
    have hi : i < ys.length := by rw [hlen]; exact (List.getElem?_eq_some_iff.mp e').1
    have hb : (ys.map V.str)[i]? = some (V.str (ys.getD i Str.empty)) := by
      rw [List.getElem?_map, List.getElem?_eq_getElem hi]
      simp [List.getD, hi]
    obtain ⟨u', e2, r'⟩ := rv.get hb
    rw [e'] at e2
    cases e2
    exact r'
  · rw [hsz] at hS
    refine ⟨.ref s.heap.objs.size, _, I.laid kk (Nat.le_refl _) ?_, rfl, q _ (I.hok.fresh (Nat.le_refl _))⟩
    obtain ⟨o, es, ep, t, ho, r'⟩ := id hS
    exact ⟨⟨_, hS⟩, ⟨o, ho⟩, fun h1 h2 ⟨S', o', es', ep', t', ho', r2⟩ kk' => ⟨S', o', es', ep', t', kk' _ ho', r2⟩⟩
theorem call_len_setO : CallR X (.builtin "len") (fun xs H Q => ∃ q n, xs = [.ref q] ∧ H q = some (setO X.prog X.w q n) ∧ Q (.int n) H) := by
  intro pins s σ H xs us Q I r h
  obtain ⟨a, n, rfl, hq, q⟩ := h
  obtain ⟨u, rfl, ru⟩ := vals1 r
  cases ru
  obtain ⟨⟨S, o, es, ep, t, ho, hex, hd, _, _, hb, hf, hn⟩, _, _⟩ := (show ObjOk X.prog X.w H s.heap a (setO X.prog X.w a n) from I.hok a _ hq)
  subst hn
  have hfit : (es.size : Int) < 2 ^ 63 := by unfold scanBound at hb; omega
  exact call_len_set ho hex hd hf hfit ⟨.int es.size, H, I.tok _, ⟨_, rfl⟩, q⟩
end
end L3
set_option Elab.async false
set_option linter.all false
set_option maxRecDepth 100000
set_option maxHeartbeats 4000000
namespace L3
open PySem PySem.Spec PyProof.Rows L2

theorem obj_at {P : Program} {w : World} {H : Hp} {h : Heap} {a : Addr} {o : HO} (x : ObjOk P w H h a o) : ∃ ob, h.get? a = some ob := by
  cases o with
  | lst xs => obtain ⟨_, _, _, _, e⟩ := x; exact ⟨_, e⟩
  | tup xs => obtain ⟨_, _, _, ob, e, _⟩ := x; exact ⟨ob, e⟩
  | dK kvs => obtain ⟨_, _, _, _, ob, _, _, e, _⟩ := x; exact ⟨ob, e⟩
  | dT kvs => obtain ⟨_, _, _, _, ob, _, _, e, _⟩ := x; exact ⟨ob, e⟩
  | set S n => obtain ⟨ob, _, _, _, e, _⟩ := x; exact ⟨ob, e⟩
  | ins C dx fs => obtain ⟨_, _, _, e, _⟩ := x; exact ⟨_, e⟩
  | own y => obtain ⟨ob, e⟩ := x; exact ⟨ob, e⟩
  | xd fs => obtain ⟨_, ⟨ob, _, _, e, _⟩, _⟩ := x; exact ⟨ob, e⟩
  | rng lo hi => obtain ⟨_, _, _, e⟩ := x; exact ⟨_, e⟩
  | frz ob u => obtain ⟨e, _⟩ := x; exact ⟨_, e⟩
  | tbl ps => exact ⟨_, (show h.get? a = some _ from x)⟩
  | met f y => exact ⟨_, (show h.get? a = some _ from x)⟩
  | ext φ => obtain ⟨_, ⟨ob, e⟩, _⟩ := x; exact ⟨ob, e⟩
theorem hok_none {P : Program} {w : World} {H : Hp} {h : Heap} {a : Addr} (ok : HOk P w H h) (e : h.get? a = none) : H a = none := by
  cases q : H a with
  | none => rfl
  | some o =>
    obtain ⟨ob, z⟩ := obj_at (ok a o q)
    rw [e] at z
    cases z

structure Thrown (P : Program) (w : World) (fr : List Env) (H : Hp) (s : Shared) (ea : Addr) (cls a0 : Value) (H' : Hp) (B : Heap) (s' : Shared) : Prop where
  fl : Heap.FlyingW B fr ea cls a0 s'.heap
  os : s'.os = s.os
  bare : AllBare s'.gens
  ok : HOk P w H' B
  un : Un (frs fr) [] H H' s.heap s'.heap
  inB : ∀ b o, s.heap.get? b = some o → b ∉ frs fr → ∃ o', B.get? b = some o' ∧ (H b = none → o' = o)
noncomputable def CXe (P : Program) (w : World) : CXT := fun fr H s E e s' => ∃ (ea : Addr) (cls a0 : Value) (H' : Hp) (B : Heap), e = .ref ea ∧ Thrown P w fr H s ea cls a0 H' B s' ∧ E cls none H'

section
variable {P : Program} {w : World} {fr : List Env} {H H' : Hp} {s s' : Shared} {ea : Addr} {cls a0 : Value} {B : Heap}
theorem Thrown.move (T : Thrown P w fr H s ea cls a0 H' B s') {h2 : Heap} (fl : Heap.FlyingW B fr ea cls a0 h2) (up : s'.heap.UpToSlots h2) : Thrown P w fr H s ea cls a0 H' B { s' with heap := h2 } := by
  refine ⟨fl, T.os, T.bare, T.ok, ⟨fun b o e n hb hx => ?_, fun b o e n hb hx => ?_, T.un.free, fun b o e hx => ?_, T.un.tups, T.un.frzs, T.un.tbls⟩, T.inB⟩
  · obtain ⟨o', z, q⟩ := T.inB b o e hb
    rw [q n] at z
    exact fl.1 b o z
  · obtain ⟨sl, z⟩ := T.un.slot b o e n hb hx
    obtain ⟨_, ob, e', nf⟩ := T.fl.2.2.1.mem hb
    rw [z] at e'
    cases e'
    obtain ⟨sl', z'⟩ := up b _ z nf
    exact ⟨sl', z'⟩
  · by_cases hb : b ∈ frs fr
    · obtain ⟨_, ob, e', nf⟩ := T.fl.2.2.1.mem hb
      obtain ⟨sl', z'⟩ := up b _ e' nf
      exact ⟨_, z'⟩
    · obtain ⟨o', z, _⟩ := T.inB b o e hb
      exact ⟨o', fl.1 b o' z⟩
theorem Thrown.hok (T : Thrown P w fr H s ea cls a0 H' B s') : HOk P w H' s'.heap := T.ok.kept fun b u e => T.fl.1 b u e
theorem Thrown.new (T : Thrown P w fr H s ea cls a0 H' B s') : H' ea = none := hok_none T.ok T.fl.2.1
theorem Thrown.notOld (T : Thrown P w fr H s ea cls a0 H' B s') {b : Addr} {o : Obj} (e : s.heap.get? b = some o) : b ≠ ea := by
  rintro rfl
  by_cases hb : b ∈ frs fr
  · obtain ⟨_, ob, e', nf⟩ := T.fl.2.2.1.mem hb
    obtain ⟨oe, vs, he, _, hd, _⟩ := T.fl.first
    rw [he] at e'
    cases e'
    exact nf vs hd
  · obtain ⟨o', z, _⟩ := T.inB b o e hb
    rw [T.fl.2.1] at z
    cases z
end

section
variable {P : Program} {w : World} {K : PySem.W.Frag} {mg : Str → Option Value} {base : Heap} {N : List Str} {qual : Str} {scope : Scope} {f : Addr} {cdv : Value} {A : Around} {outer : List Env} {s : Shared} {H : Hp} {E : XK}
noncomputable abbrev cxE (P : Program) (w : World) (K : PySem.W.Frag) (mg : Str → Option Value) (base : Heap) (N : List Str) (qual : Str) (scope : Scope) (f : Addr) (cdv : Value) (A : Around) (outer : List Env) (s : Shared) (H : Hp) (E : XK) : Cx :=
  cxOf (CXe P w) P w K mg base N qual scope f cdv A outer s H E

theorem stk_new {pins : List (Addr × Obj)} {σ : St} {H1 : Hp} {s1 : Shared} (I : Inv (cxE P w K mg base N qual scope f cdv A outer s H E) pins σ H1 s1) {b : Addr} {o : Obj} (e : s.heap.get? b = some o) (hb : b ∉ frs outer) :
    b ∉ frs (cxE P w K mg base N qual scope f cdv A outer s H E).stack := fun z => by
  rcases List.mem_cons.mp (I.stkSub b z) with q | q
  · have l := Heap.lt_size e
    have l2 : s.heap.objs.size ≤ b := by
      have := I.ok.above
      rw [← q] at this
      exact this
    exact Nat.lt_irrefl _ (Nat.lt_of_lt_of_le l l2)
  · exact hb q
theorem made_leaves {pins : List (Addr × Obj)} {σ : St} {H1 : Hp} {s1 : Shared} {h' : Heap} {ea : Addr} {cls : Value} {vs : List Value} (I : Inv (cxE P w K mg base N qual scope f cdv A outer s H E) pins σ H1 s1)
    (hx : Heap.MadeExcOf s1.heap h' ea cls vs) (hE : E cls none H1) : (cxE P w K mg base N qual scope f cdv A outer s H E).xe (.ref ea) { s1 with heap := h' } := by
  have hfr := I.ok.frames
  have hin : ∀ env ∈ (cxE P w K mg base N qual scope f cdv A outer s H E).stack, ∀ b, env.frame = some b → b ∈ frs (cxE P w K mg base N qual scope f cdv A outer s H E).stack := fun env he b hb => List.mem_filterMap.mpr ⟨env, he, hb⟩
  have hnt : ∀ b o, H1 b = some o → b ∉ frs (cxE P w K mg base N qual scope f cdv A outer s H E).stack := fun b o e z => by rw [I.stkFree b z] at e; cases e
  refine wpAny_leaves_madeW (base := PySem.W.hideAll s1.heap (frs (cxE P w K mg base N qual scope f cdv A outer s H E).stack)) hfr rfl (fun b o q => PySem.W.of_hideAll _ q) (PySem.W.funFrames_hide I.stack hin) hx fun h2 t x1 x2 x3 x4 => ?_
  have inB : ∀ b o, s1.heap.get? b = some o → b ∉ frs (cxE P w K mg base N qual scope f cdv A outer s H E).stack → (PySem.W.hideAll s1.heap (frs (cxE P w K mg base N qual scope f cdv A outer s H E).stack)).get? b = some o := fun b o e n => PySem.W.hideAll_get _ e n
  refine ⟨ea, cls, .ref t, H1, _, rfl, ⟨x1, I.os, I.bare, fun b ob e => (I.hok b ob e).stay (fun c u hc q => inB c u q ?_) (fun _ q => q) fun _ _ q => q, ⟨fun b o e n hb hx' => ?_, fun b o e n hb hx' => ?_, I.base.free, fun b o e hx' => ?_, I.base.tups, I.base.frzs, I.base.tbls⟩, fun b o e hb => ?_⟩, hE⟩
  · rcases hc with rfl | hc
    · exact hnt c _ e
    · exact hnt c _ hc
  · exact x1.1 b o (inB b o (I.base.keep b o e n hb hx') (stk_new I e hb))
  · obtain ⟨sl, z⟩ := I.base.slot b o e n hb hx'
    obtain ⟨_, ob, e', nf⟩ := I.funs.mem hb
    rw [z] at e'
    cases e'
    obtain ⟨sl', z'⟩ := x4 b _ (hx.keeps _ _ z) nf
    exact ⟨sl', z'⟩
  · obtain ⟨o', z⟩ := I.base.there b o e hx'
    by_cases hb : b ∈ frs outer
    · obtain ⟨_, ob, e', nf⟩ := I.funs.mem hb
      obtain ⟨sl', z'⟩ := x4 b _ (hx.keeps _ _ e') nf
      exact ⟨_, z'⟩
    · exact ⟨o', x1.1 b o' (inB b o' z (stk_new I e hb))⟩
  · obtain ⟨o', z⟩ := I.base.there b o e (by simp [cxE, cxOf])
    refine ⟨o', inB b o' z (stk_new I e hb), fun n => ?_⟩
    have z2 := I.base.keep b o e n hb (by simp [cxE, cxOf])
    rw [z] at z2
    exact Option.some.inj z2
structure Exc (K : PySem.W.Frag) (mg : Str → Option Value) (x : Str) (C : Addr) (bm : List Value) (newId : String) : Prop where
  bound : mg x = some (.ref C)
  obj : PySem.W.excIn K C bm newId = true
theorem Exc.own {x : Str} {C : Addr} {bm : List Value} {newId : String} {h : Heap} (e : Exc K mg x C bm newId) (X : K.In h) : OwnCls x C bm newId mg h := by
  refine ⟨e.bound, ?_⟩
  have q := e.obj
  unfold PySem.W.excIn at q
  split at q
  · rename_i dd cd sl ho
    split at q
    · rename_i C' bm' k0 k1 k2 k3 n k5 hm hs
      simp only [Bool.and_eq_true, beq_iff_eq, Bool.not_eq_true'] at q
      obtain ⟨⟨⟨⟨⟨rfl, rfl⟩, hdel⟩, ht⟩, hok⟩, hni⟩ := q
      obtain ⟨nm, bs, mro, ns, qn, hd, sn, sub, ab, col, del⟩ := cd
      dsimp only at hm hdel hok hni
      subst hm hdel
      obtain ⟨sll⟩ := sl
      simp only at hs
      subst hs
      exact ⟨bm', ns, nm, qn, bs, hd, sn, sub, ab, col, dd, k0, k1, k2, k3, k5, _, X _ _ ho, .of_isNs (PySem.W.isNs_of_in X hok), PySem.W.nsMap_none_of_in X hok hni, PySem.W.tail_of_in X ht⟩
    · cases q
  · cases q
noncomputable def tRaise (C : Addr) (E : XK) (ta : TA) : TS := fun _ σ H => ta σ H fun vs H1 => vs.length ≤ sizeLine ∧ E (.ref C) none H1
theorem ps_raise {x : Str} {C : Addr} {B newId initId : String} {bm : List Value} {np cpos pos : Pos} {e0 : Expr} {es : List Expr} {ta : TA} (F : ExcBaseFacts B newId initId bm) (O : Exc K mg x C bm newId)
    (hg : Gl (cxE P w K mg base N qual scope f cdv A outer s H E) x) (ha : PA (cxE P w K mg base N qual scope f cdv A outer s H E) (e0 :: es) ta) (hdb : (x == ("__debug__" : Str)) = false := by decide)
    (he : starEach (e0 :: es) (cxE P w K mg base N qual scope f cdv A outer s H E).env = (false, eval e0 (cxE P w K mg base N qual scope f cdv A outer s H E).env) :: starEach es (cxE P w K mg base N qual scope f cdv A outer s H E).env := by rfl)
    (hpl : (backTo cpos (starEach es (cxE P w K mg base N qual scope f cdv A outer s H E).env)).any (·.1) = false := by rfl) :
    PS (cxE P w K mg base N qual scope f cdv A outer s H E) (.Raise (some (.Call (.Name x np) (e0 :: es) [] cpos)) none pos) (tRaise C E ta) := by
  intro pins s1 σ H1 D I h
  obtain ⟨tl, Nn, nm, q, bs, hdct, sn, sub, ab, col, dd, k0, k1, k2, k3, k5, mN, hC, hN, hni, T⟩ := (O.own I.mod.kin).obj
  have hcl : PySem.W.excIn K C bm newId = true := O.obj
  refine wpAny_Raise_call_subT (C := C) (nm := nm) (q := q) (N := Nn) (bs := bs) (bm := tl) (hdct := hdct) (sn := sn) (sub := sub) (ab := ab) (col := col) (dd := dd) (k0 := k0) (k1 := k1) (k2 := k2) (k3 := k3) (k5 := k5)
    F (mN := mN) (T.hasType F.hasBase) (I.ok.hd rfl) ?_ hni (ld_glob I hg O.bound ⟨rfl, ?_⟩ hdb)
  · rw [he]
    show (false || (backTo cpos (starEach es (cxE P w K mg base N qual scope f cdv A outer s H E).env)).any (·.1)) = false
    rw [hpl]
    rfl
  · have hA := ha cpos pins s1 σ H1 _ I h
    rw [he] at hA ⊢
    refine Calls.evalArgs_plain (thn hA fun us s2 ⟨vs, H2, I2, r2, z, hE⟩ => ⟨rfl, by rw [← r2.length]; exact z, I2.bk _ _ hC, hN.keeps I2.bk, T.keeps I2.bk, fun h' ea hm => made_leaves I2 hm hE⟩)
theorem okE {x : Str} {st : Stmt} {fd : FuncData} {ps : List Str} {k : Nat} {sp : Sp} (F : Fun K x qual st f fd) (S : FnScope N ps (defScope st)) (len : ∀ vs H Q E, sp vs H Q E → vs.length = ps.length)
    (hbody : ∀ (cdv : Value) (A : Around) (outer : List Env) (s : Shared) (H : Hp) (vs : List V) (Q : VK) (E : XK), Room k (A.deeper (envOfC qual (defScope st) s.heap.objs.size f cdv)) → sp vs H Q E →
      ∃ t, PSs (cxE P w K mg base N qual (defScope st) f cdv A outer s H E) (defBody st) t ∧ t { nx := fun _ H' => Q .non H', rt := Q } (start N vs) H) : FnOk P w K mg base (CXe P w) (k + 1) f fd ps sp := by
  obtain ⟨oc, od, kV, doc, pm, an, cdv, ct, osl, rfl, lk, hcd⟩ := F.ex
  exact fn_of lk hcd S len fun A outer s H vs Q E hr hsp => hbody cdv A outer s H vs Q E hr hsp
end
end L3
set_option Elab.async false
set_option linter.all false
set_option maxRecDepth 100000
set_option maxHeartbeats 4000000
namespace L3
open PySem PySem.Spec PyProof.Rows L2

noncomputable def XPs (X : Cx) (pins : List (Addr × Obj)) (σ : St) (E : XK) (e : Value) (s' : Shared) : Prop :=
  ∃ (Hc : Hp) (sc : Shared) (ea : Addr) (cls a0 : Value) (H' : Hp) (B : Heap), e = .ref ea ∧ Inv X pins σ Hc sc ∧ Thrown X.prog X.w X.stack Hc sc ea cls a0 H' B s' ∧ E cls none H'
noncomputable abbrev TEx := XK → TE
noncomputable abbrev TSx := Ends → (St → XK) → St → Hp → Prop
noncomputable def PEx (X : Cx) (e : Expr) (t : TEx) : Prop :=
  ∀ (pins : List (Addr × Obj)) (s : Shared) (σ : St) (H : Hp) (Q : VK) (E : XK), Inv X pins σ H s → t E σ H Q → wpAny (model X.prog X.w) X.A (eval e X.env) (EP X pins σ Q) (XPs X pins σ E) s
noncomputable def PSx (X : Cx) (st : Stmt) (t : TSx) : Prop :=
  ∀ (pins : List (Addr × Obj)) (s : Shared) (σ : St) (H : Hp) (D : Ends) (E : St → XK), Inv X pins σ H s → t D E σ H → wpAny (model X.prog X.w) X.A (exec st X.env) (SP X pins D) (fun e s' => ∃ σ', XPs X pins σ' (E σ') e s') s
noncomputable def PSxs (X : Cx) (sts : List Stmt) (t : TSx) : Prop :=
  ∀ (pins : List (Addr × Obj)) (s : Shared) (σ : St) (H : Hp) (D : Ends) (E : St → XK), Inv X pins σ H s → t D E σ H → wpAny (model X.prog X.w) X.A (execs sts X.env) (SP X pins D) (fun e s' => ∃ σ', XPs X pins σ' (E σ') e s') s
section
variable {X : Cx} {e o : Expr} {es : List Expr} {pos apos p : Pos} {k : Nat} {f C : Addr} {fd : FuncData} {ps : List Str} {sp : Sp} {ta : TE} {t : TA} {m x : Str}
theorem noW {α : Type} {X : Cx} {pins : List (Addr × Obj)} {M : Model} {A : Around} {c : Sem α} {Q : α → Shared → Prop} {E : Value → Shared → Prop} {s : Shared} (h : wpAny M A c Q (fun _ _ => False) s) : wpAny M A c Q E s :=
  wpAny_mono h (fun _ _ q => q) fun _ _ z => False.elim z
noncomputable def tDropX (te : TEx) : TSx := fun D E σ H => te (E σ) σ H fun _ H1 => D.nx σ H1
theorem psx_expr {te : TEx} (he : PEx X e te) (hs : swapsWith e none pos.line X.env = pure false := by rfl) : PSx X (.Expr e pos) (tDropX te) := by
  intro pins s σ H D E I h
  exact wpAny_Expr_any (wpAny_mono (he pins s σ H _ _ I h) (fun v s1 ⟨x, H1, I1, r1, q1⟩ => ⟨σ, H1, I1, q1⟩) fun e s' q => ⟨σ, q⟩) I.quiet hs
theorem psxs_one {st : Stmt} {t : TSx} (h1 : PSx X st t) : PSxs X [st] t := by
  intro pins s σ H D E I h
  refine wpAny_execs_cons (thn (h1 pins s σ H D E I h) fun f s1 q => ?_)
  cases f with
  | next => exact wpAny_execs_nil q
  | ret v => exact q
  | brk => exact q
  | cont => exact q
end

noncomputable def excO (ea C : Addr) : HO := .ext fun h => ∃ o, h.get? ea = some o ∧ o.cls = .ref C
noncomputable def excSub (K : PySem.W.Frag) (C R : Addr) : Bool := match K.lookup C with
  | some ⟨.type "type", _, .cls cd, sl⟩ => (match cd.mro, sl.toList with
    | .ref C' :: bm, [_, _, _, _, some (.builtin _), _] => C' == C && !cd.hasDel && bm.contains (.type "BaseException") && (Value.ref C :: bm).contains (.ref R)
    | _, _ => false)
  | _ => false
theorem excSub_obj {K : PySem.W.Frag} {h : Heap} {C R : Addr} (X : K.In h) (q : excSub K C R = true) : ∃ nm qn N bs bm hdct sn sub ab col dd k0 k1 k2 k3 k5 newId,
    h.get? C = some (excClassObj nm qn C N bs bm hdct sn sub ab col dd k0 k1 k2 k3 k5 newId) ∧ bm.contains (.type "BaseException") = true ∧ (Value.ref C :: bm).contains (.ref R) = true := by
  unfold excSub at q
  split at q
  · rename_i dd cd sl ho
    split at q
    · rename_i C' bm k0 k1 k2 k3 n k5 hm hs
      simp only [Bool.and_eq_true, Bool.not_eq_true'] at q
      obtain ⟨⟨⟨q1, hdel⟩, hb⟩, hr⟩ := q
      have q1 := beq_iff_eq.mp q1
      subst q1
      obtain ⟨nm, bs, mro, ns, qn, hd, sn, sub, ab, col, del⟩ := cd
      dsimp only at hm hdel
      subst hm hdel
      obtain ⟨sll⟩ := sl
      simp only at hs
      subst hs
      exact ⟨nm, qn, ns, bs, bm, hd, sn, sub, ab, col, dd, k0, k1, k2, k3, k5, n, X _ _ ho, hb, hr⟩
    · cases q
  · cases q
theorem exc_hit {M : Model} {A : Around} {E : Value → Shared → Prop} {K : PySem.W.Frag} {C R ea : Addr} {s : Shared} {oe : Obj} {Q : Bool → Shared → Prop} (X : K.In s.heap) (hc : excSub K C R = true) (hr : excSub K R R = true) (he : s.heap.get? ea = some oe)
    (hcls : oe.cls = .ref C) (hq : Q true s) : wpAny M A (excMatches (.ref ea) (.ref R)) Q E s := by
  obtain ⟨nm, qn, N, bs, bm, hdct, sn, sub, ab, col, dd, k0, k1, k2, k3, k5, newId, hC, hb, hCR⟩ := excSub_obj X hc
  obtain ⟨nm', qn', N', bs', bm', hdct', sn', sub', ab', col', dd', k0', k1', k2', k3', k5', newId', hR, hb', hRR⟩ := excSub_obj X hr
  have hcB : (Value.ref R :: bm').contains (.type "BaseException") = true := by rw [List.contains_cons, hb', Bool.or_true]
  have f := tc_notTuple
  obtain ⟨hp, g, d, t, os⟩ := s
  unfold excMatches
  repeat (first | (with_reducible refine wpAny_loadPart_at he ?_; rw [hcls]) | with_reducible refine wpAny_loadPart_at hR ?_ | (with_reducible refine wpAny_isSubtype_exc hR ?_; rw [hcB]) | (with_reducible refine wpAny_isSubtype_exc hC ?_; rw [hCR]) | wp_step)
  exact hq

noncomputable abbrev inSuite (X : Cx) (ea : Addr) : Cx := { X with A := X.A.mark (some (.ref ea)), calm := false, xe := fun _ _ => False }
section
variable {X : Cx} {pins : List (Addr × Obj)} {σ : St} {H : Hp} {s : Shared}
theorem Inv.suite (I : Inv X pins σ H s) (ea : Addr) : Inv (inSuite X ea) pins σ H s :=
  ⟨⟨I.ok.mod, I.ok.kind, I.ok.glob, I.ok.blt, I.ok.above, I.ok.inj, I.ok.has, I.ok.cab, fun z => absurd (show false = true from z) Bool.false_ne_true, I.ok.frames, I.ok.stk, I.ok.exf, I.ok.bs, I.ok.bsz, I.ok.noex, I.ok.exfs, I.ok.funs, I.ok.frf⟩, I.os, I.bare, I.base, I.loc, I.cell, I.free, I.freeC, I.pin, I.hok, I.len⟩
theorem Inv.unsuite {ea : Addr} (hd : X.calm = true → X.A.handled = none) (I : Inv (inSuite X ea) pins σ H s) : Inv X pins σ H s :=
  ⟨⟨I.ok.mod, I.ok.kind, I.ok.glob, I.ok.blt, I.ok.above, I.ok.inj, I.ok.has, I.ok.cab, hd, I.ok.frames, I.ok.stk, I.ok.exf, I.ok.bs, I.ok.bsz, I.ok.noex, I.ok.exfs, I.ok.funs, I.ok.frf⟩, I.os, I.bare, I.base, I.loc, I.cell, I.free, I.freeC, I.pin, I.hok, I.len⟩
theorem Inv.forget {h' : Heap} {t' : Nat} {i : Nat} {x : Str} (I : Inv X pins σ H s) (hN : X.N.Nodup) (hi : X.N[i]? = some x) (hs : Heap.SameBut X.env.locals s.heap h')
    (hns : ∀ m, s.heap.Ns X.env.locals m → ∃ v, h'.Ns X.env.locals (fun y => if y = x then v else m y)) : Inv X pins (σ.set i none) H { s with heap := h', toks := t' } := by
  obtain ⟨m, hn, hl⟩ := id I.loc
  obtain ⟨v, hn'⟩ := hns m hn
  have cne := I.cne
  have ne0 : ∀ b o, X.s₀.heap.get? b = some o → b ≠ X.env.locals := fun b o e => Nat.ne_of_lt (Nat.lt_of_lt_of_le (Heap.lt_size e) I.ok.above)
  have hiσ : i < σ.length := by rw [I.len]; exact (List.getElem?_eq_some_iff.mp hi).1
  refine ⟨I.ok, I.os, I.bare, ⟨fun b o e n hb hx => (hs.2 b (ne0 b o e)).trans (I.base.keep b o e n hb hx), fun b o e n hb hx => ?_, I.base.free, fun b o e hx => ?_, I.base.tups, I.base.frzs, I.base.tbls⟩, ⟨_, hn', fun j y u e1 e2 e3 => ?_⟩, fun y c e => ?_, I.free, I.freeC, fun p hp => ?_, hok_but I.hok I.free hs, by simpa using I.len⟩
  · obtain ⟨sl, z⟩ := I.base.slot b o e n hb hx
    exact ⟨sl, (hs.2 b (ne0 b o e)).trans z⟩
  · obtain ⟨o', z⟩ := I.base.there b o e hx
    exact ⟨o', (hs.2 b (ne0 b o e)).trans z⟩
  · by_cases hj : j = i
    · subst hj
      rw [List.getElem?_set_self hiσ] at e2
      cases e2
    · rw [List.getElem?_set_ne (Ne.symm hj)] at e2
      obtain ⟨u', r', q⟩ := hl j y u e1 e2 e3
      refine ⟨u', r', ?_⟩
      rcases q with ⟨k, e⟩ | ⟨k, c, e, z⟩
      · refine .inl ⟨k, ?_⟩
        have : y ≠ x := fun e => hj (nodup_ix hN e1 (e ▸ hi))
        simp [this, e]
      · exact .inr ⟨k, c, e, z.sameBut hs (cne y c e)⟩
  · obtain ⟨w', z⟩ := I.cell y c e
    exact ⟨w', z.sameBut hs (cne y c e)⟩
  · obtain ⟨e, n, ne, nf, d⟩ := I.pin p hp
    exact ⟨(hs.2 p.1 ne).trans e, n, ne, nf, d⟩
end

noncomputable def tTry (K : PySem.W.Frag) (tb : TSx) (i : Nat) (R : Addr) (ts : TS) : TS := fun D σ H => tb D (fun σ' cls _ H' => ∃ C, cls = .ref C ∧ excSub K C R = true ∧ ∀ ea, H' ea = none →
  ts { nx := fun σ2 H2 => D.nx (σ2.set i none) H2, rt := D.rt, bk := fun σ2 H2 => D.bk (σ2.set i none) H2, ct := fun σ2 H2 => D.ct (σ2.set i none) H2 } (σ'.set i (some (.ref ea))) (upd H' ea (excO ea C))) σ H
theorem ps_try {X : Cx} {body : List Stmt} {b0 : Stmt} {suite : List Stmt} {x n : Str} {np hpos pos : Pos} {tb : TSx} {ts : TS} {i : Nat} {R : Addr} (hstk : X.stack = X.env :: X.outer) (hfrm : X.env.frame = some X.env.locals)
    (hb : PSxs X body tb) (hN : X.N.Nodup) (hi : X.N[i]? = some n) (hl : X.env.scope.names.lookup n = some .local) (hg : Gl X x) (hm : X.mg x = some (.ref R)) (hR : excSub X.K R R = true) (hsuite : ∀ ea, PSs (inSuite X ea) (b0 :: suite) ts)
    (hdb : (x == ("__debug__" : Str)) = false := by decide) : PS X (.Try body [.ExceptHandler (some (.Name x np)) (some n) (b0 :: suite) hpos] [] [] pos) (tTry X.K tb i R ts) := by
  intro pins s σ H D I h
  refine wpAny_Try_except (wpAny_mono (hb pins s σ H D _ I h) (fun f s1 q => ?_) fun e s1 q => ?_)
  · cases f with
    | next => exact wpAny_execs_nil q
    | ret v => exact q
    | brk => exact q
    | cont => exact q
  · obtain ⟨σ1, Hc, sc, ea, cls, a0, H', B, rfl, Ic, T, C, rfl, hsub, k⟩ := q
    have hfr : X.A.frames = some (X.env :: X.outer) := by rw [← hstk]; exact I.ok.frames
    have fl1 := T.fl
    rw [hstk] at fl1
    refine wpAny_looks_onW hfr hfrm fl1 fun h4 held4 up4 => ?_
    refine wpAny_landsW held4 fun h5 fl5 up5 => ?_
    have fl5' := fl5
    rw [← hstk] at fl5'
    have T5 := T.move fl5' (up4.trans up5)
    have I5 : Inv X pins σ1 H' { s1 with heap := h5 } := Ic.call' (s' := { s1 with heap := h5 }) (ch := []) T5.os T5.un T5.hok T5.bare (fun b z => absurd z (by simp))
    obtain ⟨ob, hob, hobc⟩ := fl5.there
    refine wpAny_handleBy_cons (codeAny_handlers_test (ld_glob (X := inSuite X ea) (L3.Inv.suite I5 ea) hg hm ?_ hdb)) (by intro q; cases q)
    refine exc_hit I5.kIn hsub hR hob hobc ?_
    refine codeAny_handlers_suite_as (lands_againW fl5 fun h6 fl6 up6 => ?_)
    have fl6' := fl6
    rw [← hstk] at fl6'
    have T6 := T5.move fl6' up6
    obtain ⟨ob6, hob6, hobc6⟩ := fl6.there
    have old : ∀ b o, sc.heap.get? b = some o → b ≠ ea := fun b o e => T.notOld e
    have tn := T.new
    have I6 : Inv X pins σ1 (upd H' ea (excO ea C)) { s1 with heap := h6 } := by
      refine Ic.call' (s' := { s1 with heap := h6 }) (ch := []) T6.os ⟨T6.un.keep, T6.un.slot, fun b o e n' hx => by rw [upd_ne (old b o e)]; exact T6.un.free b o e n' hx, T6.un.there, fun b xs e => ?_, fun b o u e => ?_, fun b ps e => ?_⟩ ?_ T6.bare (fun b z => absurd z (by simp))
      · have := T6.un.tups b xs e
        rw [upd_ne (ne_of_none this tn)]
        exact this
      · have := T6.un.frzs b o u e
        rw [upd_ne (ne_of_none this tn)]
        exact this
      · obtain ⟨m, this⟩ := T6.un.tbls b ps e
        exact ⟨m, by rw [upd_ne (ne_of_none this tn)]; exact this⟩
      · intro b u e
        by_cases hb' : b = ea
        · subst hb'
          rw [upd_same] at e
          cases e
          exact ⟨⟨ob6, hob6, hobc6⟩, ⟨ob6, hob6⟩, fun h1 h2 ⟨o, e1, e2⟩ kk => ⟨o, kk o e1, e2⟩⟩
        · rw [upd_ne hb'] at e
          exact (T6.hok b u e).stay (fun c v _ q => q) (fun c q => by rw [upd_ne (ne_of_none q tn)]; exact q) fun c xs q => by rw [upd_ne (ne_of_none q tn)]; exact q
    refine store_ok (X := inSuite X ea) (L3.Inv.suite I6 ea) hN hi (.inl hl) (v := .ref ea) rfl (fun s7 I7 => ?_) (.inr hl)
    have hp : (X.env.scope.kind == .class || (X.env.scope.kind == .module && X.env.locals != X.env.globals)) = false := by rw [I.ok.kind]; rfl
    have gone : ∀ {σ8 : St} {H8 : Hp} {s8 : Shared} {Q' : Shared → Prop}, Inv (inSuite X ea) pins σ8 H8 s8 → (∀ s9, Inv X pins (σ8.set i none) H8 s9 → Q' s9) →
        wpAny (model X.prog X.w) X.A (do bindName X.env n .none; unbindBehindTheSuite X.env n hpos) (fun _ s9 => Q' s9) X.xe s8 := fun {σ8 H8 s8 Q'} I8 hq => by
      have I8' : Inv X pins σ8 H8 s8 := Inv.unsuite I.ok.hd I8
      obtain ⟨m, hn, _⟩ := id I8'.loc
      refine wpAny_nameGoes_keeps hl hn hp fun h9 v hn9 sb9 => hq _ (Inv.forget I8' hN hi sb9 fun m' hm' => ?_)
      have em : m' = m := by
        obtain ⟨o, es, ep, e1, e2, _, e3⟩ := hn
        obtain ⟨o', es', ep', e1', e2', _, e3'⟩ := hm'
        rw [e1] at e1'
        cases e1'
        rw [e2] at e2'
        cases e2'
        funext y
        rw [← e3 y, ← e3' y]
      subst em
      exact ⟨v, hn9⟩
    refine wpAny_mono (hsuite ea pins s7 _ _ _ I7 (k ea tn)) (fun fl8 s8 q8 => ?_) fun _ _ z => False.elim z
    cases fl8 with
    | next => obtain ⟨σ8, H8, I8, q⟩ := q8; exact gone I8 fun s9 I9 => ⟨_, H8, I9, q⟩
    | brk => obtain ⟨σ8, H8, I8, q⟩ := q8; exact gone I8 fun s9 I9 => ⟨_, H8, I9, q⟩
    | cont => obtain ⟨σ8, H8, I8, q⟩ := q8; exact gone I8 fun s9 I9 => ⟨_, H8, I9, q⟩
    | ret u => obtain ⟨v8, σ8, H8, I8, r8, q⟩ := q8; exact gone I8 fun s9 I9 => ⟨v8, _, H8, I9, r8, q⟩

section
variable {X : Cx}
theorem isi_type {prog : Program} {w : World} {A : Around} {E : Value → Shared → Prop} {s : Shared} {K : PySem.W.Frag} {v t : Value} {T : String} {Q : Value → Shared → Prop} (KX : K.In s.heap) (ht : ∀ M, PySem.W.Looks M s.heap (typeOf v) t)
    (e : PySem.W.subIn K t (.type T) = some true) (hm : PySem.W.kitMeta T = true) (hne : ¬ (t == .type T) = true) (hx : v ≠ .builtin "__main__.__loader__#opaque") (h : Q (.bool true) s) :
    wpAny (model prog w) A (call (.builtin "isinstance") [v, .type T]) Q E s := by
  refine call_isinstance (S := fun _ R s => (K.In s.heap ∧ ∀ M, PySem.W.Looks M s.heap (typeOf v) t) ∧ R (.ok (.ret (.bool true))) s) (fun prog w A R s hs => isinstance_outer ?_ hx) ⟨⟨KX, ht⟩, h⟩
  obtain ⟨⟨KX', ht'⟩, hq⟩ := hs
  obtain ⟨hh, g, d, tt, os⟩ := s
  have LI : PySem.W.Looks (model prog w) hh (isInstance v (.type T)) true := (ht' _).andThen (PySem.W.looks_subIn KX' e)
  have LT : PySem.W.Looks (model prog w) hh (isType (.type T)) true := PySem.W.Looks.of_pure rfl
  have LY : PySem.W.Looks (model prog w) hh (typeOf (.type T)) (.type "type") := PySem.W.Looks.of_pure (PySem.W.kitMeta_of hm)
  unfold Builtin.«isinstance.nested»
  refine wpAny_bind ((ht' _).at ?_)
  rw [if_neg hne]
  refine wpAny_bind (LY.at ?_)
  rw [if_pos (by decide)]
  k_delta "plainIsInstance"
  refine wpAny_bind (wpAny_bind (LT.at ?_))
  simp only [Bool.not_true, Bool.false_eq_true, if_false]
  refine wpAny_bind (LI.at ?_)
  simp only [if_true]
  exact wpAny_pure (wpAny_pure hq)
theorem call_isiE : CallR X (.builtin "isinstance") (fun xs H Q => ∃ ea C, H ea = some (excO ea C) ∧ ((∃ R, xs = [.ref ea, .ref R] ∧ PySem.W.isIn X.K (.ref C) R = true) ∨ (∃ T, xs = [.ref ea, .ty T] ∧ PySem.W.subIn X.K (.ref C) (.type T) = some true ∧ PySem.W.kitMeta T = true)) ∧ Q (.bl true) H) := by
  intro pins s σ H xs us Q I r h
  obtain ⟨ea, C, hea, hor, q⟩ := h
  obtain ⟨⟨o, e1, e2⟩, _, _⟩ := (show ObjOk X.prog X.w H s.heap ea (excO ea C) from I.hok ea _ hea)
  have ht : ∀ M, PySem.W.Looks M s.heap (typeOf (.ref ea)) (.ref C) := fun M => by
    rw [← e2]
    exact (PySem.W.Looks.ld e1).andThen .now
  rcases hor with ⟨R, rfl, hi⟩ | ⟨T, rfl, hi, hm⟩
  · obtain ⟨u, w', rfl, ru, rw'⟩ := vals2 r
    cases ru
    cases rw'
    exact PySem.W.isi_call I.kIn ht hi (fun z => nomatch z) ⟨.bl true, H, I, rfl, q⟩
  · obtain ⟨u, w', rfl, ru, rw'⟩ := vals2 r
    cases ru
    cases rw'
    exact isi_type I.kIn ht hi hm (fun z => nomatch (beq_iff_eq.mp z)) (fun z => nomatch z) ⟨.bl true, H, I, rfl, q⟩
end
end L3
set_option Elab.async false
set_option linter.all false
set_option maxRecDepth 100000
set_option maxHeartbeats 4000000
namespace L3
open PySem PySem.Spec PyProof.Rows L2

section
variable {X : Cx} {elts : List Expr} {k : Nat} {tpos : Pos}
end
section
variable {X : Cx} {K : PySem.W.Frag} (hK : X.K = K)
include hK
end
end L3
set_option Elab.async false
set_option linter.all false
set_option maxRecDepth 100000
set_option maxHeartbeats 4000000
namespace L3
section
open PySem PySem.Spec PyProof.Rows
open PySem.Builtin PySem.Builtin.Getset_descriptor
structure ExcC (K : PySem.W.Frag) (C : Addr) : Prop where
  ga : PySem.W.findIn K (.ref C) "__getattribute__" = some (some (.builtin "BaseException.__getattribute__"))
  no : PySem.W.findIn K (.ref C) "__getattr__" = some none
  ha : PySem.W.findIn K (.ref C) "__class__" = some (some (.builtin "object.__class__"))
  hn : PySem.W.specialIn K (.builtin "object.__class__") "__get__" = some (some (.builtin "getset_descriptor.__get__"))
  htk : PySem.W.takesIn K (.builtin "object.__class__") = some true
  hm : PySem.W.mroIn K C (.type "object") = some true
  hb : PySem.W.mroIn K C (.type "BaseException") = some true
noncomputable def TyAt (h : Heap) (x C : Addr) : Prop := ∃ o, h.get? x = some o ∧ o.cls = .ref C
theorem TyAt.type {M : Model} {h : Heap} {x C : Addr} (I : TyAt h x C) : PySem.W.Looks M h (typeOf (.ref x)) (.ref C) := by
  obtain ⟨o, e, c⟩ := I
  rw [← c]
  exact (PySem.W.Looks.ld e).andThen .now
section
variable {prog : Program} {w : World} {A : Around} {E : Value → Shared → Prop} {s : Shared} {K : PySem.W.Frag} {x C : Addr} {name : Str}
theorem check_bga {M : Model} {nameV : Value} {Q : Unit → Shared → Prop} (X : K.In s.heap) (c : ExcC K C) (I : TyAt s.heap x C) (hq : Q () s) :
    wpAny M A (checkBuiltinCall "BaseException.__getattribute__" ⟨[.ref x, nameV], []⟩) Q E s := by
  have hk : builtinKind "BaseException.__getattribute__" = some .slot := by decide +kernel
  have hsplit : splitId "BaseException.__getattribute__" = some ("BaseException", "__getattribute__") := by decide +kernel
  have ha := F.args_bexc_ga (.ref x) nameV
  have LI : PySem.W.Looks M s.heap (isInstance (.ref x) (.type "BaseException")) true := I.type.andThen (PySem.W.looks_mroIn X c.hb)
  obtain ⟨h, g, d, t, os⟩ := s
  simp only [checkBuiltinCall, hk, hsplit]
  refine wpAny_bind (LI.at ?_)
  repeat (first | assumption | wp_step)
theorem exc_by {fill expr : Bool} {tk : Tok} {Q : Value → Shared → Prop} (X : K.In s.heap) (c : ExcC K C) (I : TyAt s.heap x C)
    (h : ∀ A' : Around, codeAny (model prog w) A' (.call (.builtin "BaseException.__getattribute__") ⟨[.ref x, .str name tk], []⟩) (fun r s' => match r with | .ok (.ret v) => wpAny (model prog w) A (handedOut v) Q E s' | _ => False) s) :
    wpAny (model prog w) A (getAttrBy (.ref x) (.str name tk) fill expr) Q E s := by
  have L0 := I.type (M := model prog w)
  have L1 := PySem.W.looks_findIn (M := model prog w) X c.ga
  have L2 := PySem.W.looks_findIn (M := model prog w) X c.no
  have f3 := F.excAttr_ValueError.ga.bind (.ref x)
  have hx0 : (expr && onTheHeap (Value.builtin "BaseException.__getattribute__")) = false := by cases expr <;> rfl
  have hx2 : (Value.builtin "BaseException.__getattribute__" == Value.builtin "object.__getattribute__") = false := by decide +kernel
  have hx1 : (onTheHeap (Value.ref C) && Value.builtin "BaseException.__getattribute__" == Value.builtin "object.__getattribute__") = false := by rw [hx2]; rfl
  obtain ⟨hh, g, d, t, os⟩ := s
  unfold getAttrBy
  refine wpAny_holding (wpAny_bind (L0.at (wpAny_bind (L1.at ?_))))
  dsimp only
  rw [if_neg (by rw [hx1]; exact Bool.false_ne_true)]
  unfold getAttrByItsOwn hookBefore
  rw [if_pos (show onTheHeap (Value.ref C) = true from rfl)]
  refine wpAny_bind (L2.at ?_)
  refine wpAny_bind (wpAny_attempt (wpAny_holding ?_))
  unfold callGetattribute
  rw [if_neg (by rw [hx0]; exact Bool.false_ne_true)]
  unfold boundAndCalled
  rw [f3]
  refine wpAny_bind (wpAny_pure ?_)
  refine wpAny_call (codeAny_mono (h _) fun r s' hr => ?_)
  rcases r with e | (_ | _ | _ | v) <;> first | exact hr | exact hr.elim
theorem class_of {R : Result → Shared → Prop} {tp : Value} (X : K.In s.heap) (I : TyAt s.heap x C) (hm : PySem.W.mroIn K C (.type "object") = some true) (h : R (.ok (.ret (.ref C))) s) :
    codeAny (model prog w) A (.call (.builtin "getset_descriptor.__get__") ⟨[.builtin "object.__class__", .ref x, tp], []⟩) R s := by
  have L0 := I.type (M := model prog w)
  have LM := PySem.W.looks_mroIn (M := model prog w) X hm
  obtain ⟨h0, g, d, t, os⟩ := s
  refine codeAny_call_builtin PySem.W.KF.slot_gs.plain PySem.W.KF.entry_gs ?_
  refine PySem.W.KF.slot_gs.check _ _ _ _ _ _ _ _ PySem.W.KF.type_class (PySem.W.KF.args_gs _ _ _) ?_
  unfold Builtin.«getset_descriptor.__get__» descrGet
  rw [PySem.W.dga_obj]
  refine wpAny_bind (wpAny_pure ?_)
  unfold descrGetter descrCheckInstance descrNameAndClass isInstance
  simp only [PySem.W.KF.owner_class]
  repeat lk
  refine ⟨Code.quiet_builtin _ (by decide +kernel), codeAny_builtin PySem.W.KF.entry_class ?_⟩
  unfold Builtin.«object.__class__» shownTypeOf
  repeat lk
  exact h
theorem find_data {M : Model} {h : Heap} {a g : Value} (X : K.In h) (ha : PySem.W.findIn K (.ref C) name = some (some a)) (hg : PySem.W.specialIn K a "__get__" = some (some g)) (ht : PySem.W.takesIn K a = some true) :
    PySem.W.Looks M h (Builtin.ObjectAttr.find (.ref x) (.ref C) name) (.bind g a) := by
  have L1 := PySem.W.looks_findIn (M := M) X ha
  have L2 : PySem.W.Looks M h (Builtin.ObjectAttr.getOf (some a)) (some g) := PySem.W.looks_specialIn X hg
  have L3 := PySem.W.looks_takesIn (M := M) X ht
  unfold Builtin.ObjectAttr.find
  refine L1.andThen (L2.andThen ?_)
  have LD : PySem.W.Looks M h (Builtin.ObjectAttr.dataDescriptor? (some a) (some g)) (some (g, a)) := by
    unfold Builtin.ObjectAttr.dataDescriptor?
    refine L3.andThen ?_
    exact .now
  exact LD.andThen (PySem.W.Looks.tag .now)
theorem ExcC.some (c : ExcC K C) : (PySem.W.clsIn K C).isSome = true := by
  have h := c.hm
  unfold PySem.W.mroIn at h
  obtain ⟨cd, a, _⟩ := Option.bind_eq_some_iff.mp h
  rw [a]
  rfl
theorem exc_class {fill expr : Bool} {tk : Tok} {Q : Value → Shared → Prop} (X : K.In s.heap) (c : ExcC K C) (I : TyAt s.heap x C) (h : Q (.ref C) s) :
    wpAny (model prog w) A (getAttrBy (.ref x) (.str "__class__" tk) fill expr) Q E s := by
  refine exc_by X c I fun A' => codeAny_call_builtin F.excAttr_ValueError.ga.plain F.entry_bexc_ga (check_bga X c I ?_)
  have L0 := I.type (M := model prog w)
  have L1 := find_data (M := model prog w) (x := x) X c.ha c.hn c.htk
  obtain ⟨hh, g, d, t, os⟩ := s
  unfold Builtin.«object.__getattribute__»
  have sa : slotArgs "__getattribute__" 1 ⟨[.ref x, .str (Str.ofString "__class__") tk], []⟩ = pure (.ref x, [.str (Str.ofString "__class__") tk]) := rfl
  rw [sa]
  refine wpAny_bind (wpAny_pure ?_)
  dsimp only
  have an : Builtin.ObjectAttr.attrName (.str (Str.ofString "__class__") tk) = pure (Str.ofString "__class__") := rfl
  rw [an]
  refine wpAny_bind (wpAny_pure (wpAny_bind (L0.at (wpAny_bind (L1.at ?_)))))
  dsimp only
  unfold Builtin.ObjectAttr.bindTo
  show wpAny _ _ (holding [Value.builtin "object.__class__"] (call (Value.builtin "getset_descriptor.__get__") [Value.builtin "object.__class__", Value.ref x, Value.ref C]) >>= ret) _ _ _
  refine wpAny_bind (wpAny_holding (wpAny_call (class_of X I c.hm ?_)))
  refine wpAny_pure ?_
  show wpAny _ _ (handedOut (.ref C)) _ _ _
  exact wpAny_pure h
theorem exc_cls {Q : Option Value → Shared → Prop} (X : K.In s.heap) (c : ExcC K C) (I : TyAt s.heap x C) (h : Q (some (.ref C)) { s with toks := s.toks + 1 }) : wpAny (model prog w) A (getAttr? (.ref x) "__class__") Q E s := by
  unfold getAttr? getAttrBy?
  refine wpAny_bind (wpAny_mkText (wpAny_bind (wpAny_attempt ?_)))
  refine exc_class (s := { s with toks := s.toks + 1 }) X c I ?_
  exact wpAny_pure h
end
end
open PySem PySem.Spec PyProof.Rows L2
theorem cls_type {K : PySem.W.Frag} {C : Addr} {M : Model} {h : Heap} (c : ExcC K C) (X : K.In h) : PySem.W.Looks M h (isType (.ref C)) true := by
  obtain ⟨cd, hc⟩ := Option.isSome_iff_exists.mp c.some
  unfold PySem.W.clsIn at hc
  split at hc
  · rename_i d1 d2 d3 d4 ho
    intro A Q E s k q
    unfold isType loadHead
    exact wpAny_bind (wpAny_loadPart (k _ _ (X _ _ ho)) (wpAny_pure q))
  · cases hc
theorem kitx_exc {K : PySem.W.Frag} {ea C : Addr} (c : ExcC K C) : PySem.W.KitX K (.ref ea) (.ref C) (fun h => TyAt h ea C) where
  ty := fun _ _ _ I => I.type
  it := fun _ _ X _ => cls_type c X
  ne := fun h tp dd its n sl X htp => by
    refine Bool.eq_false_iff.mpr fun q => ?_
    have e : C = tp := Value.ref.inj (beq_iff_eq.mp q)
    subst e
    obtain ⟨cd, hc⟩ := Option.isSome_iff_exists.mp c.some
    unfold PySem.W.clsIn at hc
    split at hc
    · rename_i d1 d2 d3 d4 ho
      have z := (X _ _ ho).symm.trans htp
      cases z
    · cases hc
  ca := fun X I k => exc_cls X c I k
section
variable {X : Cx}
theorem call_isiT : CallR X (.builtin "isinstance") (fun xs H Q => ∃ (ea C p : Addr) (cs : List Addr) (b : Bool), xs = [.ref ea, .ref p] ∧ H ea = some (excO ea C) ∧ H p = some (.tup (cs.map V.ref)) ∧ ExcC X.K C ∧ PySem.W.kitAny X.K (.ref C) (cs.map Value.ref) = some b ∧ Q (.bl b) H) := by
  intro pins s σ H xs us Q I r h
  obtain ⟨ea, C, p, cs, b, rfl, hea, hp, c, ka, q⟩ := h
  obtain ⟨u, w', rfl, ru, rw'⟩ := vals2 r
  cases ru
  cases rw'
  obtain ⟨ty, _, _⟩ := (show ObjOk X.prog X.w H s.heap ea (excO ea C) from I.hok ea _ hea)
  obtain ⟨zl, its, rv, ⟨oc, od, odt, osl⟩, ho, hc, n, hd⟩ := (show ObjOk X.prog X.w H s.heap p (.tup (cs.map V.ref)) from I.hok p _ hp)
  simp only at hc hd
  subst hc hd
  have ei : its = cs.map Value.ref := by
    clear ho hp ka zl
    induction cs generalizing its with
    | nil => cases rv; rfl
    | cons c' r' ih =>
      cases rv with
      | cons r1 r2 =>
        cases r1
        rw [ih _ r2]
        rfl
  rw [ei] at ho
  exact PySem.W.kia_tup (kitx_exc c) I.kIn ty ho ka (fun z => nomatch z) fun tk => ⟨.bl b, H, I.tok tk, rfl, q⟩
theorem in65 {k : Nat} {A : Around} (r : Room k A) : A.units + 65 < cLine := by have := r.un; omega
noncomputable def rInD (K : PySem.W.Frag) (neg : Bool) : R2 := fun x y H Q => ∃ d ds, Dt K H x d ∧ Dt K H y (.list ds) ∧ SeqAt.shaped d = true ∧ PyData.canLayAll0 ds = true ∧ Q (.bl (if neg then !(ds.any fun z => PyData.eqv z d) else ds.any fun z => PyData.eqv z d)) H
theorem room_inD {A : Around} {ds : List PyData} {d : PyData} (sd : SeqAt.shaped d = true) (hu : A.units + 65 < cLine) : A.units + 1 + min (PyData.depthAll ds) d.depth < cLine := by
  have h1 := SeqAt.depth_of_shaped sd
  have h2 : min (PyData.depthAll ds) d.depth ≤ d.depth := Nat.min_le_right _ _
  omega
theorem op_inD (hu : X.A.units + 65 < cLine) : OpR X (compareOp .In) (rInD X.K false) := by
  intro pins s σ H x y v u Q I rx ry h
  obtain ⟨d, ds, hd, he, sd, se, q⟩ := h
  obtain ⟨as, ra⟩ := dt_reads I hd rx
  obtain ⟨bs, rb⟩ := dt_reads I he ry
  exact SeqAt.in_list_reads rb ra se (SeqAt.canLay_of_shaped sd) (room_inD sd hu) ⟨.bl _, H, I, rfl, q⟩
end
end L3
set_option Elab.async false
set_option linter.all false
set_option maxRecDepth 100000
set_option maxHeartbeats 4000000
namespace L3
open PySem PySem.Spec PyProof.Rows L2
section
variable {X : Cx} {e : Expr} {es : List Expr} {pos p : Pos} {k : Nat} {f C : Addr} {fd : FuncData} {ps : List Str} {sp : Sp} {t : TA} {x : Str}
theorem run_makex {pins : List (Addr × Obj)} {σ : L2.St} {H : Hp} {s : Shared} {Q : VK} {E : XK} {us : List Value} {vs : List V} (M : Mk X.K C f) (F : FnOk X.prog X.w X.K X.mg X.base (CXe X.prog X.w) k f fd ps sp) (hr : Room (k + 1) X.A) (hb : Binds X.K fd ps [])
    (I : Inv X pins σ H s) (r : Vals vs us)
    (h : ∀ x dx, H x = none → H dx = none → dx ≠ x → sp (.ref x :: vs) (upd (upd H dx (.own x)) x (.ins C dx [])) (fun v H2 => v = .non ∧ Q (.ref x) H2) E) :
    wpAny (model X.prog X.w) X.A (call (.ref C) us) (EP X pins σ Q) (XPs X pins σ E) s := by
  have hq := h (s.heap.objs.size + 1) s.heap.objs.size (I.hok.fresh (Nat.le_succ _)) (I.hok.fresh (Nat.le_refl _)) (Nat.ne_of_lt (Nat.lt_succ_self _))
  have I2 := L2.Inv.made (C := C) I
  have r2 : Vals (V.ref (s.heap.objs.size + 1) :: vs) (Value.ref (s.heap.objs.size + 1) :: us) := .cons rfl r
  have hl : (Value.ref (s.heap.objs.size + 1) :: us ++ []).length = ps.length := by
    rw [List.append_nil, ← r2.length]
    exact F.len _ _ _ _ hq
  have hb' := hb _ (Value.ref (s.heap.objs.size + 1) :: us) I2.kIn hl
  rw [List.append_nil] at hb'
  refine wpAny_call (make_map (f := f) I.kIn M.makes M.init (beq_iff_eq.mp M.fn) (codeAny_mono (F.run _ X.stack _ _ ⟨Value.ref (s.heap.objs.size + 1) :: us, []⟩ (Value.ref (s.heap.objs.size + 1) :: us) _ _ E (hr.make C us [])
    (I2.env0.make C us []) hb' r2 hq) fun r s' hq' => ?_))
  cases r with
  | error e =>
    obtain ⟨ea, cls, a0, H', B, rfl, T, hE⟩ := hq'
    exact ⟨_, _, ea, cls, a0, H', B, rfl, I2, T, hE⟩
  | ok fl =>
    cases fl with
    | ret u =>
      obtain ⟨v, H', I3, rv, ev, q3⟩ := I2.after hq'
      subst ev
      exact ⟨rv, ⟨V.ref (s.heap.objs.size + 1), H', I3, rfl, q3⟩⟩
    | next => exact False.elim hq'
    | brk => exact False.elim hq'
    | cont => exact False.elim hq'
noncomputable def tMakeX (C : Addr) (sp : Sp) (t : TA) : TEx := fun E σ H Q => t σ H fun vs H1 => ∀ x dx, H1 x = none → H1 dx = none → dx ≠ x → sp (.ref x :: vs) (upd (upd H1 dx (.own x)) x (.ins C dx [])) (fun v H2 => v = .non ∧ Q (.ref x) H2) E
theorem px_make (M : Mk X.K C f) (F : FnOk X.prog X.w X.K X.mg X.base (CXe X.prog X.w) k f fd ps sp) (hr : Room (k + 1) X.A) (hg : Gl X x) (hm : X.mg x = some (.ref C)) (hb : Binds X.K fd ps [])
    (ha : PA X.nox (e :: es) t) (hdb : (x == ("__debug__" : Str)) = false := by decide) (he : starEach (e :: es) X.env = (false, eval e X.env) :: starEach es X.env := by rfl) (hpl : (backTo pos (starEach es X.env)).any (·.1) = false := by rfl) :
    PEx X (.Call (.Name x p) (e :: es) [] pos) (tMakeX C sp t) := by
  intro pins s σ H Q E I h
  refine wpAny_Call_Name_kw (ld_glob I hg hm ?_ hdb)
  refine PySem.W.callWith_K (h₀ := X.base) I.ok.mod.kin M.kp (noW (X := X) (pins := pins) (thn (ha pos pins s σ H _ (I.wish _) h) fun us s1 ⟨vs, H1, I1, r, q⟩ => ⟨I1.unwish.kIn, ?_⟩)) he hpl
  exact run_makex M F hr hb I1.unwish r q
end
end L3
set_option Elab.async false
set_option linter.all false
namespace M1
open PySem
noncomputable def wcs : Nat → Int → List Nat
  | 0, _ => []
  | k + 1, n => (97 + (n % 26).toNat) :: wcs k (n / 26)
noncomputable def wnum (c : Int) : Int := c * 1099087573 % 10000000000037
noncomputable def wsize (c : Int) : Nat := (1 + wnum c % 7).toNat
noncomputable def wordL (c : Int) : List Nat := wcs (wsize c) (wnum c / 7)
theorem wcs_len : ∀ k n, (wcs k n).length = k
  | 0, _ => rfl
  | k + 1, n => by simp [wcs, wcs_len k]
theorem wcs_ok : ∀ k n, ∀ x ∈ wcs k n, 97 ≤ x ∧ x ≤ 122
  | 0, _ => by simp [wcs]
  | k + 1, n => by
    intro x hx
    simp only [wcs, List.mem_cons] at hx
    rcases hx with rfl | hx
    · have h1 : 0 ≤ n % 26 := Int.emod_nonneg _ (by decide)
      have h2 : n % 26 < 26 := Int.emod_lt_of_pos _ (by decide)
      omega
    · exact wcs_ok k _ x hx
theorem wsize_ok (c : Int) : 1 ≤ wsize c ∧ wsize c ≤ 7 := by
  have h1 : 0 ≤ wnum c % 7 := Int.emod_nonneg _ (by decide)
  have h2 : wnum c % 7 < 7 := Int.emod_lt_of_pos _ (by decide)
  unfold wsize
  omega
theorem word_len (c : Int) : (wordL c).length = wsize c := wcs_len _ _
theorem word_ok (c : Int) : ∀ x ∈ wordL c, 97 ≤ x ∧ x ≤ 122 := wcs_ok _ _
noncomputable def Nm (l : List Nat) : Prop := 1 ≤ l.length ∧ l.length ≤ 8 ∧ ∀ x ∈ l, 97 ≤ x ∧ x ≤ 122
noncomputable def letters : List Nat := [107, 99, 120, 113, 97, 109, 122, 102, 116, 98, 106, 101]
noncomputable def hat (c : Int) : Nat := (c % ((wsize c : Int) + 1)).toNat
theorem hat_le (c : Int) : hat c ≤ wsize c := by
  have h1 : 0 ≤ c % ((wsize c : Int) + 1) := Int.emod_nonneg _ (by omega)
  have h2 : c % ((wsize c : Int) + 1) < (wsize c : Int) + 1 := Int.emod_lt_of_pos _ (by omega)
  unfold hat
  omega
noncomputable def house (c : Int) (l : Nat) : List Nat := (wordL c).take (hat c) ++ l :: (wordL c).drop (hat c)
noncomputable def housesL (c : Int) (m : Nat) : List (List Nat) := (letters.take m).map (house c)
theorem letters_ok : ∀ x ∈ letters, 97 ≤ x ∧ x ≤ 122 := by decide
theorem letters_nd : letters.Nodup := by decide
theorem house_nm (c : Int) {l : Nat} (h : 97 ≤ l ∧ l ≤ 122) : Nm (house c l) := by
  have hl := word_len c
  have hs := wsize_ok c
  have ha := hat_le c
  refine ⟨?_, ?_, ?_⟩
  · simp only [house, List.length_append, List.length_cons]
    omega
  · simp only [house, List.length_append, List.length_cons, List.length_take, List.length_drop]
    omega
  · intro x hx
    simp only [house, List.mem_append, List.mem_cons] at hx
    rcases hx with hx | rfl | hx
    · exact word_ok c x (List.mem_of_mem_take hx)
    · exact h
    · exact word_ok c x (List.mem_of_mem_drop hx)
theorem house_inj (c : Int) {l k : Nat} (h : house c l = house c k) : l = k := by
  unfold house at h
  have := List.append_cancel_left h
  exact (List.cons.inj this).1
theorem houses_len (c : Int) (m : Nat) (h : m ≤ 12) : (housesL c m).length = m := by
  simp only [housesL, List.length_map, List.length_take]
  have : letters.length = 12 := rfl
  omega
theorem houses_nm (c : Int) (m : Nat) : ∀ x ∈ housesL c m, Nm x := by
  intro x hx
  obtain ⟨l, hl, rfl⟩ := List.mem_map.mp hx
  exact house_nm c (letters_ok l (List.mem_of_mem_take hl))
theorem nd_map_inj {α β : Type} {f : α → β} (hf : ∀ a b, f a = f b → a = b) : ∀ {l : List α}, l.Nodup → (l.map f).Nodup
  | [], _ => List.nodup_nil
  | a :: r, h => by
    obtain ⟨h1, h2⟩ := List.nodup_cons.mp h
    refine List.nodup_cons.mpr ⟨fun m => ?_, nd_map_inj hf h2⟩
    obtain ⟨b, hb, e⟩ := List.mem_map.mp m
    exact h1 (hf _ _ e ▸ hb)
theorem houses_nd (c : Int) (m : Nat) : (housesL c m).Nodup := nd_map_inj (fun a b h => house_inj c h) (letters_nd.sublist (List.take_sublist _ _))
structure Rd where
  a : Nat
  b : Nat
  t : Int
  m : Int
noncomputable def rnum (c : Int) : Int := c * 48271 % 2147483647
noncomputable def rbeg (n : Nat) (c : Int) : Int := rnum c % n
noncomputable def rend (n : Nat) (c : Int) : Int := (rbeg n c + 1 + rnum c / 12 % ((n : Int) - 1)) % n
noncomputable def rroom (c : Int) : Int := if rnum c / 432 % 5 = 1 then 1 + c % 10 ^ 9 else 1 + rnum c / 144 % 3
noncomputable def rturn (l : Int) (c : Int) : Int := 1 + rnum c / 2160 % l
noncomputable def rd (n : Nat) (c : Int) : Rd := ⟨(rbeg n c).toNat, (rend n c).toNat, rturn 9 c, rroom c⟩
structure Rd.Ok (r : Rd) (n : Nat) : Prop where
  a : r.a < n
  b : r.b < n
  ne : r.a ≠ r.b
  t : 1 ≤ r.t ∧ r.t ≤ 9
  m : 1 ≤ r.m ∧ r.m ≤ 1000000000
theorem rd_ok {n : Nat} (h : 1 < n) (c : Int) : (rd n c).Ok n := by
  have b1 : 0 ≤ rbeg n c := Int.emod_nonneg _ (by omega)
  have b2 : rbeg n c < n := Int.emod_lt_of_pos _ (by omega)
  have e1 : 0 ≤ rend n c := Int.emod_nonneg _ (by omega)
  have e2 : rend n c < n := Int.emod_lt_of_pos _ (by omega)
  have d1 : 0 ≤ rnum c / 12 % ((n : Int) - 1) := Int.emod_nonneg _ (by omega)
  have d2 : rnum c / 12 % ((n : Int) - 1) < (n : Int) - 1 := Int.emod_lt_of_pos _ (by omega)
  have ne : rbeg n c ≠ rend n c := by
    intro e
    generalize hd : rnum c / 12 % ((n : Int) - 1) = d at d1 d2
    have e3 : rend n c = (rbeg n c + 1 + d) % n := by rw [← hd]; rfl
    by_cases hlt : rbeg n c + 1 + d < n
    · rw [Int.emod_eq_of_lt (by omega) hlt] at e3
      omega
    · have : (rbeg n c + 1 + d) % n = rbeg n c + 1 + d - n := by
        have h5 : (rbeg n c + 1 + d) % n = (rbeg n c + 1 + d - n) % n := by
          rw [Int.sub_emod_right]
        rw [h5, Int.emod_eq_of_lt (by omega) (by omega)]
      omega
  have t1 : 0 ≤ rnum c / 2160 % 9 := Int.emod_nonneg _ (by decide)
  have t2 : rnum c / 2160 % 9 < 9 := Int.emod_lt_of_pos _ (by decide)
  have m1 : 0 ≤ rnum c / 144 % 3 := Int.emod_nonneg _ (by decide)
  have m2 : rnum c / 144 % 3 < 3 := Int.emod_lt_of_pos _ (by decide)
  have m3 : 0 ≤ c % 10 ^ 9 := Int.emod_nonneg _ (by decide)
  have m4 : c % 10 ^ 9 < 10 ^ 9 := Int.emod_lt_of_pos _ (by decide)
  refine ⟨by show (rbeg n c).toNat < n; omega, by show (rend n c).toNat < n; omega, ?_, ?_, ?_⟩
  · show (rbeg n c).toNat ≠ (rend n c).toNat
    omega
  · show 1 ≤ rturn 9 c ∧ rturn 9 c ≤ 9
    unfold rturn
    omega
  · show 1 ≤ rroom c ∧ rroom c ≤ 1000000000
    unfold rroom
    split <;> omega
end M1
set_option Elab.async false
set_option linter.all false
set_option maxRecDepth 100000
set_option maxHeartbeats 4000000
namespace K1
open PySem L2 L3
theorem bt_len : bootBuiltins "len" = some (.builtin "len") := by decide +kernel
theorem bt_isinstance : bootBuiltins "isinstance" = some (.builtin "isinstance") := by decide +kernel
theorem bt_all : bootBuiltins "all" = some (.builtin "all") := by decide +kernel
theorem bt_int : bootBuiltins "int" = some (.type "int") := by decide +kernel
theorem bt_bool : bootBuiltins "bool" = some (.type "bool") := by decide +kernel
theorem bt_str : bootBuiltins "str" = some (.type "str") := by decide +kernel
theorem bt_list : bootBuiltins "list" = some (.type "list") := by decide +kernel
theorem bt_tuple : bootBuiltins "tuple" = some (.type "tuple") := by decide +kernel
theorem bt_set : bootBuiltins "set" = some (.type "set") := by decide +kernel
theorem bt_ValueError : bootBuiltins "ValueError" = some (.type "ValueError") := by decide +kernel
structure Blt (mg : Str → Option Value) : Prop where
  len : mg "len" = none
  range : mg "range" = none
  isinstance : mg "isinstance" = none
  all_ : mg "all" = none
  int : mg "int" = none
  bool : mg "bool" = none
  str : mg "str" = none
  list : mg "list" = none
  tuple : mg "tuple" = none
  set_ : mg "set" = none
  ValueError : mg "ValueError" = none
  enumerate : mg "enumerate" = none
  max : mg "max" = none
  min : mg "min" = none
  sum : mg "sum" = none
  any_ : mg "any" = none
  dict : mg "dict" = none
  sorted : mg "sorted" = none
  zip : mg "zip" = none
structure Dn (K : PySem.W.Frag) (mg : Str → Option Value) (x : Str) (st : Stmt) (ps : List Str) (f : Addr) (fd : FuncData) : Prop where
  fn : Fun K x x st f fd
  at_ : mg x = some (.ref f)
  bd : Binds K fd ps []
structure Mn (K : PySem.W.Frag) (C : Addr) (m qual : Str) (st : Stmt) (ps : List Str) (f : Addr) (fd : FuncData) : Prop where
  fn : Fun K m qual st f fd
  me : Meth K C m f
  bd : Binds K fd ps []
structure Inn (K : PySem.W.Frag) (C : Addr) (qual : Str) (st : Stmt) (ps : List Str) (f : Addr) (fd : FuncData) : Prop where
  fn : Fun K "__init__" qual st f fd
  made : Mk K C f
  bd : Binds K fd ps []
noncomputable def Cst (mg : Str → Option Value) (x : Str) (i : Int) : Prop := ∃ t, mg x = some (.int i t)
theorem pe_const {X : Cx} {x : Str} {i : Int} {pos : Pos} (hg : Gl X x) (h : Cst X.mg x i) (hd : (x == ("__debug__" : Str)) = false := by decide) : PE X (.Name x pos) (tC (.int i)) := by
  obtain ⟨t, e⟩ := h
  exact pe_glob hg e ⟨t, rfl⟩ hd
theorem pe_bty {X : Cx} {x : Str} {T : String} {pos : Pos} (hg : Gl X x) (hm : X.mg x = none) (hv : bootBuiltins x = some (.type T)) (hn : x ≠ "__name__" := by decide) (hd : (x == ("__debug__" : Str)) = false := by decide) : PE X (.Name x pos) (tC (.ty T)) :=
  pe_bltn (v := .ty T) hg hm hv rfl hn hd
theorem pe_cls {X : Cx} {x : Str} {C : Addr} {pos : Pos} (hg : Gl X x) (hm : X.mg x = some (.ref C)) (hd : (x == ("__debug__" : Str)) = false := by decide) : PE X (.Name x pos) (tC (.ref C)) :=
  pe_glob (v := .ref C) hg hm rfl hd
theorem tlc_map {wi : TI} {cs : List (Option Nat)} {te : TE} {σ rest : L2.St} {H H1 : Hp} {Q : VK} {J : It} {xs : List L2.V} (hw : ∀ R : It → Hp → Prop, R J H1 → wi σ H R) (hcs : caps cs σ = none :: rest) (wk : Wk J H1 xs) (hl : xs.length < sizeLine) (f : L2.V → L2.V)
    (elt : ∀ (i : Nat) (x : L2.V) (H2 : Hp) (R : VK), xs[i]? = some x → Same H1 H2 → (∀ H5, Same H2 H5 → R (f x) H5) → te (some x :: rest) H2 R)
    (fin : ∀ (D : Addr) (H' : Hp), H1 D = none → H' D = some (.lst (xs.map f)) → Same H1 H' → Q (.ref D) H') : tLC wi cs (gName 0) tAll te σ H Q := hw _ (lc_map hcs wk hl f elt fin)
theorem sub_of {cl big : List (Str × Addr)} (h : ∀ p ∈ cl, big.lookup p.1 = some p.2) (x : Str) (c : Addr) (e : cl.lookup x = some c) : big.lookup x = some c := by
  induction cl with
  | nil => cases e
  | cons p r ih =>
    obtain ⟨y, d⟩ := p
    rw [List.lookup_cons] at e
    by_cases hb : (x == y) = true
    · rw [hb] at e
      cases e
      have := h (y, c) (List.mem_cons_self ..)
      rw [show x = y from eq_of_beq hb]
      exact this
    · rw [Bool.not_eq_true] at hb
      rw [hb] at e
      exact ih (fun p hp => h p (List.mem_cons_of_mem _ hp)) e
end K1
set_option Elab.async false
set_option linter.all false
set_option maxRecDepth 100000
set_option maxHeartbeats 4000000
namespace K1
open PySem L2 L3 M1
section
variable {P : Program} {w : World} {K : PySem.W.Frag} {mg : Str → Option Value} {base : Heap}
noncomputable abbrev S (l : List Nat) : Str := ⟨l.toArray⟩
theorem atI_int {ns : List Int} {k : Int} (h0 : 0 ≤ k) (h1 : k < (ns.map V.int).length) : atI (ns.map V.int) k = some (V.int (ns.getD k.toNat 0)) := by
  have h2 : k.toNat < ns.length := by rw [List.length_map] at h1; omega
  have e : (ns.map V.int)[k.toNat]? = some (V.int (ns.getD k.toNat 0)) := by
    rw [List.getElem?_map, List.getElem?_eq_getElem h2]
    simp [List.getD, h2]
  have := atI_nat e
  rwa [Int.toNat_of_nonneg h0] at this
noncomputable def spAt (K : PySem.W.Frag) : Sp := fun vs H Q _ => ∃ (a : Addr) (ns : List Int) (k : Int), vs = [.ref a, .int k] ∧ SqL K H a (ns.map V.int) ∧ 0 ≤ k ∧ Q (.int (ns.getD k.toNat 0)) H
theorem alpha_codes : (Str.ofString "abcdefghijklmnopqrstuvwxyz").cps.toList = (List.range 26).map (97 + ·) := by decide +kernel
theorem alpha_at {i : Int} (h0 : 0 ≤ i) (h1 : i < 26) : atI (Str.ofString "abcdefghijklmnopqrstuvwxyz").cps.toList i = some (97 + i.toNat) := by
  have e : (Str.ofString "abcdefghijklmnopqrstuvwxyz").cps.toList[i.toNat]? = some (97 + i.toNat) := by
    rw [alpha_codes, List.getElem?_map, List.getElem?_range (by omega)]
    rfl
  have := atI_nat e
  rwa [Int.toNat_of_nonneg h0] at this
noncomputable def nAt : Nat → Int → Int
  | 0, n => n
  | k + 1, n => nAt k (n / 26)
theorem nAt_succ : ∀ k n, nAt (k + 1) n = nAt k n / 26
  | 0, _ => rfl
  | k + 1, n => nAt_succ k (n / 26)
theorem wcs_snoc : ∀ k n, wcs (k + 1) n = wcs k n ++ [97 + (nAt k n % 26).toNat]
  | 0, _ => rfl
  | k + 1, n => by
    show _ :: wcs (k + 1) (n / 26) = _
    rw [wcs_snoc k (n / 26)]
    rfl
theorem S_app (a b : List Nat) : S a ++ S b = S (a ++ b) := by
  show Str.append _ _ = _
  simp [Str.append, S]
theorem S_len (a : List Nat) : (S a).length = a.length := by simp [S, Str.length]
noncomputable def spWord : Sp := fun vs H Q _ => ∃ c : Int, vs = [.int c] ∧ Q (.str (S (wordL c))) H
noncomputable def txs (hs : List (List Nat)) : List L2.V := hs.map fun l => V.str (S l)
theorem txs_map (hs : List (List Nat)) : txs hs = (hs.map S).map V.str := by simp [txs]
theorem cut_take (l : List Nat) (k : Nat) (h : k ≤ l.length) : cutS (S l) none (some (k : Int)) = S (l.take k) := by
  have e : (S l).cps.size = l.length := by simp [S]
  unfold cutS
  rw [e, HT.sIx_none, HT.sIx_nat]
  simp [S, Nat.min_eq_left h]
theorem cut_drop (l : List Nat) (k : Nat) (h : k ≤ l.length) : cutS (S l) (some (k : Int)) none = S (l.drop k) := by
  have e : (S l).cps.size = l.length := by simp [S]
  unfold cutS
  rw [e, HT.sIx_none, HT.sIx_nat, Nat.min_eq_left h]
  show (⟨((l.toArray.toList.drop k).take (l.length - k)).toArray⟩ : Str) = S (l.drop k)
  simp [S, List.take_of_length_le]
theorem menu_S : Str.ofString "kcxqamzftbje" = S letters := by decide +kernel
theorem signs_S (l : List Nat) : signs (S l) = l.map fun c => V.str (S [c]) := by simp [signs, S]
noncomputable def spHouses : Sp := fun vs H Q _ => ∃ (c : Int) (m : Nat), vs = [.int c, .int m] ∧ m ≤ 12 ∧ ∀ (p : Addr) (H' : Hp), H p = none → Same H H' → H' p = some (.lst (txs (housesL c m))) → Q (.ref p) H'
noncomputable def putIn (c : Int) : L2.V → L2.V
  | .str z => .str (S ((wordL c).take (hat c)) ++ z ++ S ((wordL c).drop (hat c)))
  | v => v
noncomputable def rdV (hs : List (List Nat)) (r : M1.Rd) : List L2.V := [.str (S (hs.getD r.a [])), .str (S (hs.getD r.b [])), .int r.t, .int r.m]
noncomputable def Tups (H : Hp) : List Addr → List (List L2.V) → Prop := Paired fun r d => H r = some (.tup d)
theorem Tups.same {H H' : Hp} (sm : Same H H') {rs ds} (h : Tups H rs ds) : Tups H' rs ds := Paired.mapP h fun _ _ e => sm _ _ e
noncomputable def refs (rs : List Addr) : List L2.V := rs.map V.ref
noncomputable def roadsV (hs : List (List Nat)) (ns : List Int) : List (List L2.V) := if 1 < hs.length then ns.map fun c => rdV hs (rd hs.length c) else []
theorem Paired.snoc {α β : Type} {F : α → β → Prop} {x : α} {y : β} (q : F x y) : ∀ {l : List α} {m : List β}, Paired F l m → Paired F (l ++ [x]) (m ++ [y])
  | _, _, .nil => .cons q .nil
  | _, _, .cons r t => .cons r (Paired.snoc q t)
theorem txs_at {hs : List (List Nat)} {k : Int} (h0 : 0 ≤ k) (h1 : k < hs.length) : atI (txs hs) k = some (V.str (S (hs.getD k.toNat []))) := by
  have h2 : k.toNat < hs.length := by omega
  have e : (txs hs)[k.toNat]? = some (V.str (S (hs.getD k.toNat []))) := by
    unfold txs
    rw [List.getElem?_map, List.getElem?_eq_getElem h2]
    simp [List.getD, h2]
  have := atI_nat e
  rwa [Int.toNat_of_nonneg h0] at this
theorem txs_len (hs : List (List Nat)) : (txs hs).length = hs.length := List.length_map ..
noncomputable def spRoads (K : PySem.W.Frag) : Sp := fun vs H Q _ => ∃ (a b : Addr) (ns : List Int) (hs : List (List Nat)), vs = [.ref a, .ref b, .int 9] ∧ SqL K H a (ns.map V.int) ∧ SqL K H b (txs hs) ∧ hs.length ≤ 12 ∧ ns.length ≤ 40 ∧
  ∀ (p : Addr) (H' : Hp) (rs : List Addr), H p = none → Same H H' → H' p = some (.lst (refs rs)) → Tups H' rs (roadsV hs ns) → Q (.ref p) H'
noncomputable def nRoads : List Str := ["_law_cells", "_law_houses_here", "_law_long", "_law_roads_here", "_law_cell", "_law_n", "_law_begin", "_law_end", "_law_room"]
theorem upd_other {H H' : Hp} {p : Addr} {o : HO} (hp : H p = none) (sm : Same H H') : Same H (upd H' p o) := fun b u e => by
  rw [upd_ne (ne_of_none e hp)]
  exact sm b u e
theorem Tups.upd {H : Hp} {p : Addr} {o u : HO} {rs ds} (h : Tups H rs ds) (e : H p = some u) (hu : ∀ d, u ≠ .tup d) : Tups (upd H p o) rs ds := Paired.mapP h fun r d q => by
  rw [upd_ne]
  · exact q
  · rintro rfl
    rw [e] at q
    exact hu d (Option.some.inj q)
theorem refs_snoc (rs : List Addr) (t : Addr) : refs rs ++ [V.ref t] = refs (rs ++ [t]) := by simp [refs]
theorem refs_len (rs : List Addr) : (refs rs).length = rs.length := List.length_map ..
theorem Tups.len {H rs ds} (h : Tups H rs ds) : rs.length = ds.length := Paired.length h
theorem upd_free {H : Hp} {t : Addr} {o : HO} (ht : H t = none) : Same H (upd H t o) := fun b u e => by
  rw [upd_ne (ne_of_none e ht)]
  exact e
theorem iteB {b : Bool} {A B : Prop} (h : b = true) (q : A) : if b = true then A else B := by rw [if_pos h]; exact q
theorem iteN {b : Bool} {A B : Prop} (h : b = false) (q : B) : if b = true then A else B := by subst h; exact q
structure Kit (K : PySem.W.Frag) : Prop where
  ib : PySem.W.kitOne K (.type "int") (.type "bool") = some false
structure Csts (mg : Str → Option Value) : Prop where
  MOST_HOUSES : Cst mg "MOST_HOUSES" 12
  MOST_ROADS : Cst mg "MOST_ROADS" 40
  MOST_SIGNS : Cst mg "MOST_SIGNS" 8
  MOST_TURNS : Cst mg "MOST_TURNS" 9
  MOST_ROOM : Cst mg "MOST_ROOM" 1000000000
theorem S_inj {a b : List Nat} (h : S a = S b) : a = b := by
  have := congrArg (fun x => x.cps.toList) h
  simpa [S] using this
structure Good (hs : List (List Nat)) : Prop where
  nm : ∀ x ∈ hs, Nm x
  nd : hs.Nodup
  few : hs.length ≤ 12
noncomputable def spAreH : Sp := fun vs H Q _ => ∃ (a : Addr) (hs : List (List Nat)), vs = [.ref a] ∧ H a = some (.lst (txs hs)) ∧ Good hs ∧ ∀ H', Same H H' → Q (.bl true) H'
noncomputable def rdsOf (hs : List (List Nat)) (ns : List Int) : List M1.Rd := if 1 < hs.length then ns.map (rd hs.length) else []
theorem roadsV_eq (hs : List (List Nat)) (ns : List Int) : roadsV hs ns = (rdsOf hs ns).map (rdV hs) := by
  unfold roadsV rdsOf
  split
  · rw [List.map_map]
    rfl
  · rfl
theorem rdsOf_ok (hs : List (List Nat)) (ns : List Int) : ∀ d ∈ rdsOf hs ns, d.Ok hs.length := by
  unfold rdsOf
  split
  · rename_i h
    intro d hd
    obtain ⟨c, _, rfl⟩ := List.mem_map.mp hd
    exact rd_ok h c
  · intro d hd
    exact absurd hd List.not_mem_nil
structure RoadsAt (H : Hp) (hs : List (List Nat)) (rs : List Addr) (ds : List M1.Rd) : Prop where
  tups : Tups H rs (ds.map (rdV hs))
  ok : ∀ d ∈ ds, d.Ok hs.length
theorem RoadsAt.same {H H' : Hp} {hs rs ds} (r : RoadsAt H hs rs ds) (sm : Same H H') : RoadsAt H' hs rs ds := ⟨r.tups.same sm, r.ok⟩
theorem RoadsAt.len {H : Hp} {hs rs ds} (q : RoadsAt H hs rs ds) : rs.length = ds.length := by
  have := q.tups.len
  rwa [List.length_map] at this
theorem ne_at {hs : List (List Nat)} {a b : Nat} (nd : hs.Nodup) (ha : a < hs.length) (hb : b < hs.length) (ne : a ≠ b) : S (hs.getD a []) ≠ S (hs.getD b []) := by
  intro e
  have e2 := S_inj e
  rw [List.getD, List.getD, List.getElem?_eq_getElem ha, List.getElem?_eq_getElem hb] at e2
  rcases Nat.lt_or_gt_of_ne ne with h | h
  · exact List.pairwise_iff_getElem.mp nd a b ha hb h e2
  · exact List.pairwise_iff_getElem.mp nd b a hb ha h e2.symm
noncomputable def SameBut (x : Addr) (H H' : Hp) : Prop := ∀ b o, b ≠ x → H b = some o → H' b = some o
noncomputable def netF (a b : Addr) : List (Str × L2.V) := [("kept_houses", .ref a), ("kept_roads", .ref b)]
structure NetC (K : PySem.W.Frag) (C : Addr) : Prop where
  cl : Cls K C
  nh : NoAttr K C "kept_houses"
  nr : NoAttr K C "kept_roads"
noncomputable def spInit (K : PySem.W.Frag) (C : Addr) : Sp := fun vs H Q _ => ∃ (x dx a b : Addr) (hs : List (List Nat)) (rs : List Addr) (ds : List M1.Rd), vs = [.ref x, .ref a, .ref b] ∧ H x = some (.ins C dx []) ∧ H a = some (.lst (txs hs)) ∧ Good hs ∧
  H b = some (.lst (refs rs)) ∧ RoadsAt H hs rs ds ∧ rs.length ≤ 40 ∧
  ∀ (H' : Hp) (a' b' : Addr), SameBut x H H' → H' x = some (.ins C dx (netF a' b')) → H' a' = some (.lst (txs hs)) → H' b' = some (.lst (refs rs)) → H a' = none → H b' = none → Q .non H'
structure NetAt (C : Addr) (H : Hp) (x a' b' : Addr) (xs ys : List L2.V) : Prop where
  ins : ∃ dx, H x = some (.ins C dx (netF a' b'))
  hou : H a' = some (.lst xs)
  roa : H b' = some (.lst ys)
noncomputable def spHousesM (C : Addr) : Sp := fun vs H Q _ => ∃ (x a' b' : Addr) (xs ys : List L2.V), vs = [.ref x] ∧ NetAt C H x a' b' xs ys ∧ ∀ l, H l = none → Q (.ref l) (upd H l (.lst xs))
noncomputable def spRoadsM (C : Addr) : Sp := fun vs H Q _ => ∃ (x a' b' : Addr) (xs ys : List L2.V), vs = [.ref x] ∧ NetAt C H x a' b' xs ys ∧ ∀ l, H l = none → Q (.ref l) (upd H l (.lst ys))
noncomputable def hD (hs : List (List Nat)) : List PyData := (hs.map S).map PyData.str
noncomputable def rD (hs : List (List Nat)) (d : M1.Rd) : PyData := .tuple [.str (S (hs.getD d.a [])), .str (S (hs.getD d.b [])), .int d.t, .int d.m]
theorem strOk_nm {l : List Nat} (h : Nm l) : PyData.canLay0 (.str (S l)) = true := by
  simp only [PyData.canLay0, PyData.strOk, S]
  rw [Array.all_eq_true_iff_forall_mem]
  intro x hx
  have := h.2.2 x (by simpa using hx)
  exact decide_eq_true (by omega)
theorem can_all {ds : List PyData} (h : ∀ d ∈ ds, d.canLay0 = true) : PyData.canLayAll0 ds = true := by
  induction ds with
  | nil => rfl
  | cons d r ih =>
    simp only [PyData.canLayAll0, Bool.and_eq_true]
    exact ⟨h d (List.mem_cons_self ..), ih fun e he => h e (List.mem_cons_of_mem _ he)⟩
theorem depth_all {ds : List PyData} {n : Nat} (h : ∀ d ∈ ds, d.depth ≤ n) : PyData.depthAll ds ≤ n := by
  induction ds with
  | nil => exact Nat.zero_le _
  | cons d r ih =>
    simp only [PyData.depthAll]
    exact Nat.max_le.mpr ⟨h d (List.mem_cons_self ..), ih fun e he => h e (List.mem_cons_of_mem _ he)⟩
theorem Good.at {hs : List (List Nat)} (G : Good hs) {a : Nat} (h : a < hs.length) : Nm (hs.getD a []) := by
  refine G.nm _ ?_
  rw [List.getD, List.getElem?_eq_getElem h]
  exact List.getElem_mem h
theorem can_rD {hs : List (List Nat)} (G : Good hs) {d : M1.Rd} (ok : d.Ok hs.length) : (rD hs d).canLay0 = true := by
  unfold rD
  simp only [PyData.canLay0, PyData.canLayAll0, Bool.and_true]
  rw [Bool.and_eq_true]
  exact ⟨strOk_nm (G.at ok.a), strOk_nm (G.at ok.b)⟩
theorem depth_rD (hs : List (List Nat)) (d : M1.Rd) : (rD hs d).depth ≤ 1 := by
  unfold rD
  simp only [PyData.depth]
  exact Nat.succ_le_succ (depth_all fun e he => by
    rcases List.mem_cons.mp he with rfl | he
    · exact Nat.le_refl _
    rcases List.mem_cons.mp he with rfl | he
    · exact Nat.le_refl _
    rcases List.mem_cons.mp he with rfl | he
    · exact Nat.le_refl _
    rcases List.mem_cons.mp he with rfl | he
    · exact Nat.le_refl _
    · exact absurd he List.not_mem_nil)
theorem can_hD {hs : List (List Nat)} (G : Good hs) : (PyData.list (hD hs)).canLay0 = true := can_all fun d hd => by
  obtain ⟨x, hx, rfl⟩ := List.mem_map.mp hd
  obtain ⟨l, hl, rfl⟩ := List.mem_map.mp hx
  exact strOk_nm (G.nm l hl)
theorem depth_hD (hs : List (List Nat)) : (PyData.list (hD hs)).depth ≤ 1 := by
  simp only [PyData.depth]
  exact Nat.succ_le_succ (depth_all fun e he => by
    obtain ⟨x, _, rfl⟩ := List.mem_map.mp he
    exact Nat.le_refl _)
theorem can_rDs {hs : List (List Nat)} (G : Good hs) {ds : List M1.Rd} (ok : ∀ d ∈ ds, d.Ok hs.length) : (PyData.list (ds.map (rD hs))).canLay0 = true := can_all fun d hd => by
  obtain ⟨x, hx, rfl⟩ := List.mem_map.mp hd
  exact can_rD G (ok x hx)
theorem depth_rDs (hs : List (List Nat)) (ds : List M1.Rd) : (PyData.list (ds.map (rD hs))).depth ≤ 2 := by
  simp only [PyData.depth]
  exact Nat.succ_le_succ (depth_all fun e he => by
    obtain ⟨x, _, rfl⟩ := List.mem_map.mp he
    exact depth_rD hs x)
theorem shaped_of {d : PyData} {n : Nat} (h1 : d.canLay0 = true) (h2 : d.depth ≤ n) (h3 : n ≤ 64) : SeqAt.shaped d = true := by
  unfold SeqAt.shaped
  rw [h1, decide_eq_true (Nat.le_trans h2 h3)]
  rfl
theorem ne_self {d : PyData} (h : d.canLay0 = true) : (if true = true then !PyData.eqv d d else PyData.eqv d d) = false := by
  rw [eqv_self d h]
  rfl
theorem dt_hs {H : Hp} {a : Addr} {hs : List (List Nat)} (h : SqL K H a (txs hs)) : Dt K H (.ref a) (.list (hD hs)) := by
  rw [txs_map] at h
  exact .lst h (dts_strs _)
theorem dt_road {H : Hp} {r : Addr} {hs : List (List Nat)} {d : M1.Rd} (h : H r = some (.tup (rdV hs d))) : Dt K H (.ref r) (rD hs d) :=
  .tup (SqT.of h) (.cons (.str _) (.cons (.str _) (.cons (.int _) (.cons (.int _) .nil))))
theorem dts_roads {H : Hp} {hs : List (List Nat)} : ∀ {rs : List Addr} {ds : List M1.Rd}, Tups H rs (ds.map (rdV hs)) → Dts K H (refs rs) (ds.map (rD hs))
  | [], [], _ => .nil
  | r :: rs, d :: ds, .cons h t => .cons (dt_road h) (dts_roads t)
  | [], d :: ds, h => nomatch h
  | r :: rs, [], h => nomatch h
theorem dt_rs {H : Hp} {b : Addr} {hs : List (List Nat)} {rs : List Addr} {ds : List M1.Rd} (h : SqL K H b (refs rs)) (R : RoadsAt H hs rs ds) : Dt K H (.ref b) (.list (ds.map (rD hs))) := .lst h (dts_roads R.tups)
theorem make_same {Hc H4 : Hp} {x dx : Addr} {o u : HO} (hx : Hc x = none) (hd : Hc dx = none) (sb : SameBut x (upd (upd Hc dx o) x u) H4) : Same Hc H4 := fun b v e => by
  have n1 := ne_of_none e hx
  have n2 := ne_of_none e hd
  refine sb b v n1 ?_
  rw [upd_ne n1, upd_ne n2]
  exact e
theorem houses_good (c : Int) (m : Nat) (h : m ≤ 12) : Good (housesL c m) := ⟨houses_nm c m, houses_nd c m, by rw [houses_len c m h]; exact h⟩
theorem no_roads {H : Hp} (hs : List (List Nat)) : RoadsAt H hs [] [] := ⟨.nil, fun _ h => absurd h List.not_mem_nil⟩
noncomputable def spLaw (K : PySem.W.Frag) : Sp := fun vs H Q _ => ∃ (a : Addr) (ns : List Int), vs = [.ref a] ∧ SqL K H a (ns.map V.int) ∧ ns.length ≤ 63 ∧ ∀ H', Q (.bl true) H'
noncomputable def excChk (cd : ClassData) (sl : Array (Option Value)) (C R : Addr) : Bool := match cd.mro, sl.toList with
    | .ref C' :: bm, [_, _, _, _, some (.builtin _), _] => C' == C && !cd.hasDel && bm.contains (.type "BaseException") && (Value.ref C :: bm).contains (.ref R)
    | _, _ => false
theorem excSub_of {K : PySem.W.Frag} {C R : Addr} {dd : Option Addr} {cd : ClassData} {sl : Array (Option Value)} (l : K.lookup C = some ⟨.type "type", dd, .cls cd, sl⟩) (h : excChk cd sl C R = true) : excSub K C R = true := by
  unfold excSub
  rw [l]
  exact h
theorem kit_ib (K : PySem.W.Frag) : PySem.W.kitOne K (.type "int") (.type "bool") = some false := by
  show (if (Value.type "int" == Value.type "bool") = true then some true else if PySem.W.kitMeta "bool" = true then (fastBuiltinMro "int").map (·.contains (.type "bool")) else none) = some false
  decide +kernel
noncomputable def notAmong (C : Addr) (cd : ClassData) (os : List Addr) : Bool := !cd.mro.isEmpty && os.all fun o => !(Value.ref C == Value.ref o) && !(cd.mro.contains (.ref o))
theorem kitOne_not {C o : Addr} {dd d2 : Option Addr} {cd c2 : ClassData} {sl s2 : Array (Option Value)} (lC : K.lookup C = some ⟨.type "type", dd, .cls cd, sl⟩) (lo : K.lookup o = some ⟨.type "type", d2, .cls c2, s2⟩) (h0 : cd.mro.isEmpty = false) (h1 : (Value.ref C == Value.ref o) = false)
    (h2 : cd.mro.contains (.ref o) = false) : PySem.W.kitOne K (.ref C) (.ref o) = some false := by
  unfold PySem.W.kitOne PySem.W.kitCls
  rw [if_neg (by rw [h1]; exact Bool.false_ne_true)]
  have e1 : PySem.W.clsIn K o = some c2 := by unfold PySem.W.clsIn; rw [lo]
  have e2 : PySem.W.typeIn K (.ref o) = some (.type "type") := by
    show (K.lookup o).map (·.cls) = some (.type "type")
    rw [lo]
    rfl
  have e3 : PySem.W.clsIn K C = some cd := by unfold PySem.W.clsIn; rw [lC]
  dsimp only
  rw [e1, e2, if_pos (by simp)]
  show PySem.W.mroIn K C (.ref o) = some false
  unfold PySem.W.mroIn
  rw [e3]
  show (if cd.mro.isEmpty = true then none else some (cd.mro.contains (.ref o))) = some false
  rw [h0, h2]
  rfl
theorem kitAny_not {C : Addr} {dd : Option Addr} {cd : ClassData} {sl : Array (Option Value)} (lC : K.lookup C = some ⟨.type "type", dd, .cls cd, sl⟩) : ∀ {os : List Addr}, (∀ o ∈ os, ∃ d2 c2 s2, K.lookup o = some ⟨.type "type", d2, .cls c2, s2⟩) → notAmong C cd os = true →
    PySem.W.kitAny K (.ref C) (os.map Value.ref) = some false
  | [], _, _ => rfl
  | o :: os, h, hn => by
    unfold notAmong at hn
    rw [Bool.and_eq_true, List.all_cons, Bool.and_eq_true, Bool.and_eq_true] at hn
    obtain ⟨h0, ⟨h1, h2⟩, h3⟩ := hn
    obtain ⟨d2, c2, s2, lo⟩ := h o (List.mem_cons_self ..)
    have e := kitOne_not lC lo (by simpa using h0) (by simpa using h1) (by simpa using h2)
    rw [List.map_cons]
    unfold PySem.W.kitAny
    rw [e]
    refine kitAny_not lC (fun o' ho => h o' (List.mem_cons_of_mem _ ho)) ?_
    unfold notAmong
    rw [Bool.and_eq_true]
    exact ⟨h0, h3⟩
end
end K1
set_option Elab.async false
set_option linter.all false
set_option maxRecDepth 100000
set_option maxHeartbeats 4000000
namespace K1
open PySem L2 L3 M1
mutual
inductive Th (H : Hp) : L2.V → PyData → Prop
  | non : Th H .non .none
  | bl (b : Bool) : Th H (.bl b) (.bool b)
  | int (i : Int) : Th H (.int i) (.int i)
  | str (x : Str) (z : x.length ≤ 100) (ok : PyData.strOk x = true) : Th H (.str x) (.str x)
  | lst {a : Addr} {xs : List L2.V} {ds : List PyData} : H a = some (.lst xs) → xs.length ≤ 100 → Ths H xs ds → Th H (.ref a) (.list ds)
  | tup {a : Addr} {xs : List L2.V} {ds : List PyData} : H a = some (.tup xs) → xs.length ≤ 100 → Ths H xs ds → Th H (.ref a) (.tuple ds)
inductive Ths (H : Hp) : List L2.V → List PyData → Prop
  | nil : Ths H [] []
  | cons {v : L2.V} {d : PyData} {vs : List L2.V} {ds : List PyData} : Th H v d → Ths H vs ds → Ths H (v :: vs) (d :: ds)
end
mutual
theorem Th.same {H H' : Hp} (sm : Same H H') : ∀ {v : L2.V} {d : PyData}, Th H v d → Th H' v d
  | _, _, .non => .non
  | _, _, .bl b => .bl b
  | _, _, .int i => .int i
  | _, _, .str x z ok => .str x z ok
  | _, _, .lst h z t => .lst (sm _ _ h) z (Ths.same sm t)
  | _, _, .tup h z t => .tup (sm _ _ h) z (Ths.same sm t)
theorem Ths.same {H H' : Hp} (sm : Same H H') : ∀ {vs : List L2.V} {ds : List PyData}, Ths H vs ds → Ths H' vs ds
  | _, _, .nil => .nil
  | _, _, .cons a b => .cons (Th.same sm a) (Ths.same sm b)
end
mutual
theorem Th.dt {K : PySem.W.Frag} {H : Hp} : ∀ {v : L2.V} {d : PyData}, Th H v d → Dt K H v d
  | _, _, .non => .non
  | _, _, .bl b => .bl b
  | _, _, .int i => .int i
  | _, _, .str x z ok => .str x
  | _, _, .lst h z t => .lst (SqL.of h) (Ths.dt t)
  | _, _, .tup h z t => .tup (SqT.of h) (Ths.dt t)
theorem Ths.dt {K : PySem.W.Frag} {H : Hp} : ∀ {vs : List L2.V} {ds : List PyData}, Ths H vs ds → Dts K H vs ds
  | _, _, .nil => .nil
  | _, _, .cons a b => .cons (Th.dt a) (Ths.dt b)
end
mutual
theorem Th.can {H : Hp} : ∀ {v : L2.V} {d : PyData}, Th H v d → d.canLay0 = true
  | _, _, .non => rfl
  | _, _, .bl b => rfl
  | _, _, .int i => rfl
  | _, _, .str x z ok => ok
  | _, _, .lst h z t => Ths.can t
  | _, _, .tup h z t => Ths.can t
theorem Ths.can {H : Hp} : ∀ {vs : List L2.V} {ds : List PyData}, Ths H vs ds → PyData.canLayAll0 ds = true
  | _, _, .nil => rfl
  | _, _, .cons a b => by
    simp only [PyData.canLayAll0, Bool.and_eq_true]
    exact ⟨Th.can a, Ths.can b⟩
end
mutual
theorem Th.inj {H : Hp} : ∀ {v : L2.V} {d e : PyData}, Th H v d → Th H v e → d = e
  | _, _, _, .non, .non => rfl
  | _, _, _, .bl b, .bl _ => rfl
  | _, _, _, .int i, .int _ => rfl
  | _, _, _, .str x _ _, .str _ _ _ => rfl
  | _, _, _, .lst h _ t, .lst h' _ t' => by
    rw [h] at h'
    cases h'
    rw [Ths.inj t t']
  | _, _, _, .tup h _ t, .tup h' _ t' => by
    rw [h] at h'
    cases h'
    rw [Ths.inj t t']
  | _, _, _, .lst h _ _, .tup h' _ _ => by rw [h] at h'; cases h'
  | _, _, _, .tup h _ _, .lst h' _ _ => by rw [h] at h'; cases h'
theorem Ths.inj {H : Hp} : ∀ {vs : List L2.V} {ds es : List PyData}, Ths H vs ds → Ths H vs es → ds = es
  | _, _, _, .nil, .nil => rfl
  | _, _, _, .cons a b, .cons a' b' => by rw [Th.inj a a', Ths.inj b b']
end
theorem Ths.len {H : Hp} : ∀ {vs : List L2.V} {ds : List PyData}, Ths H vs ds → vs.length = ds.length
  | _, _, .nil => rfl
  | _, _, .cons _ b => by simp [Ths.len b]
theorem Ths.get {H : Hp} : ∀ {vs : List L2.V} {ds : List PyData} {i : Nat} {v : L2.V}, Ths H vs ds → vs[i]? = some v → ∃ d, ds[i]? = some d ∧ Th H v d
  | _, _, _, _, .nil, e => by simp at e
  | _, _, 0, _, .cons a _, e => by simp at e; subst e; exact ⟨_, rfl, a⟩
  | _, _, i + 1, v, .cons _ b, e => by
    obtain ⟨d, h1, h2⟩ := Ths.get (i := i) (v := v) b (by simpa using e)
    exact ⟨d, by simpa using h1, h2⟩
theorem Ths.append {H : Hp} : ∀ {vs ws : List L2.V} {ds es : List PyData}, Ths H vs ds → Ths H ws es → Ths H (vs ++ ws) (ds ++ es)
  | _, _, _, _, .nil, h => h
  | _, _, _, _, .cons a b, h => .cons a (Ths.append b h)
open Classical in
noncomputable def datum (H : Hp) (v : L2.V) : PyData := if h : ∃ d, Th H v d then Classical.choose h else .none
theorem datum_of {H : Hp} {v : L2.V} {d : PyData} (h : Th H v d) : datum H v = d := by
  have q : ∃ d, Th H v d := ⟨d, h⟩
  unfold datum
  rw [dif_pos q]
  exact Th.inj (Classical.choose_spec q) h
theorem datum_map {H : Hp} (f : PyData → Bool) : ∀ {vs : List L2.V} {ds : List PyData}, Ths H vs ds → vs.map (fun v => V.bl (f (datum H v))) = (ds.map f).map V.bl
  | _, _, .nil => rfl
  | _, _, .cons a b => by
    simp only [List.map_cons]
    rw [datum_of a, datum_map f b]
noncomputable def tyN : PyData → String
  | .none => "NoneType"
  | .bool _ => "bool"
  | .int _ => "int"
  | .str _ => "str"
  | .list _ => "list"
  | .tuple _ => "tuple"
  | .dict _ => "dict"
theorem Th.ty {K : PySem.W.Frag} {H : Hp} {v : L2.V} {d : PyData} (h : Th H v d) : TyOf K H v (.type (tyN d)) := by
  cases h with
  | non => exact .non
  | bl b => exact .bl b
  | int i => exact .int i
  | str x _ _ => exact .str x
  | lst h _ _ => exact .lst h
  | tup h _ _ => exact .tup h
noncomputable def kitB (t c : String) : Option Bool := if (Value.type t == Value.type c) = true then some true else if PySem.W.kitMeta c = true then (fastBuiltinMro t).map (·.contains (.type c)) else none
theorem kit_b (K : PySem.W.Frag) {t c : String} {b : Bool} (h : kitB t c = some b) : PySem.W.kitOne K (.type t) (.type c) = some b := h
noncomputable def isStr : PyData → Bool | .str _ => true | _ => false
noncomputable def isList : PyData → Bool | .list _ => true | _ => false
noncomputable def isTup : PyData → Bool | .tuple _ => true | _ => false
noncomputable def isBool : PyData → Bool | .bool _ => true | _ => false
noncomputable def isIntB : PyData → Bool | .int _ => true | .bool _ => true | _ => false
theorem kb_str (d : PyData) : kitB (tyN d) "str" = some (isStr d) := by cases d <;> (show kitB _ _ = some _; simp only [tyN, isStr]; decide +kernel)
theorem kb_list (d : PyData) : kitB (tyN d) "list" = some (isList d) := by cases d <;> (show kitB _ _ = some _; simp only [tyN, isList]; decide +kernel)
theorem kb_tuple (d : PyData) : kitB (tyN d) "tuple" = some (isTup d) := by cases d <;> (show kitB _ _ = some _; simp only [tyN, isTup]; decide +kernel)
theorem kb_bool (d : PyData) : kitB (tyN d) "bool" = some (isBool d) := by cases d <;> (show kitB _ _ = some _; simp only [tyN, isBool]; decide +kernel)
theorem kb_int (d : PyData) : kitB (tyN d) "int" = some (isIntB d) := by cases d <;> (show kitB _ _ = some _; simp only [tyN, isIntB]; decide +kernel)
noncomputable def lowC (c : Nat) : Bool := decide (97 ≤ c) && decide (c ≤ 122)
noncomputable def isNameD : PyData → Bool
  | .str x => decide (1 ≤ x.length) && decide (x.length ≤ 8) && x.cps.toList.all lowC
  | _ => false
noncomputable def textsD : List PyData → List Str
  | [] => []
  | .str x :: r => x :: textsD r
  | _ :: r => textsD r
noncomputable def isHousesD : PyData → Bool
  | .list ds => decide (ds.length ≤ 12) && ds.all isNameD && decide (textsD ds).Nodup
  | _ => false
noncomputable def isWholeD : PyData → Bool
  | .int _ => true
  | _ => false
noncomputable def withinD (lo hi : Int) : PyData → Bool
  | .int i => decide (lo ≤ i) && decide (i ≤ hi)
  | _ => false
noncomputable def inD (d : PyData) (ds : List PyData) : Bool := ds.any fun z => PyData.eqv z d
noncomputable def unlikeD (hs : List PyData) (a b : PyData) : Bool := inD a hs && inD b hs && !PyData.eqv a b
noncomputable def isRoadD (hs : List PyData) : PyData → Bool
  | .tuple [a, b, t, m] => unlikeD hs a b && withinD 1 9 t && withinD 1 1000000000 m
  | _ => false
noncomputable def isRoadsD (hs : List PyData) : PyData → Bool
  | .list ds => decide (ds.length ≤ 40) && ds.all (isRoadD hs)
  | _ => false
end K1
set_option Elab.async false
set_option linter.all false
set_option maxRecDepth 100000
set_option maxHeartbeats 4000000
namespace K1
open PySem PySem.Spec PyProof.Rows L2 L3 M1
structure Pd where
  p : Hp → L2.V → Prop
  up : ∀ {H H' : Hp} {v : L2.V}, Same H H' → p H v → p H' v
noncomputable def da (d : PyData) : Pd := ⟨fun H v => Th H v d, fun sm h => h.same sm⟩
noncomputable def sq (K : PySem.W.Frag) (xs : List L2.V) : Pd := ⟨fun H v => ∃ a, v = .ref a ∧ SqL K H a xs, fun sm ⟨a, e, h⟩ => ⟨a, e, sm.seq h⟩⟩
noncomputable def bigL (n : Nat) (ds : List PyData) : Pd := ⟨fun H v => ∃ a xs, v = .ref a ∧ H a = some (.lst xs) ∧ xs.length ≤ n ∧ Ths H xs ds, fun sm ⟨a, xs, e, h, z, t⟩ => ⟨a, xs, e, sm _ _ h, z, t.same sm⟩⟩
structure EnvD (Γ : List (Option Pd)) (σ : L2.St) (H : Hp) : Prop where
  len : Γ.length = σ.length
  get : ∀ (i : Nat) (R : Pd), Γ[i]? = some (some R) → ∃ v, σ[i]? = some (some v) ∧ R.p H v
theorem EnvD.same {Γ σ H H'} (e : EnvD Γ σ H) (sm : Same H H') : EnvD Γ σ H' := ⟨e.len, fun i R h => by
  obtain ⟨v, h1, h2⟩ := e.get i R h
  exact ⟨v, h1, R.up sm h2⟩⟩
theorem EnvD.set {Γ σ H} (e : EnvD Γ σ H) {i : Nat} {v : L2.V} {A : Pd} (h : A.p H v) : EnvD (Γ.set i (some A)) (σ.set i (some v)) H := ⟨by rw [List.length_set, List.length_set]; exact e.len, fun j R hj => by
  have hl := e.len
  by_cases hij : i = j
  · subst hij
    rw [List.getElem?_set] at hj
    by_cases hi : i < Γ.length
    · simp [hi] at hj
      subst hj
      exact ⟨v, by rw [List.getElem?_set]; simp [hl ▸ hi], h⟩
    · simp [hi] at hj
  · rw [List.getElem?_set_ne hij] at hj
    obtain ⟨u, h1, h2⟩ := e.get j R hj
    exact ⟨u, by rw [List.getElem?_set_ne hij]; exact h1, h2⟩⟩
theorem env_nil {H} : EnvD [] [] H := ⟨rfl, fun i R h => by simp at h⟩
theorem EnvD.cons {Γ σ H} (e : EnvD Γ σ H) {v : L2.V} {A : Pd} (h : A.p H v) : EnvD (some A :: Γ) (some v :: σ) H := ⟨by simp [e.len], fun i R hi => by
  cases i with
  | zero => simp at hi; subst hi; exact ⟨v, rfl, h⟩
  | succ i => exact e.get i R (by simpa using hi)⟩
theorem EnvD.skip {Γ σ H} (e : EnvD Γ σ H) {o : Option L2.V} : EnvD (none :: Γ) (o :: σ) H := ⟨by simp [e.len], fun i R hi => by
  cases i with
  | zero => simp at hi
  | succ i => exact e.get i R (by simpa using hi)⟩
noncomputable abbrev Wants (R : Pd) (H : Hp) (Q : VK) : Prop := ∀ v H', Same H H' → R.p H' v → Q v H'
noncomputable def tW (Γ : List (Option Pd)) (R : Pd) : TE := fun σ H Q => EnvD Γ σ H ∧ Wants R H Q
noncomputable def tWt (Γ : List (Option Pd)) (b : Bool) : TT := fun σ H Q => EnvD Γ σ H ∧ ∀ H', Same H H' → Q b H'
noncomputable def tWd (Γ : List (Option Pd)) (ds : List PyData) : TA := fun σ H Q => EnvD Γ σ H ∧ ∀ vs H', Same H H' → Ths H' vs ds → Q vs H'
noncomputable def Alls : List Pd → Hp → List L2.V → Prop
  | [], _, [] => True
  | A :: As, H, v :: vs => A.p H v ∧ Alls As H vs
  | _, _, _ => False
noncomputable def tWs (Γ : List (Option Pd)) (As : List Pd) : TA := fun σ H Q => EnvD Γ σ H ∧ ∀ vs H', Same H H' → Alls As H' vs → Q vs H'
noncomputable def tWo (Γ : List (Option Pd)) (o : Option Int) : TO := fun σ H Q => EnvD Γ σ H ∧ ∀ H', Same H H' → Q o H'
noncomputable def tWr (Γ : List (Option Pd)) (R : Pd) : TS := fun D σ H => EnvD Γ σ H ∧ Wants R H D.rt
section
variable {X : Cx} {e a b : Expr} {es : List Expr} {pos p2 : Pos} {Γ : List (Option Pd)} {A B R : Pd}
theorem PE_mono {t u : TE} (h : PE X e t) (m : ∀ σ H Q, u σ H Q → t σ H Q) : PE X e u := fun pins s σ H Q I q => h pins s σ H Q I (m σ H Q q)
theorem PT_mono {t u : TT} (h : PT X e t) (m : ∀ σ H Q, u σ H Q → t σ H Q) : PT X e u := fun pins s σ H Q I q => h pins s σ H Q I (m σ H Q q)
theorem PA_mono {t u : TA} (h : PA X es t) (m : ∀ σ H Q, u σ H Q → t σ H Q) : PA X es u := fun pos pins s σ H Q I q => h pos pins s σ H Q I (m σ H Q q)
theorem PO_mono {o : Option Expr} {t u : TO} (h : PO X o t) (m : ∀ σ H Q, u σ H Q → t σ H Q) : PO X o u := fun pins s σ H Q I q => h pins s σ H Q I (m σ H Q q)
theorem PSs_mono {st : List Stmt} {t u : TS} (h : PSs X st t) (m : ∀ D σ H, u D σ H → t D σ H) : PSs X st u := fun pins s σ H D I q => h pins s σ H D I (m D σ H q)
theorem w_name {i : Nat} (h : PE X e (tVar i)) (hi : Γ[i]? = some (some R)) : PE X e (tW Γ R) := PE_mono h fun σ H Q ⟨he, q⟩ => by
  obtain ⟨v, h1, h2⟩ := he.get i R hi
  exact ⟨v, h1, q v H (Same.refl _) h2⟩
theorem w_const {v : L2.V} (h : PE X e (tC v)) (hp : ∀ H, R.p H v) : PE X e (tW Γ R) := PE_mono h fun σ H Q ⟨he, q⟩ => q v H (Same.refl _) (hp H)
theorem w_int {i j pos} : PE X (.Constant (.int i) j pos) (tW Γ (da (.int i))) := w_const pe_int fun H => .int i
theorem w_bl {i j pos} : PE X (.Constant (.bool i) j pos) (tW Γ (da (.bool i))) := w_const pe_bl fun H => .bl i
theorem w_non {j pos} : PE X (.Constant .none j pos) (tW Γ (da .none)) := w_const pe_non fun H => .non
theorem w_str {x j pos} (z : x.length ≤ 100 := by decide +kernel) (ok : PyData.strOk x = true := by decide +kernel) : PE X (.Constant (.str x) j pos) (tW Γ (da (.str x))) := w_const pe_str fun H => .str x z ok
theorem w_op {op : Operator} {r : R2} (ho : OpR X (binaryOp op) r) (ha : PE X a (tW Γ A)) (hb : PE X b (tW Γ B)) (hr : ∀ H x y Q, A.p H x → B.p H y → Wants R H Q → r x y H Q) : PE X (.BinOp a op b pos) (tW Γ R) :=
  PE_mono (pe_op ho ha hb) fun σ H Q ⟨he, q⟩ => ⟨he, fun x H1 s1 px => ⟨he.same s1, fun y H2 s2 py => hr H2 x y Q (A.up s2 px) py fun v H' s' pv => q v H' ((s1.trans s2).trans s') pv⟩⟩
theorem w_un {op : UnaryOp} {r : L2.V → Hp → VK → Prop} (ho : UnR X (unaryOp op) r) (ha : PE X a (tW Γ A)) (hr : ∀ H x Q, A.p H x → Wants R H Q → r x H Q) : PE X (.UnaryOp op a pos) (tW Γ R) :=
  PE_mono (pe_un ho ha) fun σ H Q ⟨he, q⟩ => ⟨he, fun x H1 s1 px => hr H1 x Q px fun v H' s' pv => q v H' (s1.trans s') pv⟩
theorem w_ixr {r : R2} (ho : IxR X r) (ha : PE X a (tW Γ A)) (hb : PE X b (tW Γ B)) (hs : PlainIx b) (hr : ∀ H x y Q, A.p H x → B.p H y → Wants R H Q → r x y H Q) : PE X (.Subscript a b pos) (tW Γ R) :=
  PE_mono (pe_ix ho ha hb hs) fun σ H Q ⟨he, q⟩ => ⟨he, fun x H1 s1 px => ⟨he.same s1, fun y H2 s2 py => hr H2 x y Q (A.up s2 px) py fun v H' s' pv => q v H' ((s1.trans s2).trans s') pv⟩⟩
theorem th_int {H v i} (h : Th H v (.int i)) : v = .int i := by cases h; rfl
theorem th_str {H v x} (h : Th H v (.str x)) : v = .str x ∧ x.length ≤ 100 ∧ PyData.strOk x = true := by cases h; exact ⟨rfl, by assumption, by assumption⟩
theorem th_lst {H v ds} (h : Th H v (.list ds)) : ∃ a xs, v = .ref a ∧ H a = some (.lst xs) ∧ xs.length ≤ 100 ∧ Ths H xs ds := by cases h; exact ⟨_, _, rfl, by assumption, by assumption, by assumption⟩
theorem th_tup {H v ds} (h : Th H v (.tuple ds)) : ∃ a xs, v = .ref a ∧ H a = some (.tup xs) ∧ xs.length ≤ 100 ∧ Ths H xs ds := by cases h; exact ⟨_, _, rfl, by assumption, by assumption, by assumption⟩
theorem few100 {n : Nat} (h : n ≤ 100) : n ≤ sizeLine := Nat.le_of_lt (small1000 (by omega))
variable {i j : Int}
theorem w_add (ha : PE X a (tW Γ (da (.int i)))) (hb : PE X b (tW Γ (da (.int j)))) : PE X (.BinOp a .Add b pos) (tW Γ (da (.int (i + j)))) :=
  w_op op_add ha hb fun H x y Q px py q => ⟨i, j, th_int px, th_int py, q _ H (Same.refl _) (.int _)⟩
theorem w_sub (ha : PE X a (tW Γ (da (.int i)))) (hb : PE X b (tW Γ (da (.int j)))) : PE X (.BinOp a .Sub b pos) (tW Γ (da (.int (i - j)))) :=
  w_op op_sub ha hb fun H x y Q px py q => ⟨i, j, th_int px, th_int py, q _ H (Same.refl _) (.int _)⟩
theorem w_mod (ha : PE X a (tW Γ (da (.int i)))) (hb : PE X b (tW Γ (da (.int j)))) (h : 0 < j) : PE X (.BinOp a .Mod b pos) (tW Γ (da (.int (i % j)))) :=
  w_op op_mod ha hb fun H x y Q px py q => ⟨i, j, th_int px, th_int py, h, q _ H (Same.refl _) (.int _)⟩
theorem w_fdiv (ha : PE X a (tW Γ (da (.int i)))) (hb : PE X b (tW Γ (da (.int j)))) (h : CDiv i j) : PE X (.BinOp a .FloorDiv b pos) (tW Γ (da (.int (i / j)))) :=
  w_op op_fdiv ha hb fun H x y Q px py q => ⟨i, j, th_int px, th_int py, h, q _ H (Same.refl _) (.int _)⟩
theorem w_pow (ha : PE X a (tW Γ (da (.int i)))) (hb : PE X b (tW Γ (da (.int j)))) (h : CPow i j) : PE X (.BinOp a .Pow b pos) (tW Γ (da (.int (i ^ j.toNat)))) :=
  w_op op_pow ha hb fun H x y Q px py q => ⟨i, j, th_int px, th_int py, h, q _ H (Same.refl _) (.int _)⟩
theorem w_neg (ha : PE X a (tW Γ (da (.int i)))) : PE X (.UnaryOp .USub a pos) (tW Γ (da (.int (-i)))) :=
  w_un un_neg ha fun H x Q px q => ⟨i, th_int px, q _ H (Same.refl _) (.int _)⟩
theorem ok_app {x y : Str} (h1 : PyData.strOk x = true) (h2 : PyData.strOk y = true) : PyData.strOk (x ++ y) = true := by
  unfold PyData.strOk at *
  show (x.cps ++ y.cps).all _ = true
  rw [Array.all_append, h1, h2]
  rfl
theorem w_addS {x y : Str} (ha : PE X a (tW Γ (da (.str x)))) (hb : PE X b (tW Γ (da (.str y)))) (z : x.length + y.length ≤ 100) : PE X (.BinOp a .Add b pos) (tW Γ (da (.str (x ++ y)))) :=
  w_op op_add_str ha hb fun H u v Q px py q => by
    obtain ⟨rfl, _, o1⟩ := th_str px
    obtain ⟨rfl, _, o2⟩ := th_str py
    refine ⟨x, y, rfl, rfl, few100 z, q _ H (Same.refl _) (.str _ ?_ (ok_app o1 o2))⟩
    show (x.cps ++ y.cps).size ≤ 100
    rw [Array.size_append]
    exact z
theorem Ths.getR {H : Hp} : ∀ {vs : List L2.V} {ds : List PyData} {i : Nat} {d : PyData}, Ths H vs ds → ds[i]? = some d → ∃ v, vs[i]? = some v ∧ Th H v d
  | _, _, _, _, .nil, e => by simp at e
  | _, _, 0, _, .cons a _, e => by simp at e; subst e; exact ⟨_, rfl, a⟩
  | _, _, i + 1, d, .cons _ b, e => by
    obtain ⟨v, h1, h2⟩ := Ths.getR (i := i) (d := d) b (by simpa using e)
    exact ⟨v, by simpa using h1, h2⟩
theorem Ths.atI {H : Hp} {vs : List L2.V} {ds : List PyData} {i : Int} {d : PyData} (t : Ths H vs ds) (e : atI ds i = some d) : ∃ v, L2.atI vs i = some v ∧ Th H v d := by
  unfold L2.atI at e ⊢
  rw [t.len]
  obtain ⟨j, h1, h2⟩ := Option.bind_eq_some_iff.mp e
  obtain ⟨v, h3, h4⟩ := t.getR h2
  exact ⟨v, by rw [h1]; exact h3, h4⟩
theorem w_ixL {ds : List PyData} {d : PyData} (ha : PE X a (tW Γ (da (.list ds)))) (hb : PE X b (tW Γ (da (.int i)))) (h : atI ds i = some d) (hs : PlainIx b := by exact fun _ _ => rfl) : PE X (.Subscript a b pos) (tW Γ (da d)) :=
  w_ixr ix_list ha hb hs fun H x y Q px py q => by
    obtain ⟨p, xs, rfl, h1, h2, t⟩ := th_lst px
    obtain ⟨v, h3, h4⟩ := t.atI h
    exact ⟨p, xs, i, v, rfl, th_int py, SqL.of h1, h3, q v H (Same.refl _) h4⟩
theorem w_ixT {ds : List PyData} {d : PyData} (ha : PE X a (tW Γ (da (.tuple ds)))) (hb : PE X b (tW Γ (da (.int i)))) (h : atI ds i = some d) (hs : PlainIx b := by exact fun _ _ => rfl) : PE X (.Subscript a b pos) (tW Γ (da d)) :=
  w_ixr ix_tup ha hb hs fun H x y Q px py q => by
    obtain ⟨p, xs, rfl, h1, h2, t⟩ := th_tup px
    obtain ⟨v, h3, h4⟩ := t.atI h
    exact ⟨p, xs, i, v, rfl, th_int py, SqT.of h1, h3, q v H (Same.refl _) h4⟩
theorem wd_nil : PA X [] (tWd Γ []) := PA_mono pa_nil fun σ H Q ⟨he, q⟩ => q [] H (Same.refl _) .nil
theorem wd_cons {d : PyData} {ds : List PyData} (ha : PE X e (tW Γ (da d))) (hr : PA X es (tWd Γ ds)) (hs : starEach (e :: es) X.env = (false, eval e X.env) :: starEach es X.env := by rfl) : PA X (e :: es) (tWd Γ (d :: ds)) :=
  PA_mono (pa_cons ha hr hs) fun σ H Q ⟨he, q⟩ => ⟨he, fun x H1 s1 px => ⟨he.same s1, fun vs H2 s2 ps => q _ H2 (s1.trans s2) (.cons (Th.same s2 px) ps)⟩⟩
theorem ws_nil : PA X [] (tWs Γ []) := PA_mono pa_nil fun σ H Q ⟨he, q⟩ => q [] H (Same.refl _) trivial
theorem ws_cons {As : List Pd} (ha : PE X e (tW Γ A)) (hr : PA X es (tWs Γ As)) (hs : starEach (e :: es) X.env = (false, eval e X.env) :: starEach es X.env := by rfl) : PA X (e :: es) (tWs Γ (A :: As)) :=
  PA_mono (pa_cons ha hr hs) fun σ H Q ⟨he, q⟩ => ⟨he, fun x H1 s1 px => ⟨he.same s1, fun vs H2 s2 ps => q _ H2 (s1.trans s2) ⟨A.up s2 px, ps⟩⟩⟩
theorem upd_fr {H : Hp} {t : Addr} {o : HO} (ht : H t = none) : Same H (upd H t o) := upd_free ht
theorem w_lst {ds : List PyData} (h : PA X es (tWd Γ ds)) (z : ds.length ≤ 100 := by exact Nat.le_of_ble_eq_true rfl) : PE X (.List es pos) (tW Γ (da (.list ds))) :=
  PE_mono (pe_lst h) fun σ H Q ⟨he, q⟩ => ⟨he, fun vs H1 s1 t => ⟨by rw [t.len]; exact few100 z, fun p hp => q _ _ (s1.trans (upd_fr hp)) (.lst upd_same (by rw [t.len]; exact z) (t.same (upd_fr hp)))⟩⟩
theorem w_tup {ds : List PyData} {x1} (h : PA X es (tWd Γ ds)) (z : ds.length ≤ 100 := by exact Nat.le_of_ble_eq_true rfl) : PE X (.Tuple es x1 pos) (tW Γ (da (.tuple ds))) :=
  PE_mono (pe_tup h) fun σ H Q ⟨he, q⟩ => ⟨he, fun vs H1 s1 t => ⟨by rw [t.len]; exact few100 z, fun p hp => q _ _ (s1.trans (upd_fr hp)) (.tup upd_same (by rw [t.len]; exact z) (t.same (upd_fr hp)))⟩⟩
theorem w_cat {ds es : List PyData} (ha : PE X a (tW Γ (da (.list ds)))) (hb : PE X b (tW Γ (da (.list es)))) (z : ds.length + es.length ≤ 100) : PE X (.BinOp a .Add b pos) (tW Γ (da (.list (ds ++ es)))) :=
  w_op op_cat ha hb fun H x y Q px py q => by
    obtain ⟨l, xs, rfl, h1, h2, t⟩ := th_lst px
    obtain ⟨m, ys, rfl, h3, h4, u⟩ := th_lst py
    have e1 := t.len
    have e2 := u.len
    exact ⟨l, m, xs, ys, rfl, rfl, h1, h3, few100 (by omega), fun p hp => q _ _ (upd_fr hp) (.lst upd_same (by rw [List.length_append]; omega) ((t.append u).same (upd_fr hp)))⟩
theorem w_catT {d e : PyData} {ds es : List PyData} (ha : PE X a (tW Γ (da (.tuple (d :: ds))))) (hb : PE X b (tW Γ (da (.tuple (e :: es))))) (z : (d :: ds).length + (e :: es).length ≤ 100) : PE X (.BinOp a .Add b pos) (tW Γ (da (.tuple ((d :: ds) ++ e :: es)))) :=
  w_op op_catT ha hb fun H x y Q px py q => by
    obtain ⟨l, xs, rfl, h1, h2, t⟩ := th_tup px
    obtain ⟨m, ys, rfl, h3, h4, u⟩ := th_tup py
    have e1 := t.len
    have e2 := u.len
    exact ⟨l, m, xs, ys, rfl, rfl, SqT.of h1, SqT.of h3, (fun c => by subst c; simp at e1), few100 (by omega), (fun c => by subst c; simp at e2), fun _ p hp => q _ _ (upd_fr hp) (.tup upd_same (by rw [List.length_append]; omega) ((t.append u).same (upd_fr hp)))⟩
noncomputable def cutD (xs : List PyData) (lo hi : Option Int) : List PyData := (xs.drop (HT.sIx xs.length 0 lo)).take (HT.sIx xs.length xs.length hi - HT.sIx xs.length 0 lo)
theorem cutD_len (xs : List PyData) (lo hi : Option Int) : (cutD xs lo hi).length ≤ xs.length := ((List.take_sublist _ _).trans (List.drop_sublist _ _)).length_le
theorem Ths.drop {H : Hp} : ∀ (k : Nat) {vs : List L2.V} {ds : List PyData}, Ths H vs ds → Ths H (vs.drop k) (ds.drop k)
  | 0, _, _, h => h
  | _ + 1, _, _, .nil => .nil
  | k + 1, _, _, .cons _ b => Ths.drop k b
theorem Ths.take {H : Hp} : ∀ (k : Nat) {vs : List L2.V} {ds : List PyData}, Ths H vs ds → Ths H (vs.take k) (ds.take k)
  | 0, _, _, h => by simpa using Ths.nil
  | _ + 1, _, _, .nil => .nil
  | k + 1, _, _, .cons a b => .cons a (Ths.take k b)
theorem Ths.cut {H : Hp} {vs : List L2.V} {ds : List PyData} (t : Ths H vs ds) (lo hi : Option Int) : Ths H (cutV vs lo hi) (cutD ds lo hi) := by
  unfold cutV cutD
  rw [t.len]
  exact (t.drop _).take _
theorem wo_none : PO X none (tWo Γ none) := PO_mono po_none fun σ H Q ⟨he, q⟩ => q H (Same.refl _)
theorem wo_some (h : PE X e (tW Γ (da (.int i)))) : PO X (some e) (tWo Γ (some i)) := PO_mono (po_some h) fun σ H Q ⟨he, q⟩ => ⟨he, fun v H' s' pv => ⟨i, th_int pv, q H' s'⟩⟩
theorem w_sl {r : L2.V → Option Int → Option Int → Hp → VK → Prop} {lo hi : Option Expr} {l h : Option Int} (hs : SlR X r) (ha : PE X a (tW Γ A)) (hl : PO X lo (tWo Γ l)) (hh : PO X hi (tWo Γ h)) (hr : ∀ H x Q, A.p H x → Wants R H Q → r x l h H Q) :
    PE X (.Subscript a (.Slice lo hi none p2) pos) (tW Γ R) :=
  PE_mono (pe_slice hs ha hl hh) fun σ H Q ⟨he, q⟩ => ⟨he, fun x H1 s1 px => ⟨he.same s1, fun H2 s2 => ⟨he.same (s1.trans s2), fun H3 s3 => hr H3 x Q (A.up (s2.trans s3) px) fun v H' s' pv => q v H' ((s1.trans (s2.trans s3)).trans s') pv⟩⟩⟩
theorem w_slL {ds : List PyData} {lo hi : Option Expr} {l h : Option Int} (ha : PE X a (tW Γ (da (.list ds)))) (hl : PO X lo (tWo Γ l)) (hh : PO X hi (tWo Γ h)) : PE X (.Subscript a (.Slice lo hi none p2) pos) (tW Γ (da (.list (cutD ds l h)))) :=
  w_sl sl_list ha hl hh fun H x Q px q => by
    obtain ⟨p, xs, rfl, h1, h2, t⟩ := th_lst px
    exact ⟨p, xs, rfl, SqL.of h1, fun p hp => q _ _ (upd_fr hp) (.lst upd_same (Nat.le_trans (cutV_length xs l h) h2) ((t.cut l h).same (upd_fr hp)))⟩
theorem w_slB {n : Nat} {ds : List PyData} {lo hi : Option Expr} {l h : Option Int} (ha : PE X a (tW Γ (bigL n ds))) (hl : PO X lo (tWo Γ l)) (hh : PO X hi (tWo Γ h)) (z : (cutD ds l h).length ≤ 100) : PE X (.Subscript a (.Slice lo hi none p2) pos) (tW Γ (da (.list (cutD ds l h)))) :=
  w_sl sl_list ha hl hh fun H x Q px q => by
    obtain ⟨p, xs, rfl, h1, h2, t⟩ := px
    exact ⟨p, xs, rfl, SqL.of h1, fun p hp => q _ _ (upd_fr hp) (.lst upd_same (by rw [(t.cut l h).len]; exact z) ((t.cut l h).same (upd_fr hp)))⟩
theorem w_slT {ds : List PyData} {lo hi : Option Expr} {l h : Option Int} (ha : PE X a (tW Γ (da (.tuple ds)))) (hl : PO X lo (tWo Γ l)) (hh : PO X hi (tWo Γ h)) (nw : ¬ (HT.sIx ds.length 0 l = 0 ∧ HT.sIx ds.length ds.length h = ds.length)) :
    PE X (.Subscript a (.Slice lo hi none p2) pos) (tW Γ (da (.tuple (cutD ds l h)))) :=
  w_sl sl_tup ha hl hh fun H x Q px q => by
    obtain ⟨p, xs, rfl, h1, h2, t⟩ := th_tup px
    exact ⟨p, xs, rfl, SqT.of h1, by rw [t.len]; exact nw, fun p hp => q _ _ (upd_fr hp) (.tup upd_same (Nat.le_trans (cutV_length xs l h) h2) ((t.cut l h).same (upd_fr hp)))⟩
theorem ok_cut {x : Str} (lo hi : Option Int) (h : PyData.strOk x = true) : PyData.strOk (cutS x lo hi) = true := by
  unfold PyData.strOk at *
  unfold cutS
  rw [← Array.all_toList] at h ⊢
  rw [List.all_eq_true] at *
  intro c hc
  exact h c (List.mem_of_mem_drop (List.mem_of_mem_take (by simpa using hc)))
theorem cut_len (x : Str) (lo hi : Option Int) : (cutS x lo hi).length ≤ x.length := by
  show (((x.cps.toList.drop (HT.sIx x.cps.size 0 lo)).take (HT.sIx x.cps.size x.cps.size hi - HT.sIx x.cps.size 0 lo)).toArray).size ≤ x.cps.size
  rw [List.size_toArray]
  exact Nat.le_trans ((List.take_sublist _ _).trans (List.drop_sublist _ _)).length_le (Nat.le_of_eq Array.length_toList)
theorem w_slS {x : Str} {lo hi : Option Expr} {l h : Option Int} (ha : PE X a (tW Γ (da (.str x)))) (hl : PO X lo (tWo Γ l)) (hh : PO X hi (tWo Γ h)) : PE X (.Subscript a (.Slice lo hi none p2) pos) (tW Γ (da (.str (cutS x l h)))) :=
  w_sl sl_str ha hl hh fun H v Q px q => by
    obtain ⟨rfl, z, o⟩ := th_str px
    exact ⟨x, rfl, few100 z, q _ H (Same.refl _) (.str _ (Nat.le_trans (cut_len x l h) z) (ok_cut l h o))⟩
theorem w_rep {ds : List PyData} {k : Nat} (ha : PE X a (tW Γ (da (.list ds)))) (hb : PE X b (tW Γ (da (.int k)))) (hk : k ≤ 100) : PE X (.BinOp a .Mult b pos) (tW Γ (bigL 10000 (List.replicate k ds).flatten)) :=
  w_op op_rep ha hb fun H x y Q px py q => by
    obtain ⟨l, xs, rfl, h1, h2, t⟩ := th_lst px
    have hz : xs.length * k ≤ 10000 := Nat.mul_le_mul h2 hk
    refine ⟨l, k, xs, rfl, th_int py, h1, by omega, by omega, ?_, fun p hp => q _ _ (upd_fr hp) ⟨p, _, rfl, upd_same, ?_, ?_⟩⟩
    · show xs.length * k ≤ sizeLine
      have : (10000 : Nat) ≤ sizeLine := by decide
      omega
    · show (List.replicate k xs).flatten.length ≤ 10000
      rw [len_rep, Nat.mul_comm]
      exact hz
    · show Ths _ (List.replicate k xs).flatten (List.replicate k ds).flatten
      have t2 := t.same (upd_fr (o := .lst (List.replicate (k : Int).toNat xs).flatten) hp)
      clear h1 h2 hz hk px py q hb
      induction k with
      | zero => exact .nil
      | succ k ih =>
        rw [List.replicate_succ, List.replicate_succ, List.flatten_cons, List.flatten_cons]
        exact t2.append (by
          clear ih
          have : ∀ n, Ths (upd H p (.lst (List.replicate ((k + 1 : Nat) : Int).toNat xs).flatten)) (List.replicate n xs).flatten (List.replicate n ds).flatten := fun n => by
            induction n with
            | zero => exact .nil
            | succ n ih =>
              rw [List.replicate_succ, List.replicate_succ, List.flatten_cons, List.flatten_cons]
              exact t2.append ih
          exact this k)
theorem w_fn {CX : CXT} {k : Nat} {f : Addr} {fd : FuncData} {ps : List Str} {sp : Sp} {E : XK} {x : Str} {p : Pos} {As : List Pd} (F : FnOk X.prog X.w X.K X.mg X.base CX k f fd ps sp) (hr : Room k X.A) (hg : Gl X x) (hm : X.mg x = some (.ref f)) (hk : PySem.W.keepIn X.K (.ref f) = true) (hb : Binds X.K fd ps []) (hx : Passes CX X E)
    (ha : PA X (e :: es) (tWs Γ As)) (h : ∀ H vs Q, Alls As H vs → Wants R H Q → sp (vs ++ []) H Q E) (hdb : (x == ("__debug__" : Str)) = false := by decide) (he : starEach (e :: es) X.env = (false, eval e X.env) :: starEach es X.env := by rfl) (hpl : (backTo pos (starEach es X.env)).any (·.1) = false := by rfl) :
    PE X (.Call (.Name x p) (e :: es) [] pos) (tW Γ R) :=
  PE_mono (pe_call F hr hg hm hk hb .nil hx ha hdb he hpl) fun σ H Q ⟨he, q⟩ => ⟨he, fun vs H1 s1 al => h H1 vs Q al fun v H' s' pv => q v H' (s1.trans s') pv⟩
theorem w_callB {id : String} {r : List L2.V → Hp → VK → Prop} {x : Str} {p : Pos} {As : List Pd} (hc : CallR X (.builtin id) r) (hg : Gl X x) (hm : X.mg x = none) (hv : bootBuiltins x = some (.builtin id)) (ha : PA X (e :: es) (tWs Γ As)) (h : ∀ H vs Q, Alls As H vs → Wants R H Q → r vs H Q)
    (hn : x ≠ "__name__" := by decide) (hdb : (x == ("__debug__" : Str)) = false := by decide) (he : starEach (e :: es) X.env = (false, eval e X.env) :: starEach es X.env := by rfl) (hpl : (backTo pos (starEach es X.env)).any (·.1) = false := by rfl) :
    PE X (.Call (.Name x p) (e :: es) [] pos) (tW Γ R) :=
  PE_mono (pe_callB hc hg hm hv ha hn hdb he hpl) fun σ H Q ⟨he, q⟩ => ⟨he, fun vs H1 s1 al => h H1 vs Q al fun v H' s' pv => q v H' (s1.trans s') pv⟩
theorem w_callTy {T : String} {r : List L2.V → Hp → VK → Prop} {x : Str} {p : Pos} {As : List Pd} (hc : CallR X (.type T) r) (hg : Gl X x) (hm : X.mg x = none) (hv : bootBuiltins x = some (.type T)) (ha : PA X (e :: es) (tWs Γ As)) (h : ∀ H vs Q, Alls As H vs → Wants R H Q → r vs H Q)
    (hn : x ≠ "__name__" := by decide) (hdb : (x == ("__debug__" : Str)) = false := by decide) (he : starEach (e :: es) X.env = (false, eval e X.env) :: starEach es X.env := by rfl) (hpl : (backTo pos (starEach es X.env)).any (·.1) = false := by rfl) :
    PE X (.Call (.Name x p) (e :: es) [] pos) (tW Γ R) :=
  PE_mono (pe_callTy hc hg hm hv ha hn hdb he hpl) fun σ H Q ⟨he, q⟩ => ⟨he, fun vs H1 s1 al => h H1 vs Q al fun v H' s' pv => q v H' (s1.trans s') pv⟩
theorem al1 {H : Hp} {vs : List L2.V} (h : Alls [A] H vs) : ∃ v, vs = [v] ∧ A.p H v := by
  rcases vs with _ | ⟨v, _ | ⟨u, r⟩⟩
  · exact h.elim
  · exact ⟨v, rfl, h.1⟩
  · exact h.2.elim
theorem al2 {H : Hp} {vs : List L2.V} (h : Alls [A, B] H vs) : ∃ v u, vs = [v, u] ∧ A.p H v ∧ B.p H u := by
  rcases vs with _ | ⟨v, r⟩
  · exact h.elim
  · obtain ⟨u, rfl, hu⟩ := al1 h.2
    exact ⟨v, u, rfl, h.1, hu⟩
theorem al3 {C : Pd} {H : Hp} {vs : List L2.V} (h : Alls [A, B, C] H vs) : ∃ v u w, vs = [v, u, w] ∧ A.p H v ∧ B.p H u ∧ C.p H w := by
  rcases vs with _ | ⟨v, r⟩
  · exact h.elim
  · obtain ⟨u, w, rfl, hu, hw⟩ := al2 h.2
    exact ⟨v, u, w, rfl, h.1, hu, hw⟩
theorem wl_len {ds : List PyData} {H : Hp} {vs : List L2.V} {Q : VK} (h : Alls [da (.list ds)] H vs) (q : Wants (da (.int ds.length)) H Q) : ∃ p ys, vs = [.ref p] ∧ (SqL X.K H p ys ∨ SqT X.K H p ys) ∧ Q (.int ys.length) H := by
  obtain ⟨v, rfl, hv⟩ := al1 h
  obtain ⟨p, xs, rfl, h1, h2, t⟩ := th_lst hv
  refine ⟨p, xs, rfl, .inl (SqL.of h1), ?_⟩
  rw [t.len]
  exact q _ H (Same.refl _) (.int _)
theorem ws_lenS {x : Str} {H : Hp} {vs : List L2.V} {Q : VK} (h : Alls [da (.str x)] H vs) (q : Wants (da (.int x.length)) H Q) : ∃ z, vs = [.str z] ∧ z.length ≤ sizeLine ∧ Q (.int z.length) H := by
  obtain ⟨v, rfl, hv⟩ := al1 h
  obtain ⟨rfl, z, o⟩ := th_str hv
  exact ⟨x, rfl, few100 z, q _ H (Same.refl _) (.int _)⟩
theorem wl_list {ds : List PyData} {H : Hp} {vs : List L2.V} {Q : VK} (h : Alls [da (.tuple ds)] H vs) (q : Wants (da (.list ds)) H Q) : ∃ p ys, vs = [.ref p] ∧ (SqL X.K H p ys ∨ SqT X.K H p ys) ∧ ∀ l, H l = none → Q (.ref l) (upd H l (.lst ys)) := by
  obtain ⟨v, rfl, hv⟩ := al1 h
  obtain ⟨p, xs, rfl, h1, h2, t⟩ := th_tup hv
  exact ⟨p, xs, rfl, .inr (SqT.of h1), fun l hl => q _ _ (upd_fr hl) (.lst upd_same h2 (t.same (upd_fr hl)))⟩
theorem wl_tuple {ds : List PyData} {H : Hp} {vs : List L2.V} {Q : VK} (h : Alls [da (.list ds)] H vs) (q : Wants (da (.tuple ds)) H Q) : ∃ p ys, vs = [.ref p] ∧ ((SqL X.K H p ys ∧ ∀ l, H l = none → Q (.ref l) (upd H l (.tup ys))) ∨ (SqT X.K H p ys ∧ Q (.ref p) H)) := by
  obtain ⟨v, rfl, hv⟩ := al1 h
  obtain ⟨p, xs, rfl, h1, h2, t⟩ := th_lst hv
  exact ⟨p, xs, rfl, .inl ⟨SqL.of h1, fun l hl => q _ _ (upd_fr hl) (.tup upd_same h2 (t.same (upd_fr hl)))⟩⟩
theorem wt_lt (ha : PE X a (tW Γ (da (.int i)))) (hb : PE X b (tW Γ (da (.int j)))) (hm : behindInMarks .Lt b = false) : PT X (.Compare a [.Lt] [b] pos) (tWt Γ (decide (i < j))) :=
  PT_mono (pt_cmpR op_lt ha hb hm) fun σ H Q ⟨he, q⟩ => ⟨he, fun x H1 s1 px => ⟨he.same s1, fun y H2 s2 py => ⟨i, j, th_int (Th.same s2 px), th_int py, _, rfl, q H2 (s1.trans s2)⟩⟩⟩
theorem wt_eq (ha : PE X a (tW Γ (da (.int i)))) (hb : PE X b (tW Γ (da (.int j)))) (hm : behindInMarks .Eq b = false) : PT X (.Compare a [.Eq] [b] pos) (tWt Γ (decide (i = j))) :=
  PT_mono (pt_cmpR op_eq ha hb hm) fun σ H Q ⟨he, q⟩ => ⟨he, fun x H1 s1 px => ⟨he.same s1, fun y H2 s2 py => by
    obtain rfl := th_int (Th.same s2 px)
    obtain rfl := th_int py
    refine ⟨rfl, _, rfl, ?_⟩
    have e : decide (V.int i = V.int j) = decide (i = j) := by
      by_cases h : i = j
      · subst h; simp
      · rw [decide_eq_false h, decide_eq_false (fun c => h (V.int.inj c))]
    rw [e]
    exact q H2 (s1.trans s2)⟩⟩
variable {st : List Stmt}
theorem wr_ret (h : PE X e (tW Γ A)) (m : ∀ H v, A.p H v → R.p H v) : PSs X [.Return (some e) pos] (tWr Γ R) :=
  PSs_mono (pss_one (ps_ret h)) fun D σ H ⟨he, q⟩ => ⟨he, fun v H' s' pv => q v H' s' (m H' v pv)⟩
theorem wr_set {k : Nat} {x : Str} {pos' : Pos} (hN : X.N.Nodup) (hi : X.N[k]? = some x) (hx : Loc X.env.scope x) (he : PE X e (tW Γ A)) (hr : PSs X st (tWr (Γ.set k (some A)) R)) (hs : swapsWith e (some (.Name x pos')) pos.line X.env = pure false := by rfl) (hf : X.fn x = true ∨ X.env.scope.names.lookup x = some .local := by first | exact .inl rfl | exact .inr rfl | assumption) :
    PSs X (.Assign [.Name x pos'] e pos :: st) (tWr Γ R) :=
  PSs_mono (pss_cons (ps_set hN hi hx he hs hf) hr) fun D σ H ⟨hE, q⟩ => ⟨hE, fun v H' s' pv => ⟨(hE.same s').set pv, fun u H2 s2 pu => q u H2 (s'.trans s2) pu⟩⟩
theorem wr_if {c : Bool} {body : List Stmt} (hc : PT X e (tWt Γ c)) (hb : c = true → PSs X body (tWr Γ R)) (hr : c = false → PSs X st (tWr Γ R)) : PSs X (.If e body [] pos :: st) (tWr Γ R) := by
  cases hcc : c with
  | true =>
    subst hcc
    exact PSs_mono (pss_cons (ps_if hc (hb rfl) pss_nil) pss_never) fun D σ H ⟨hE, q⟩ => ⟨hE, fun H' s' => iteT ⟨hE.same s', fun u H2 s2 pu => q u H2 (s'.trans s2) pu⟩⟩
  | false =>
    subst hcc
    exact PSs_mono (pss_cons (ps_if hc pss_never pss_nil) (hr rfl)) fun D σ H ⟨hE, q⟩ => ⟨hE, fun H' s' => iteF ⟨hE.same s', fun u H2 s2 pu => q u H2 (s'.trans s2) pu⟩⟩
end
theorem strs_of {ys : List Str} : ∀ {us : List Value}, Vals (ys.map V.str) us → StrsAre us ys := by
  induction ys with
  | nil => intro us r; rw [List.map_nil] at r; cases r; exact .nil
  | cons n ns ih =>
    intro us r
    rw [List.map_cons] at r
    cases r with
    | cons r1 r2 =>
      obtain ⟨t, e⟩ := r1
      subst e
      exact .cons n t (ih r2)
noncomputable def rJoin (K : PySem.W.Frag) : L2.V → List L2.V → Hp → VK → Prop := fun x xs H Q => ∃ z a ys, x = .str z ∧ xs = [.ref a] ∧ SqL K H a (ys.map V.str) ∧ (ys.map (·.length)).sum + ys.length * z.length ≤ 16777216 ∧ Q (.str (Txt.join z ys)) H
theorem mt_join {X : Cx} : MtR X "str.join" (rJoin X.K) := by
  intro pins s σ H x xs v us Q I rx rs h
  obtain ⟨z, a, ys, rfl, rfl, ha, hz, q⟩ := h
  obtain ⟨t, rfl⟩ := rx
  obtain ⟨u, rfl, ru⟩ := vals1 rs
  cases ru
  obtain ⟨its, r, pl, _⟩ := I.list ha
  exact join_list pl.isList (strs_of r) hz fun t' k => ⟨.str _, H, I.tok k, ⟨t', rfl⟩, q⟩
theorem mt_joinK {X : Cx} {K : PySem.W.Frag} (hK : X.K = K) : MtR X "str.join" (rJoin K) := by subst hK; exact mt_join
section
variable {X : Cx} {K : PySem.W.Frag} {o e : Expr} {es : List Expr} {to : TE} {t : TA} {name : Str} {apos cpos : Pos} {T id : String} {r : L2.V → List L2.V → Hp → VK → Prop}
theorem pe_bmK (hK : X.K = K) (pa : PlainAttrs T) (slot : Slot T name id) (hty : typeOf (.builtin id) = pure (.type "method_descriptor")) (hm : MtR X id r) (ho : PE X o to) (ha : PA X (e :: es) t)
    (hbase : attributeBase o name X.env (eval o X.env) = eval o X.env := by rfl)
    (hfew : ((backTo cpos (starEach (e :: es) X.env)).all (fun x => !x.1) && (backToKw cpos (keywordEach [] X.env)).all (fun x => x.1.isSome)
      && decide ((e :: es).length + ([] : List Keyword).length + (if ([] : List Keyword).isEmpty then 0 else 1) < 30)) = true := by rfl)
    (hline : (apos.endLine == cpos.line) = true := by rfl) (hs : starEach (e :: es) X.env = (false, eval e X.env) :: starEach es X.env := by rfl) (hplain : (backTo cpos (starEach es X.env)).any (·.1) = false := by rfl) :
    PE X (.Call (.Attribute o name apos) (e :: es) [] cpos) (tBM K T r to t) := by subst hK; exact pe_bm pa slot hty hm ho ha hbase hfew hline hs hplain
end
end K1
set_option Elab.async false
set_option linter.all false
set_option maxRecDepth 100000
set_option maxHeartbeats 4000000
namespace K1
open PySem L2 L3 M1
theorem atI_getD {α : Type} {xs : List α} {i : Int} (d : α) (h0 : 0 ≤ i) (h1 : i < xs.length) : atI xs i = some (xs.getD i.toNat d) := by
  have h2 : i.toNat < xs.length := by omega
  have e : xs[i.toNat]? = some (xs.getD i.toNat d) := by rw [List.getD, List.getElem?_eq_getElem h2]; rfl
  have := atI_nat e
  rwa [Int.toNat_of_nonneg h0] at this
theorem atI_mod {α : Type} {xs : List α} (d : α) (c n : Int) (hn : (xs.length : Int) = n) (h : 0 < n) : atI xs (c % n) = some (xs.getD (c % n).toNat d) :=
  atI_getD d (Int.emod_nonneg _ (by omega)) (by rw [hn]; exact Int.emod_lt_of_pos _ h)
noncomputable abbrev L (x : String) : Str := Str.ofString x
noncomputable def DN (x p : Str) : List PyData := [.str (L ""), .str (x ++ L "A"), .str (cutS x none (some ((x.length : Int) - 1)) ++ L "9"), .str (L "abcdefghi"), .int 7, .none, .list [.str (L "a")], .str p, .str (L "a b"), .str (x ++ L "_")] ++ [.bool true]
noncomputable def DR (a b : Str) (t m f : Int) : List PyData :=
  ([.list [.str a, .str b, .int t, .int m], .tuple (cutD [.str a, .str b, .int t, .int m] none (some 3)), .tuple ([.str a, .str b, .int t, .int m] ++ [.int 1]), .none, .tuple [.str a, .str (L "noshow"), .int t, .int m], .tuple [.str a, .str a, .int 1, .int 1]]
    ++ [.tuple [.str (L ""), .str b, .int 1, .int 1], .tuple [.str a, .str b, .int 0, .int m], .tuple [.str a, .str b, .int (10 + f), .int m]]
    ++ [.tuple [.str a, .str b, .bool true, .int 1], .tuple [.str a, .str b, .str (L "1"), .int 1], .tuple [.str a, .str b, .int t, .int 0], .str (L "road")]
    ++ [.tuple [.str a, .str b, .int 1, .int (10 ^ (9 : Int).toNat + 1 + f)], .tuple [.str a, .str b, .int 1, .int (-1 - f)]]
    ++ [.tuple [.str a, .str b, .int 1, .bool true], .tuple [.str a, .str b, .int 1, .none], .tuple [.list [.str a], .str b, .int 1, .int 1]]
    ++ [.tuple [.none, .str b, .int 1, .int 1], .tuple []])
noncomputable def dN (x p : Str) (c : Int) : PyData := (DN x p).getD (c % 11).toNat .none
noncomputable def dR (a b : Str) (t m c : Int) : PyData := (DR a b t m (c % 10 ^ (30 : Int).toNat)).getD (c % 20).toNat .none
theorem getD_in {α : Type} (xs : List α) (n : Nat) (d : α) : xs.getD n d ∈ xs ∨ xs.getD n d = d := by
  rw [List.getD]
  cases h : xs[n]? with
  | none => exact .inr rfl
  | some v => exact .inl (List.mem_of_getElem? h)
theorem nm_app {x y : Str} (h : y.cps.toList.all lowC = false) : isNameD (.str (x ++ y)) = false := by
  have e : (x ++ y).cps.toList = x.cps.toList ++ y.cps.toList := by show (x.cps ++ y.cps).toList = _; simp
  show (_ && (x ++ y).cps.toList.all lowC) = false
  rw [e, List.all_append, h, Bool.and_false, Bool.and_false]
theorem dN_bad (x p : Str) (c : Int) : isNameD (dN x p c) = false ∨ dN x p c = .str p := by
  unfold dN
  rcases getD_in (DN x p) (c % 11).toNat .none with h | h
  · generalize (DN x p).getD (c % 11).toNat .none = d at h
    simp only [DN, List.cons_append, List.nil_append, List.mem_cons, List.not_mem_nil, or_false] at h
    rcases h with rfl | rfl | rfl | rfl | rfl | rfl | rfl | rfl | rfl | rfl | rfl
    · exact .inl (by decide +kernel)
    · exact .inl (nm_app (by decide +kernel))
    · exact .inl (nm_app (by decide +kernel))
    · exact .inl (by decide +kernel)
    · exact .inl rfl
    · exact .inl rfl
    · exact .inl rfl
    · exact .inr rfl
    · exact .inl (by decide +kernel)
    · exact .inl (nm_app (by decide +kernel))
    · exact .inl rfl
  · rw [h]
    exact .inl rfl
theorem cutD_take (xs : List PyData) (k : Nat) : cutD xs none (some (k : Int)) = xs.take k := by
  unfold cutD
  rw [HT.sIx_none, HT.sIx_nat]
  simp only [List.drop_zero, Nat.sub_zero]
  by_cases h : k ≤ xs.length
  · rw [Nat.min_eq_left h]
  · rw [Nat.min_eq_right (by omega), List.take_of_length_le (Nat.le_refl _), List.take_of_length_le (by omega)]
theorem cutD_drop (xs : List PyData) (k : Nat) (h : k ≤ xs.length) : cutD xs (some (k : Int)) none = xs.drop k := by
  unfold cutD
  rw [HT.sIx_none, HT.sIx_nat, Nat.min_eq_left h]
  exact List.take_of_length_le (by rw [List.length_drop]; exact Nat.le_refl _)
theorem texts_app : ∀ (xs ys : List PyData), textsD (xs ++ ys) = textsD xs ++ textsD ys
  | [], _ => rfl
  | d :: xs, ys => by cases d <;> simp [textsD, texts_app xs ys]
theorem texts_hD : ∀ hs : List (List Nat), textsD (hD hs) = hs.map S
  | [] => rfl
  | l :: hs => by
    show S l :: textsD (hD hs) = S l :: hs.map S
    rw [texts_hD hs]
theorem houses_true {ds : List PyData} (h : isHousesD (.list ds) = true) : ds.length ≤ 12 ∧ (∀ d ∈ ds, isNameD d = true) ∧ (textsD ds).Nodup := by
  unfold isHousesD at h
  simp only [Bool.and_eq_true, decide_eq_true_eq, List.all_eq_true] at h
  exact ⟨h.1.1, h.1.2, h.2⟩
theorem hD_len (hs : List (List Nat)) : (hD hs).length = hs.length := by simp [hD]
theorem hD_get {hs : List (List Nat)} {j : Nat} (h : j < hs.length) : (hD hs)[j]? = some (.str (S (hs.getD j []))) := by
  unfold hD
  rw [List.getElem?_map, List.getElem?_map, List.getElem?_eq_getElem h]
  simp [List.getD, h]
noncomputable def before (n k : Nat) : Nat := if k = 0 then n - 1 else k - 1
theorem hD_before {hs : List (List Nat)} {k : Nat} (h : k < hs.length) (h2 : 2 ≤ hs.length) : atI (hD hs) ((k : Int) - 1) = some (.str (S (hs.getD (before hs.length k) []))) := by
  unfold before
  by_cases h0 : k = 0
  · subst h0
    rw [if_pos rfl]
    have e : ((0 : Nat) : Int) - 1 = -1 := rfl
    rw [e]
    unfold atI
    have e2 : ixN (hD hs).length (-1) = some (hs.length - 1) := by
      unfold ixN
      rw [hD_len]
      simp
      omega
    rw [e2]
    exact hD_get (by omega)
  · rw [if_neg h0]
    have e : ((k : Int) - 1) = ((k - 1 : Nat) : Int) := by omega
    rw [e]
    exact atI_nat (hD_get (by omega))
theorem spoilH {hs : List (List Nat)} (nd : hs.Nodup) {k : Nat} (h : k < hs.length) (h2 : 2 ≤ hs.length) {d : PyData} (hd : isNameD d = false ∨ d = .str (S (hs.getD (before hs.length k) []))) :
    isHousesD (.list ((hD hs).take k ++ [d] ++ (hD hs).drop (k + 1))) = false := by
  rw [Bool.eq_false_iff]
  intro z
  obtain ⟨_, hn, hu⟩ := houses_true z
  rcases hd with hd | hd
  · have := hn d (by simp)
    rw [hd] at this
    cases this
  · subst hd
    have e1 : (hD hs).take k = hD (hs.take k) := by unfold hD; rw [List.map_take, List.map_take]
    have e2 : (hD hs).drop (k + 1) = hD (hs.drop (k + 1)) := by unfold hD; rw [List.map_drop, List.map_drop]
    rw [e1, e2, texts_app, texts_app, texts_hD, texts_hD] at hu
    have e3 : textsD [PyData.str (S (hs.getD (before hs.length k) []))] = [S (hs.getD (before hs.length k) [])] := rfl
    rw [e3] at hu
    have hj : before hs.length k < hs.length ∧ before hs.length k ≠ k := by unfold before; split <;> omega
    have hget : hs[before hs.length k]? = some (hs.getD (before hs.length k) []) := by rw [List.getD, List.getElem?_eq_getElem hj.1]; rfl
    generalize hs.getD (before hs.length k) [] = l at hu hget
    generalize before hs.length k = j at hj hget
    rcases Nat.lt_or_gt_of_ne hj.2 with hlt | hgt
    · have hm : S l ∈ (hs.take k).map S := List.mem_map.mpr ⟨l, List.mem_of_getElem? (i := j) (by rw [List.getElem?_take_of_lt hlt]; exact hget), rfl⟩
      have h3 := (List.nodup_append.mp hu).1
      exact (List.nodup_append.mp h3).2.2 _ hm _ (List.mem_singleton.mpr rfl) rfl
    · have hm : S l ∈ (hs.drop (k + 1)).map S := List.mem_map.mpr ⟨l, List.mem_of_getElem? (i := j - (k + 1)) (by rw [List.getElem?_drop, show k + 1 + (j - (k + 1)) = j by omega]; exact hget), rfl⟩
      exact (List.nodup_append.mp hu).2.2 (S l) (by simp) _ hm rfl
theorem inD_hD {hs : List (List Nat)} {y : Str} (h : y ∉ hs.map S) : inD (.str y) (hD hs) = false := by
  unfold inD
  rw [Bool.eq_false_iff]
  intro z
  obtain ⟨v, hv, e⟩ := List.any_eq_true.mp z
  obtain ⟨u, hu, rfl⟩ := List.mem_map.mp hv
  have e' : (u == y) = true := e
  exact h (eq_of_beq e' ▸ hu)
theorem inD_no {hs : List (List Nat)} {d : PyData} (h : ∀ u, PyData.eqv (.str u) d = false) : inD d (hD hs) = false := by
  unfold inD
  rw [Bool.eq_false_iff]
  intro z
  obtain ⟨v, hv, e⟩ := List.any_eq_true.mp z
  obtain ⟨u, hu, rfl⟩ := List.mem_map.mp hv
  rw [h u] at e
  cases e
theorem road_a {hs ds : List PyData} {a b t m : PyData} (h : inD a hs = false) : isRoadD hs (.tuple [a, b, t, m]) = false := by
  show (((inD a hs && inD b hs) && !PyData.eqv a b) && _ && _) = false
  rw [h]
  rfl
theorem road_b {hs : List PyData} {a b t m : PyData} (h : inD b hs = false) : isRoadD hs (.tuple [a, b, t, m]) = false := by
  show (((inD a hs && inD b hs) && !PyData.eqv a b) && _ && _) = false
  rw [h, Bool.and_false]
  rfl
theorem road_ab {hs : List PyData} {a b t m : PyData} (h : PyData.eqv a b = true) : isRoadD hs (.tuple [a, b, t, m]) = false := by
  show (((inD a hs && inD b hs) && !PyData.eqv a b) && _ && _) = false
  rw [h, Bool.not_true, Bool.and_false]
  rfl
theorem road_t {hs : List PyData} {a b t m : PyData} (h : withinD 1 9 t = false) : isRoadD hs (.tuple [a, b, t, m]) = false := by
  show (_ && withinD 1 9 t && _) = false
  rw [h, Bool.and_false, Bool.false_and]
theorem road_m {hs : List PyData} {a b t m : PyData} (h : withinD 1 1000000000 m = false) : isRoadD hs (.tuple [a, b, t, m]) = false := by
  show (_ && _ && withinD 1 1000000000 m) = false
  rw [h, Bool.and_false]
theorem with_lo {lo hi i : Int} (h : i < lo) : withinD lo hi (.int i) = false := by
  show (decide (lo ≤ i) && _) = false
  rw [decide_eq_false (by omega), Bool.false_and]
theorem with_hi {lo hi i : Int} (h : hi < i) : withinD lo hi (.int i) = false := by
  show (_ && decide (i ≤ hi)) = false
  rw [decide_eq_false (p := i ≤ hi) (by omega), Bool.and_false]
theorem dR_bad {hs : List (List Nat)} (a b : Str) (t m c : Int) (h1 : L "noshow" ∉ hs.map S) (h2 : L "" ∉ hs.map S) : isRoadD (hD hs) (dR a b t m c) = false ∧ (dR a b t m c).depth ≤ 2 := by
  unfold dR
  have f0 : 0 ≤ c % 10 ^ (30 : Int).toNat := Int.emod_nonneg _ (by decide)
  generalize c % 10 ^ (30 : Int).toNat = f at f0
  rcases getD_in (DR a b t m f) (c % 20).toNat .none with h | h
  · generalize (DR a b t m f).getD (c % 20).toNat .none = d at h
    simp only [DR, List.cons_append, List.nil_append, List.mem_cons, List.not_mem_nil, or_false] at h
    rcases h with rfl | rfl | rfl | rfl | rfl | rfl | rfl | rfl | rfl | rfl | rfl | rfl | rfl | rfl | rfl | rfl | rfl | rfl | rfl | rfl
    · exact ⟨rfl, by simp [PyData.depth, PyData.depthAll]⟩
    · exact ⟨rfl, by show PyData.depth (.tuple [.str a, .str b, .int t]) ≤ 2; simp [PyData.depth, PyData.depthAll]⟩
    · exact ⟨rfl, by simp [PyData.depth, PyData.depthAll]⟩
    · exact ⟨rfl, by simp [PyData.depth, PyData.depthAll]⟩
    · exact ⟨road_b (inD_hD h1), by simp [PyData.depth, PyData.depthAll]⟩
    · exact ⟨road_ab (by show (a == a) = true; exact beq_self_eq_true a), by simp [PyData.depth, PyData.depthAll]⟩
    · exact ⟨road_a (ds := []) (inD_hD h2), by simp [PyData.depth, PyData.depthAll]⟩
    · exact ⟨road_t (with_lo (by decide)), by simp [PyData.depth, PyData.depthAll]⟩
    · exact ⟨road_t (with_hi (by omega)), by simp [PyData.depth, PyData.depthAll]⟩
    · exact ⟨road_t rfl, by simp [PyData.depth, PyData.depthAll]⟩
    · exact ⟨road_t rfl, by simp [PyData.depth, PyData.depthAll]⟩
    · exact ⟨road_m (with_lo (by decide)), by simp [PyData.depth, PyData.depthAll]⟩
    · exact ⟨rfl, by simp [PyData.depth, PyData.depthAll]⟩
    · exact ⟨road_m (with_hi (by have : (10 : Int) ^ (9 : Int).toNat = 1000000000 := by decide
                                 omega)), by simp [PyData.depth, PyData.depthAll]⟩
    · exact ⟨road_m (with_lo (by omega)), by simp [PyData.depth, PyData.depthAll]⟩
    · exact ⟨road_m rfl, by simp [PyData.depth, PyData.depthAll]⟩
    · exact ⟨road_m rfl, by simp [PyData.depth, PyData.depthAll]⟩
    · exact ⟨road_a (ds := []) (inD_no fun _ => rfl), by simp [PyData.depth, PyData.depthAll]⟩
    · exact ⟨road_a (ds := []) (inD_no fun _ => rfl), by simp [PyData.depth, PyData.depthAll]⟩
    · exact ⟨rfl, by simp [PyData.depth, PyData.depthAll]⟩
  · rw [h]
    exact ⟨rfl, Nat.zero_le _⟩
theorem spoilR {hs ds : List PyData} {d : PyData} {xs ys : List PyData} (h : isRoadD hs d = false) : isRoadsD hs (.list (xs ++ [d] ++ ys)) = false := by
  show (_ && (xs ++ [d] ++ ys).all (isRoadD hs)) = false
  rw [List.all_append, List.all_append]
  simp [h]
theorem spoil_len {hs ds : List PyData} (h : 40 < ds.length) : isRoadsD hs (.list ds) = false := by
  show (decide (ds.length ≤ 40) && _) = false
  rw [decide_eq_false (by omega), Bool.false_and]
theorem spoil_len12 {ds : List PyData} (h : 12 < ds.length) : isHousesD (.list ds) = false := by
  show (decide (ds.length ≤ 12) && _ && _) = false
  rw [decide_eq_false (by omega), Bool.false_and, Bool.false_and]
theorem cl1 {ds : List PyData} {lo hi : Option Int} {d : PyData} (h : ds.length ≤ 40) : (cutD ds lo hi).length + [d].length ≤ 100 := by
  have := cutD_len ds lo hi
  show _ + 1 ≤ 100
  omega
theorem cl2 {ds : List PyData} {lo hi lo' hi' : Option Int} {d : PyData} (h : ds.length ≤ 40) : (cutD ds lo hi ++ [d]).length + (cutD ds lo' hi').length ≤ 100 := by
  have h1 := cutD_len ds lo hi
  have h2 := cutD_len ds lo' hi'
  rw [List.length_append]
  show _ + 1 + _ ≤ 100
  omega
theorem mem_cut {ds : List PyData} {lo hi : Option Int} {d : PyData} (h : d ∈ cutD ds lo hi) : d ∈ ds := List.mem_of_mem_drop (List.mem_of_mem_take h)
theorem rep_len {ds : List PyData} (k : Nat) : (List.replicate k ds).flatten.length = k * ds.length := len_rep ds k
theorem mem_rep {ds : List PyData} {k : Nat} {d : PyData} (h : d ∈ (List.replicate k ds).flatten) : d ∈ ds := by
  obtain ⟨l, hl, hd⟩ := List.mem_flatten.mp h
  rw [(List.mem_replicate.mp hl).2] at hd
  exact hd
theorem ths_hD {H : Hp} : ∀ {hs : List (List Nat)}, (∀ x ∈ hs, Nm x) → Ths H (txs hs) (hD hs)
  | [], _ => .nil
  | l :: hs, h => .cons (.str (S l) (by rw [S_len]; have := (h l (List.mem_cons_self ..)).2.1; omega) (strOk_nm (h l (List.mem_cons_self ..)))) (ths_hD fun x hx => h x (List.mem_cons_of_mem _ hx))
theorem th_hD {H : Hp} {a : Addr} {hs : List (List Nat)} (G : Good hs) (h : H a = some (.lst (txs hs))) : Th H (.ref a) (.list (hD hs)) := .lst h (by rw [txs_len]; have := G.few; omega) (ths_hD G.nm)
theorem th_rD {H : Hp} {hs : List (List Nat)} (G : Good hs) {r : Addr} {d : M1.Rd} (ok : d.Ok hs.length) (h : H r = some (.tup (rdV hs d))) : Th H (.ref r) (rD hs d) :=
  .tup h (by show 4 ≤ 100; decide) (.cons (.str _ (by rw [S_len]; have := (G.at ok.a).2.1; omega) (strOk_nm (G.at ok.a))) (.cons (.str _ (by rw [S_len]; have := (G.at ok.b).2.1; omega) (strOk_nm (G.at ok.b))) (.cons (.int _) (.cons (.int _) .nil))))
theorem ths_rD {H : Hp} {hs : List (List Nat)} (G : Good hs) : ∀ {rs : List Addr} {ds : List M1.Rd}, Tups H rs (ds.map (rdV hs)) → (∀ d ∈ ds, d.Ok hs.length) → Ths H (refs rs) (ds.map (rD hs))
  | [], [], _, _ => .nil
  | r :: rs, d :: ds, .cons h t, ok => .cons (th_rD G (ok d (List.mem_cons_self ..)) h) (ths_rD G t fun e he => ok e (List.mem_cons_of_mem _ he))
  | [], d :: ds, h, _ => nomatch h
  | r :: rs, [], h, _ => nomatch h
end K1
set_option Elab.async false
set_option linter.all false
set_option maxRecDepth 100000
set_option maxHeartbeats 4000000
namespace K1
open PySem L2 L3 M1
section
variable {P : Program} {w : World} {K : PySem.W.Frag} {mg : Str → Option Value} {base : Heap}
noncomputable def top (i : Nat) : Stmt := PySem.Challenge.pw_postroad_k02_what_is_no_net.main.body.getD i (.Pass ⟨0, 0, 0, 0⟩)
end
end K1
set_option Elab.async false
set_option linter.all false
set_option maxRecDepth 100000
set_option maxHeartbeats 4000000
namespace K1
open PySem L2 L3 M1
section
variable {P : Program} {w : World} {K : PySem.W.Frag} {mg : Str → Option Value} {base : Heap}
noncomputable abbrev sAt : Stmt := top 31
noncomputable abbrev sWord : Stmt := top 32
noncomputable abbrev sHouses : Stmt := top 33
theorem scAt : FnScope ["_law_script", "_law_k"] ["_law_script", "_law_k"] (defScope sAt) := ⟨rfl, rfl, rfl, by decide +kernel, rfl, by decide +kernel, by decide +kernel⟩
theorem ok_at {f : Addr} {fd : FuncData} (F : Fun K "_law_at" "_law_at" sAt f fd) (len : mg "len" = none) : FnOk P w K mg base CX0 1 f fd ["_law_script", "_law_k"] (spAt K) := by
  refine F.ok scAt (fun vs H Q E h => ?_) (fun cdv A outer s H vs Q E hr h => ?_)
  · obtain ⟨a, ns, k, rfl, _⟩ := h
    rfl
  · obtain ⟨a, ns, k, rfl, hS, h0, q⟩ := h
    refine ⟨_, pss_cons (ps_if (pt_cmpR op_lt (pv 1) (pe_callB call_len_seq (by rfl) len PySem.boot_len (pa_cons (pv 0) pa_nil)) (nomark _)) (pss_one (ps_ret (pe_ix ix_list (pv 0) (pv 1) (fun _ _ => rfl)))) pss_nil) (pss_one (ps_ret pe_int)), ?_⟩
    refine ⟨_, rfl, _, rfl, a, _, rfl, .inl hS, _, _, rfl, rfl, _, rfl, ?_⟩
    refine ite2 (fun h => ?_) (fun h => ?_)
    · have h1 := of_decide_eq_true h
      exact ⟨_, rfl, _, rfl, a, _, k, _, rfl, rfl, hS, atI_int h0 h1, q⟩
    · have h1 : ¬ k < ((ns.map V.int).length : Int) := fun z => h (decide_eq_true z)
      rw [List.length_map] at h1
      have e : ns.getD k.toNat 0 = 0 := by
        rw [List.getD, List.getElem?_eq_none (by omega)]
        rfl
      rw [e] at q
      exact q
theorem scWord : FnScope ["_law_cell", "_law_n", "_law_size", "_law_word_here", "_law_k"] ["_law_cell"] (defScope sWord) := ⟨rfl, rfl, rfl, by decide +kernel, rfl, by decide +kernel, by decide +kernel⟩
theorem ok_word {f : Addr} {fd : FuncData} (F : Fun K "_law_word" "_law_word" sWord f fd) (rng : mg "range" = none) : FnOk P w K mg base CX0 1 f fd ["_law_cell"] spWord := by
  refine F.ok scWord (fun vs H Q E h => ?_) (fun cdv A outer s H vs Q E hr h => ?_)
  · obtain ⟨c, rfl, _⟩ := h
    rfl
  · obtain ⟨c, rfl, q⟩ := h
    refine ⟨_, pss_cons (ps_set (i := 1) scWord.nd rfl (Or.inl rfl) (pe_op op_mod (pe_op op_mul (pv 0) pe_int) pe_int))
      (pss_cons (ps_set (i := 2) scWord.nd rfl (Or.inl rfl) (pe_op op_add pe_int (pe_op op_mod (pv 1) pe_int)))
      (pss_cons (ps_set (i := 1) scWord.nd rfl (Or.inl rfl) (pe_op op_fdiv (pv 1) pe_int))
      (pss_cons (ps_set (i := 3) scWord.nd rfl (Or.inl rfl) pe_str)
      (pss_cons (ps_for PassesOwn.never rfl (pi_range1 rfl rng (pa_cons (pv 2) pa_nil)) (pg_name (i := 4) scWord.nd rfl (Or.inl rfl))
        (pss_cons (ps_set (i := 3) scWord.nd rfl (Or.inl rfl) (pe_op op_add_str (pv 3) (pe_ix ix_str pe_str (pe_op op_mod (pv 1) pe_int) (fun _ _ => rfl))))
        (pss_one (ps_set (i := 1) scWord.nd rfl (Or.inl rfl) (pe_op op_fdiv (pv 1) pe_int)))))
      (pss_one (ps_ret (pv 3))))))), ?_⟩
    have hw := wsize_ok c
    have hsz : (1 + wnum c % 7) = (wsize c : Int) := by
      have h1 : 0 ≤ wnum c % 7 := Int.emod_nonneg _ (by decide)
      unfold wsize
      omega
    refine ⟨_, rfl, _, _, rfl, rfl, .inr ⟨by decide, by decide⟩, _, _, rfl, rfl, (by show (0 : Int) < 10000000000037; decide), ?_⟩
    refine ⟨_, rfl, _, _, rfl, rfl, (by show (0 : Int) < 7; decide), _, _, rfl, rfl, ?_⟩
    refine ⟨_, rfl, _, _, rfl, rfl, ⟨by decide, by decide⟩, ?_⟩
    refine ⟨_, rfl, _, rfl, (by show -(2 ^ 62) ≤ 1 + wnum c % 7; omega), (by show 1 + wnum c % 7 < 2 ^ 62; omega), ?_⟩
    have e2 : (1 + wnum c % 7).toNat = wsize c := rfl
    show ∃ W : Nat → Nat → L2.St → Hp → Prop, _
    refine for_range (lo := 0) (n := wsize c) (fun i σ H2 => H2 = H ∧ ∃ v, σ = [some (.int c), some (.int (nAt i (wnum c / 7))), some (.int (1 + wnum c % 7)), some (.str (S (wcs i (wnum c / 7)))), v]) ⟨rfl, none, rfl⟩ ?_ ?_
    · rintro i σ H2 hi ⟨rfl, v, rfl⟩
      have m1 : 0 ≤ nAt i (wnum c / 7) % 26 := Int.emod_nonneg _ (by decide)
      have m2 : nAt i (wnum c / 7) % 26 < 26 := Int.emod_lt_of_pos _ (by decide)
      refine ⟨_, rfl, _, rfl, _, _, rfl, rfl, (by show (0 : Int) < 26; decide), _, _, _, rfl, rfl, (by decide +kernel), alpha_at m1 m2, _, _, rfl, rfl, ?_, ?_⟩
      · rw [S_len, wcs_len]
        have : (⟨#[97 + (nAt i (wnum c / 7) % 26).toNat]⟩ : Str).length = 1 := rfl
        rw [this]
        exact Nat.le_of_lt (small1000 (by omega))
      · refine ⟨_, rfl, _, _, rfl, rfl, ⟨by decide, by decide⟩, rfl, some (.int (0 + (i : Int))), ?_⟩
        rw [nAt_succ, wcs_snoc, ← S_app]
        rfl
    · rintro σ H2 ⟨rfl, v, rfl⟩
      exact ⟨_, rfl, q⟩
noncomputable abbrev sRoads : Stmt := top 34
theorem scHouses : FnScope ["_law_cell", "_law_many", "_law_word_here", "_law_at_here"] ["_law_cell", "_law_many"] (defScope sHouses) := ⟨rfl, rfl, rfl, by decide +kernel, rfl, by decide +kernel, by decide +kernel⟩
theorem ok_houses {f fW : Addr} {fd fdW : FuncData} (F : Fun K "_law_houses" "_law_houses" sHouses f fd) (len : mg "len" = none) (mW : mg "_law_word" = some (.ref fW)) (kW : PySem.W.keepIn K (.ref fW) = true) (bW : Binds K fdW ["_law_cell"] [])
    (GW : FnOk P w K mg base CX0 1 fW fdW ["_law_cell"] spWord) : FnOk P w K mg base CX0 2 f fd ["_law_cell", "_law_many"] spHouses := by
  refine F.ok scHouses (fun vs H Q E h => ?_) (fun cdv A outer s H vs Q E hr h => ?_)
  · obtain ⟨c, m, rfl, _⟩ := h
    rfl
  · obtain ⟨c, m, rfl, hm, q⟩ := h
    refine ⟨_, pss_cons (ps_set (i := 2) scHouses.nd rfl (Or.inr rfl) (pe_call GW hr rfl mW kW bW .nil pass0 (pa_cons (pv 0) pa_nil)))
      (pss_cons (ps_set (i := 3) scHouses.nd rfl (Or.inr rfl) (pe_op op_mod (pv 0) (pe_op op_add (pe_callB call_len_str (by rfl) len PySem.boot_len (pa_cons (pv 2) pa_nil)) pe_int)))
      (pss_one (ps_ret (pe_lc (N' := ["_law_letter", "_law_word_here", "_law_at_here"]) (cs := [none, some 2, some 3]) rfl (pi_str (pe_slice sl_str pe_str po_none (po_some (pv 1)))) rfl (by decide +kernel) rfl (by decide +kernel) (fun x c e => ?sub) rfl
        (.own (.cap rfl (.inl rfl) (.inl rfl) rfl (.cap rfl (.inl rfl) (.inl rfl) rfl .nil)))
        (fun C s3 H3 fp pn => ⟨pg_name (i := 0) (by show (["_law_letter", "_law_word_here", "_law_at_here"] : List Str).Nodup; decide +kernel) rfl (.inl rfl), pif_nil,
          pe_op op_add_str (pe_op op_add_str (pe_slice sl_str (pv 1) po_none (po_some (pv 2))) (pv 0)) (pe_slice sl_str (pv 1) (po_some (pv 2)) po_none)⟩))))), ?_⟩
    case sub =>
      exact sub_of (List.forall_mem_cons.mpr ⟨rfl, List.forall_mem_cons.mpr ⟨rfl, fun p hp => absurd hp List.not_mem_nil⟩⟩) x c e
    have hw := wsize_ok c
    have hl := word_len c
    have ha := hat_le c
    refine ⟨_, rfl, c, rfl, ?_⟩
    refine ⟨_, rfl, _, rfl, _, rfl, Nat.le_of_lt (small1000 (by rw [S_len, hl]; omega)), _, _, rfl, rfl, _, _, rfl, rfl, ?_, ?_⟩
    · show (0 : Int) < ((S (wordL c)).length : Int) + 1
      omega
    · have eh : c % (((S (wordL c)).length : Int) + 1) = (hat c : Int) := by
        rw [S_len, hl]
        have h1 : 0 ≤ c % ((wsize c : Int) + 1) := Int.emod_nonneg _ (by omega)
        unfold hat
        omega
      dsimp only
      rw [eh]
      refine ⟨_, rfl, _, rfl, _, rfl, (by decide +kernel), _, rfl, ?_⟩
      rw [menu_S, cut_take letters m (by show m ≤ 12; exact hm)]
      refine lc_map (xs := signs (S (letters.take m))) (rest := [some (.str (S (wordL c))), some (.int (hat c))]) rfl (wk_str _) (small1000 ?_) (putIn c) (fun i x H2 R ex sm hR => ?_) fun D H' h1 h2 h3 => ?_
      · rw [signs_S, List.length_map, List.length_take]
        have : letters.length = 12 := rfl
        omega
      · rw [signs_S] at ex
        obtain ⟨k, hk, rfl⟩ := List.mem_map.mp (List.mem_of_getElem? ex)
        have l1 : (S ((wordL c).take (hat c))).length ≤ 8 := by rw [S_len, List.length_take]; omega
        have l2 : (S ((wordL c).drop (hat c))).length ≤ 8 := by rw [S_len, List.length_drop]; omega
        refine ⟨_, rfl, _, rfl, _, rfl, _, rfl, Nat.le_of_lt (small1000 (by rw [S_len, hl]; omega)), _, rfl, _, _, rfl, rfl, ?_, _, rfl, _, rfl, _, rfl, _, rfl, Nat.le_of_lt (small1000 (by rw [S_len, hl]; omega)), _, _, rfl, rfl, ?_, ?_⟩
        · rw [cut_take _ _ (by omega), S_len [k]]
          exact Nat.le_of_lt (small1000 (by show _ + 1 ≤ 1000; omega))
        · rw [cut_take _ _ (by omega), cut_drop _ _ (by omega), S_app, S_len (_ ++ [k]), List.length_append]
          rw [S_len] at l1
          exact Nat.le_of_lt (small1000 (by show _ + 1 + _ ≤ 1000; omega))
        · rw [cut_take _ _ (by omega), cut_drop _ _ (by omega)]
          exact hR H2 (Same.refl _)
      · refine q D H' h1 h3 ?_
        rw [h2, signs_S, List.map_map]
        congr 2
        simp only [txs, housesL, List.map_map]
        refine List.map_congr_left fun k _ => ?_
        show putIn c (V.str (S [k])) = V.str (S (house c k))
        show V.str (S ((wordL c).take (hat c)) ++ S [k] ++ S ((wordL c).drop (hat c))) = _
        rw [S_app, S_app]
        congr 2
        unfold house
        simp
theorem scRoads : FnScope nRoads ["_law_cells", "_law_houses_here", "_law_long"] (defScope sRoads) := ⟨rfl, rfl, rfl, by decide +kernel, rfl, by decide +kernel, by decide +kernel⟩
theorem ok_roads {f : Addr} {fd : FuncData} (F : Fun K "_law_roads" "_law_roads" sRoads f fd) (B : Blt mg) : FnOk P w K mg base CX0 1 f fd ["_law_cells", "_law_houses_here", "_law_long"] (spRoads K) := by
  refine F.ok scRoads (fun vs H Q E h => ?_) (fun cdv A outer s H vs Q E hr h => ?_)
  · obtain ⟨a, b, ns, hs, rfl, _⟩ := h
    rfl
  · obtain ⟨a, b, ns, hs, rfl, ha, hb, hl, hn, q⟩ := h
    refine ⟨_, (pss_cons (ps_set (i := 3) scRoads.nd rfl (Or.inl rfl) (pe_lst pa_nil))
      (pss_cons (ps_if (pt_cmpR op_gt (pe_callB call_len_seq (by rfl) B.len bt_len (pa_cons (pv 1) pa_nil)) pe_int (nomark _)) (pss_one (ps_for PassesOwn.never rfl (pi_list (pv 0)) (pg_name (i := 4) scRoads.nd rfl (Or.inl rfl))
        (pss_cons (ps_set (i := 5) scRoads.nd rfl (Or.inl rfl) (pe_op op_mod (pe_op op_mul (pv 4) pe_int) pe_int))
      (pss_cons (ps_set (i := 6) scRoads.nd rfl (Or.inl rfl) (pe_op op_mod (pv 5) (pe_callB call_len_seq (by rfl) B.len bt_len (pa_cons (pv 1) pa_nil))))
      (pss_cons (ps_set (i := 7) scRoads.nd rfl (Or.inl rfl) (pe_op op_mod (pe_op op_add (pe_op op_add (pv 6) pe_int) (pe_op op_mod (pe_op op_fdiv (pv 5) pe_int) (pe_op op_sub (pe_callB call_len_seq (by rfl) B.len bt_len (pa_cons (pv 1) pa_nil)) pe_int))) (pe_callB call_len_seq (by rfl) B.len bt_len (pa_cons (pv 1) pa_nil))))
      (pss_cons (ps_set (i := 8) scRoads.nd rfl (Or.inl rfl) (pe_op op_add pe_int (pe_op op_mod (pe_op op_fdiv (pv 5) pe_int) pe_int)))
      (pss_cons (ps_if (pt_cmpR op_eq (pe_op op_mod (pe_op op_fdiv (pv 5) pe_int) pe_int) pe_int (nomark _)) (pss_one (ps_set (i := 8) scRoads.nd rfl (Or.inl rfl) (pe_op op_add pe_int (pe_op op_mod (pv 4) (pe_op op_pow pe_int pe_int))))) pss_nil)
      (pss_one (ps_expr (pe_bm PySem.F.plainAttrs_list PySem.F.slot_list_append PySem.F.type_list_append mt_append (pv 3) (pa_cons (pe_tup (pa_cons (pe_ix ix_list (pv 1) (pv 6) (fun _ _ => rfl)) (pa_cons (pe_ix ix_list (pv 1) (pv 7) (fun _ _ => rfl)) (pa_cons (pe_op op_add pe_int (pe_op op_mod (pe_op op_fdiv (pv 5) pe_int) (pv 2))) (pa_cons (pv 8) pa_nil))))) pa_nil))))))))))) pss_nil)
      (pss_one (ps_ret (pv 3))))), ?_⟩
    refine ⟨Nat.zero_le _, fun p hp => ?_⟩
    have s0 : Same H (upd H p (.lst [])) := upd_free hp
    refine ⟨_, rfl, b, _, rfl, .inl (s0.seq hb), _, _, rfl, rfl, _, rfl, ?_⟩
    refine ite2 (fun h => ?_) (fun h => ?_)
    · have h1 := of_decide_eq_true h
      rw [txs_len] at h1
      have h1 : 1 < hs.length := by omega
      refine ⟨_, rfl, a, rfl, ⟨_, s0.seq ha⟩, ?_⟩
      refine for_list (xs := ns.map V.int) (fun i σ Hc => ∃ (rs : List Addr) (v4 v5 v6 v7 v8 : Option L2.V), σ = [some (.ref a), some (.ref b), some (.int 9), some (.ref p), v4, v5, v6, v7, v8] ∧ Same H Hc ∧ Hc p = some (.lst (refs rs)) ∧
        Tups Hc rs ((ns.take i).map fun c => rdV hs (rd hs.length c))) ⟨[], none, none, none, none, none, rfl, s0, upd_same, .nil⟩ ?_ ?_ ?_
      · rintro i σ Hc hi ⟨rs, v4, v5, v6, v7, v8, rfl, sm, hpc, ht⟩
        exact sm.seq ha
      · rintro i x σ Hc ex ⟨rs, v4, v5, v6, v7, v8, rfl, sm, hpc, ht⟩
        rw [List.getElem?_map] at ex
        obtain ⟨c, ec, rfl⟩ := Option.map_eq_some_iff.mp ex
        have hbc : SqL K Hc b (txs hs) := sm.seq hb
        have hk := rd_ok h1 c
        have tl := txs_len hs
        have hi : i < ns.length := (List.getElem?_eq_some_iff.mp ec).1
        have b1 : 0 ≤ rbeg hs.length c := Int.emod_nonneg _ (by omega)
        have b2 : rbeg hs.length c < hs.length := Int.emod_lt_of_pos _ (by omega)
        have e1 : 0 ≤ rend hs.length c := Int.emod_nonneg _ (by omega)
        have e2 : rend hs.length c < hs.length := Int.emod_lt_of_pos _ (by omega)
        refine ⟨_, rfl, _, _, rfl, rfl, .inr ⟨by decide, by decide⟩, _, _, rfl, rfl, (by show (0 : Int) < 2147483647; decide), ?_⟩
        refine ⟨_, rfl, _, rfl, b, _, rfl, .inl hbc, _, _, rfl, rfl, (by show (0 : Int) < ((txs hs).length : Int); omega), ?_⟩
        refine ⟨_, rfl, _, _, rfl, rfl, _, rfl, _, _, rfl, rfl, ⟨by decide, by decide⟩, _, rfl, b, _, rfl, .inl hbc, _, _, rfl, rfl, _, _, rfl, rfl, (by show (0 : Int) < ((txs hs).length : Int) - 1; omega), _, _, rfl, rfl, _, rfl, b, _, rfl, .inl hbc, _, _, rfl, rfl, (by show (0 : Int) < ((txs hs).length : Int); omega), ?_⟩
        refine ⟨_, rfl, _, _, rfl, rfl, ⟨by decide, by decide⟩, _, _, rfl, rfl, (by show (0 : Int) < 3; decide), _, _, rfl, rfl, ?_⟩
        refine ⟨_, rfl, _, _, rfl, rfl, ⟨by decide, by decide⟩, _, _, rfl, rfl, (by show (0 : Int) < 5; decide), rfl, _, rfl, ?_⟩
        have at1 : atI (txs hs) (rnum c % ((txs hs).length : Int)) = some (V.str (S (hs.getD (rbeg hs.length c).toNat []))) := by
          rw [tl]
          exact txs_at b1 b2
        have at2 : atI (txs hs) ((rnum c % ((txs hs).length : Int) + 1 + rnum c / 12 % (((txs hs).length : Int) - 1)) % ((txs hs).length : Int)) = some (V.str (S (hs.getD (rend hs.length c).toNat []))) := by
          rw [tl]
          exact txs_at e1 e2
        have lr : (refs rs).length < sizeLine := by
          have := ht.len
          rw [List.length_map, List.length_take] at this
          rw [refs_len]
          exact small1000 (by omega)
        have tk : (ns.take (i + 1)).map (fun c => rdV hs (rd hs.length c)) = (ns.take i).map (fun c => rdV hs (rd hs.length c)) ++ [rdV hs (rd hs.length c)] := by
          rw [List.take_add_one, ec, List.map_append]
          rfl
        refine ite2 (fun h => ?_) (fun h => ?_)
        · have h5 : rnum c / 432 % 5 = 1 := V.int.inj (of_decide_eq_true h)
          have em : 1 + c % 10 ^ 9 = rroom c := by unfold rroom; rw [if_pos h5]
          refine ⟨_, rfl, _, _, rfl, rfl, ⟨by decide, by decide, by decide⟩, _, _, rfl, rfl, (by show (0 : Int) < 10 ^ (9 : Int).toNat; decide), _, _, rfl, rfl, ?_⟩
          refine ⟨_, rfl, .inl ⟨rfl, _, SqL.of hpc⟩, _, rfl, _, rfl, b, _, _, _, rfl, rfl, hbc, at1, _, rfl, _, rfl, b, _, _, _, rfl, rfl, hbc, at2, _, rfl, _, _, rfl, rfl, ⟨by decide, by decide⟩, _, rfl, _, _, rfl, rfl, (by show (0 : Int) < 9; decide), _, _, rfl, rfl, _, rfl,
            (by show 4 ≤ sizeLine; decide), fun t ht' => ?_⟩
          refine ⟨p, _, _, rfl, rfl, (by rw [upd_ne (ne_of_none hpc ht')]; exact hpc), lr, ?_⟩
          refine ⟨rs ++ [t], _, _, _, _, _, rfl, upd_other hp (sm.trans (upd_free ht')), (by rw [upd_same, refs_snoc]), ?_⟩
          rw [tk]
          refine Paired.snoc ?_ ((ht.same (upd_free ht')).upd (o := _) (u := .lst (refs rs)) (by rw [upd_ne (ne_of_none hpc ht')]; exact hpc) (fun d z => nomatch z))
          rw [upd_ne (ne_of_none hpc ht').symm, upd_same]
          show some (HO.tup [_, _, V.int (1 + rnum c / 2160 % 9), V.int (1 + c % 10 ^ 9)]) = some (HO.tup (rdV hs (rd hs.length c)))
          rw [em]
          rfl
        · have h5 : ¬ rnum c / 432 % 5 = 1 := fun z => h (decide_eq_true (congrArg V.int z))
          have em : 1 + rnum c / 144 % 3 = rroom c := by unfold rroom; rw [if_neg h5]
          refine ⟨_, rfl, .inl ⟨rfl, _, SqL.of hpc⟩, _, rfl, _, rfl, b, _, _, _, rfl, rfl, hbc, at1, _, rfl, _, rfl, b, _, _, _, rfl, rfl, hbc, at2, _, rfl, _, _, rfl, rfl, ⟨by decide, by decide⟩, _, rfl, _, _, rfl, rfl, (by show (0 : Int) < 9; decide), _, _, rfl, rfl, _, rfl,
            (by show 4 ≤ sizeLine; decide), fun t ht' => ?_⟩
          refine ⟨p, _, _, rfl, rfl, (by rw [upd_ne (ne_of_none hpc ht')]; exact hpc), lr, ?_⟩
          refine ⟨rs ++ [t], _, _, _, _, _, rfl, upd_other hp (sm.trans (upd_free ht')), (by rw [upd_same, refs_snoc]), ?_⟩
          rw [tk]
          refine Paired.snoc ?_ ((ht.same (upd_free ht')).upd (o := _) (u := .lst (refs rs)) (by rw [upd_ne (ne_of_none hpc ht')]; exact hpc) (fun d z => nomatch z))
          rw [upd_ne (ne_of_none hpc ht').symm, upd_same]
          show some (HO.tup [_, _, V.int (1 + rnum c / 2160 % 9), V.int (1 + rnum c / 144 % 3)]) = some (HO.tup (rdV hs (rd hs.length c)))
          rw [em]
          rfl
      · rintro σ Hc ⟨rs, v4, v5, v6, v7, v8, rfl, sm, hpc, ht⟩
        refine ⟨_, rfl, q p Hc rs hp sm hpc ?_⟩
        rw [List.length_map, List.take_length] at ht
        unfold roadsV
        rw [if_pos h1]
        exact ht
    · have h1 : ¬ 1 < hs.length := fun z => h (decide_eq_true (by rw [txs_len]; omega))
      refine ⟨_, rfl, q p _ [] hp s0 upd_same ?_⟩
      unfold roadsV
      rw [if_neg h1]
      exact .nil
end
end K1
set_option Elab.async false
set_option linter.all false
set_option maxRecDepth 100000
set_option maxHeartbeats 4000000
namespace K1
open PySem L2 L3 M1
section
variable {P : Program} {w : World} {K : PySem.W.Frag} {mg : Str → Option Value} {base : Heap}
noncomputable abbrev sWhole : Stmt := top 15
noncomputable abbrev sWithin : Stmt := top 16
noncomputable abbrev sTupOf : Stmt := top 17
noncomputable abbrev sUnlike : Stmt := top 18
noncomputable abbrev sName : Stmt := top 25
noncomputable abbrev sAreH : Stmt := top 26
noncomputable abbrev sRoad : Stmt := top 27
noncomputable abbrev sAreR : Stmt := top 28
theorem scWhole : FnScope ["thing"] ["thing"] (defScope sWhole) := ⟨rfl, rfl, rfl, by decide +kernel, rfl, by decide +kernel, by decide +kernel⟩
theorem scWithin : FnScope ["thing", "least", "greatest"] ["thing", "least", "greatest"] (defScope sWithin) := ⟨rfl, rfl, rfl, by decide +kernel, rfl, by decide +kernel, by decide +kernel⟩
theorem scTupOf : FnScope ["thing", "length"] ["thing", "length"] (defScope sTupOf) := ⟨rfl, rfl, rfl, by decide +kernel, rfl, by decide +kernel, by decide +kernel⟩
theorem scUnlike : FnScope ["houses", "one", "other"] ["houses", "one", "other"] (defScope sUnlike) := ⟨rfl, rfl, rfl, by decide +kernel, rfl, by decide +kernel, by decide +kernel⟩
theorem scName : FnScope ["thing"] ["thing"] (defScope sName) := ⟨rfl, rfl, rfl, by decide +kernel, rfl, by decide +kernel, by decide +kernel⟩
theorem scAreH : FnScope ["things"] ["things"] (defScope sAreH) := ⟨rfl, rfl, rfl, by decide +kernel, rfl, by decide +kernel, by decide +kernel⟩
theorem scRoad : FnScope ["houses", "thing"] ["houses", "thing"] (defScope sRoad) := ⟨rfl, rfl, rfl, by decide +kernel, rfl, by decide +kernel, by decide +kernel⟩
theorem scAreR : FnScope ["houses", "things"] ["houses", "things"] (defScope sAreR) := ⟨rfl, rfl, rfl, by decide +kernel, rfl, by decide +kernel, by decide +kernel⟩
noncomputable abbrev sInit : Stmt := inClass (top 29) 0
noncomputable abbrev sHousesM : Stmt := inClass (top 29) 1
noncomputable abbrev sRoadsM : Stmt := inClass (top 29) 2
theorem scInit : FnScope ["self", "houses", "roads"] ["self", "houses", "roads"] (defScope sInit) := ⟨rfl, rfl, rfl, by decide +kernel, rfl, by decide +kernel, by decide +kernel⟩
theorem scHousesM : FnScope ["self"] ["self"] (defScope sHousesM) := ⟨rfl, rfl, rfl, by decide +kernel, rfl, by decide +kernel, by decide +kernel⟩
theorem scRoadsM : FnScope ["self"] ["self"] (defScope sRoadsM) := ⟨rfl, rfl, rfl, by decide +kernel, rfl, by decide +kernel, by decide +kernel⟩
theorem ok_housesM {C f : Addr} {fd : FuncData} (F : Fun K "houses" "Net.houses" sHousesM f fd) (B : Blt mg) (NC : NetC K C) : FnOk P w K mg base CX0 1 f fd ["self"] (spHousesM C) := by
  refine F.ok scHousesM (fun vs H Q E h => ?_) (fun cdv A outer s H vs Q E hr h => ?_)
  · obtain ⟨x, a', b', xs, ys, rfl, _⟩ := h
    rfl
  · obtain ⟨x, a', b', xs, ys, rfl, n, q⟩ := h
    obtain ⟨dx, hx⟩ := n.ins
    refine ⟨_, (pss_one (ps_ret (pe_callTy call_list_of (by rfl) B.list bt_list (pa_cons (pe_fld (pv 0) (by rfl)) pa_nil)))), ?_⟩
    exact ⟨_, rfl, x, C, dx, _, _, rfl, hx, NC.cl, NC.nh, rfl, a', _, rfl, .inl (SqL.of n.hou), q⟩
theorem ok_roadsM {C f : Addr} {fd : FuncData} (F : Fun K "roads" "Net.roads" sRoadsM f fd) (B : Blt mg) (NC : NetC K C) : FnOk P w K mg base CX0 1 f fd ["self"] (spRoadsM C) := by
  refine F.ok scRoadsM (fun vs H Q E h => ?_) (fun cdv A outer s H vs Q E hr h => ?_)
  · obtain ⟨x, a', b', xs, ys, rfl, _⟩ := h
    rfl
  · obtain ⟨x, a', b', xs, ys, rfl, n, q⟩ := h
    obtain ⟨dx, hx⟩ := n.ins
    refine ⟨_, (pss_one (ps_ret (pe_callTy call_list_of (by rfl) B.list bt_list (pa_cons (pe_fld (pv 0) (by rfl)) pa_nil)))), ?_⟩
    exact ⟨_, rfl, x, C, dx, _, _, rfl, hx, NC.cl, NC.nr, rfl, b', _, rfl, .inl (SqL.of n.roa), q⟩
end
end K1
set_option Elab.async false
set_option linter.all false
set_option maxRecDepth 100000
set_option maxHeartbeats 4000000
namespace K1
open PySem L2 L3 M1
theorem dec_int (i j : Int) : decide (V.int i = V.int j) = decide (i = j) := by
  by_cases h : i = j
  · rw [decide_eq_true h, decide_eq_true (congrArg V.int h)]
  · rw [decide_eq_false h, decide_eq_false fun z => h (V.int.inj z)]
noncomputable def lenD (n : Int) : PyData → Bool
  | .tuple ds => decide ((ds.length : Int) = n)
  | _ => false
noncomputable def spWholeD : Sp := fun vs H Q _ => ∃ (v : L2.V) (d : PyData), vs = [v] ∧ Th H v d ∧ Q (.bl (isWholeD d)) H
noncomputable def spWithinD : Sp := fun vs H Q _ => ∃ (v : L2.V) (d : PyData) (lo hi : Int), vs = [v, .int lo, .int hi] ∧ Th H v d ∧ Q (.bl (withinD lo hi d)) H
noncomputable def spTupOfD : Sp := fun vs H Q _ => ∃ (v : L2.V) (d : PyData) (n : Int), vs = [v, .int n] ∧ Th H v d ∧ Q (.bl (lenD n d)) H
noncomputable def spUnlikeD : Sp := fun vs H Q _ => ∃ (a : Addr) (hs : List PyData) (v u : L2.V) (d e : PyData), vs = [.ref a, v, u] ∧ Th H (.ref a) (.list hs) ∧ Th H v d ∧ Th H u e ∧ d.depth ≤ 60 ∧ e.depth ≤ 60 ∧ Q (.bl (unlikeD hs d e)) H
noncomputable def spNameD : Sp := fun vs H Q _ => ∃ (v : L2.V) (d : PyData), vs = [v] ∧ Th H v d ∧ ∀ H', Same H H' → Q (.bl (isNameD d)) H'
noncomputable def spAreHD : Sp := fun vs H Q _ => ∃ (v : L2.V) (d : PyData), vs = [v] ∧ Th H v d ∧ ∀ H', Same H H' → Q (.bl (isHousesD d)) H'
noncomputable def spRoadD : Sp := fun vs H Q _ => ∃ (a : Addr) (hs : List PyData) (v : L2.V) (d : PyData), vs = [.ref a, v] ∧ Th H (.ref a) (.list hs) ∧ Th H v d ∧ d.depth ≤ 61 ∧ Q (.bl (isRoadD hs d)) H
noncomputable def spAreRD : Sp := fun vs H Q _ => ∃ (a : Addr) (hs : List PyData) (v : L2.V) (d : PyData), vs = [.ref a, v] ∧ Th H (.ref a) (.list hs) ∧ Th H v d ∧ d.depth ≤ 62 ∧ ∀ H', Same H H' → Q (.bl (isRoadsD hs d)) H'
theorem sA' : Str.ofString "a" = ⟨#[97]⟩ := by decide +kernel
theorem sZ' : Str.ofString "z" = ⟨#[122]⟩ := by decide +kernel
theorem depth_mem {ds : List PyData} {d : PyData} (h : d ∈ ds) : d.depth ≤ PyData.depthAll ds := by
  induction ds with
  | nil => cases h
  | cons x r ih =>
    simp only [PyData.depthAll]
    rcases List.mem_cons.mp h with rfl | h
    · exact Nat.le_max_left _ _
    · exact Nat.le_trans (ih h) (Nat.le_max_right _ _)
section
variable {P : Program} {w : World} {K : PySem.W.Frag} {mg : Str → Option Value} {base : Heap}
theorem ok_wholeD {f : Addr} {fd : FuncData} (F : Fun K "is_whole" "is_whole" sWhole f fd) (B : Blt mg) : FnOk P w K mg base CX0 1 f fd ["thing"] spWholeD := by
  refine F.ok scWhole (fun vs H Q E h => ?_) (fun cdv A outer s H vs Q E hr h => ?_)
  · obtain ⟨v, d, rfl, _⟩ := h
    rfl
  · obtain ⟨v, d, rfl, h, q⟩ := h
    refine ⟨_, (pss_one (ps_ret (pe_and (pe_callB call_isi (by rfl) B.isinstance bt_isinstance (pa_cons (pv 0) (pa_cons (pe_bty (by rfl) B.int bt_int) pa_nil))) (pe_one (pe_not (pe_callB call_isi (by rfl) B.isinstance bt_isinstance (pa_cons (pv 0) (pa_cons (pe_bty (by rfl) B.bool bt_bool) pa_nil)))))))), ?_⟩
    refine ⟨_, rfl, _, _, _, _, _, rfl, ⟨rfl, h.ty, kit_b K (kb_int d)⟩, _, rfl, ?_⟩
    cases d with
    | int i => exact iteT ⟨_, rfl, _, _, _, _, _, rfl, ⟨rfl, h.ty, kit_b K (kb_bool _)⟩, _, rfl, q⟩
    | bool b => exact iteT ⟨_, rfl, _, _, _, _, _, rfl, ⟨rfl, h.ty, kit_b K (kb_bool _)⟩, _, rfl, q⟩
    | _ => exact iteF q
theorem ok_withinD {f fW : Addr} {fd fdW : FuncData} (F : Fun K "is_whole_within" "is_whole_within" sWithin f fd) (D_is_whole : Dn K mg "is_whole" sWhole ["thing"] fW fdW)
    (G_is_whole : FnOk P w K mg base CX0 1 fW fdW ["thing"] spWholeD) : FnOk P w K mg base CX0 2 f fd ["thing", "least", "greatest"] spWithinD := by
  refine F.ok scWithin (fun vs H Q E h => ?_) (fun cdv A outer s H vs Q E hr h => ?_)
  · obtain ⟨v, d, lo, hi, rfl, _⟩ := h
    rfl
  · obtain ⟨v, d, lo, hi, rfl, h, q⟩ := h
    refine ⟨_, (pss_one (ps_ret (pe_and (pe_call G_is_whole (hr.mono (by decide)) (by rfl) D_is_whole.at_ D_is_whole.fn.kp D_is_whole.bd .nil pass0 (pa_cons (pv 0) pa_nil)) (pe_one (pe_chain op_le op_le (pv 1) (pv 0) (pv 2)))))), ?_⟩
    refine ⟨_, rfl, v, d, rfl, h, _, rfl, ?_⟩
    cases h with
    | int i =>
      have q : Q (.bl (decide (lo ≤ i) && decide (i ≤ hi))) H := q
      refine iteT ⟨_, rfl, _, rfl, _, _, rfl, rfl, _, rfl, ?_⟩
      by_cases h1 : lo ≤ i
      · rw [decide_eq_true h1, Bool.true_and] at q
        exact iteB (decide_eq_true h1) ⟨_, rfl, _, _, rfl, rfl, q⟩
      · rw [decide_eq_false h1, Bool.false_and] at q
        exact iteN (decide_eq_false h1) q
    | _ => exact iteF q
theorem ok_tupOfD {f : Addr} {fd : FuncData} (F : Fun K "is_tuple_of" "is_tuple_of" sTupOf f fd) (B : Blt mg) : FnOk P w K mg base CX0 1 f fd ["thing", "length"] spTupOfD := by
  refine F.ok scTupOf (fun vs H Q E h => ?_) (fun cdv A outer s H vs Q E hr h => ?_)
  · obtain ⟨v, d, n, rfl, _⟩ := h
    rfl
  · obtain ⟨v, d, n, rfl, h, q⟩ := h
    refine ⟨_, (pss_one (ps_ret (pe_and (pe_callB call_isi (by rfl) B.isinstance bt_isinstance (pa_cons (pv 0) (pa_cons (pe_bty (by rfl) B.tuple bt_tuple) pa_nil))) (pe_one (pe_cmpR op_eq (pe_callB call_len_seq (by rfl) B.len bt_len (pa_cons (pv 0) pa_nil)) (pv 1) (nomark _)))))), ?_⟩
    refine ⟨_, rfl, _, _, _, _, _, rfl, ⟨rfl, h.ty, kit_b K (kb_tuple d)⟩, _, rfl, ?_⟩
    cases h with
    | @tup a xs ds ha z t =>
      refine iteT ⟨_, rfl, a, _, rfl, .inr (SqT.of ha), _, rfl, rfl, ?_⟩
      show Q (.bl (decide (V.int (xs.length : Int) = V.int n))) H
      rw [dec_int, t.len]
      exact q
    | _ => exact iteF q
theorem ok_unlikeD {f : Addr} {fd : FuncData} (F : Fun K "are_unlike_houses" "are_unlike_houses" sUnlike f fd) : FnOk P w K mg base CX0 1 f fd ["houses", "one", "other"] spUnlikeD := by
  refine F.ok scUnlike (fun vs H Q E h => ?_) (fun cdv A outer s H vs Q E hr h => ?_)
  · obtain ⟨a, hs, v, u, d, e, rfl, _⟩ := h
    rfl
  · obtain ⟨a, hs, v, u, d, e, rfl, ha, hv, hu, dd, de, q⟩ := h
    refine ⟨_, (pss_one (ps_ret (pe_and (pe_cmpR (op_inD (in65 hr)) (pv 1) (pv 0) (by rfl)) (pe_and (pe_cmpR (op_inD (in65 hr)) (pv 2) (pv 0) (by rfl)) (pe_one (pe_cmpR (op_neD hr.units) (pv 1) (pv 2) (nomark _))))))), ?_⟩
    have can : PyData.canLayAll0 hs = true := ha.can
    have sd : SeqAt.shaped d = true := shaped_of hv.can dd (by decide)
    have se : SeqAt.shaped e = true := shaped_of hu.can de (by decide)
    have q : Q (.bl (inD d hs && inD e hs && !PyData.eqv d e)) H := q
    refine ⟨_, rfl, _, rfl, d, hs, hv.dt, ha.dt, sd, can, _, rfl, ?_⟩
    show if inD d hs = true then _ else _
    cases h1 : inD d hs with
    | false =>
      rw [h1] at q
      exact iteF q
    | true =>
      rw [h1] at q
      refine iteT ⟨_, rfl, _, rfl, e, hs, hu.dt, ha.dt, se, can, _, rfl, ?_⟩
      show if inD e hs = true then _ else _
      cases h2 : inD e hs with
      | false =>
        rw [h2] at q
        exact iteF q
      | true =>
        rw [h2] at q
        exact iteT ⟨_, rfl, _, rfl, d, e, hv.dt, hu.dt, sd, se, q⟩
theorem ok_nameD {f : Addr} {fd : FuncData} (F : Fun K "is_name" "is_name" sName f fd) (B : Blt mg) (Cn : Csts mg) : FnOk P w K mg base CX0 1 f fd ["thing"] spNameD := by
  refine F.ok scName (fun vs H Q E h => ?_) (fun cdv A outer s H vs Q E hr h => ?_)
  · obtain ⟨v, d, rfl, _⟩ := h
    rfl
  · obtain ⟨v, d, rfl, h, q⟩ := h
    refine ⟨_, (pss_cons (ps_if (pw_or (pt_not (pt_val (pe_callB call_isi (by rfl) B.isinstance bt_isinstance (pa_cons (pv 0) (pa_cons (pe_bty (by rfl) B.str bt_str) pa_nil))))) (pw_or1 (pt_not (pt_chain op_le op_le pe_int (pe_callB call_len_str (by rfl) B.len bt_len (pa_cons (pv 0) pa_nil)) (pe_const (by rfl) Cn.MOST_SIGNS))))).pt (pss_one (ps_ret pe_bl)) pss_nil)
      (pss_one (ps_ret (pe_callB (call_all rfl) (by rfl) B.all_ bt_all (pa_cons (pe_lc (N' := ["sign"]) (cs := [none]) rfl (pi_str (pv 0)) rfl (by decide +kernel) rfl (by decide +kernel) (sub_of (fun p hp => absurd hp (List.not_mem_nil))) rfl
        (.own .nil)
        (fun C s3 H3 fp pn => ⟨(pg_name (i := 0) (by show (["sign"] : List Str).Nodup; decide +kernel) rfl (.inl rfl)), pif_nil, (pe_chain op_le_str op_le_str pe_str (pv 0) pe_str)⟩)) pa_nil))))), ?_⟩
    refine ⟨_, rfl, _, _, _, _, _, rfl, ⟨rfl, h.ty, kit_b K (kb_str d)⟩, _, rfl, ?_⟩
    cases h with
    | str x z ok =>
      have q : ∀ H', Same H H' → Q (.bl (decide (1 ≤ x.length) && decide (x.length ≤ 8) && x.cps.toList.all lowC)) H' := q
      refine iteF ⟨_, rfl, _, rfl, Nat.le_of_lt (small1000 (by omega)), _, _, rfl, rfl, _, rfl, ?_⟩
      by_cases h1 : 1 ≤ x.length
      · refine iteB (decide_eq_true (by omega)) ⟨_, _, rfl, rfl, _, rfl, ?_⟩
        by_cases h8 : x.length ≤ 8
        · have h8' : (x.length : Int) ≤ 8 := by omega
          refine iteNS h8' ?_
          rw [decide_eq_true h1, decide_eq_true h8] at q
          dsimp only [tNext, tRet, tAndV, tCB, tCons]
          refine tlc_map (J := Its x) (H1 := H) (xs := signs x) (rest := []) (fun R h => ⟨_, rfl, _, rfl, h⟩) rfl (wk_str _) (small1000 ?_) (fun v => .bl (match v with | .str y => lowC (y.cps.toList.getD 0 0) | _ => false)) (fun i v H2 R ev sm hR => ?_) (fun D H' n1 n2 n3 => ?_)
          · have : (signs x).length = x.cps.size := by simp [signs]
            rw [this]
            exact Nat.le_trans z (by decide)
          · obtain ⟨k, hk, rfl⟩ := List.mem_map.mp (List.mem_of_getElem? ev)
            have hR : ∀ H5, Same H2 H5 → R (.bl (decide (97 ≤ k) && decide (k ≤ 122))) H5 := hR
            have e1 : (!decide ((⟨#[k]⟩ : Str).cps.toList < (Str.ofString "a").cps.toList)) = decide (97 ≤ k) := by
              rw [sA']
              exact le_one k 97
            have e2 : (!decide ((Str.ofString "z").cps.toList < (⟨#[k]⟩ : Str).cps.toList)) = decide (k ≤ 122) := by
              rw [sZ']
              exact le_one 122 k
            refine ⟨_, rfl, _, _, rfl, rfl, _, rfl, ?_⟩
            by_cases h9 : 97 ≤ k
            · rw [decide_eq_true h9, Bool.true_and] at hR
              refine iteB (e1.trans (decide_eq_true h9)) ⟨_, _, rfl, rfl, ?_⟩
              show R (.bl (!decide ((Str.ofString "z").cps.toList < (⟨#[k]⟩ : Str).cps.toList))) H2
              rw [e2]
              exact hR H2 (Same.refl _)
            · rw [decide_eq_false h9, Bool.false_and] at hR
              exact iteN (e1.trans (decide_eq_false h9)) (hR H2 (Same.refl _))
          · refine ⟨D, x.cps.toList.map lowC, rfl, SqL.of (n2.trans ?_), ?_⟩
            · unfold signs
              rw [List.map_map, List.map_map]
              rfl
            · have e : (x.cps.toList.map lowC).all id = x.cps.toList.all lowC := by rw [List.all_map]; rfl
              rw [e]
              exact q H' n3
        · have h8' : ¬ (x.length : Int) ≤ 8 := by omega
          refine iteB (by rw [decide_eq_false h8']; rfl) ?_
          rw [decide_eq_false h8, Bool.and_false, Bool.false_and] at q
          exact q H (Same.refl _)
      · refine iteN (decide_eq_false (by omega)) ⟨_, rfl, iteT ?_⟩
        rw [decide_eq_false h1, Bool.false_and, Bool.false_and] at q
        exact q H (Same.refl _)
    | _ => exact iteT (q H (Same.refl _))
theorem names_texts {H : Hp} : ∀ {xs : List L2.V} {ds : List PyData}, Ths H xs ds → ds.all isNameD = true → xs = (textsD ds).map V.str ∧ (textsD ds).length = ds.length
  | _, _, .nil, _ => ⟨rfl, rfl⟩
  | _, _, .cons (v := v) (d := d) a b, h => by
    rw [List.all_cons, Bool.and_eq_true] at h
    obtain ⟨e1, e2⟩ := names_texts b h.2
    cases a with
    | str x z ok =>
      simp only [textsD, List.map_cons, List.length_cons]
      rw [← e1, e2]
      exact ⟨rfl, rfl⟩
    | non => cases h.1
    | bl b => cases h.1
    | int i => cases h.1
    | lst _ _ _ => cases h.1
    | tup _ _ _ => cases h.1
theorem cnt_nodup (ys : List Str) : decide (V.int ((cntS (fun i => ys.getD i Str.empty) ys.length : Nat) : Int) = V.int (ys.length : Int)) = decide ys.Nodup := by
  rw [dec_int]
  by_cases h : ys.Nodup
  · have e := cntS_all (fun i => ys.getD i Str.empty) ys.length fun i j hij hj z => by
      have hi : i < ys.length := by omega
      have z' : ys.getD i Str.empty = ys.getD j Str.empty := z
      rw [List.getD, List.getD, List.getElem?_eq_getElem hi, List.getElem?_eq_getElem hj] at z'
      exact List.pairwise_iff_getElem.mp h i j hi hj hij z'
    rw [e, decide_eq_true h, decide_eq_true rfl]
  · have e : cntS (fun i => ys.getD i Str.empty) ys.length < ys.length := by
      have h2 : ∃ i j, ∃ (hi : i < ys.length) (hj : j < ys.length), i < j ∧ ys[i] = ys[j] := by
        refine Classical.byContradiction fun hn => h (List.pairwise_iff_getElem.mpr fun i j hi hj hij z => hn ⟨i, j, hi, hj, hij, z⟩)
      obtain ⟨i, j, hi, hj, hij, z⟩ := h2
      refine cntS_less _ _ i j hij hj ?_
      show ys.getD i Str.empty = ys.getD j Str.empty
      rw [List.getD, List.getD, List.getElem?_eq_getElem hi, List.getElem?_eq_getElem hj, z]
    rw [decide_eq_false h, decide_eq_false (by omega)]
theorem ok_areHD {f fN : Addr} {fd fdN : FuncData} (F : Fun K "are_houses" "are_houses" sAreH f fd) (B : Blt mg) (Cn : Csts mg) (D_is_name : Dn K mg "is_name" sName ["thing"] fN fdN) (G_is_name : FnOk P w K mg base CX0 1 fN fdN ["thing"] spNameD) :
    FnOk P w K mg base CX0 2 f fd ["things"] spAreHD := by
  refine F.ok scAreH (fun vs H Q E h => ?_) (fun cdv A outer s H vs Q E hr h => ?_)
  · obtain ⟨v, d, rfl, _⟩ := h
    rfl
  · obtain ⟨v, d, rfl, h, q⟩ := h
    refine ⟨_, (pss_cons (ps_if (pw_or (pt_not (pt_val (pe_callB call_isi (by rfl) B.isinstance bt_isinstance (pa_cons (pv 0) (pa_cons (pe_bty (by rfl) B.list bt_list) pa_nil))))) (pw_or1 (pt_cmpR op_gt (pe_callB call_len_seq (by rfl) B.len bt_len (pa_cons (pv 0) pa_nil)) (pe_const (by rfl) Cn.MOST_HOUSES) (nomark _)))).pt (pss_one (ps_ret pe_bl)) pss_nil)
      (pss_one (ps_ret (pe_and (pe_callB (call_all rfl) (by rfl) B.all_ bt_all (pa_cons (pe_lc (N' := ["thing"]) (cs := [none]) rfl (pi_list (pv 0)) rfl (by decide +kernel) rfl (by decide +kernel) (sub_of (fun p hp => absurd hp (List.not_mem_nil))) rfl
        (.own .nil)
        (fun C s3 H3 fp pn => ⟨(pg_name (i := 0) (by show (["thing"] : List Str).Nodup; decide +kernel) rfl (.inl rfl)), pif_nil, (pe_call G_is_name (hr.mono (by decide)) (by rfl) D_is_name.at_ D_is_name.fn.kp D_is_name.bd .nil pass0 (pa_cons (pv 0) pa_nil))⟩)) pa_nil)) (pe_one (pe_cmpR op_eq (pe_callB call_len_setO (by rfl) B.len bt_len (pa_cons (pe_callTy (call_set rfl) (by rfl) B.set_ bt_set (pa_cons (pv 0) pa_nil)) pa_nil)) (pe_callB call_len_seq (by rfl) B.len bt_len (pa_cons (pv 0) pa_nil)) (nomark _))))))), ?_⟩
    refine ⟨_, rfl, _, _, _, _, _, rfl, ⟨rfl, h.ty, kit_b K (kb_list d)⟩, _, rfl, ?_⟩
    cases h with
    | @lst a xs ds ha z t =>
      have hl := t.len
      have q : ∀ H', Same H H' → Q (.bl (decide (ds.length ≤ 12) && ds.all isNameD && decide (textsD ds).Nodup)) H' := q
      refine iteF ⟨_, rfl, a, _, rfl, .inl (SqL.of ha), _, _, rfl, rfl, _, rfl, ?_⟩
      by_cases h12 : ds.length ≤ 12
      · rw [decide_eq_true h12, Bool.true_and] at q
        refine iteN (decide_eq_false (by omega)) ?_
        dsimp only [tNext, tRet, tAndV, tCB, tCons]
        refine tlc_map (J := Itl K a) (H1 := H) (xs := xs) (rest := []) (fun R h => ⟨_, rfl, a, rfl, ⟨_, SqL.of ha⟩, h⟩) rfl (wk_list (SqL.of ha)) (small1000 (by omega)) (fun v => .bl (isNameD (datum H v))) (fun i x H2 R ex sm hR => ?_) (fun D H' h1 h2 h3 => ?_)
        · obtain ⟨d, ed, hd⟩ := t.get ex
          have hR : ∀ H5, Same H2 H5 → R (.bl (isNameD (datum H x))) H5 := hR
          rw [datum_of hd] at hR
          exact ⟨_, rfl, x, d, rfl, hd.same sm, fun H5 s5 => hR H5 s5⟩
        · have eb : (ds.map isNameD).all id = ds.all isNameD := by rw [List.all_map]; rfl
          refine ⟨D, ds.map isNameD, rfl, SqL.of (h2.trans (by rw [datum_map isNameD t])), _, rfl, ?_⟩
          rw [eb]
          cases hall : ds.all isNameD with
          | false =>
            rw [hall] at q
            exact iteF (q H' h3)
          | true =>
            rw [hall, Bool.true_and] at q
            obtain ⟨ex, el⟩ := names_texts t hall
            have ha' : H' a = some (.lst ((textsD ds).map V.str)) := by rw [← ex]; exact h3 _ _ ha
            refine iteT ⟨_, rfl, a, textsD ds, rfl, SqL.of ha', (by omega), fun p hp => ?_⟩
            have s2 : Same H' (upd H' p (setO P w p (cntS (fun i => (textsD ds).getD i Str.empty) (textsD ds).length))) := upd_free hp
            refine ⟨p, _, rfl, upd_same, _, rfl, a, _, rfl, .inl (SqL.of (s2 _ _ ha')), rfl, ?_⟩
            have e3 := cnt_nodup (textsD ds)
            have e4 : ((textsD ds).map V.str).length = (textsD ds).length := List.length_map ..
            rw [← e3] at q
            rw [e4]
            exact q _ (h3.trans s2)
      · rw [decide_eq_false h12, Bool.false_and, Bool.false_and] at q
        exact iteB (decide_eq_true (by omega)) (q H (Same.refl _))
    | _ => exact iteT (q H (Same.refl _))
theorem isRoad_len {hs ds : List PyData} (h : ds.length ≠ 4) : isRoadD hs (.tuple ds) = false := by
  rcases ds with _ | ⟨a, _ | ⟨b, _ | ⟨c, _ | ⟨d, _ | ⟨e, r⟩⟩⟩⟩⟩ <;> first | rfl | (simp at h)
theorem ok_roadD {f f1 f2 f3 : Addr} {fd fd1 fd2 fd3 : FuncData} (F : Fun K "is_road" "is_road" sRoad f fd) (Cn : Csts mg)
    (D_is_tuple_of : Dn K mg "is_tuple_of" sTupOf ["thing", "length"] f1 fd1) (G_is_tuple_of : FnOk P w K mg base CX0 1 f1 fd1 ["thing", "length"] spTupOfD)
    (D_are_unlike_houses : Dn K mg "are_unlike_houses" sUnlike ["houses", "one", "other"] f2 fd2) (G_are_unlike_houses : FnOk P w K mg base CX0 1 f2 fd2 ["houses", "one", "other"] spUnlikeD)
    (D_is_whole_within : Dn K mg "is_whole_within" sWithin ["thing", "least", "greatest"] f3 fd3) (G_is_whole_within : FnOk P w K mg base CX0 2 f3 fd3 ["thing", "least", "greatest"] spWithinD) :
    FnOk P w K mg base CX0 3 f fd ["houses", "thing"] spRoadD := by
  refine F.ok scRoad (fun vs H Q E h => ?_) (fun cdv A outer s H vs Q E hr h => ?_)
  · obtain ⟨a, hs, v, d, rfl, _⟩ := h
    rfl
  · obtain ⟨a, hs, v, d, rfl, ha, h, dd, q⟩ := h
    refine ⟨_, (pss_one (ps_ret (pe_and (pe_call G_is_tuple_of (hr.mono (by decide)) (by rfl) D_is_tuple_of.at_ D_is_tuple_of.fn.kp D_is_tuple_of.bd .nil pass0 (pa_cons (pv 1) (pa_cons pe_int pa_nil))) (pe_and (pe_call G_are_unlike_houses (hr.mono (by decide)) (by rfl) D_are_unlike_houses.at_ D_are_unlike_houses.fn.kp D_are_unlike_houses.bd .nil pass0 (pa_cons (pv 0) (pa_cons (pe_ix ix_tup (pv 1) pe_int (fun _ _ => rfl)) (pa_cons (pe_ix ix_tup (pv 1) pe_int (fun _ _ => rfl)) pa_nil)))) (pe_and (pe_call G_is_whole_within (hr.mono (by decide)) (by rfl) D_is_whole_within.at_ D_is_whole_within.fn.kp D_is_whole_within.bd .nil pass0 (pa_cons (pe_ix ix_tup (pv 1) pe_int (fun _ _ => rfl)) (pa_cons pe_int (pa_cons (pe_const (by rfl) Cn.MOST_TURNS) pa_nil)))) (pe_one (pe_call G_is_whole_within (hr.mono (by decide)) (by rfl) D_is_whole_within.at_ D_is_whole_within.fn.kp D_is_whole_within.bd .nil pass0 (pa_cons (pe_ix ix_tup (pv 1) pe_int (fun _ _ => rfl)) (pa_cons pe_int (pa_cons (pe_const (by rfl) Cn.MOST_ROOM) pa_nil)))))))))), ?_⟩
    refine ⟨_, rfl, v, d, _, rfl, h, _, rfl, ?_⟩
    cases h with
    | @tup r xs ds hr' z t =>
      show if decide ((ds.length : Int) = 4) = true then _ else _
      by_cases h4 : ds.length = 4
      · refine iteB (decide_eq_true (by omega)) ?_
        have hx4 : xs.length = 4 := by rw [t.len]; exact h4
        obtain ⟨x0, x1, x2, x3, rfl⟩ : ∃ x0 x1 x2 x3, xs = [x0, x1, x2, x3] := by
          rcases xs with _ | ⟨a, _ | ⟨b, _ | ⟨c, _ | ⟨d, _ | ⟨e, r⟩⟩⟩⟩⟩ <;> first | exact ⟨_, _, _, _, rfl⟩ | (simp at hx4)
        cases t with
        | cons t0 t =>
          cases t with
          | cons t1 t =>
            cases t with
            | cons t2 t =>
              cases t with
              | cons t3 t =>
                cases t
                rename_i d0 d1 d2 d3
                have q : Q (.bl (unlikeD hs d0 d1 && withinD 1 9 d2 && withinD 1 1000000000 d3)) H := q
                have hdp : PyData.depthAll [d0, d1, d2, d3] + 1 ≤ 61 := dd
                have b0 : d0.depth ≤ 60 := Nat.le_trans (depth_mem (by simp : d0 ∈ [d0, d1, d2, d3])) (by omega)
                have b1 : d1.depth ≤ 60 := Nat.le_trans (depth_mem (by simp : d1 ∈ [d0, d1, d2, d3])) (by omega)
                refine ⟨_, rfl, _, rfl, r, _, _, _, rfl, rfl, SqT.of hr', rfl, _, rfl, r, _, _, _, rfl, rfl, SqT.of hr', rfl, a, hs, x0, x1, d0, d1, rfl, ha, t0, t1, b0, b1, _, rfl, ?_⟩
                cases h1 : unlikeD hs d0 d1 with
                | false =>
                  rw [h1] at q
                  exact iteF q
                | true =>
                  rw [h1, Bool.true_and] at q
                  refine iteT ⟨_, rfl, r, _, _, _, rfl, rfl, SqT.of hr', rfl, x2, d2, _, _, rfl, t2, _, rfl, ?_⟩
                  cases h2 : withinD 1 9 d2 with
                  | false =>
                    rw [h2] at q
                    exact iteF q
                  | true =>
                    rw [h2, Bool.true_and] at q
                    exact iteT ⟨_, rfl, r, _, _, _, rfl, rfl, SqT.of hr', rfl, x3, d3, _, _, rfl, t3, q⟩
      · refine iteN (decide_eq_false (by omega)) ?_
        rw [isRoad_len h4] at q
        exact q
    | _ => exact iteF q
theorem ok_areRD {f fN : Addr} {fd fdN : FuncData} (F : Fun K "are_roads" "are_roads" sAreR f fd) (B : Blt mg) (Cn : Csts mg) (D_is_road : Dn K mg "is_road" sRoad ["houses", "thing"] fN fdN) (G_is_road : FnOk P w K mg base CX0 3 fN fdN ["houses", "thing"] spRoadD) :
    FnOk P w K mg base CX0 4 f fd ["houses", "things"] spAreRD := by
  refine F.ok scAreR (fun vs H Q E h => ?_) (fun cdv A outer s H vs Q E hr h => ?_)
  · obtain ⟨a, hs, v, d, rfl, _⟩ := h
    rfl
  · obtain ⟨a, hs, v, d, rfl, ha, h, dd, q⟩ := h
    refine ⟨_, (pss_cons (ps_if (pw_or (pt_not (pt_val (pe_callB call_isi (by rfl) B.isinstance bt_isinstance (pa_cons (pv 1) (pa_cons (pe_bty (by rfl) B.list bt_list) pa_nil))))) (pw_or1 (pt_cmpR op_gt (pe_callB call_len_seq (by rfl) B.len bt_len (pa_cons (pv 1) pa_nil)) (pe_const (by rfl) Cn.MOST_ROADS) (nomark _)))).pt (pss_one (ps_ret pe_bl)) pss_nil)
      (pss_one (ps_ret (pe_callB (call_all rfl) (by rfl) B.all_ bt_all (pa_cons (pe_lc (N' := ["thing", "houses"]) (cs := [none, some 0]) rfl (pi_list (pv 1)) rfl (by decide +kernel) rfl (by decide +kernel) (sub_of (List.forall_mem_cons.mpr ⟨rfl, (fun p hp => absurd hp (List.not_mem_nil))⟩)) rfl
        (.own (.cap rfl (.inl rfl) (.inl rfl) rfl .nil))
        (fun C s3 H3 fp pn => ⟨(pg_name (i := 0) (by show (["thing", "houses"] : List Str).Nodup; decide +kernel) rfl (.inl rfl)), pif_nil, (pe_call G_is_road (hr.mono (by decide)) (by rfl) D_is_road.at_ D_is_road.fn.kp D_is_road.bd .nil pass0 (pa_cons (pv 1) (pa_cons (pv 0) pa_nil)))⟩)) pa_nil))))), ?_⟩
    refine ⟨_, rfl, _, _, _, _, _, rfl, ⟨rfl, h.ty, kit_b K (kb_list d)⟩, _, rfl, ?_⟩
    cases h with
    | @lst b xs ds hb z t =>
      have hl := t.len
      have q : ∀ H', Same H H' → Q (.bl (decide (ds.length ≤ 40) && ds.all (isRoadD hs))) H' := q
      refine iteF ⟨_, rfl, b, _, rfl, .inl (SqL.of hb), _, _, rfl, rfl, _, rfl, ?_⟩
      by_cases h40 : ds.length ≤ 40
      · rw [decide_eq_true h40, Bool.true_and] at q
        refine iteN (decide_eq_false (by omega)) ?_
        dsimp only [tNext, tRet, tAndV, tCB, tCons]
        refine tlc_map (J := Itl K b) (H1 := H) (xs := xs) (rest := [some (.ref a)]) (fun R h => ⟨_, rfl, b, rfl, ⟨_, SqL.of hb⟩, h⟩) rfl (wk_list (SqL.of hb)) (small1000 (by omega)) (fun v => .bl (isRoadD hs (datum H v))) (fun i x H2 R ex sm hR => ?_) (fun D H' h1 h2 h3 => ?_)
        · obtain ⟨d, ed, hd⟩ := t.get ex
          have hR : ∀ H5, Same H2 H5 → R (.bl (isRoadD hs (datum H x))) H5 := hR
          rw [datum_of hd] at hR
          have hdp : PyData.depthAll ds + 1 ≤ 62 := dd
          have b0 : d.depth ≤ 61 := Nat.le_trans (depth_mem (List.mem_of_getElem? ed)) (by omega)
          exact ⟨_, rfl, _, rfl, a, hs, x, d, rfl, ha.same sm, hd.same sm, b0, hR H2 (Same.refl _)⟩
        · have eb : (ds.map (isRoadD hs)).all id = ds.all (isRoadD hs) := by rw [List.all_map]; rfl
          refine ⟨D, ds.map (isRoadD hs), rfl, SqL.of (h2.trans (by rw [datum_map (isRoadD hs) t])), ?_⟩
          rw [eb]
          exact q H' h3
      · rw [decide_eq_false h40, Bool.false_and] at q
        exact iteB (decide_eq_true (by omega)) (q H (Same.refl _))
    | _ => exact iteT (q H (Same.refl _))
noncomputable def NoNetD (dh dr : PyData) : Prop := isHousesD dh = false ∨ ∃ hs, dh = .list hs ∧ isRoadsD hs dr = false
noncomputable def spInitN (C NN : Addr) : Sp := fun vs H Q E => ∃ (x dx : Addr) (v u : L2.V) (dh dr : PyData), vs = [.ref x, v, u] ∧ H x = some (.ins C dx []) ∧ Th H v dh ∧ Th H u dr ∧ dr.depth ≤ 62 ∧ NoNetD dh dr ∧ ∀ H', Same H H' → E (.ref NN) none H'
theorem ok_initN {C NN f fH fR : Addr} {fd fdH fdR : FuncData} {Bc newId initId : String} {bm : List Value} (F : Fun K "__init__" "Net.__init__" sInit f fd) (B : Blt mg) (NC : NetC K C) (EB_NoNet : ExcBaseFacts Bc newId initId bm) (EX_NoNet : Exc K mg "NoNet" NN bm newId)
    (D_are_houses : Dn K mg "are_houses" sAreH ["things"] fH fdH) (G_are_houses : FnOk P w K mg base CX0 2 fH fdH ["things"] spAreHD)
    (D_are_roads : Dn K mg "are_roads" sAreR ["houses", "things"] fR fdR) (G_are_roads : FnOk P w K mg base CX0 4 fR fdR ["houses", "things"] spAreRD) :
    FnOk P w K mg base (CXe P w) 5 f fd ["self", "houses", "roads"] (spInitN C NN) := by
  refine okE F scInit (fun vs H Q E h => ?_) (fun cdv A outer s H vs Q E hr h => ?_)
  · obtain ⟨x, dx, v, u, dh, dr, rfl, _⟩ := h
    rfl
  · obtain ⟨x, dx, v, u, dh, dr, rfl, hx, hv, hu, dd, hno, qE⟩ := h
    refine ⟨_, pss_cons (ps_if (pt_not (pt_val (pe_call G_are_houses (hr.mono (by decide)) (by rfl) D_are_houses.at_ D_are_houses.fn.kp D_are_houses.bd .nil pass0 (pa_cons (pv 1) pa_nil)))) (pss_one (ps_raise EB_NoNet EX_NoNet rfl (pa_cons pe_str pa_nil))) pss_nil)
      (pss_cons (ps_if (pt_not (pt_val (pe_call G_are_roads (hr.mono (by decide)) (by rfl) D_are_roads.at_ D_are_roads.fn.kp D_are_roads.bd .nil pass0 (pa_cons (pv 1) (pa_cons (pv 2) pa_nil))))) (pss_one (ps_raise EB_NoNet EX_NoNet rfl (pa_cons pe_str pa_nil))) pss_nil) pss_never), ?_⟩
    refine ⟨_, rfl, v, dh, rfl, hv, fun H1 s1 => ⟨_, rfl, ?_⟩⟩
    cases hh : isHousesD dh with
    | false => exact iteT ⟨by show 1 ≤ sizeLine; decide, qE H1 s1⟩
    | true =>
      rcases hno with z | ⟨hs, rfl, hr0⟩
      · rw [hh] at z
        cases z
      · cases hv with
        | @lst a xs _ ha z t =>
          refine iteF ⟨_, rfl, _, rfl, a, hs, u, dr, rfl, (Th.lst ha z t).same s1, hu.same s1, dd, fun H2 s2 => ⟨_, rfl, ?_⟩⟩
          rw [hr0]
          exact iteT ⟨by show 1 ≤ sizeLine; decide, qE H2 (s1.trans s2)⟩
end
end K1
set_option Elab.async false
set_option linter.all false
set_option maxRecDepth 100000
set_option maxHeartbeats 4000000
namespace K1
open PySem L2 L3 M1
section
variable {P : Program} {w : World} {K : PySem.W.Frag} {mg : Str → Option Value} {base : Heap}
noncomputable abbrev sBadN : Stmt := top 35
noncomputable abbrev sBadR : Stmt := top 36
noncomputable abbrev sSpoil : Stmt := top 37
noncomputable def spBadN : Sp := fun vs H Q _ => ∃ (c k : Int) (v : L2.V) (ds : List PyData) (x p : Str), vs = [.int c, v, .int k] ∧ Th H v (.list ds) ∧ atI ds k = some (.str x) ∧ atI ds (k - 1) = some (.str p) ∧ x.length ≤ 50 ∧ Wants (da (dN x p c)) H Q
noncomputable def nBadN : List Str := ["_law_cell", "_law_houses_here", "_law_at_here", "_law_word_here", "_law_some"]
theorem scBadN : FnScope nBadN ["_law_cell", "_law_houses_here", "_law_at_here"] (defScope sBadN) := ⟨rfl, rfl, rfl, by decide +kernel, rfl, by decide +kernel, by decide +kernel⟩
theorem ok_badN {f : Addr} {fd : FuncData} (F : Fun K "_law_bad_name" "_law_bad_name" sBadN f fd) (B : Blt mg) : FnOk P w K mg base CX0 1 f fd ["_law_cell", "_law_houses_here", "_law_at_here"] spBadN := by
  refine F.ok scBadN (fun vs H Q E h => ?_) (fun cdv A outer s H vs Q E hr h => ?_)
  · obtain ⟨c, k, v, ds, x, p, rfl, _⟩ := h
    rfl
  · obtain ⟨c, k, v, ds, x, p, rfl, hv, hx, hp, z, q⟩ := h
    refine ⟨tWr [some (da (.int c)), some (da (.list ds)), some (da (.int k)), none, none] (da (dN x p c)), (wr_set (k := 3) scBadN.nd rfl (Or.inl rfl) (w_ixL (w_name (pv 1) rfl) (w_name (pv 2) rfl) hx)
      (wr_set (k := 4) scBadN.nd rfl (Or.inl rfl) (w_lst (wd_cons w_str (wd_cons (w_addS (w_name (pv 3) rfl) w_str (by show x.length + 1 ≤ 100; omega)) (wd_cons (w_addS (w_slS (w_name (pv 3) rfl) wo_none (wo_some (w_sub (w_callB call_len_str (by rfl) B.len bt_len (ws_cons (w_name (pv 3) rfl) ws_nil) (fun _ _ _ => ws_lenS)) w_int))) w_str (by have := cut_len x none (some ((x.length : Int) - 1)); show (cutS x none (some ((x.length : Int) - 1))).length + 1 ≤ 100; omega)) (wd_cons w_str (wd_cons w_int (wd_cons w_non (wd_cons (w_lst (wd_cons w_str wd_nil)) (wd_cons (w_ixL (w_name (pv 1) rfl) (w_sub (w_name (pv 2) rfl) w_int) hp) (wd_cons w_str (wd_cons (w_addS (w_name (pv 3) rfl) w_str (by show x.length + 1 ≤ 100; omega)) wd_nil)))))))))))
      (wr_ret (w_ixL (w_cat (w_name (pv 4) rfl) (w_lst (wd_cons w_bl wd_nil)) (Nat.le_of_ble_eq_true rfl)) (w_mod (w_name (pv 0) rfl) w_int (by decide)) (atI_mod PyData.none c 11 rfl (by decide))) (fun H v h => h)))), ?_⟩
    exact ⟨((env_nil.skip.skip.cons (Th.int k)).cons hv).cons (Th.int c), q⟩
noncomputable def spBadR : Sp := fun vs H Q _ => ∃ (c t m : Int) (v : L2.V) (a b : Str), vs = [.int c, v] ∧ Th H v (.tuple [.str a, .str b, .int t, .int m]) ∧ Wants (da (dR a b t m c)) H Q
noncomputable def nBadR : List Str := ["_law_cell", "_law_road", "_law_far", "_law_some"]
theorem scBadR : FnScope nBadR ["_law_cell", "_law_road"] (defScope sBadR) := ⟨rfl, rfl, rfl, by decide +kernel, rfl, by decide +kernel, by decide +kernel⟩
theorem ok_badR {f : Addr} {fd : FuncData} (F : Fun K "_law_bad_road" "_law_bad_road" sBadR f fd) (B : Blt mg) : FnOk P w K mg base CX0 1 f fd ["_law_cell", "_law_road"] spBadR := by
  refine F.ok scBadR (fun vs H Q E h => ?_) (fun cdv A outer s H vs Q E hr h => ?_)
  · obtain ⟨c, t, m, v, a, b, rfl, _⟩ := h
    rfl
  · obtain ⟨c, t, m, v, a, b, rfl, hv, q⟩ := h
    refine ⟨tWr [some (da (.int c)), some (da (.tuple [.str a, .str b, .int t, .int m])), none, none] (da (dR a b t m c)), (wr_set (k := 2) scBadR.nd rfl (Or.inl rfl) (w_mod (w_name (pv 0) rfl) (w_pow w_int w_int ⟨by decide, by decide, by decide⟩) (by decide))
      (wr_set (k := 3) scBadR.nd rfl (Or.inl rfl) (w_lst (wd_cons (w_callTy call_list_of (by rfl) B.list bt_list (ws_cons (w_name (pv 1) rfl) ws_nil) (fun _ _ _ => wl_list)) (wd_cons (w_slT (w_name (pv 1) rfl) wo_none (wo_some w_int) (by show ¬ (HT.sIx 4 0 none = 0 ∧ HT.sIx 4 4 (some 3) = 4); decide)) (wd_cons (w_catT (w_name (pv 1) rfl) (w_tup (wd_cons w_int wd_nil)) (Nat.le_of_ble_eq_true rfl)) (wd_cons w_non (wd_cons (w_tup (wd_cons (w_ixT (w_name (pv 1) rfl) w_int rfl) (wd_cons w_str (wd_cons (w_ixT (w_name (pv 1) rfl) w_int rfl) (wd_cons (w_ixT (w_name (pv 1) rfl) w_int rfl) wd_nil))))) (wd_cons (w_tup (wd_cons (w_ixT (w_name (pv 1) rfl) w_int rfl) (wd_cons (w_ixT (w_name (pv 1) rfl) w_int rfl) (wd_cons w_int (wd_cons w_int wd_nil))))) wd_nil)))))))
      (wr_set (k := 3) scBadR.nd rfl (Or.inl rfl) (w_cat (w_name (pv 3) rfl) (w_lst (wd_cons (w_tup (wd_cons w_str (wd_cons (w_ixT (w_name (pv 1) rfl) w_int rfl) (wd_cons w_int (wd_cons w_int wd_nil))))) (wd_cons (w_tup (wd_cons (w_ixT (w_name (pv 1) rfl) w_int rfl) (wd_cons (w_ixT (w_name (pv 1) rfl) w_int rfl) (wd_cons w_int (wd_cons (w_ixT (w_name (pv 1) rfl) w_int rfl) wd_nil))))) (wd_cons (w_tup (wd_cons (w_ixT (w_name (pv 1) rfl) w_int rfl) (wd_cons (w_ixT (w_name (pv 1) rfl) w_int rfl) (wd_cons (w_add w_int (w_name (pv 2) rfl)) (wd_cons (w_ixT (w_name (pv 1) rfl) w_int rfl) wd_nil))))) wd_nil)))) (Nat.le_of_ble_eq_true rfl))
      (wr_set (k := 3) scBadR.nd rfl (Or.inl rfl) (w_cat (w_name (pv 3) rfl) (w_lst (wd_cons (w_tup (wd_cons (w_ixT (w_name (pv 1) rfl) w_int rfl) (wd_cons (w_ixT (w_name (pv 1) rfl) w_int rfl) (wd_cons w_bl (wd_cons w_int wd_nil))))) (wd_cons (w_tup (wd_cons (w_ixT (w_name (pv 1) rfl) w_int rfl) (wd_cons (w_ixT (w_name (pv 1) rfl) w_int rfl) (wd_cons w_str (wd_cons w_int wd_nil))))) (wd_cons (w_tup (wd_cons (w_ixT (w_name (pv 1) rfl) w_int rfl) (wd_cons (w_ixT (w_name (pv 1) rfl) w_int rfl) (wd_cons (w_ixT (w_name (pv 1) rfl) w_int rfl) (wd_cons w_int wd_nil))))) (wd_cons w_str wd_nil))))) (Nat.le_of_ble_eq_true rfl))
      (wr_set (k := 3) scBadR.nd rfl (Or.inl rfl) (w_cat (w_name (pv 3) rfl) (w_lst (wd_cons (w_tup (wd_cons (w_ixT (w_name (pv 1) rfl) w_int rfl) (wd_cons (w_ixT (w_name (pv 1) rfl) w_int rfl) (wd_cons w_int (wd_cons (w_add (w_add (w_pow w_int w_int ⟨by decide, by decide, by decide⟩) w_int) (w_name (pv 2) rfl)) wd_nil))))) (wd_cons (w_tup (wd_cons (w_ixT (w_name (pv 1) rfl) w_int rfl) (wd_cons (w_ixT (w_name (pv 1) rfl) w_int rfl) (wd_cons w_int (wd_cons (w_sub (w_neg w_int) (w_name (pv 2) rfl)) wd_nil))))) wd_nil))) (Nat.le_of_ble_eq_true rfl))
      (wr_set (k := 3) scBadR.nd rfl (Or.inl rfl) (w_cat (w_name (pv 3) rfl) (w_lst (wd_cons (w_tup (wd_cons (w_ixT (w_name (pv 1) rfl) w_int rfl) (wd_cons (w_ixT (w_name (pv 1) rfl) w_int rfl) (wd_cons w_int (wd_cons w_bl wd_nil))))) (wd_cons (w_tup (wd_cons (w_ixT (w_name (pv 1) rfl) w_int rfl) (wd_cons (w_ixT (w_name (pv 1) rfl) w_int rfl) (wd_cons w_int (wd_cons w_non wd_nil))))) (wd_cons (w_tup (wd_cons (w_lst (wd_cons (w_ixT (w_name (pv 1) rfl) w_int rfl) wd_nil)) (wd_cons (w_ixT (w_name (pv 1) rfl) w_int rfl) (wd_cons w_int (wd_cons w_int wd_nil))))) wd_nil)))) (Nat.le_of_ble_eq_true rfl))
      (wr_set (k := 3) scBadR.nd rfl (Or.inl rfl) (w_cat (w_name (pv 3) rfl) (w_lst (wd_cons (w_tup (wd_cons w_non (wd_cons (w_ixT (w_name (pv 1) rfl) w_int rfl) (wd_cons w_int (wd_cons w_int wd_nil))))) (wd_cons (w_tup wd_nil) wd_nil))) (Nat.le_of_ble_eq_true rfl))
      (wr_ret (w_ixL (w_name (pv 3) rfl) (w_mod (w_name (pv 0) rfl) w_int (by decide)) (atI_mod PyData.none c 20 rfl (by decide))) (fun H v h => h))))))))), ?_⟩
    exact ⟨((env_nil.skip.skip.cons hv)).cons (Th.int c), q⟩
end
end K1
set_option Elab.async false
set_option linter.all false
set_option maxRecDepth 100000
set_option maxHeartbeats 4000000
namespace K1
open PySem L2 L3 M1
noncomputable def badP : Pd := ⟨fun H v => ∃ dh dr, Th H v (.tuple [dh, dr]) ∧ NoNetD dh dr ∧ dr.depth ≤ 62, fun sm ⟨dh, dr, h, n, d⟩ => ⟨dh, dr, h.same sm, n, d⟩⟩
noncomputable def jn (i : Nat) : Str := Txt.join (L "") [S [97 + i], L "x"]
noncomputable def jV : L2.V → L2.V
  | .int k => .str (jn k.toNat)
  | v => v
noncomputable def D13 : List PyData := (List.range 13).map fun i => .str (jn i)
theorem jn_ok : ∀ i ∈ List.range 13, (jn i).length ≤ 100 ∧ PyData.strOk (jn i) = true := by decide +kernel
theorem ths_jn {H : Hp} : ∀ {is : List Nat}, (∀ i ∈ is, (jn i).length ≤ 100 ∧ PyData.strOk (jn i) = true) → Ths H ((is.map fun i : Nat => V.int ((0 : Int) + (i : Int))).map jV) (is.map fun i => PyData.str (jn i))
  | [], _ => .nil
  | i :: is, h => .cons (by
      show Th H (.str (jn ((0 : Int) + (i : Int)).toNat)) _
      rw [show ((0 : Int) + (i : Int)).toNat = i by omega]
      exact .str _ (h i (List.mem_cons_self ..)).1 (h i (List.mem_cons_self ..)).2) (ths_jn fun j hj => h j (List.mem_cons_of_mem _ hj))
theorem m13 : (Str.ofString "abcdefghijklm").cps.toList = (List.range 13).map (97 + ·) := by decide +kernel
theorem m13_at {i : Nat} (h : i < 13) : atI (Str.ofString "abcdefghijklm").cps.toList ((0 : Int) + (i : Int)) = some (97 + i) := by
  rw [Int.zero_add]
  refine atI_nat ?_
  rw [m13, List.getElem?_map, List.getElem?_range h]
  rfl
section
variable {P : Program} {w : World} {K : PySem.W.Frag} {mg : Str → Option Value} {base : Heap}
theorem w_at {ns : List Int} {k : Int} {E : XK} (h0 : 0 ≤ k) : ∀ H vs Q, Alls [sq K (ns.map V.int), da (.int k)] H vs → Wants (da (.int (ns.getD k.toNat 0))) H Q → spAt K (vs ++ []) H Q E := fun H vs Q al q => by
  obtain ⟨v, u, rfl, ⟨a, rfl, hS⟩, hu⟩ := al2 al
  obtain rfl := th_int hu
  exact ⟨a, ns, k, rfl, hS, h0, q _ H (Same.refl _) (.int _)⟩
theorem w_badN {ds : List PyData} {c k : Int} {x p : Str} {E : XK} (hx : atI ds k = some (.str x)) (hp : atI ds (k - 1) = some (.str p)) (z : x.length ≤ 50) : ∀ H vs Q, Alls [da (.int c), da (.list ds), da (.int k)] H vs → Wants (da (dN x p c)) H Q → spBadN (vs ++ []) H Q E := fun H vs Q al q => by
  obtain ⟨v, u, t, rfl, hv, hu, ht⟩ := al3 al
  obtain rfl := th_int hv
  obtain rfl := th_int ht
  exact ⟨c, k, u, ds, x, p, rfl, hu, hx, hp, z, q⟩
theorem w_badR {c t m : Int} {a b : Str} {E : XK} : ∀ H vs Q, Alls [da (.int c), da (.tuple [.str a, .str b, .int t, .int m])] H vs → Wants (da (dR a b t m c)) H Q → spBadR (vs ++ []) H Q E := fun H vs Q al q => by
  obtain ⟨v, u, rfl, hv, hu⟩ := al2 al
  obtain rfl := th_int hv
  exact ⟨c, t, m, u, a, b, rfl, hu, q⟩
noncomputable def spSpoil (K : PySem.W.Frag) : Sp := fun vs H Q _ => ∃ (a : Addr) (ns : List Int) (vh vr : L2.V) (hs : List (List Nat)) (ds : List M1.Rd), vs = [.ref a, vh, vr] ∧ SqL K H a (ns.map V.int) ∧ Th H vh (.list (hD hs)) ∧ Th H vr (.list (ds.map (rD hs))) ∧
  Good hs ∧ 2 ≤ hs.length ∧ 1 ≤ ds.length ∧ ds.length ≤ 40 ∧ (∀ d ∈ ds, d.Ok hs.length) ∧ L "noshow" ∉ hs.map S ∧ L "" ∉ hs.map S ∧ Wants badP H Q
noncomputable def nSpoil : List Str := ["_law_script", "_law_houses_here", "_law_roads_here", "_law_way", "_law_cell", "_law_at_here", "_law_some"]
theorem scSpoil : FnScope nSpoil ["_law_script", "_law_houses_here", "_law_roads_here"] (defScope sSpoil) := ⟨rfl, rfl, rfl, by decide +kernel, rfl, by decide +kernel, by decide +kernel⟩
theorem ok_spoil {f f1 f2 f3 : Addr} {fd fd1 fd2 fd3 : FuncData} (F : Fun K "_law_spoiled" "_law_spoiled" sSpoil f fd) (B : Blt mg)
    (D__law_at : Dn K mg "_law_at" sAt ["_law_script", "_law_k"] f1 fd1) (G__law_at : FnOk P w K mg base CX0 1 f1 fd1 ["_law_script", "_law_k"] (spAt K))
    (D__law_bad_name : Dn K mg "_law_bad_name" sBadN ["_law_cell", "_law_houses_here", "_law_at_here"] f2 fd2) (G__law_bad_name : FnOk P w K mg base CX0 1 f2 fd2 ["_law_cell", "_law_houses_here", "_law_at_here"] spBadN)
    (D__law_bad_road : Dn K mg "_law_bad_road" sBadR ["_law_cell", "_law_road"] f3 fd3) (G__law_bad_road : FnOk P w K mg base CX0 1 f3 fd3 ["_law_cell", "_law_road"] spBadR) :
    FnOk P w K mg base CX0 2 f fd ["_law_script", "_law_houses_here", "_law_roads_here"] (spSpoil K) := by
  refine F.ok scSpoil (fun vs H Q E h => ?_) (fun cdv A outer s H vs Q E hr h => ?_)
  · obtain ⟨a, ns, vh, vr, hs, ds, rfl, _⟩ := h
    rfl
  · obtain ⟨a, ns, vh, vr, hs, ds, rfl, hS, hh, hv, G, h2, hd1, hd40, ok, hno, hem, q⟩ := h
    have hl := hD_len hs
    have h12 := G.few
    have hrl : (ds.map (rD hs)).length = ds.length := List.length_map ..
    have p1 : (0 : Int) < ((hD hs).length : Int) := by omega
    have p2 : (0 : Int) < ((ds.map (rD hs)).length : Int) := by omega
    have g0 : 0 ≤ ns.getD (2 : Int).toNat 0 % ((hD hs).length : Int) := Int.emod_nonneg _ (by omega)
    have g1 : ns.getD (2 : Int).toNat 0 % ((hD hs).length : Int) < ((hD hs).length : Int) := Int.emod_lt_of_pos _ p1
    have g2 : 0 ≤ ns.getD (2 : Int).toNat 0 % ((ds.map (rD hs)).length : Int) := Int.emod_nonneg _ (by omega)
    have g3 : ns.getD (2 : Int).toNat 0 % ((ds.map (rD hs)).length : Int) < ((ds.map (rD hs)).length : Int) := Int.emod_lt_of_pos _ p2
    obtain ⟨k, ek⟩ := Int.eq_ofNat_of_zero_le g0
    obtain ⟨j, ej⟩ := Int.eq_ofNat_of_zero_le g2
    have hk : k < hs.length := by omega
    have hj : j < ds.length := by omega
    have hx : atI (hD hs) (ns.getD (2 : Int).toNat 0 % ((hD hs).length : Int)) = some (.str (S (hs.getD k []))) := by rw [ek]; exact atI_nat (hD_get hk)
    have hp : atI (hD hs) (ns.getD (2 : Int).toNat 0 % ((hD hs).length : Int) - 1) = some (.str (S (hs.getD (before hs.length k) []))) := by rw [ek]; exact hD_before hk h2
    have hz : (S (hs.getD k [])).length ≤ 50 := by rw [S_len]; have := (G.at hk).2.1; omega
    have hjr : atI (ds.map (rD hs)) (ns.getD (2 : Int).toNat 0 % ((ds.map (rD hs)).length : Int)) = some (rD hs ds[j]) := by
      rw [ej]
      refine atI_nat ?_
      rw [List.getElem?_map, List.getElem?_eq_getElem hj]
      rfl
    have hsh : (hD hs).length ≤ 40 := by omega
    have hsr : (ds.map (rD hs)).length ≤ 40 := by omega
    have dep : ∀ d ∈ ds.map (rD hs), d.depth ≤ 1 := fun d hd => by
      obtain ⟨r, _, rfl⟩ := List.mem_map.mp hd
      exact depth_rD hs r
    have rep41 : (cutD (List.replicate 41 (ds.map (rD hs))).flatten none (some 41)).length = 41 := by
      have e := cutD_take (List.replicate 41 (ds.map (rD hs))).flatten 41
      have e' : cutD (List.replicate 41 (ds.map (rD hs))).flatten none (some 41) = (List.replicate 41 (ds.map (rD hs))).flatten.take 41 := e
      rw [e', List.length_take, rep_len, hrl]
      omega
    refine ⟨tWr [some (sq K (ns.map V.int)), some (da (.list (hD hs))), some (da (.list (ds.map (rD hs)))), none, none, none, none] badP, (wr_set (k := 3) scSpoil.nd rfl (Or.inl rfl) (w_mod (w_fn G__law_at (hr.mono (by decide)) (by rfl) D__law_at.at_ D__law_at.fn.kp D__law_at.bd pass0 (ws_cons (w_name (pv 0) rfl) (ws_cons w_int ws_nil)) (w_at (by decide))) w_int (by decide))
      (wr_set (k := 4) scSpoil.nd rfl (Or.inl rfl) (w_fdiv (w_fn G__law_at (hr.mono (by decide)) (by rfl) D__law_at.at_ D__law_at.fn.kp D__law_at.bd pass0 (ws_cons (w_name (pv 0) rfl) (ws_cons w_int ws_nil)) (w_at (by decide))) w_int ⟨by decide, by decide⟩)
      (wr_set (k := 5) scSpoil.nd rfl (Or.inl rfl) (w_fn G__law_at (hr.mono (by decide)) (by rfl) D__law_at.at_ D__law_at.fn.kp D__law_at.bd pass0 (ws_cons (w_name (pv 0) rfl) (ws_cons w_int ws_nil)) (w_at (by decide)))
      (wr_if (wt_lt (w_name (pv 3) rfl) w_int (nomark _)) (fun h0 => (wr_set (k := 5) scSpoil.nd rfl (Or.inl rfl) (w_mod (w_name (pv 5) rfl) (w_callB call_len_seq (by rfl) B.len bt_len (ws_cons (w_name (pv 1) rfl) ws_nil) (fun _ _ _ => wl_len)) p1)
      (wr_ret (w_tup (wd_cons (w_cat (w_cat (w_slL (w_name (pv 1) rfl) wo_none (wo_some (w_name (pv 5) rfl))) (w_lst (wd_cons (w_fn G__law_bad_name (hr.mono (by decide)) (by rfl) D__law_bad_name.at_ D__law_bad_name.fn.kp D__law_bad_name.bd pass0 (ws_cons (w_name (pv 4) rfl) (ws_cons (w_name (pv 1) rfl) (ws_cons (w_name (pv 5) rfl) ws_nil))) (w_badN hx hp hz)) wd_nil)) (cl1 hsh)) (w_slL (w_name (pv 1) rfl) (wo_some (w_add (w_name (pv 5) rfl) w_int)) wo_none) (cl2 hsh)) (wd_cons (w_lst wd_nil) wd_nil))) ?r0)))
      (fun h0 => (wr_if (wt_lt (w_name (pv 3) rfl) w_int (nomark _)) (fun h1 => (wr_set (k := 5) scSpoil.nd rfl (Or.inl rfl) (w_mod (w_name (pv 5) rfl) (w_callB call_len_seq (by rfl) B.len bt_len (ws_cons (w_name (pv 2) rfl) ws_nil) (fun _ _ _ => wl_len)) p2)
      (wr_ret (w_tup (wd_cons (w_name (pv 1) rfl) (wd_cons (w_cat (w_cat (w_slL (w_name (pv 2) rfl) wo_none (wo_some (w_name (pv 5) rfl))) (w_lst (wd_cons (w_fn G__law_bad_road (hr.mono (by decide)) (by rfl) D__law_bad_road.at_ D__law_bad_road.fn.kp D__law_bad_road.bd pass0 (ws_cons (w_name (pv 4) rfl) (ws_cons (w_ixL (w_name (pv 2) rfl) (w_name (pv 5) rfl) hjr) ws_nil)) w_badR) wd_nil)) (cl1 hsr)) (w_slL (w_name (pv 2) rfl) (wo_some (w_add (w_name (pv 5) rfl) w_int)) wo_none) (cl2 hsr)) wd_nil))) ?r1)))
      (fun h1 => (wr_set (k := 6) scSpoil.nd rfl (Or.inl rfl) (w_ixL (w_lst (wd_cons (w_callTy call_tuple_of (by rfl) B.tuple bt_tuple (ws_cons (w_name (pv 1) rfl) ws_nil) (fun _ _ _ => wl_tuple)) (wd_cons w_non (wd_cons w_str (wd_cons w_int wd_nil))))) (w_mod (w_fdiv (w_name (pv 4) rfl) w_int ⟨by decide, by decide⟩) w_int (by decide)) (atI_mod PyData.none _ 4 rfl (by decide)))
      (wr_if (wt_eq (w_name (pv 3) rfl) w_int (nomark _)) (fun h2 => (wr_ret (w_ixL (w_lst (wd_cons (w_tup (wd_cons (w_name (pv 6) rfl) (wd_cons (w_name (pv 2) rfl) wd_nil))) (wd_cons (w_tup (wd_cons (w_name (pv 1) rfl) (wd_cons (w_ixL (w_lst (wd_cons (w_callTy call_tuple_of (by rfl) B.tuple bt_tuple (ws_cons (w_name (pv 2) rfl) ws_nil) (fun _ _ _ => wl_tuple)) (wd_cons w_non (wd_cons w_str (wd_cons w_int wd_nil))))) (w_mod (w_fdiv (w_name (pv 4) rfl) w_int ⟨by decide, by decide⟩) w_int (by decide)) (atI_mod PyData.none _ 4 rfl (by decide))) wd_nil))) wd_nil))) (w_mod (w_name (pv 4) rfl) w_int (by decide)) (atI_mod PyData.none _ 2 rfl (by decide))) ?r2))
      (fun h2 => (wr_if (wt_eq (w_mod (w_name (pv 4) rfl) w_int (by decide)) w_int (nomark _)) (fun h3 => (wr_ret (w_tup (wd_cons (PE_mono (pe_lc (N' := ["_law_k"]) (cs := [none]) rfl (pi_range1 rfl B.range (pa_cons pe_int pa_nil)) rfl (by decide +kernel) rfl (by decide +kernel) (sub_of (fun p hp => absurd hp (List.not_mem_nil))) rfl
        (.own .nil)
        (fun C s3 H3 fp pn => ⟨(pg_name (i := 0) (by show (["_law_k"] : List Str).Nodup; decide +kernel) rfl (.inl rfl)), pif_nil, (pe_bmK (K := K) rfl PySem.F.plainAttrs_str PySem.F.slot_str_join PySem.F.type_str_join (mt_joinK (K := K) rfl) pe_str (pa_cons (pe_lst (pa_cons (pe_ix ix_str pe_str (pv 0) (fun _ _ => rfl)) (pa_cons pe_str pa_nil))) pa_nil))⟩)) (u := tW _ (da (.list D13))) ?cmp) (wd_cons (w_lst wd_nil) wd_nil))) ?r3))
      (fun h3 => (wr_ret (w_tup (wd_cons (w_name (pv 1) rfl) (wd_cons (w_slB (w_rep (k := 41) (w_name (pv 2) rfl) w_int (by decide)) wo_none (wo_some w_int) (by rw [rep41]; decide)) wd_nil))) ?r4))))))))))))), ?fin⟩
    case fin => exact ⟨((env_nil.skip.skip.skip.skip.cons hv).cons hh).cons ⟨a, rfl, hS⟩, q⟩
    case cmp =>
      rintro σ H Q ⟨he, q⟩
      refine tlc_map (J := Itr 0 13) (H1 := H) (xs := (List.range 13).map fun i : Nat => V.int ((0 : Int) + (i : Int))) (rest := []) (fun R h => ⟨13, rfl, by decide, by decide, h⟩) rfl (wk_range 0 13) (small1000 (by simp)) jV (fun i x H2 R ex sm hR => ?_) (fun D H' h1 h2 h3 => ?_)
      · rw [List.getElem?_map] at ex
        obtain ⟨i', ei, rfl⟩ := Option.map_eq_some_iff.mp ex
        obtain ⟨hi, e⟩ := List.getElem?_eq_some_iff.mp ei
        rw [List.length_range] at hi
        rw [List.getElem_range] at e
        subst e
        have hR' : ∀ H5, Same H2 H5 → R (.str (jn ((0 : Int) + (i : Int)).toNat)) H5 := hR
        rw [show ((0 : Int) + (i : Int)).toNat = i by omega] at hR'
        refine ⟨rfl, _, rfl, _, _, _, rfl, rfl, (by decide +kernel), m13_at hi, (by show 2 ≤ sizeLine; decide), fun p hp => ⟨_, p, [S [97 + i], L "x"], rfl, rfl, SqL.of upd_same, ?_, hR' _ (upd_free hp)⟩⟩
        show (1 + (1 + 0)) + 2 * 0 ≤ 16777216
        decide
      · exact q _ H' h3 (.lst h2 (by simp) (ths_jn jn_ok))
    case r0 =>
      intro H v h
      refine ⟨_, _, h, .inl ?_, by decide⟩
      have e1 : ((k : Int) + 1) = ((k + 1 : Nat) : Int) := by omega
      rw [ek]
      show isHousesD (.list (cutD (hD hs) none (some (k : Int)) ++ [_] ++ cutD (hD hs) (some ((k : Int) + 1)) none)) = false
      rw [e1, cutD_take, cutD_drop _ _ (by omega)]
      exact spoilH G.nd hk h2 (dN_bad _ _ _)
    case r1 =>
      intro H v h
      have hb := dR_bad (S (hs.getD ds[j].a [])) (S (hs.getD ds[j].b [])) ds[j].t ds[j].m (ns.getD (1 : Int).toNat 0 / 8) hno hem
      refine ⟨_, _, h, .inr ⟨hD hs, rfl, spoilR (ds := []) hb.1⟩, ?_⟩
      show PyData.depthAll _ + 1 ≤ 62
      refine Nat.le_trans (Nat.succ_le_succ (depth_all (n := 2) fun d hd => ?_)) (by decide)
      rcases List.mem_append.mp hd with hd | hd
      · rcases List.mem_append.mp hd with hd | hd
        · exact Nat.le_trans (dep d (mem_cut hd)) (by decide)
        · rw [List.mem_singleton.mp hd]
          exact hb.2
      · exact Nat.le_trans (dep d (mem_cut hd)) (by decide)
    case r2 =>
      intro H v h
      have hm : (ns.getD (1 : Int).toNat 0 / 8 % 2).toNat = 0 ∨ (ns.getD (1 : Int).toNat 0 / 8 % 2).toNat = 1 := by omega
      rcases hm with e | e
      · rw [e] at h
        refine ⟨_, _, h, .inl ?_, Nat.le_trans (depth_rDs hs ds) (by decide)⟩
        rcases getD_in [PyData.tuple (hD hs), .none, .str (L "ab"), .int 5] (ns.getD (1 : Int).toNat 0 / 8 / 2 % 4).toNat .none with z | z
        · simp only [List.mem_cons, List.not_mem_nil, or_false] at z
          rcases z with z | z | z | z <;> (rw [z]; rfl)
        · rw [z]
          rfl
      · rw [e] at h
        have key : isRoadsD (hD hs) ([PyData.tuple (ds.map (rD hs)), .none, .str (L "ab"), .int 5].getD (ns.getD (1 : Int).toNat 0 / 8 / 2 % 4).toNat .none) = false ∧ ([PyData.tuple (ds.map (rD hs)), .none, .str (L "ab"), .int 5].getD (ns.getD (1 : Int).toNat 0 / 8 / 2 % 4).toNat .none).depth ≤ 62 := by
          rcases getD_in [PyData.tuple (ds.map (rD hs)), .none, .str (L "ab"), .int 5] (ns.getD (1 : Int).toNat 0 / 8 / 2 % 4).toNat .none with z | z
          · simp only [List.mem_cons, List.not_mem_nil, or_false] at z
            rcases z with z | z | z | z <;> rw [z]
            · refine ⟨rfl, ?_⟩
              show PyData.depthAll _ + 1 ≤ 62
              exact Nat.le_trans (Nat.succ_le_succ (depth_all (n := 1) dep)) (by decide)
            · exact ⟨rfl, by decide⟩
            · exact ⟨rfl, by decide⟩
            · exact ⟨rfl, by decide⟩
          · rw [z]
            exact ⟨rfl, by decide⟩
        exact ⟨_, _, h, .inr ⟨hD hs, rfl, key.1⟩, key.2⟩
    case r3 =>
      intro H v h
      exact ⟨_, _, h, .inl (spoil_len12 (by decide)), by decide⟩
    case r4 =>
      intro H v h
      refine ⟨_, _, h, .inr ⟨hD hs, rfl, spoil_len (by rw [rep41]; decide)⟩, ?_⟩
      show PyData.depthAll _ + 1 ≤ 62
      exact Nat.le_trans (Nat.succ_le_succ (depth_all (n := 1) fun d hd => dep d (mem_rep (mem_cut hd)))) (by decide)
end
end K1
set_option Elab.async false
set_option linter.all false
set_option maxRecDepth 100000
set_option maxHeartbeats 4000000
namespace K1
open PySem L2 L3 M1
structure RefN (K : PySem.W.Frag) (RE NH : Addr) (os : List Addr) : Prop where
  re : excSub K RE RE = true
  nr : excSub K NH RE = true
  is : PySem.W.isIn K (.ref NH) NH = true
  ve : PySem.W.subIn K (.ref NH) (.type "ValueError") = some true
  mt : PySem.W.kitMeta "ValueError" = true
  ec : ExcC K NH
  no : PySem.W.kitAny K (.ref NH) (os.map Value.ref) = some false
noncomputable def spRefN : Sp := fun vs H Q _ => ∃ (v u : L2.V) (dh dr : PyData), vs = [v, u] ∧ Th H v dh ∧ Th H u dr ∧ dr.depth ≤ 62 ∧ NoNetD dh dr ∧ ∀ H', Same H H' → Q (.bl true) H'
noncomputable def nRefN : List Str := ["_law_houses_here", "_law_roads_here", "_law_kept", "e"]
theorem house_has (c : Int) (l : Nat) : l ∈ house c l := by
  unfold house
  simp
theorem not_noshow {c : Int} {m : Nat} : L "noshow" ∉ (housesL c m).map S := by
  intro z
  obtain ⟨x, hx, e⟩ := List.mem_map.mp z
  obtain ⟨l, hl, rfl⟩ := List.mem_map.mp hx
  have hl' := List.mem_of_mem_take hl
  have hm := house_has c l
  have e2 : house c l = [110, 111, 115, 104, 111, 119] := S_inj (e.trans (by decide +kernel))
  rw [e2] at hm
  revert hl' hm
  clear e2 e hx hl z
  revert l
  decide
theorem not_empty {hs : List (List Nat)} (G : Good hs) : L "" ∉ hs.map S := by
  intro z
  obtain ⟨x, hx, e⟩ := List.mem_map.mp z
  have e2 : x = [] := by
    have : S x = S [] := e.trans (by decide +kernel)
    exact S_inj this
  have := (G.nm x hx).1
  rw [e2] at this
  exact absurd this (by decide)
theorem roads_rep {H : Hp} {hs : List (List Nat)} {r : Addr} {d : M1.Rd} (ok : d.Ok hs.length) (h : H r = some (.tup (rdV hs d))) (n : Nat) : RoadsAt H hs (List.replicate n r) (List.replicate n d) := ⟨by
  induction n with
  | zero => exact .nil
  | succ n ih => exact .cons h ih, fun e he => by rw [(List.mem_replicate.mp he).2]; exact ok⟩
section
variable {P : Program} {w : World} {K : PySem.W.Frag} {mg : Str → Option Value} {base : Heap}
noncomputable abbrev sRefused : Stmt := top 38
noncomputable abbrev sLaw : Stmt := top 39
theorem scRefN : FnScope nRefN ["_law_houses_here", "_law_roads_here"] (defScope sRefused) := ⟨rfl, rfl, rfl, by decide +kernel, rfl, by decide +kernel, by decide +kernel⟩
theorem ok_refN {C RE NH f fi c1 c2 c3 c4 c5 c6 c7 c8 c9 c10 : Addr} {fd fdi : FuncData} (F : Fun K "_law_refused" "_law_refused" sRefused f fd) (B : Blt mg) (RC : RefN K RE NH [c1, c2, c3, c4, c5, c6, c7, c8, c9, c10])
    (at_RoadError : mg "RoadError" = some (.ref RE)) (at_NoNet : mg "NoNet" = some (.ref NH)) (at_BadBag : mg "BadBag" = some (.ref c1)) (at_CutOff : mg "CutOff" = some (.ref c2)) (at_ManyGoals : mg "ManyGoals" = some (.ref c3)) (at_NoDay : mg "NoDay" = some (.ref c4)) (at_NoHouse : mg "NoHouse" = some (.ref c5))
    (at_NoLetter : mg "NoLetter" = some (.ref c6)) (at_NoRoad : mg "NoRoad" = some (.ref c7)) (at_NoRow : mg "NoRow" = some (.ref c8)) (at_NoText : mg "NoText" = some (.ref c9)) (at_NoWay : mg "NoWay" = some (.ref c10)) (at_Net : mg "Net" = some (.ref C))
    (Mk_Net : Mk K C fi) (D_Net_init : Inn K C "Net.__init__" sInit ["self", "houses", "roads"] fi fdi) (G_Net_init : FnOk P w K mg base (CXe P w) 5 fi fdi ["self", "houses", "roads"] (spInitN C NH)) :
    FnOk P w K mg base CX0 7 f fd ["_law_houses_here", "_law_roads_here"] spRefN := by
  refine F.ok scRefN (fun vs H Q E h => ?_) (fun cdv A outer s H vs Q E hr h => ?_)
  · obtain ⟨v, u, dh, dr, rfl, _⟩ := h
    rfl
  · obtain ⟨v, u, dh, dr, rfl, hv, hu, dd, hno, q⟩ := h
    have hR_RoadError := RC.re
    refine ⟨_, (pss_cons (ps_set (i := 2) scRefN.nd rfl (Or.inl rfl) pe_non)
      (pss_cons (ps_try (i := 3) rfl rfl (psxs_one (psx_expr (px_make Mk_Net G_Net_init (hr.mono (by decide)) (by rfl) at_Net D_Net_init.bd (pa_cons (pv 0) (pa_cons (pv 1) pa_nil))))) scRefN.nd rfl rfl rfl at_RoadError hR_RoadError (fun ea => (pss_one (ps_set (i := 2) scRefN.nd rfl (Or.inl rfl) (pv 3)))))
      (pss_cons (ps_if (pt_val (pe_callB call_isiT (by rfl) B.isinstance bt_isinstance (pa_cons (pv 2) (pa_cons (pe_tup (pa_cons (pe_cls (by rfl) at_BadBag) (pa_cons (pe_cls (by rfl) at_CutOff) (pa_cons (pe_cls (by rfl) at_ManyGoals) (pa_cons (pe_cls (by rfl) at_NoDay) (pa_cons (pe_cls (by rfl) at_NoHouse) (pa_cons (pe_cls (by rfl) at_NoLetter) (pa_cons (pe_cls (by rfl) at_NoRoad) (pa_cons (pe_cls (by rfl) at_NoRow) (pa_cons (pe_cls (by rfl) at_NoText) (pa_cons (pe_cls (by rfl) at_NoWay) pa_nil))))))))))) pa_nil)))) (pss_one (ps_ret pe_bl)) pss_nil)
      (pss_one (ps_ret (pe_and (pe_callB call_isiE (by rfl) B.isinstance bt_isinstance (pa_cons (pv 2) (pa_cons (pe_cls (by rfl) at_NoNet) pa_nil))) (pe_one (pe_callB call_isiE (by rfl) B.isinstance bt_isinstance (pa_cons (pv 2) (pa_cons (pe_bty (by rfl) B.ValueError bt_ValueError) pa_nil)))))))))), ?_⟩
    refine ⟨_, rfl, _, rfl, fun x dx nx ndx nd => ?_⟩
    have mkS : Same H (upd (upd H dx (.own x)) x (.ins C dx [])) := (upd_free ndx).trans (upd_free (by rw [upd_ne (Ne.symm nd)]; exact nx))
    refine ⟨x, dx, v, u, dh, dr, rfl, upd_same, hv.same mkS, hu.same mkS, dd, hno, fun H' s' => ⟨NH, rfl, RC.nr, fun ea hea => ?_⟩⟩
    have s1 := upd_free (o := excO ea NH) hea
    have he := upd_same (H := H') (a := ea) (o := excO ea NH)
    refine ⟨_, rfl, _, rfl, (by show 10 ≤ sizeLine; decide), fun p hp => ?_⟩
    have s2 := upd_free (o := .tup [V.ref c1, V.ref c2, V.ref c3, V.ref c4, V.ref c5, V.ref c6, V.ref c7, V.ref c8, V.ref c9, V.ref c10]) hp
    have he2 := s2 _ _ he
    refine ⟨ea, NH, p, _, false, rfl, he2, upd_same, RC.ec, RC.no, _, rfl, iteF ?_⟩
    refine ⟨_, rfl, ea, NH, he2, .inl ⟨_, rfl, RC.is⟩, _, rfl, iteT ?_⟩
    exact ⟨_, rfl, ea, NH, he2, .inr ⟨_, rfl, RC.ve, RC.mt⟩, q _ (((mkS.trans s').trans s1).trans s2)⟩
theorem name_true {l : List Nat} (h : Nm l) : isNameD (.str (S l)) = true := by
  have e := S_len l
  show (decide (1 ≤ (S l).length) && decide ((S l).length ≤ 8) && (S l).cps.toList.all lowC) = true
  rw [e, decide_eq_true h.1, decide_eq_true h.2.1]
  show l.toArray.toList.all lowC = true
  rw [List.all_eq_true]
  intro c hc
  have := h.2.2 c (by simpa using hc)
  show (decide (97 ≤ c) && decide (c ≤ 122)) = true
  rw [decide_eq_true this.1, decide_eq_true this.2]
  rfl
theorem houses_yes {hs : List (List Nat)} (G : Good hs) : isHousesD (.list (hD hs)) = true := by
  show (decide ((hD hs).length ≤ 12) && (hD hs).all isNameD && decide (textsD (hD hs)).Nodup) = true
  have e1 : (hD hs).all isNameD = true := by
    rw [List.all_eq_true]
    intro d hd
    obtain ⟨x, hx, rfl⟩ := List.mem_map.mp hd
    obtain ⟨l, hl, rfl⟩ := List.mem_map.mp hx
    exact name_true (G.nm l hl)
  have e2 : (textsD (hD hs)).Nodup := by
    rw [texts_hD]
    exact nd_map_inj (fun a b h => S_inj h) G.nd
  rw [hD_len, decide_eq_true G.few, e1, decide_eq_true e2]
  rfl
theorem in_yes {hs : List (List Nat)} {a : Nat} (h : a < hs.length) : inD (.str (S (hs.getD a []))) (hD hs) = true := by
  unfold inD
  rw [List.any_eq_true]
  exact ⟨.str (S (hs.getD a [])), List.mem_of_getElem? (hD_get h), by show (_ == _) = true; exact beq_self_eq_true _⟩
theorem road_yes {hs : List (List Nat)} (nd : hs.Nodup) {d : M1.Rd} (ok : d.Ok hs.length) : isRoadD (hD hs) (rD hs d) = true := by
  show (((inD _ (hD hs) && inD _ (hD hs)) && !PyData.eqv (.str (S (hs.getD d.a []))) (.str (S (hs.getD d.b [])))) && (decide (1 ≤ d.t) && decide (d.t ≤ 9)) && (decide (1 ≤ d.m) && decide (d.m ≤ 1000000000))) = true
  have e : PyData.eqv (.str (S (hs.getD d.a []))) (.str (S (hs.getD d.b []))) = false := by
    show (S (hs.getD d.a []) == S (hs.getD d.b [])) = false
    rw [beq_eq_false_iff_ne]
    exact ne_at nd ok.a ok.b ok.ne
  rw [in_yes ok.a, in_yes ok.b, e, decide_eq_true ok.t.1, decide_eq_true ok.t.2, decide_eq_true ok.m.1, decide_eq_true ok.m.2]
  rfl
theorem roads_yes {hs : List (List Nat)} (nd : hs.Nodup) {ds : List M1.Rd} (ok : ∀ d ∈ ds, d.Ok hs.length) (few : ds.length ≤ 40) : isRoadsD (hD hs) (.list (ds.map (rD hs))) = true := by
  show (decide ((ds.map (rD hs)).length ≤ 40) && (ds.map (rD hs)).all (isRoadD (hD hs))) = true
  rw [List.length_map, decide_eq_true few, Bool.true_and, List.all_eq_true]
  intro e he
  obtain ⟨d, hd, rfl⟩ := List.mem_map.mp he
  exact road_yes nd (ok d hd)
noncomputable def spAreR2 : Sp := fun vs H Q _ => ∃ (a b : Addr) (hs : List (List Nat)) (rs : List Addr) (ds : List M1.Rd), vs = [.ref a, .ref b] ∧ H a = some (.lst (txs hs)) ∧ Good hs ∧ H b = some (.lst (refs rs)) ∧ RoadsAt H hs rs ds ∧ rs.length ≤ 40 ∧ ∀ H', Same H H' → Q (.bl true) H'
theorem areH_imp : ∀ vs H Q E, spAreH vs H Q E → spAreHD vs H Q E := fun vs H Q E ⟨a, hs, e, ha, G, q⟩ => ⟨_, _, e, th_hD G ha, fun H' s' => by rw [houses_yes G]; exact q H' s'⟩
theorem areR_imp : ∀ vs H Q E, spAreR2 vs H Q E → spAreRD vs H Q E := fun vs H Q E ⟨a, b, hs, rs, ds, e, ha, G, hb, R, few, q⟩ => by
  have hl := R.len
  exact ⟨a, hD hs, _, _, e, th_hD G ha, .lst hb (by rw [refs_len]; omega) (ths_rD G R.tups R.ok), Nat.le_trans (depth_rDs hs ds) (by decide), fun H' s' => by rw [roads_yes G.nd R.ok (by omega)]; exact q H' s'⟩
theorem ok_init2 {C f fH fR : Addr} {fd fdH fdR : FuncData} (F : Fun K "__init__" "Net.__init__" sInit f fd) (B : Blt mg) (NC : NetC K C)
    (D_are_houses : Dn K mg "are_houses" sAreH ["things"] fH fdH) (G_are_houses : FnOk P w K mg base CX0 2 fH fdH ["things"] spAreH)
    (D_are_roads : Dn K mg "are_roads" sAreR ["houses", "things"] fR fdR) (G_are_roads : FnOk P w K mg base CX0 4 fR fdR ["houses", "things"] spAreR2) :
    FnOk P w K mg base CX0 5 f fd ["self", "houses", "roads"] (spInit K C) := by
  refine F.ok scInit (fun vs H Q E h => ?_) (fun cdv A outer s H vs Q E hr h => ?_)
  · obtain ⟨x, dx, a, b, hs, rs, ds, rfl, _⟩ := h
    rfl
  · obtain ⟨x, dx, a, b, hs, rs, ds, rfl, hx, ha, hG, hb, hR, few, q⟩ := h
    refine ⟨_, (pss_cons (ps_if (pt_not (pt_val (pe_call G_are_houses (hr.mono (by decide)) (by rfl) D_are_houses.at_ D_are_houses.fn.kp D_are_houses.bd .nil pass0 (pa_cons (pv 1) pa_nil)))) (pss_one ps_never) pss_nil)
      (pss_cons (ps_if (pt_not (pt_val (pe_call G_are_roads (hr.mono (by decide)) (by rfl) D_are_roads.at_ D_are_roads.fn.kp D_are_roads.bd .nil pass0 (pa_cons (pv 1) (pa_cons (pv 2) pa_nil))))) (pss_one ps_never) pss_nil)
      (pss_cons (ps_fld (pv 0) (pe_callTy call_list_of (by rfl) B.list bt_list (pa_cons (pv 1) pa_nil)) rfl)
      (pss_one (ps_fld (pv 0) (pe_callTy call_list_of (by rfl) B.list bt_list (pa_cons (pv 2) pa_nil)) rfl))))), ?_⟩
    refine ⟨_, rfl, a, hs, rfl, ha, hG, fun H1 s1 => ⟨_, rfl, iteF ?_⟩⟩
    refine ⟨_, rfl, _, rfl, a, b, hs, rs, ds, rfl, s1 _ _ ha, hG, s1 _ _ hb, hR.same s1, few, fun H2 s2 => ⟨_, rfl, iteF ?_⟩⟩
    have s12 := s1.trans s2
    refine ⟨_, rfl, a, _, rfl, .inl (SqL.of (s12 _ _ ha)), fun a' ha' => ?_⟩
    have s3 : Same H2 (upd H2 a' (.lst (txs hs))) := upd_free ha'
    have s13 := s12.trans s3
    have nx : x ≠ a' := ne_of_none (s12 _ _ hx) ha'
    refine ⟨_, rfl, x, C, dx, _, rfl, s13 _ _ hx, NC.cl, NC.nh, (by decide), ?_⟩
    have hbx : b ≠ x := fun e => by rw [e, hx] at hb; cases hb
    have hb4 : upd (upd H2 a' (.lst (txs hs))) x (.ins C dx (putF "kept_houses" (.ref a') [])) b = some (.lst (refs rs)) := by
      rw [upd_ne hbx]
      exact s13 _ _ hb
    refine ⟨_, rfl, b, _, rfl, .inl (SqL.of hb4), fun b' hb' => ?_⟩
    have nx2 : b' ≠ x := fun e => by rw [e, upd_same] at hb'; cases hb'
    have nb : b' ≠ a' := fun e => by rw [e, upd_ne nx.symm, upd_same] at hb'; cases hb'
    refine ⟨_, rfl, x, C, dx, _, rfl, (by rw [upd_ne nx2.symm, upd_same]), NC.cl, NC.nr, (by show 1 < 1000; decide), ?_⟩
    refine q _ a' b' (fun c o hc hH => ?_) (by rw [upd_same]; rfl) ?_ ?_ ?_ ?_
    · rw [upd_ne hc]
      have : c ≠ b' := fun e => by
        rw [← e, upd_ne hc, s13 _ _ hH] at hb'
        cases hb'
      rw [upd_ne this, upd_ne hc]
      exact s13 _ _ hH
    · rw [upd_ne nx.symm, upd_ne nb.symm, upd_ne nx.symm, upd_same]
    · rw [upd_ne nx2, upd_same]
    · exact s12.free ha'
    · rw [upd_ne nx2, upd_ne nb] at hb'
      exact s12.free hb'
noncomputable def nLaw2 : List Str := ["_law_script", "_law_houses_here", "_law_roads_here", "_law_bad", "_law_greatest", "_law_twelve"]
theorem scLaw : FnScope nLaw2 ["_law_script"] (defScope sLaw) := ⟨rfl, rfl, rfl, by decide +kernel, rfl, by decide +kernel, by decide +kernel⟩
theorem ok_law {C f fa fh fr fi fs fe f1 f2 : Addr} {fd fda fdh fdr fdi fds fde fd1 fd2 : FuncData} (F : Fun K "law" "law" sLaw f fd) (B : Blt mg) (at_Net : mg "Net" = some (.ref C)) (Cl_Net : Cls K C)
    (D__law_at : Dn K mg "_law_at" sAt ["_law_script", "_law_k"] fa fda) (G__law_at : FnOk P w K mg base CX0 1 fa fda ["_law_script", "_law_k"] (spAt K))
    (D__law_houses : Dn K mg "_law_houses" sHouses ["_law_cell", "_law_many"] fh fdh) (G__law_houses : FnOk P w K mg base CX0 2 fh fdh ["_law_cell", "_law_many"] spHouses)
    (D__law_roads : Dn K mg "_law_roads" sRoads ["_law_cells", "_law_houses_here", "_law_long"] fr fdr) (G__law_roads : FnOk P w K mg base CX0 1 fr fdr ["_law_cells", "_law_houses_here", "_law_long"] (spRoads K))
    (Mk_Net : Mk K C fi) (D_Net_init : Inn K C "Net.__init__" sInit ["self", "houses", "roads"] fi fdi) (G_Net_init : FnOk P w K mg base CX0 5 fi fdi ["self", "houses", "roads"] (spInit K C))
    (D__law_spoiled : Dn K mg "_law_spoiled" sSpoil ["_law_script", "_law_houses_here", "_law_roads_here"] fs fds) (G__law_spoiled : FnOk P w K mg base CX0 2 fs fds ["_law_script", "_law_houses_here", "_law_roads_here"] (spSpoil K))
    (D__law_refused : Dn K mg "_law_refused" sRefused ["_law_houses_here", "_law_roads_here"] fe fde) (G__law_refused : FnOk P w K mg base CX0 7 fe fde ["_law_houses_here", "_law_roads_here"] spRefN)
    (M_Net_houses : Mn K C "houses" "Net.houses" sHousesM ["self"] f1 fd1) (G_Net_houses : FnOk P w K mg base CX0 1 f1 fd1 ["self"] (spHousesM C))
    (M_Net_roads : Mn K C "roads" "Net.roads" sRoadsM ["self"] f2 fd2) (G_Net_roads : FnOk P w K mg base CX0 1 f2 fd2 ["self"] (spRoadsM C)) :
    FnOk P w K mg base CX0 8 f fd ["_law_script"] (spLaw K) := by
  refine F.ok scLaw (fun vs H Q E h => ?_) (fun cdv A outer s H vs Q E hr h => ?_)
  · obtain ⟨a, ns, rfl, _⟩ := h
    rfl
  · obtain ⟨a, ns, rfl, hS, hns, q⟩ := h
    obtain ⟨tR2, hT2, qT2⟩ : ∃ tR : TS, PSs (cxOf CX0 P w K mg base nLaw2 "law" (defScope sLaw) f cdv A outer s H E).nox ((defBody sLaw).drop 6) tR ∧ ∀ (D : Ends) (p1 p5 pb g2 p6 r : Addr) (hs hs12 : List (List Nat)) (vh vr : L2.V) (dh dr : PyData) (Hb : Hp), D.rt = Q → Good hs → Hb p1 = some (.lst (txs hs)) → Hb g2 = some (.lst (refs (List.replicate 40 r))) →
        RoadsAt Hb hs (List.replicate 40 r) (List.replicate 40 ⟨0, 1, 9, 1000000000⟩) → Hb p6 = some (.lst (txs hs12)) → Good hs12 → Hb pb = some (.tup [vh, vr]) → Th Hb vh dh → Th Hb vr dr → dr.depth ≤ 62 → NoNetD dh dr → tR D [some (.ref a), some (.ref p1), some (.ref p5), some (.ref pb), some (.ref g2), some (.ref p6)] Hb := by
      refine ⟨_, (pss_cons (ps_if (pw_or (pt_cmpR (op_neD hr.units) (pe_meth0 (pe_make Mk_Net G_Net_init (hr.mono (by decide)) (by rfl) at_Net D_Net_init.bd .nil pass0 (pa_cons (pv 1) (pa_cons (pv 4) pa_nil))) Cl_Net M_Net_roads.me G_Net_roads (hr.mono (by decide)) M_Net_roads.bd .nil pass0) (pv 4) (nomark _)) (pw_or1 (pt_cmpR (op_neD hr.units) (pe_meth0 (pe_make Mk_Net G_Net_init (hr.mono (by decide)) (by rfl) at_Net D_Net_init.bd .nil pass0 (pa_cons (pv 5) (pa_cons (pe_lst pa_nil) pa_nil))) Cl_Net M_Net_houses.me G_Net_houses (hr.mono (by decide)) M_Net_houses.bd .nil pass0) (pv 5) (nomark _)))).pt (pss_one (ps_ret pe_bl)) pss_nil)
      (pss_one (ps_ret (pe_call G__law_refused (hr.mono (by decide)) (by rfl) D__law_refused.at_ D__law_refused.fn.kp D__law_refused.bd .nil pass0 (pa_cons (pe_ix ix_tup (pv 3) pe_int (fun _ _ => rfl)) (pa_cons (pe_ix ix_tup (pv 3) pe_int (fun _ _ => rfl)) pa_nil)))))), fun D p1 p5 pb g2 p6 r hs hs12 vh vr dh dr Hb hD hG hHb hg2b hRgb h6 hG12 hpb tvh tvr dd hbad => ?_⟩
      -- the greatest net
      refine ⟨_, rfl, _, rfl, fun y dy ny ndy ndd => ?_⟩
      have mkS2 : Same Hb (upd (upd Hb dy (.own y)) y (.ins C dy [])) := (upd_free ndy).trans (upd_free (by rw [upd_ne (Ne.symm ndd)]; exact ny))
      refine ⟨y, dy, p1, g2, hs, List.replicate 40 r, List.replicate 40 ⟨0, 1, 9, 1000000000⟩, rfl, upd_same, mkS2 _ _ hHb, hG, mkS2 _ _ hg2b, hRgb.same mkS2, (by rw [List.length_replicate]; decide), fun Hc a2 b2 sbc hyc hac hbc na2 nb2 => ⟨rfl, ?_⟩⟩
      have sc : Same Hb Hc := make_same ny ndy sbc
      have net2 : NetAt C Hc y a2 b2 (txs hs) (refs (List.replicate 40 r)) := ⟨⟨dy, hyc⟩, hac, hbc⟩
      have c3 := can_rDs hG hRgb.ok
      have sh3 := shaped_of c3 (depth_rDs hs (List.replicate 40 ⟨0, 1, 9, 1000000000⟩)) (by decide)
      refine ⟨y, dy, _, rfl, hyc, rfl, y, a2, b2, _, _, rfl, net2, fun l2 nl2 => ?_⟩
      have td := upd_free (o := .lst (refs (List.replicate 40 r))) nl2
      have sbd := sc.trans td
      refine ⟨_, rfl, _, _, dt_rs (SqL.of upd_same) (hRgb.same sbd), dt_rs (SqL.of (sbd _ _ hg2b)) (hRgb.same sbd), sh3, sh3, _, rfl, iteN (ne_self c3) ?_⟩
      have h6d := sbd _ _ h6
      have s6d := sbd
      generalize upd Hc l2 (.lst (refs (List.replicate 40 r))) = Hd at h6d s6d
      -- twelve
      refine ⟨_, rfl, Nat.zero_le _, fun z1 nz1 => fun z dz nz ndz ndzz => ?_⟩
      have te := upd_free (o := .lst []) nz1
      have hz1 := upd_same (H := Hd) (a := z1) (o := .lst [])
      have h6e := te _ _ h6d
      have s6e := s6d.trans te
      generalize upd Hd z1 (.lst []) = He at hz1 h6e s6e nz ndz
      have mkS3 : Same He (upd (upd He dz (.own z)) z (.ins C dz [])) := (upd_free ndz).trans (upd_free (by rw [upd_ne (Ne.symm ndzz)]; exact nz))
      refine ⟨z, dz, p6, z1, hs12, [], [], rfl, upd_same, mkS3 _ _ h6e, hG12, mkS3 _ _ hz1, no_roads _, (by decide), fun Hf a3 b3 sbf hzf haf hbf na3 nb3 => ⟨rfl, ?_⟩⟩
      have sf : Same He Hf := make_same nz ndz sbf
      have net3 : NetAt C Hf z a3 b3 (txs hs12) (refs []) := ⟨⟨dz, hzf⟩, haf, hbf⟩
      have c4 := can_hD hG12
      have sh4 := shaped_of c4 (depth_hD hs12) (by decide)
      refine ⟨z, dz, _, rfl, hzf, rfl, z, a3, b3, _, _, rfl, net3, fun l3 nl3 => ?_⟩
      have tg := upd_free (o := .lst (txs hs12)) nl3
      have seg := sf.trans tg
      refine ⟨_, rfl, _, _, dt_hs (SqL.of upd_same), dt_hs (SqL.of (seg _ _ h6e)), sh4, sh4, _, rfl, iteN (ne_self c4) ?_⟩
      have s6g := s6e.trans seg
      -- refused again
      have hpg := s6g _ _ hpb
      refine ⟨_, rfl, pb, _, _, _, rfl, rfl, SqT.of hpg, rfl, _, rfl, pb, _, _, _, rfl, rfl, SqT.of hpg, rfl, vh, vr, dh, dr, rfl, tvh.same s6g, tvr.same s6g, dd, hbad, fun Hh sh => ?_⟩
      rw [hD]
      exact q Hh
    obtain ⟨tR, hT, qT⟩ : ∃ tR : TS, PSs (cxOf CX0 P w K mg base nLaw2 "law" (defScope sLaw) f cdv A outer s H E).nox ((defBody sLaw).drop 3) tR ∧ ∀ (D : Ends) (p1 p5 pb : Addr) (hs : List (List Nat)) (rs : List Addr) (ds : List M1.Rd) (vh vr : L2.V) (dh dr : PyData) (H6 : Hp), D.rt = Q → Good hs → 2 ≤ hs.length → SqL K H6 a (ns.map V.int) → H6 p1 = some (.lst (txs hs)) →
        H6 p5 = some (.lst (refs rs)) → RoadsAt H6 hs rs ds → rs.length ≤ 40 → H6 pb = some (.tup [vh, vr]) → Th H6 vh dh → Th H6 vr dr → dr.depth ≤ 62 → NoNetD dh dr → tR D [some (.ref a), some (.ref p1), some (.ref p5), some (.ref pb), none, none] H6 := by
      refine ⟨_, (pss_cons (ps_if (pw_or (pt_not (pt_val (pe_call G__law_refused (hr.mono (by decide)) (by rfl) D__law_refused.at_ D__law_refused.fn.kp D__law_refused.bd .nil pass0 (pa_cons (pe_ix ix_tup (pv 3) pe_int (fun _ _ => rfl)) (pa_cons (pe_ix ix_tup (pv 3) pe_int (fun _ _ => rfl)) pa_nil))))) (pw_or1 (pt_cmpR (op_neD hr.units) (pe_meth0 (pe_make Mk_Net G_Net_init (hr.mono (by decide)) (by rfl) at_Net D_Net_init.bd .nil pass0 (pa_cons (pv 1) (pa_cons (pv 2) pa_nil))) Cl_Net M_Net_roads.me G_Net_roads (hr.mono (by decide)) M_Net_roads.bd .nil pass0) (pv 2) (nomark _)))).pt (pss_one (ps_ret pe_bl)) pss_nil)
      (pss_cons (ps_set (i := 4) scLaw.nd rfl (Or.inl rfl) (pe_op op_rep (pe_lst (pa_cons (pe_tup (pa_cons (pe_ix ix_list (pv 1) pe_int (fun _ _ => rfl)) (pa_cons (pe_ix ix_list (pv 1) pe_int (fun _ _ => rfl)) (pa_cons pe_int (pa_cons (pe_op op_pow pe_int pe_int) pa_nil))))) pa_nil)) pe_int))
      (pss_cons (ps_set (i := 5) scLaw.nd rfl (Or.inl rfl) (pe_call G__law_houses (hr.mono (by decide)) (by rfl) D__law_houses.at_ D__law_houses.fn.kp D__law_houses.bd .nil pass0 (pa_cons (pe_call G__law_at (hr.mono (by decide)) (by rfl) D__law_at.at_ D__law_at.fn.kp D__law_at.bd .nil pass0 (pa_cons (pv 0) (pa_cons pe_int pa_nil))) (pa_cons pe_int pa_nil))))
      hT2))), fun D p1 p5 pb hs rs ds vh vr dh dr H6 hD hG h2 hS5 hH5 h5 hR hfr hpb tvh tvr dd hbad => ?_⟩
      -- refused
      refine ⟨_, rfl, pb, _, _, _, rfl, rfl, SqT.of hpb, rfl, _, rfl, pb, _, _, _, rfl, rfl, SqT.of hpb, rfl, vh, vr, dh, dr, rfl, tvh, tvr, dd, hbad, fun H7 s7 => ⟨_, rfl, iteF ?_⟩⟩
      have s57 := s7
      -- the net
      refine ⟨_, rfl, _, rfl, fun x dx nx ndx nd => ?_⟩
      have mkS : Same H7 (upd (upd H7 dx (.own x)) x (.ins C dx [])) := (upd_free ndx).trans (upd_free (by rw [upd_ne (Ne.symm nd)]; exact nx))
      have hH7 := s57 _ _ hH5
      have h57 := s57 _ _ h5
      have hR7 := hR.same s57
      refine ⟨x, dx, p1, p5, hs, rs, ds, rfl, upd_same, mkS _ _ hH7, hG, mkS _ _ h57, hR7.same mkS, hfr, fun H8 a' b' sb hx8 ha8 hb8 na nb => ⟨rfl, ?_⟩⟩
      have s8 : Same H7 H8 := make_same nx ndx sb
      have net : NetAt C H8 x a' b' (txs hs) (refs rs) := ⟨⟨dx, hx8⟩, ha8, hb8⟩
      have c2 := can_rDs hG hR.ok
      have sh2 := shaped_of c2 (depth_rDs hs ds) (by decide)
      refine ⟨x, dx, _, rfl, hx8, rfl, x, a', b', _, _, rfl, net, fun l nl => ?_⟩
      have t9 := upd_free (o := .lst (refs rs)) nl
      have s79 := s8.trans t9
      refine ⟨_, rfl, _, _, dt_rs (SqL.of upd_same) (hR7.same s79), dt_rs (SqL.of (s79 _ _ h57)) (hR7.same s79), sh2, sh2, _, rfl, iteN (ne_self c2) ?_⟩
      have s69 := s7.trans s79
      have s59 := s57.trans s79
      generalize upd H8 l (.lst (refs rs)) = H9 at s79 s69 s59
      have hH9 := s59 _ _ hH5
      have hS9 := s59.seq hS5
      -- the greatest
      have a0 := txs_at (hs := hs) (k := 0) (by decide) (by omega)
      have a1 := txs_at (hs := hs) (k := 1) (by decide) (by omega)
      refine ⟨_, rfl, p1, _, _, _, rfl, rfl, SqL.of hH9, a0, _, rfl, p1, _, _, _, rfl, rfl, SqL.of hH9, a1, _, _, rfl, rfl, ⟨by decide, by decide, by decide⟩, (by show 4 ≤ sizeLine; decide), fun r nr => ⟨(by show 1 ≤ sizeLine; decide), fun g ng => ?_⟩⟩
      have u1 := upd_free (o := .tup [V.str (S (hs.getD (0 : Int).toNat [])), V.str (S (hs.getD (1 : Int).toNat [])), V.int 9, V.int (10 ^ (9 : Int).toNat)]) nr
      have u2 := upd_free (o := .lst [V.ref r]) ng
      have hg := upd_same (H := upd H9 r (.tup [V.str (S (hs.getD (0 : Int).toNat [])), V.str (S (hs.getD (1 : Int).toNat [])), V.int 9, V.int (10 ^ (9 : Int).toNat)])) (a := g) (o := .lst [V.ref r])
      refine ⟨g, 40, _, rfl, rfl, hg, by decide, by decide, (by show 1 * 40 ≤ sizeLine; decide), fun g2 ng2 => ?_⟩
      have u3 := upd_free (o := .lst (List.replicate (40 : Int).toNat [V.ref r]).flatten) ng2
      have hr0 := u3 _ _ (u2 _ _ (upd_same (H := H9) (a := r) (o := .tup [V.str (S (hs.getD (0 : Int).toNat [])), V.str (S (hs.getD (1 : Int).toNat [])), V.int 9, V.int (10 ^ (9 : Int).toNat)])))
      have hg2 := upd_same (H := upd (upd H9 r (.tup [V.str (S (hs.getD (0 : Int).toNat [])), V.str (S (hs.getD (1 : Int).toNat [])), V.int 9, V.int (10 ^ (9 : Int).toNat)])) g (.lst [V.ref r])) (a := g2) (o := .lst (List.replicate (40 : Int).toNat [V.ref r]).flatten)
      have u13 := (u1.trans u2).trans u3
      generalize upd (upd (upd H9 r (.tup [V.str (S (hs.getD (0 : Int).toNat [])), V.str (S (hs.getD (1 : Int).toNat [])), V.int 9, V.int (10 ^ (9 : Int).toNat)])) g (.lst [V.ref r])) g2 (.lst (List.replicate (40 : Int).toNat [V.ref r]).flatten) = Ha at hr0 hg2 u13
      have e9 : (10 : Int) ^ (9 : Int).toNat = 1000000000 := by decide
      rw [e9] at hr0
      have hr0 : Ha r = some (.tup (rdV hs ⟨0, 1, 9, 1000000000⟩)) := hr0
      have hg2 : Ha g2 = some (.lst (refs (List.replicate 40 r))) := hg2
      have okd : (⟨0, 1, 9, 1000000000⟩ : M1.Rd).Ok hs.length := ⟨by show 0 < hs.length; omega, by show 1 < hs.length; omega, by show (0 : Nat) ≠ 1; decide, ⟨by show (1 : Int) ≤ 9; decide, by show (9 : Int) ≤ 9; decide⟩, ⟨by show (1 : Int) ≤ 1000000000; decide, by show (1000000000 : Int) ≤ 1000000000; decide⟩⟩
      have hRg : RoadsAt Ha hs (List.replicate 40 r) (List.replicate 40 ⟨0, 1, 9, 1000000000⟩) := roads_rep okd hr0 40
      have s9a := s59.trans u13
      have s6a := s69.trans u13
      -- twelve
      refine ⟨_, rfl, a, ns, 0, rfl, u13.seq hS9, by decide, ns.getD (0 : Int).toNat 0, 12, rfl, by decide, fun p6 Hb np6 sb' h6 => ?_⟩
      have s6b := s6a.trans sb'
      exact qT2 _ p1 p5 pb g2 p6 r hs _ vh vr dh dr Hb hD hG (s6b _ _ hH5) (sb' _ _ hg2) (hRg.same sb') h6 (houses_good (ns.getD (0 : Int).toNat 0) 12 (by decide)) (s6b _ _ hpb) (tvh.same s6b) (tvr.same s6b) dd hbad
    refine ⟨_, (pss_cons (ps_set (i := 1) scLaw.nd rfl (Or.inl rfl) (pe_call G__law_houses (hr.mono (by decide)) (by rfl) D__law_houses.at_ D__law_houses.fn.kp D__law_houses.bd .nil pass0 (pa_cons (pe_call G__law_at (hr.mono (by decide)) (by rfl) D__law_at.at_ D__law_at.fn.kp D__law_at.bd .nil pass0 (pa_cons (pv 0) (pa_cons pe_int pa_nil))) (pa_cons (pe_op op_add pe_int (pe_op op_mod (pe_call G__law_at (hr.mono (by decide)) (by rfl) D__law_at.at_ D__law_at.fn.kp D__law_at.bd .nil pass0 (pa_cons (pv 0) (pa_cons pe_int pa_nil))) pe_int)) pa_nil))))
      (pss_cons (ps_set (i := 2) scLaw.nd rfl (Or.inl rfl) (pe_call G__law_roads (hr.mono (by decide)) (by rfl) D__law_roads.at_ D__law_roads.fn.kp D__law_roads.bd .nil pass0 (pa_cons (pe_op op_cat (pe_lst (pa_cons (pe_call G__law_at (hr.mono (by decide)) (by rfl) D__law_at.at_ D__law_at.fn.kp D__law_at.bd .nil pass0 (pa_cons (pv 0) (pa_cons pe_int pa_nil))) pa_nil)) (pe_slice sl_list (pv 0) (po_some pe_int) (po_some pe_int))) (pa_cons (pv 1) (pa_cons pe_int pa_nil)))))
      (pss_cons (ps_set (i := 3) scLaw.nd rfl (Or.inl rfl) (pe_call G__law_spoiled (hr.mono (by decide)) (by rfl) D__law_spoiled.at_ D__law_spoiled.fn.kp D__law_spoiled.bd .nil pass0 (pa_cons (pv 0) (pa_cons (pv 1) (pa_cons (pv 2) pa_nil)))))
      hT))), ?_⟩
    have hm0 : 0 ≤ ns.getD (0 : Int).toNat 0 % 11 := Int.emod_nonneg _ (by decide)
    have hm1 : ns.getD (0 : Int).toNat 0 % 11 < 11 := Int.emod_lt_of_pos _ (by decide)
    refine ⟨_, rfl, a, ns, 0, rfl, hS, by decide, _, rfl, a, ns, 0, rfl, hS, by decide, _, _, rfl, rfl, (by show (0 : Int) < 11; decide), _, _, rfl, rfl, ns.getD (0 : Int).toNat 0, (2 + ns.getD (0 : Int).toNat 0 % 11).toNat, ?_, (by omega), fun p1 H1 np1 s1 h1 => ?_⟩
    · show [V.int _, V.int (2 + ns.getD (0 : Int).toNat 0 % 11)] = _
      rw [Int.toNat_of_nonneg (by omega)]
    have hG := houses_good (ns.getD (0 : Int).toNat 0) (2 + ns.getD (0 : Int).toNat 0 % 11).toNat (by omega)
    have hlen := houses_len (ns.getD (0 : Int).toNat 0) (2 + ns.getD (0 : Int).toNat 0 % 11).toNat (by omega)
    have h2 : 2 ≤ (housesL (ns.getD (0 : Int).toNat 0) (2 + ns.getD (0 : Int).toNat 0 % 11).toNat).length := by omega
    have hno : L "noshow" ∉ (housesL (ns.getD (0 : Int).toNat 0) (2 + ns.getD (0 : Int).toNat 0 % 11).toNat).map S := not_noshow
    clear hlen
    generalize housesL (ns.getD (0 : Int).toNat 0) (2 + ns.getD (0 : Int).toNat 0 % 11).toNat = hs at h1 hG h2 hno
    have hS1 := s1.seq hS
    have few := hG.few
    -- the roads
    refine ⟨_, rfl, a, ns, 3, rfl, hS1, by decide, (by show 1 ≤ sizeLine; decide), fun p2 np2 => ?_⟩
    have t2 := upd_free (o := .lst [V.int (ns.getD (3 : Int).toNat 0)]) np2
    refine ⟨_, rfl, _, rfl, _, rfl, a, _, rfl, t2.seq hS1, fun p3 np3 => ?_⟩
    have t3 := upd_free (o := .lst (cutV (ns.map V.int) (some 4) (some 42))) np3
    have cut : cutV (ns.map V.int) (some 4) (some 42) = ((ns.drop (HT.sIx (ns.map V.int).length 0 (some 4))).take (HT.sIx (ns.map V.int).length (ns.map V.int).length (some 42) - HT.sIx (ns.map V.int).length 0 (some 4))).map V.int := by
      unfold cutV
      rw [List.map_take, List.map_drop]
    have cl : ((ns.drop (HT.sIx (ns.map V.int).length 0 (some 4))).take (HT.sIx (ns.map V.int).length (ns.map V.int).length (some 42) - HT.sIx (ns.map V.int).length 0 (some 4))).length ≤ 38 := by
      rw [List.length_take, List.length_drop]
      have e1 := HT.sIx_nat (ns.map V.int).length 0 4
      have e2 := HT.sIx_nat (ns.map V.int).length (ns.map V.int).length 42
      have f1 : HT.sIx (ns.map V.int).length 0 (some 4) = min 4 (ns.map V.int).length := e1
      have f2 : HT.sIx (ns.map V.int).length (ns.map V.int).length (some 42) = min 42 (ns.map V.int).length := e2
      rw [f1, f2, List.length_map]
      omega
    have hp2 := t3 _ _ (upd_same (H := H1) (a := p2) (o := .lst [V.int (ns.getD (3 : Int).toNat 0)]))
    have hp3 := upd_same (H := upd H1 p2 (.lst [V.int (ns.getD (3 : Int).toNat 0)])) (a := p3) (o := .lst (cutV (ns.map V.int) (some 4) (some 42)))
    generalize ((ns.drop (HT.sIx (ns.map V.int).length 0 (some 4))).take (HT.sIx (ns.map V.int).length (ns.map V.int).length (some 42) - HT.sIx (ns.map V.int).length 0 (some 4))) = ms at cut cl
    rw [cut] at hp3
    refine ⟨p2, p3, _, _, rfl, rfl, hp2, (by rw [cut]; exact hp3), (by have := small1000 (n := 39) (by decide); rw [List.length_map]; show 1 + ms.length ≤ sizeLine; omega), fun p4 np4 => ?_⟩
    have t4 := upd_free (o := .lst ([V.int (ns.getD (3 : Int).toNat 0)] ++ ms.map V.int)) np4
    have hp4 := upd_same (H := upd (upd H1 p2 (.lst [V.int (ns.getD (3 : Int).toNat 0)])) p3 (.lst (cutV (ns.map V.int) (some 4) (some 42)))) (a := p4) (o := .lst ([V.int (ns.getD (3 : Int).toNat 0)] ++ ms.map V.int))
    have t14 := (t2.trans t3).trans t4
    generalize hH4 : upd (upd (upd H1 p2 (.lst [V.int (ns.getD (3 : Int).toNat 0)])) p3 (.lst (cutV (ns.map V.int) (some 4) (some 42)))) p4 (.lst ([V.int (ns.getD (3 : Int).toNat 0)] ++ ms.map V.int)) = H4 at hp4 t14
    have hp4' : H4 p4 = some (.lst ((ns.getD (3 : Int).toNat 0 :: ms).map V.int)) := hp4
    refine ⟨_, rfl, p4, p1, ns.getD (3 : Int).toNat 0 :: ms, hs, rfl, SqL.of hp4', SqL.of (t14 _ _ h1), few, (by show ms.length + 1 ≤ 40; omega), fun p5 H5 rs np5 s5' h5 ht5 => ?_⟩
    have s15 := t14.trans s5'
    have hH5 := s15 _ _ h1
    rw [roadsV_eq] at ht5
    have hR : RoadsAt H5 hs rs (rdsOf hs (ns.getD (3 : Int).toNat 0 :: ms)) := ⟨ht5, rdsOf_ok hs _⟩
    have hdl : (rdsOf hs (ns.getD (3 : Int).toNat 0 :: ms)).length = ms.length + 1 := by
      unfold rdsOf
      rw [if_pos (by omega), List.length_map]
      rfl
    have hfr : rs.length ≤ 40 := by
      have := hR.len
      omega
    have hd1 : 1 ≤ (rdsOf hs (ns.getD (3 : Int).toNat 0 :: ms)).length := by omega
    have hd40 : (rdsOf hs (ns.getD (3 : Int).toNat 0 :: ms)).length ≤ 40 := by omega
    clear hdl
    generalize rdsOf hs (ns.getD (3 : Int).toNat 0 :: ms) = ds at ht5 hR hd1 hd40
    have hS5 := s15.seq hS1
    -- spoiled
    have hThr : Th H5 (.ref p5) (.list (ds.map (rD hs))) := .lst h5 (by rw [refs_len]; omega) (ths_rD hG hR.tups hR.ok)
    refine ⟨_, rfl, _, rfl, _, rfl, a, ns, .ref p1, .ref p5, hs, ds, rfl, hS5, th_hD hG hH5, hThr, hG, h2, hd1, hd40, hR.ok, hno, not_empty hG, fun vb H6 s6 hb => ?_⟩
    obtain ⟨dh, dr, hb, hbad, dd⟩ := hb
    obtain ⟨pb, xs, rfl, hpb, _, tb⟩ := th_tup hb
    cases tb with
    | @cons vh _ _ _ tvh tb =>
      cases tb with
      | @cons vr _ _ _ tvr tb =>
        cases tb
        exact qT _ p1 p5 pb hs rs ds vh vr dh dr H6 rfl hG h2 (s6.seq hS5) (s6 _ _ hH5) (s6 _ _ h5) (hR.same s6) hfr hpb tvh tvr dd hbad
end
end K1
set_option Elab.async false
set_option linter.all false
set_option maxRecDepth 100000
set_option maxHeartbeats 4000000
namespace K1
open PySem L2 L3 M1
theorem len_1 {us : List Value} (h : us.length = 1) : ∃ a0, us = [a0] := by
  rcases us with _ | ⟨a0, _ | ⟨b, r⟩⟩
  · simp at h
  · exact ⟨a0, rfl⟩
  · simp at h
theorem len_2 {us : List Value} (h : us.length = 2) : ∃ a0 a1, us = [a0, a1] := by
  rcases us with _ | ⟨a0, _ | ⟨a1, _ | ⟨b, r⟩⟩⟩
  · simp at h
  · simp at h
  · exact ⟨a0, a1, rfl⟩
  · simp at h
theorem len_3 {us : List Value} (h : us.length = 3) : ∃ a0 a1 a2, us = [a0, a1, a2] := by
  rcases us with _ | ⟨a0, _ | ⟨a1, _ | ⟨a2, _ | ⟨b, r⟩⟩⟩⟩
  · simp at h
  · simp at h
  · simp at h
  · exact ⟨a0, a1, a2, rfl⟩
  · simp at h
theorem all_mk {l : PySem.W.OpenLaw} {w : World} {K : PySem.W.Frag} {h : Heap} {mg : Str → Option Value} {fa CNet fNet_init fNet_houses fNet_roads fis_whole fis_whole_within fis_tuple_of fare_unlike_houses fis_name fare_houses fis_road fare_roads f_law_at f_law_word f_law_houses f_law_roads f_law_bad_name f_law_bad_road f_law_spoiled f_law_refused flaw CRoadError CNoNet CBadBag CCutOff CManyGoals CNoDay CNoHouse CNoLetter CNoRoad CNoRow CNoText CNoWay : Addr} (X : K.In h) (G : h.Ns mainGlobals mg) (hfa : mg "law" = some (.ref fa))
    (aCNet : PySem.W.nsIn K mainGlobals "Net" = some (some (.ref CNet)))
    (pgNet : PySem.W.plainGet K CNet Str.empty = true) (hdNet : PySem.W.hasDictIn K CNet = true) (poNet : PySem.W.plainOver K CNet = true) (saNet : PySem.W.findIn K (.ref CNet) "__setattr__" = some (some (.builtin "object.__setattr__"))) (mkNet : PySem.W.makesIn K CNet = true) (kcNet : PySem.W.keepIn K (.ref CNet) = true)
    (nNet_kept_houses : PySem.W.findIn K (.ref CNet) "kept_houses" = some none)
    (nNet_kept_roads : PySem.W.findIn K (.ref CNet) "kept_roads" = some none)
    {odNet_init anNet_init : Option Addr} {slNet_init : Array (Option Value)} {ocNet_init kVNet_init dcNet_init pmNet_init cdNet_init ctNet_init : Value}
    (aNet_init : PySem.W.findIn K (.ref CNet) "__init__" = some (some (.ref fNet_init))) (iNet_init : PySem.W.isFn K (.ref fNet_init) = true)
    (lNet_init : K.lookup fNet_init = some ⟨ocNet_init, odNet_init, .func (PySem.W.fnOf "__init__" "Net.__init__" (defArgs sInit) (defBody sInit) (defScope sInit) .none kVNet_init dcNet_init pmNet_init anNet_init cdNet_init ctNet_init), slNet_init⟩) (cNet_init : PySem.W.codeIn K cdNet_init "Net.__init__" = true) (kNet_init : PySem.W.keepIn K (.ref fNet_init) = true)
    {odNet_houses anNet_houses : Option Addr} {slNet_houses : Array (Option Value)} {ocNet_houses kVNet_houses dcNet_houses pmNet_houses cdNet_houses ctNet_houses : Value}
    (aNet_houses : PySem.W.findIn K (.ref CNet) "houses" = some (some (.ref fNet_houses))) (iNet_houses : PySem.W.isFn K (.ref fNet_houses) = true)
    (lNet_houses : K.lookup fNet_houses = some ⟨ocNet_houses, odNet_houses, .func (PySem.W.fnOf "houses" "Net.houses" (defArgs sHousesM) (defBody sHousesM) (defScope sHousesM) .none kVNet_houses dcNet_houses pmNet_houses anNet_houses cdNet_houses ctNet_houses), slNet_houses⟩) (cNet_houses : PySem.W.codeIn K cdNet_houses "Net.houses" = true) (kNet_houses : PySem.W.keepIn K (.ref fNet_houses) = true)
    {odNet_roads anNet_roads : Option Addr} {slNet_roads : Array (Option Value)} {ocNet_roads kVNet_roads dcNet_roads pmNet_roads cdNet_roads ctNet_roads : Value}
    (aNet_roads : PySem.W.findIn K (.ref CNet) "roads" = some (some (.ref fNet_roads))) (iNet_roads : PySem.W.isFn K (.ref fNet_roads) = true)
    (lNet_roads : K.lookup fNet_roads = some ⟨ocNet_roads, odNet_roads, .func (PySem.W.fnOf "roads" "Net.roads" (defArgs sRoadsM) (defBody sRoadsM) (defScope sRoadsM) .none kVNet_roads dcNet_roads pmNet_roads anNet_roads cdNet_roads ctNet_roads), slNet_roads⟩) (cNet_roads : PySem.W.codeIn K cdNet_roads "Net.roads" = true) (kNet_roads : PySem.W.keepIn K (.ref fNet_roads) = true)
    {odis_whole anis_whole : Option Addr} {slis_whole : Array (Option Value)} {ocis_whole kVis_whole dcis_whole pmis_whole cdis_whole ctis_whole : Value}
    (ais_whole : PySem.W.nsIn K mainGlobals "is_whole" = some (some (.ref fis_whole)))
    (lis_whole : K.lookup fis_whole = some ⟨ocis_whole, odis_whole, .func (PySem.W.fnOf "is_whole" "is_whole" (defArgs sWhole) (defBody sWhole) (defScope sWhole) .none kVis_whole dcis_whole pmis_whole anis_whole cdis_whole ctis_whole), slis_whole⟩) (cis_whole : PySem.W.codeIn K cdis_whole "is_whole" = true) (kis_whole : PySem.W.keepIn K (.ref fis_whole) = true)
    {odis_whole_within anis_whole_within : Option Addr} {slis_whole_within : Array (Option Value)} {ocis_whole_within kVis_whole_within dcis_whole_within pmis_whole_within cdis_whole_within ctis_whole_within : Value}
    (ais_whole_within : PySem.W.nsIn K mainGlobals "is_whole_within" = some (some (.ref fis_whole_within)))
    (lis_whole_within : K.lookup fis_whole_within = some ⟨ocis_whole_within, odis_whole_within, .func (PySem.W.fnOf "is_whole_within" "is_whole_within" (defArgs sWithin) (defBody sWithin) (defScope sWithin) .none kVis_whole_within dcis_whole_within pmis_whole_within anis_whole_within cdis_whole_within ctis_whole_within), slis_whole_within⟩) (cis_whole_within : PySem.W.codeIn K cdis_whole_within "is_whole_within" = true) (kis_whole_within : PySem.W.keepIn K (.ref fis_whole_within) = true)
    {odis_tuple_of anis_tuple_of : Option Addr} {slis_tuple_of : Array (Option Value)} {ocis_tuple_of kVis_tuple_of dcis_tuple_of pmis_tuple_of cdis_tuple_of ctis_tuple_of : Value}
    (ais_tuple_of : PySem.W.nsIn K mainGlobals "is_tuple_of" = some (some (.ref fis_tuple_of)))
    (lis_tuple_of : K.lookup fis_tuple_of = some ⟨ocis_tuple_of, odis_tuple_of, .func (PySem.W.fnOf "is_tuple_of" "is_tuple_of" (defArgs sTupOf) (defBody sTupOf) (defScope sTupOf) .none kVis_tuple_of dcis_tuple_of pmis_tuple_of anis_tuple_of cdis_tuple_of ctis_tuple_of), slis_tuple_of⟩) (cis_tuple_of : PySem.W.codeIn K cdis_tuple_of "is_tuple_of" = true) (kis_tuple_of : PySem.W.keepIn K (.ref fis_tuple_of) = true)
    {odare_unlike_houses anare_unlike_houses : Option Addr} {slare_unlike_houses : Array (Option Value)} {ocare_unlike_houses kVare_unlike_houses dcare_unlike_houses pmare_unlike_houses cdare_unlike_houses ctare_unlike_houses : Value}
    (aare_unlike_houses : PySem.W.nsIn K mainGlobals "are_unlike_houses" = some (some (.ref fare_unlike_houses)))
    (lare_unlike_houses : K.lookup fare_unlike_houses = some ⟨ocare_unlike_houses, odare_unlike_houses, .func (PySem.W.fnOf "are_unlike_houses" "are_unlike_houses" (defArgs sUnlike) (defBody sUnlike) (defScope sUnlike) .none kVare_unlike_houses dcare_unlike_houses pmare_unlike_houses anare_unlike_houses cdare_unlike_houses ctare_unlike_houses), slare_unlike_houses⟩) (care_unlike_houses : PySem.W.codeIn K cdare_unlike_houses "are_unlike_houses" = true) (kare_unlike_houses : PySem.W.keepIn K (.ref fare_unlike_houses) = true)
    {odis_name anis_name : Option Addr} {slis_name : Array (Option Value)} {ocis_name kVis_name dcis_name pmis_name cdis_name ctis_name : Value}
    (ais_name : PySem.W.nsIn K mainGlobals "is_name" = some (some (.ref fis_name)))
    (lis_name : K.lookup fis_name = some ⟨ocis_name, odis_name, .func (PySem.W.fnOf "is_name" "is_name" (defArgs sName) (defBody sName) (defScope sName) .none kVis_name dcis_name pmis_name anis_name cdis_name ctis_name), slis_name⟩) (cis_name : PySem.W.codeIn K cdis_name "is_name" = true) (kis_name : PySem.W.keepIn K (.ref fis_name) = true)
    {odare_houses anare_houses : Option Addr} {slare_houses : Array (Option Value)} {ocare_houses kVare_houses dcare_houses pmare_houses cdare_houses ctare_houses : Value}
    (aare_houses : PySem.W.nsIn K mainGlobals "are_houses" = some (some (.ref fare_houses)))
    (lare_houses : K.lookup fare_houses = some ⟨ocare_houses, odare_houses, .func (PySem.W.fnOf "are_houses" "are_houses" (defArgs sAreH) (defBody sAreH) (defScope sAreH) .none kVare_houses dcare_houses pmare_houses anare_houses cdare_houses ctare_houses), slare_houses⟩) (care_houses : PySem.W.codeIn K cdare_houses "are_houses" = true) (kare_houses : PySem.W.keepIn K (.ref fare_houses) = true)
    {odis_road anis_road : Option Addr} {slis_road : Array (Option Value)} {ocis_road kVis_road dcis_road pmis_road cdis_road ctis_road : Value}
    (ais_road : PySem.W.nsIn K mainGlobals "is_road" = some (some (.ref fis_road)))
    (lis_road : K.lookup fis_road = some ⟨ocis_road, odis_road, .func (PySem.W.fnOf "is_road" "is_road" (defArgs sRoad) (defBody sRoad) (defScope sRoad) .none kVis_road dcis_road pmis_road anis_road cdis_road ctis_road), slis_road⟩) (cis_road : PySem.W.codeIn K cdis_road "is_road" = true) (kis_road : PySem.W.keepIn K (.ref fis_road) = true)
    {odare_roads anare_roads : Option Addr} {slare_roads : Array (Option Value)} {ocare_roads kVare_roads dcare_roads pmare_roads cdare_roads ctare_roads : Value}
    (aare_roads : PySem.W.nsIn K mainGlobals "are_roads" = some (some (.ref fare_roads)))
    (lare_roads : K.lookup fare_roads = some ⟨ocare_roads, odare_roads, .func (PySem.W.fnOf "are_roads" "are_roads" (defArgs sAreR) (defBody sAreR) (defScope sAreR) .none kVare_roads dcare_roads pmare_roads anare_roads cdare_roads ctare_roads), slare_roads⟩) (care_roads : PySem.W.codeIn K cdare_roads "are_roads" = true) (kare_roads : PySem.W.keepIn K (.ref fare_roads) = true)
    {od_law_at an_law_at : Option Addr} {sl_law_at : Array (Option Value)} {oc_law_at kV_law_at dc_law_at pm_law_at cd_law_at ct_law_at : Value}
    (a_law_at : PySem.W.nsIn K mainGlobals "_law_at" = some (some (.ref f_law_at)))
    (l_law_at : K.lookup f_law_at = some ⟨oc_law_at, od_law_at, .func (PySem.W.fnOf "_law_at" "_law_at" (defArgs sAt) (defBody sAt) (defScope sAt) .none kV_law_at dc_law_at pm_law_at an_law_at cd_law_at ct_law_at), sl_law_at⟩) (c_law_at : PySem.W.codeIn K cd_law_at "_law_at" = true) (k_law_at : PySem.W.keepIn K (.ref f_law_at) = true)
    {od_law_word an_law_word : Option Addr} {sl_law_word : Array (Option Value)} {oc_law_word kV_law_word dc_law_word pm_law_word cd_law_word ct_law_word : Value}
    (a_law_word : PySem.W.nsIn K mainGlobals "_law_word" = some (some (.ref f_law_word)))
    (l_law_word : K.lookup f_law_word = some ⟨oc_law_word, od_law_word, .func (PySem.W.fnOf "_law_word" "_law_word" (defArgs sWord) (defBody sWord) (defScope sWord) .none kV_law_word dc_law_word pm_law_word an_law_word cd_law_word ct_law_word), sl_law_word⟩) (c_law_word : PySem.W.codeIn K cd_law_word "_law_word" = true) (k_law_word : PySem.W.keepIn K (.ref f_law_word) = true)
    {od_law_houses an_law_houses : Option Addr} {sl_law_houses : Array (Option Value)} {oc_law_houses kV_law_houses dc_law_houses pm_law_houses cd_law_houses ct_law_houses : Value}
    (a_law_houses : PySem.W.nsIn K mainGlobals "_law_houses" = some (some (.ref f_law_houses)))
    (l_law_houses : K.lookup f_law_houses = some ⟨oc_law_houses, od_law_houses, .func (PySem.W.fnOf "_law_houses" "_law_houses" (defArgs sHouses) (defBody sHouses) (defScope sHouses) .none kV_law_houses dc_law_houses pm_law_houses an_law_houses cd_law_houses ct_law_houses), sl_law_houses⟩) (c_law_houses : PySem.W.codeIn K cd_law_houses "_law_houses" = true) (k_law_houses : PySem.W.keepIn K (.ref f_law_houses) = true)
    {od_law_roads an_law_roads : Option Addr} {sl_law_roads : Array (Option Value)} {oc_law_roads kV_law_roads dc_law_roads pm_law_roads cd_law_roads ct_law_roads : Value}
    (a_law_roads : PySem.W.nsIn K mainGlobals "_law_roads" = some (some (.ref f_law_roads)))
    (l_law_roads : K.lookup f_law_roads = some ⟨oc_law_roads, od_law_roads, .func (PySem.W.fnOf "_law_roads" "_law_roads" (defArgs sRoads) (defBody sRoads) (defScope sRoads) .none kV_law_roads dc_law_roads pm_law_roads an_law_roads cd_law_roads ct_law_roads), sl_law_roads⟩) (c_law_roads : PySem.W.codeIn K cd_law_roads "_law_roads" = true) (k_law_roads : PySem.W.keepIn K (.ref f_law_roads) = true)
    {od_law_bad_name an_law_bad_name : Option Addr} {sl_law_bad_name : Array (Option Value)} {oc_law_bad_name kV_law_bad_name dc_law_bad_name pm_law_bad_name cd_law_bad_name ct_law_bad_name : Value}
    (a_law_bad_name : PySem.W.nsIn K mainGlobals "_law_bad_name" = some (some (.ref f_law_bad_name)))
    (l_law_bad_name : K.lookup f_law_bad_name = some ⟨oc_law_bad_name, od_law_bad_name, .func (PySem.W.fnOf "_law_bad_name" "_law_bad_name" (defArgs sBadN) (defBody sBadN) (defScope sBadN) .none kV_law_bad_name dc_law_bad_name pm_law_bad_name an_law_bad_name cd_law_bad_name ct_law_bad_name), sl_law_bad_name⟩) (c_law_bad_name : PySem.W.codeIn K cd_law_bad_name "_law_bad_name" = true) (k_law_bad_name : PySem.W.keepIn K (.ref f_law_bad_name) = true)
    {od_law_bad_road an_law_bad_road : Option Addr} {sl_law_bad_road : Array (Option Value)} {oc_law_bad_road kV_law_bad_road dc_law_bad_road pm_law_bad_road cd_law_bad_road ct_law_bad_road : Value}
    (a_law_bad_road : PySem.W.nsIn K mainGlobals "_law_bad_road" = some (some (.ref f_law_bad_road)))
    (l_law_bad_road : K.lookup f_law_bad_road = some ⟨oc_law_bad_road, od_law_bad_road, .func (PySem.W.fnOf "_law_bad_road" "_law_bad_road" (defArgs sBadR) (defBody sBadR) (defScope sBadR) .none kV_law_bad_road dc_law_bad_road pm_law_bad_road an_law_bad_road cd_law_bad_road ct_law_bad_road), sl_law_bad_road⟩) (c_law_bad_road : PySem.W.codeIn K cd_law_bad_road "_law_bad_road" = true) (k_law_bad_road : PySem.W.keepIn K (.ref f_law_bad_road) = true)
    {od_law_spoiled an_law_spoiled : Option Addr} {sl_law_spoiled : Array (Option Value)} {oc_law_spoiled kV_law_spoiled dc_law_spoiled pm_law_spoiled cd_law_spoiled ct_law_spoiled : Value}
    (a_law_spoiled : PySem.W.nsIn K mainGlobals "_law_spoiled" = some (some (.ref f_law_spoiled)))
    (l_law_spoiled : K.lookup f_law_spoiled = some ⟨oc_law_spoiled, od_law_spoiled, .func (PySem.W.fnOf "_law_spoiled" "_law_spoiled" (defArgs sSpoil) (defBody sSpoil) (defScope sSpoil) .none kV_law_spoiled dc_law_spoiled pm_law_spoiled an_law_spoiled cd_law_spoiled ct_law_spoiled), sl_law_spoiled⟩) (c_law_spoiled : PySem.W.codeIn K cd_law_spoiled "_law_spoiled" = true) (k_law_spoiled : PySem.W.keepIn K (.ref f_law_spoiled) = true)
    {od_law_refused an_law_refused : Option Addr} {sl_law_refused : Array (Option Value)} {oc_law_refused kV_law_refused dc_law_refused pm_law_refused cd_law_refused ct_law_refused : Value}
    (a_law_refused : PySem.W.nsIn K mainGlobals "_law_refused" = some (some (.ref f_law_refused)))
    (l_law_refused : K.lookup f_law_refused = some ⟨oc_law_refused, od_law_refused, .func (PySem.W.fnOf "_law_refused" "_law_refused" (defArgs sRefused) (defBody sRefused) (defScope sRefused) .none kV_law_refused dc_law_refused pm_law_refused an_law_refused cd_law_refused ct_law_refused), sl_law_refused⟩) (c_law_refused : PySem.W.codeIn K cd_law_refused "_law_refused" = true) (k_law_refused : PySem.W.keepIn K (.ref f_law_refused) = true)
    {odlaw anlaw : Option Addr} {sllaw : Array (Option Value)} {oclaw kVlaw dclaw pmlaw cdlaw ctlaw : Value}
    (alaw : PySem.W.nsIn K mainGlobals "law" = some (some (.ref flaw)))
    (llaw : K.lookup flaw = some ⟨oclaw, odlaw, .func (PySem.W.fnOf "law" "law" (defArgs sLaw) (defBody sLaw) (defScope sLaw) .none kVlaw dclaw pmlaw anlaw cdlaw ctlaw), sllaw⟩) (claw : PySem.W.codeIn K cdlaw "law" = true) (klaw : PySem.W.keepIn K (.ref flaw) = true)
    {ddRoadError : Option Addr} {cdRoadError : ClassData} {slRoadError : Array (Option Value)} (aCRoadError : PySem.W.nsIn K mainGlobals "RoadError" = some (some (.ref CRoadError))) (lCRoadError : K.lookup CRoadError = some ⟨.type "type", ddRoadError, .cls cdRoadError, slRoadError⟩)
    {ddNoNet : Option Addr} {cdNoNet : ClassData} {slNoNet : Array (Option Value)} (aCNoNet : PySem.W.nsIn K mainGlobals "NoNet" = some (some (.ref CNoNet))) (lCNoNet : K.lookup CNoNet = some ⟨.type "type", ddNoNet, .cls cdNoNet, slNoNet⟩)
    {ddBadBag : Option Addr} {cdBadBag : ClassData} {slBadBag : Array (Option Value)} (aCBadBag : PySem.W.nsIn K mainGlobals "BadBag" = some (some (.ref CBadBag))) (lCBadBag : K.lookup CBadBag = some ⟨.type "type", ddBadBag, .cls cdBadBag, slBadBag⟩)
    {ddCutOff : Option Addr} {cdCutOff : ClassData} {slCutOff : Array (Option Value)} (aCCutOff : PySem.W.nsIn K mainGlobals "CutOff" = some (some (.ref CCutOff))) (lCCutOff : K.lookup CCutOff = some ⟨.type "type", ddCutOff, .cls cdCutOff, slCutOff⟩)
    {ddManyGoals : Option Addr} {cdManyGoals : ClassData} {slManyGoals : Array (Option Value)} (aCManyGoals : PySem.W.nsIn K mainGlobals "ManyGoals" = some (some (.ref CManyGoals))) (lCManyGoals : K.lookup CManyGoals = some ⟨.type "type", ddManyGoals, .cls cdManyGoals, slManyGoals⟩)
    {ddNoDay : Option Addr} {cdNoDay : ClassData} {slNoDay : Array (Option Value)} (aCNoDay : PySem.W.nsIn K mainGlobals "NoDay" = some (some (.ref CNoDay))) (lCNoDay : K.lookup CNoDay = some ⟨.type "type", ddNoDay, .cls cdNoDay, slNoDay⟩)
    {ddNoHouse : Option Addr} {cdNoHouse : ClassData} {slNoHouse : Array (Option Value)} (aCNoHouse : PySem.W.nsIn K mainGlobals "NoHouse" = some (some (.ref CNoHouse))) (lCNoHouse : K.lookup CNoHouse = some ⟨.type "type", ddNoHouse, .cls cdNoHouse, slNoHouse⟩)
    {ddNoLetter : Option Addr} {cdNoLetter : ClassData} {slNoLetter : Array (Option Value)} (aCNoLetter : PySem.W.nsIn K mainGlobals "NoLetter" = some (some (.ref CNoLetter))) (lCNoLetter : K.lookup CNoLetter = some ⟨.type "type", ddNoLetter, .cls cdNoLetter, slNoLetter⟩)
    {ddNoRoad : Option Addr} {cdNoRoad : ClassData} {slNoRoad : Array (Option Value)} (aCNoRoad : PySem.W.nsIn K mainGlobals "NoRoad" = some (some (.ref CNoRoad))) (lCNoRoad : K.lookup CNoRoad = some ⟨.type "type", ddNoRoad, .cls cdNoRoad, slNoRoad⟩)
    {ddNoRow : Option Addr} {cdNoRow : ClassData} {slNoRow : Array (Option Value)} (aCNoRow : PySem.W.nsIn K mainGlobals "NoRow" = some (some (.ref CNoRow))) (lCNoRow : K.lookup CNoRow = some ⟨.type "type", ddNoRow, .cls cdNoRow, slNoRow⟩)
    {ddNoText : Option Addr} {cdNoText : ClassData} {slNoText : Array (Option Value)} (aCNoText : PySem.W.nsIn K mainGlobals "NoText" = some (some (.ref CNoText))) (lCNoText : K.lookup CNoText = some ⟨.type "type", ddNoText, .cls cdNoText, slNoText⟩)
    {ddNoWay : Option Addr} {cdNoWay : ClassData} {slNoWay : Array (Option Value)} (aCNoWay : PySem.W.nsIn K mainGlobals "NoWay" = some (some (.ref CNoWay))) (lCNoWay : K.lookup CNoWay = some ⟨.type "type", ddNoWay, .cls cdNoWay, slNoWay⟩)
    (xiNoNet : PySem.W.excIn K CNoNet [.type "ValueError", .type "Exception", .type "BaseException", .type "object"] "ValueError.__new__" = true)
    (xsRoadError_RoadError : excChk cdRoadError slRoadError CRoadError CRoadError = true)
    (xsNoNet_RoadError : excChk cdNoNet slNoNet CNoNet CRoadError = true)
    {tMOST_HOUSES : Tok} (vMOST_HOUSES : PySem.W.nsIn K mainGlobals "MOST_HOUSES" = some (some (.int 12 tMOST_HOUSES)))
    {tMOST_ROADS : Tok} (vMOST_ROADS : PySem.W.nsIn K mainGlobals "MOST_ROADS" = some (some (.int 40 tMOST_ROADS)))
    {tMOST_SIGNS : Tok} (vMOST_SIGNS : PySem.W.nsIn K mainGlobals "MOST_SIGNS" = some (some (.int 8 tMOST_SIGNS)))
    {tMOST_TURNS : Tok} (vMOST_TURNS : PySem.W.nsIn K mainGlobals "MOST_TURNS" = some (some (.int 9 tMOST_TURNS)))
    {tMOST_ROOM : Tok} (vMOST_ROOM : PySem.W.nsIn K mainGlobals "MOST_ROOM" = some (some (.int 1000000000 tMOST_ROOM)))
    (zlen : PySem.W.nsIn K mainGlobals "len" = some none)
    (zrange : PySem.W.nsIn K mainGlobals "range" = some none)
    (zisinstance : PySem.W.nsIn K mainGlobals "isinstance" = some none)
    (zall : PySem.W.nsIn K mainGlobals "all" = some none)
    (zint : PySem.W.nsIn K mainGlobals "int" = some none)
    (zbool : PySem.W.nsIn K mainGlobals "bool" = some none)
    (zstr : PySem.W.nsIn K mainGlobals "str" = some none)
    (zlist : PySem.W.nsIn K mainGlobals "list" = some none)
    (ztuple : PySem.W.nsIn K mainGlobals "tuple" = some none)
    (zset : PySem.W.nsIn K mainGlobals "set" = some none)
    (zValueError : PySem.W.nsIn K mainGlobals "ValueError" = some none)
    (zenumerate : PySem.W.nsIn K mainGlobals "enumerate" = some none)
    (zmax : PySem.W.nsIn K mainGlobals "max" = some none)
    (zmin : PySem.W.nsIn K mainGlobals "min" = some none)
    (zsum : PySem.W.nsIn K mainGlobals "sum" = some none)
    (zany : PySem.W.nsIn K mainGlobals "any" = some none)
    (zdict : PySem.W.nsIn K mainGlobals "dict" = some none)
    (zsorted : PySem.W.nsIn K mainGlobals "sorted" = some none)
    (zzip : PySem.W.nsIn K mainGlobals "zip" = some none)
    (isNH : PySem.W.isIn K (.ref CNoNet) CNoNet = true)
    (suNH : PySem.W.subIn K (.ref CNoNet) (.type "ValueError") = some true)
    (gaNoNet : PySem.W.findIn K (.ref CNoNet) "__getattribute__" = some (some (.builtin "BaseException.__getattribute__")))
    (noNoNet : PySem.W.findIn K (.ref CNoNet) "__getattr__" = some none)
    (haNoNet : PySem.W.findIn K (.ref CNoNet) "__class__" = some (some (.builtin "object.__class__")))
    (hnNoNet : PySem.W.specialIn K (.builtin "object.__class__") "__get__" = some (some (.builtin "getset_descriptor.__get__")))
    (htNoNet : PySem.W.takesIn K (.builtin "object.__class__") = some true)
    (hmNoNet : PySem.W.mroIn K CNoNet (.type "object") = some true)
    (hbNoNet : PySem.W.mroIn K CNoNet (.type "BaseException") = some true)
    (naNoNet : notAmong CNoNet cdNoNet [CBadBag, CCutOff, CManyGoals, CNoDay, CNoHouse, CNoLetter, CNoRoad, CNoRow, CNoText, CNoWay] = true) :
    ∃ fd : FuncData, (∀ (s : Shared) (v : Value), BindsTo s fd ⟨[v], []⟩ [("_law_script", v)]) ∧ ∀ base : Heap, K.In base → base.Ns mainGlobals mg → FnOk l.prog w K mg base CX0 8 fa fd ["_law_script"] (spLaw K) := by
  have e := hfa.symm.trans (PySem.W.mg_of X G alaw)
  cases e
  have Cl_Net : Cls K CNet := ⟨pgNet, hdNet, poNet, saNet⟩
  have at_Net := PySem.W.mg_of X G aCNet
  have FNet_init := fun_mk (st := sInit) lNet_init cNet_init kNet_init
  have bNet_init := FNet_init.binds (ps := ["self", "houses", "roads"]) fun _ _ _ _ _ _ us hl => by (obtain ⟨_, _, _, rfl⟩ := len_3 hl); rfl
  have Mk_Net : Mk K CNet fNet_init := ⟨mkNet, aNet_init, iNet_init, kcNet⟩
  have D_Net_init : Inn K CNet "Net.__init__" sInit ["self", "houses", "roads"] fNet_init _ := ⟨FNet_init, Mk_Net, bNet_init⟩
  have FNet_houses := fun_mk (st := sHousesM) lNet_houses cNet_houses kNet_houses
  have bNet_houses := FNet_houses.binds (ps := ["self"]) fun _ _ _ _ _ _ us hl => by (obtain ⟨_, rfl⟩ := len_1 hl); rfl
  have M_Net_houses : Mn K CNet "houses" "Net.houses" sHousesM ["self"] fNet_houses _ := ⟨FNet_houses, ⟨aNet_houses, iNet_houses, kNet_houses⟩, bNet_houses⟩
  have FNet_roads := fun_mk (st := sRoadsM) lNet_roads cNet_roads kNet_roads
  have bNet_roads := FNet_roads.binds (ps := ["self"]) fun _ _ _ _ _ _ us hl => by (obtain ⟨_, rfl⟩ := len_1 hl); rfl
  have M_Net_roads : Mn K CNet "roads" "Net.roads" sRoadsM ["self"] fNet_roads _ := ⟨FNet_roads, ⟨aNet_roads, iNet_roads, kNet_roads⟩, bNet_roads⟩
  have Fis_whole := fun_mk (st := sWhole) lis_whole cis_whole kis_whole
  have bis_whole := Fis_whole.binds (ps := ["thing"]) fun _ _ _ _ _ _ us hl => by (obtain ⟨_, rfl⟩ := len_1 hl); rfl
  have D_is_whole : Dn K mg "is_whole" sWhole ["thing"] fis_whole _ := ⟨Fis_whole, PySem.W.mg_of X G ais_whole, bis_whole⟩
  have Fis_whole_within := fun_mk (st := sWithin) lis_whole_within cis_whole_within kis_whole_within
  have bis_whole_within := Fis_whole_within.binds (ps := ["thing", "least", "greatest"]) fun _ _ _ _ _ _ us hl => by (obtain ⟨_, _, _, rfl⟩ := len_3 hl); rfl
  have D_is_whole_within : Dn K mg "is_whole_within" sWithin ["thing", "least", "greatest"] fis_whole_within _ := ⟨Fis_whole_within, PySem.W.mg_of X G ais_whole_within, bis_whole_within⟩
  have Fis_tuple_of := fun_mk (st := sTupOf) lis_tuple_of cis_tuple_of kis_tuple_of
  have bis_tuple_of := Fis_tuple_of.binds (ps := ["thing", "length"]) fun _ _ _ _ _ _ us hl => by (obtain ⟨_, _, rfl⟩ := len_2 hl); rfl
  have D_is_tuple_of : Dn K mg "is_tuple_of" sTupOf ["thing", "length"] fis_tuple_of _ := ⟨Fis_tuple_of, PySem.W.mg_of X G ais_tuple_of, bis_tuple_of⟩
  have Fare_unlike_houses := fun_mk (st := sUnlike) lare_unlike_houses care_unlike_houses kare_unlike_houses
  have bare_unlike_houses := Fare_unlike_houses.binds (ps := ["houses", "one", "other"]) fun _ _ _ _ _ _ us hl => by (obtain ⟨_, _, _, rfl⟩ := len_3 hl); rfl
  have D_are_unlike_houses : Dn K mg "are_unlike_houses" sUnlike ["houses", "one", "other"] fare_unlike_houses _ := ⟨Fare_unlike_houses, PySem.W.mg_of X G aare_unlike_houses, bare_unlike_houses⟩
  have Fis_name := fun_mk (st := sName) lis_name cis_name kis_name
  have bis_name := Fis_name.binds (ps := ["thing"]) fun _ _ _ _ _ _ us hl => by (obtain ⟨_, rfl⟩ := len_1 hl); rfl
  have D_is_name : Dn K mg "is_name" sName ["thing"] fis_name _ := ⟨Fis_name, PySem.W.mg_of X G ais_name, bis_name⟩
  have Fare_houses := fun_mk (st := sAreH) lare_houses care_houses kare_houses
  have bare_houses := Fare_houses.binds (ps := ["things"]) fun _ _ _ _ _ _ us hl => by (obtain ⟨_, rfl⟩ := len_1 hl); rfl
  have D_are_houses : Dn K mg "are_houses" sAreH ["things"] fare_houses _ := ⟨Fare_houses, PySem.W.mg_of X G aare_houses, bare_houses⟩
  have Fis_road := fun_mk (st := sRoad) lis_road cis_road kis_road
  have bis_road := Fis_road.binds (ps := ["houses", "thing"]) fun _ _ _ _ _ _ us hl => by (obtain ⟨_, _, rfl⟩ := len_2 hl); rfl
  have D_is_road : Dn K mg "is_road" sRoad ["houses", "thing"] fis_road _ := ⟨Fis_road, PySem.W.mg_of X G ais_road, bis_road⟩
  have Fare_roads := fun_mk (st := sAreR) lare_roads care_roads kare_roads
  have bare_roads := Fare_roads.binds (ps := ["houses", "things"]) fun _ _ _ _ _ _ us hl => by (obtain ⟨_, _, rfl⟩ := len_2 hl); rfl
  have D_are_roads : Dn K mg "are_roads" sAreR ["houses", "things"] fare_roads _ := ⟨Fare_roads, PySem.W.mg_of X G aare_roads, bare_roads⟩
  have F_law_at := fun_mk (st := sAt) l_law_at c_law_at k_law_at
  have b_law_at := F_law_at.binds (ps := ["_law_script", "_law_k"]) fun _ _ _ _ _ _ us hl => by (obtain ⟨_, _, rfl⟩ := len_2 hl); rfl
  have D__law_at : Dn K mg "_law_at" sAt ["_law_script", "_law_k"] f_law_at _ := ⟨F_law_at, PySem.W.mg_of X G a_law_at, b_law_at⟩
  have F_law_word := fun_mk (st := sWord) l_law_word c_law_word k_law_word
  have b_law_word := F_law_word.binds (ps := ["_law_cell"]) fun _ _ _ _ _ _ us hl => by (obtain ⟨_, rfl⟩ := len_1 hl); rfl
  have D__law_word : Dn K mg "_law_word" sWord ["_law_cell"] f_law_word _ := ⟨F_law_word, PySem.W.mg_of X G a_law_word, b_law_word⟩
  have F_law_houses := fun_mk (st := sHouses) l_law_houses c_law_houses k_law_houses
  have b_law_houses := F_law_houses.binds (ps := ["_law_cell", "_law_many"]) fun _ _ _ _ _ _ us hl => by (obtain ⟨_, _, rfl⟩ := len_2 hl); rfl
  have D__law_houses : Dn K mg "_law_houses" sHouses ["_law_cell", "_law_many"] f_law_houses _ := ⟨F_law_houses, PySem.W.mg_of X G a_law_houses, b_law_houses⟩
  have F_law_roads := fun_mk (st := sRoads) l_law_roads c_law_roads k_law_roads
  have b_law_roads := F_law_roads.binds (ps := ["_law_cells", "_law_houses_here", "_law_long"]) fun _ _ _ _ _ _ us hl => by (obtain ⟨_, _, _, rfl⟩ := len_3 hl); rfl
  have D__law_roads : Dn K mg "_law_roads" sRoads ["_law_cells", "_law_houses_here", "_law_long"] f_law_roads _ := ⟨F_law_roads, PySem.W.mg_of X G a_law_roads, b_law_roads⟩
  have F_law_bad_name := fun_mk (st := sBadN) l_law_bad_name c_law_bad_name k_law_bad_name
  have b_law_bad_name := F_law_bad_name.binds (ps := ["_law_cell", "_law_houses_here", "_law_at_here"]) fun _ _ _ _ _ _ us hl => by (obtain ⟨_, _, _, rfl⟩ := len_3 hl); rfl
  have D__law_bad_name : Dn K mg "_law_bad_name" sBadN ["_law_cell", "_law_houses_here", "_law_at_here"] f_law_bad_name _ := ⟨F_law_bad_name, PySem.W.mg_of X G a_law_bad_name, b_law_bad_name⟩
  have F_law_bad_road := fun_mk (st := sBadR) l_law_bad_road c_law_bad_road k_law_bad_road
  have b_law_bad_road := F_law_bad_road.binds (ps := ["_law_cell", "_law_road"]) fun _ _ _ _ _ _ us hl => by (obtain ⟨_, _, rfl⟩ := len_2 hl); rfl
  have D__law_bad_road : Dn K mg "_law_bad_road" sBadR ["_law_cell", "_law_road"] f_law_bad_road _ := ⟨F_law_bad_road, PySem.W.mg_of X G a_law_bad_road, b_law_bad_road⟩
  have F_law_spoiled := fun_mk (st := sSpoil) l_law_spoiled c_law_spoiled k_law_spoiled
  have b_law_spoiled := F_law_spoiled.binds (ps := ["_law_script", "_law_houses_here", "_law_roads_here"]) fun _ _ _ _ _ _ us hl => by (obtain ⟨_, _, _, rfl⟩ := len_3 hl); rfl
  have D__law_spoiled : Dn K mg "_law_spoiled" sSpoil ["_law_script", "_law_houses_here", "_law_roads_here"] f_law_spoiled _ := ⟨F_law_spoiled, PySem.W.mg_of X G a_law_spoiled, b_law_spoiled⟩
  have F_law_refused := fun_mk (st := sRefused) l_law_refused c_law_refused k_law_refused
  have b_law_refused := F_law_refused.binds (ps := ["_law_houses_here", "_law_roads_here"]) fun _ _ _ _ _ _ us hl => by (obtain ⟨_, _, rfl⟩ := len_2 hl); rfl
  have D__law_refused : Dn K mg "_law_refused" sRefused ["_law_houses_here", "_law_roads_here"] f_law_refused _ := ⟨F_law_refused, PySem.W.mg_of X G a_law_refused, b_law_refused⟩
  have Flaw := fun_mk (st := sLaw) llaw claw klaw
  have blaw := Flaw.binds (ps := ["_law_script"]) fun _ _ _ _ _ _ us hl => by (obtain ⟨_, rfl⟩ := len_1 hl); rfl
  have at_RoadError := PySem.W.mg_of X G aCRoadError
  have at_NoNet := PySem.W.mg_of X G aCNoNet
  have at_BadBag := PySem.W.mg_of X G aCBadBag
  have at_CutOff := PySem.W.mg_of X G aCCutOff
  have at_ManyGoals := PySem.W.mg_of X G aCManyGoals
  have at_NoDay := PySem.W.mg_of X G aCNoDay
  have at_NoHouse := PySem.W.mg_of X G aCNoHouse
  have at_NoLetter := PySem.W.mg_of X G aCNoLetter
  have at_NoRoad := PySem.W.mg_of X G aCNoRoad
  have at_NoRow := PySem.W.mg_of X G aCNoRow
  have at_NoText := PySem.W.mg_of X G aCNoText
  have at_NoWay := PySem.W.mg_of X G aCNoWay
  have EX_NoNet : Exc K mg "NoNet" CNoNet _ _ := ⟨at_NoNet, xiNoNet⟩
  have xsRoadError_RoadError := excSub_of lCRoadError xsRoadError_RoadError
  have xsNoNet_RoadError := excSub_of lCNoNet xsNoNet_RoadError
  have Cn : Csts mg := ⟨⟨_, PySem.W.mg_of X G vMOST_HOUSES⟩, ⟨_, PySem.W.mg_of X G vMOST_ROADS⟩, ⟨_, PySem.W.mg_of X G vMOST_SIGNS⟩, ⟨_, PySem.W.mg_of X G vMOST_TURNS⟩, ⟨_, PySem.W.mg_of X G vMOST_ROOM⟩⟩
  have B : Blt mg := ⟨PySem.W.mg_none_of X G zlen, PySem.W.mg_none_of X G zrange, PySem.W.mg_none_of X G zisinstance, PySem.W.mg_none_of X G zall, PySem.W.mg_none_of X G zint, PySem.W.mg_none_of X G zbool, PySem.W.mg_none_of X G zstr, PySem.W.mg_none_of X G zlist, PySem.W.mg_none_of X G ztuple, PySem.W.mg_none_of X G zset, PySem.W.mg_none_of X G zValueError, PySem.W.mg_none_of X G zenumerate, PySem.W.mg_none_of X G zmax, PySem.W.mg_none_of X G zmin, PySem.W.mg_none_of X G zsum, PySem.W.mg_none_of X G zany, PySem.W.mg_none_of X G zdict, PySem.W.mg_none_of X G zsorted, PySem.W.mg_none_of X G zzip⟩
  refine ⟨PySem.W.fnOf "law" "law" (defArgs sLaw) (defBody sLaw) (defScope sLaw) .none kVlaw dclaw pmlaw anlaw cdlaw ctlaw, fun s v => .of_eq rfl, fun base _ _ => ?_⟩
  have NC : NetC K CNet := ⟨Cl_Net, nNet_kept_houses, nNet_kept_roads⟩
  have KT : Kit K := ⟨kit_ib K⟩
  have RC : RefN K CRoadError CNoNet [CBadBag, CCutOff, CManyGoals, CNoDay, CNoHouse, CNoLetter, CNoRoad, CNoRow, CNoText, CNoWay] := ⟨xsRoadError_RoadError, xsNoNet_RoadError, isNH, suNH, by decide +kernel, ⟨gaNoNet, noNoNet, haNoNet, hnNoNet, htNoNet, hmNoNet, hbNoNet⟩, (kitAny_not lCNoNet (List.forall_mem_cons.mpr ⟨⟨_, _, _, lCBadBag⟩, (List.forall_mem_cons.mpr ⟨⟨_, _, _, lCCutOff⟩, (List.forall_mem_cons.mpr ⟨⟨_, _, _, lCManyGoals⟩, (List.forall_mem_cons.mpr ⟨⟨_, _, _, lCNoDay⟩, (List.forall_mem_cons.mpr ⟨⟨_, _, _, lCNoHouse⟩, (List.forall_mem_cons.mpr ⟨⟨_, _, _, lCNoLetter⟩, (List.forall_mem_cons.mpr ⟨⟨_, _, _, lCNoRoad⟩, (List.forall_mem_cons.mpr ⟨⟨_, _, _, lCNoRow⟩, (List.forall_mem_cons.mpr ⟨⟨_, _, _, lCNoText⟩, (List.forall_mem_cons.mpr ⟨⟨_, _, _, lCNoWay⟩, (fun _ h => absurd h List.not_mem_nil)⟩)⟩)⟩)⟩)⟩)⟩)⟩)⟩)⟩)⟩) naNoNet)⟩
  have Gw : FnOk l.prog w K mg base CX0 1 fis_whole _ ["thing"] spWholeD := ok_wholeD Fis_whole B
  have Gi : FnOk l.prog w K mg base CX0 2 fis_whole_within _ ["thing", "least", "greatest"] spWithinD := ok_withinD Fis_whole_within D_is_whole Gw
  have Gt : FnOk l.prog w K mg base CX0 1 fis_tuple_of _ ["thing", "length"] spTupOfD := ok_tupOfD Fis_tuple_of B
  have Gu : FnOk l.prog w K mg base CX0 1 fare_unlike_houses _ ["houses", "one", "other"] spUnlikeD := ok_unlikeD Fare_unlike_houses
  have Gn : FnOk l.prog w K mg base CX0 1 fis_name _ ["thing"] spNameD := ok_nameD Fis_name B Cn
  have Gh : FnOk l.prog w K mg base CX0 2 fare_houses _ ["things"] spAreHD := ok_areHD Fare_houses B Cn D_is_name Gn
  have Gr : FnOk l.prog w K mg base CX0 3 fis_road _ ["houses", "thing"] spRoadD := ok_roadD Fis_road Cn D_is_tuple_of Gt D_are_unlike_houses Gu D_is_whole_within Gi
  have Ga : FnOk l.prog w K mg base CX0 4 fare_roads _ ["houses", "things"] spAreRD := ok_areRD Fare_roads B Cn D_is_road Gr
  have GN : FnOk l.prog w K mg base (CXe l.prog w) 5 fNet_init _ ["self", "houses", "roads"] (spInitN CNet CNoNet) := ok_initN FNet_init B NC PySem.F.excBase_ValueError EX_NoNet D_are_houses Gh D_are_roads Ga
  have G_Net_init : FnOk l.prog w K mg base CX0 5 fNet_init _ ["self", "houses", "roads"] (spInit K CNet) := ok_init2 FNet_init B NC D_are_houses (Gh.imp areH_imp) D_are_roads (Ga.imp areR_imp)
  have G_Net_houses : FnOk l.prog w K mg base CX0 1 fNet_houses _ ["self"] (spHousesM CNet) := ok_housesM FNet_houses B NC
  have G_Net_roads : FnOk l.prog w K mg base CX0 1 fNet_roads _ ["self"] (spRoadsM CNet) := ok_roadsM FNet_roads B NC
  have G__law_at : FnOk l.prog w K mg base CX0 1 f_law_at _ ["_law_script", "_law_k"] (spAt K) := ok_at F_law_at B.len
  have G__law_word : FnOk l.prog w K mg base CX0 1 f_law_word _ ["_law_cell"] spWord := ok_word F_law_word B.range
  have G__law_houses : FnOk l.prog w K mg base CX0 2 f_law_houses _ ["_law_cell", "_law_many"] spHouses := ok_houses F_law_houses B.len D__law_word.at_ D__law_word.fn.kp D__law_word.bd G__law_word
  have G__law_roads : FnOk l.prog w K mg base CX0 1 f_law_roads _ ["_law_cells", "_law_houses_here", "_law_long"] (spRoads K) := ok_roads F_law_roads B
  have G__law_bad_name : FnOk l.prog w K mg base CX0 1 f_law_bad_name _ ["_law_cell", "_law_houses_here", "_law_at_here"] spBadN := ok_badN F_law_bad_name B
  have G__law_bad_road : FnOk l.prog w K mg base CX0 1 f_law_bad_road _ ["_law_cell", "_law_road"] spBadR := ok_badR F_law_bad_road B
  have G__law_spoiled : FnOk l.prog w K mg base CX0 2 f_law_spoiled _ ["_law_script", "_law_houses_here", "_law_roads_here"] (spSpoil K) := ok_spoil F_law_spoiled B D__law_at G__law_at D__law_bad_name G__law_bad_name D__law_bad_road G__law_bad_road
  have G__law_refused : FnOk l.prog w K mg base CX0 7 f_law_refused _ ["_law_houses_here", "_law_roads_here"] spRefN := ok_refN F_law_refused B RC at_RoadError at_NoNet at_BadBag at_CutOff at_ManyGoals at_NoDay at_NoHouse at_NoLetter at_NoRoad at_NoRow at_NoText at_NoWay at_Net Mk_Net D_Net_init GN
  exact ok_law Flaw B at_Net Cl_Net D__law_at G__law_at D__law_houses G__law_houses D__law_roads G__law_roads Mk_Net D_Net_init G_Net_init D__law_spoiled G__law_spoiled D__law_refused G__law_refused M_Net_houses G_Net_houses M_Net_roads G_Net_roads
theorem walk {l : PySem.W.OpenLaw} {q : Program} {loose : List Str} {XP : (Str → Option Value) → Heap → Prop} {YP : World → Heap → Prop} {d : DefRec} {K : Params → PySem.W.Frag} (hn : l.most = some 63) (hdf : d.params.defaults = [])
    (hY : ∀ (w : World) (h : Heap), YP w h → (K w.params).In h)
    (F : ∀ (w : World) (mg : Str → Option Value) (fa : Addr) (h : Heap), (K w.params).In h → h.Ns mainGlobals mg → mg d.name = some (.ref fa) →
      ∃ fd : FuncData, (∀ (s : Shared) (u : Value), BindsTo s fd ⟨[u], []⟩ [("_law_script", u)]) ∧ ∀ base : Heap, (K w.params).In base → base.Ns mainGlobals mg → FnOk l.prog w (K w.params) mg base CX0 8 fa fd ["_law_script"] (spLaw (K w.params))) :
    PySem.W.WalkO q loose XP YP l.row.toRowW d [] (fun f vs => PySem.call f vs) :=
  L2.walk_of (n := 63) (k := 8) (x := "_law_script") (CX := fun _ => CX0) (sp := fun w => spLaw (K w.params)) hn (by decide) hdf ⟨rfl, by decide, by decide⟩ hY F (fun _ _ a ns hl _ hS => ⟨a, ns, rfl, hS, hl, fun _ => rfl⟩) fun _ _ _ _ _ z => z
end K1
noncomputable def PySem.W.Fast.tw15443700419757368357 : Unit := ()
noncomputable def PySem.W.Fast.tw70631416618384285 : Unit := ()
open PySem PySem.W PyProof.Rows
set_option maxRecDepth 100000 in
set_option maxHeartbeats 0 in
theorem PySem.Challenge.cw_postroad_k02_what_is_no_net_holds : PySem.Challenge.rw_postroad_k02_what_is_no_net.Holds := by
  w_on; o_law; k_head; (case hw => w_witness2)
  k_fill
  refine K1.walk (l := PySem.Challenge.rw_postroad_k02_what_is_no_net) rfl rfl (fun w h Y => PySem.W.kIn_of Y) ?F
  case F =>
    intro w mg fa h KX G hmg
    refine' K1.all_mk KX G hmg ?aCNet ?pgNet ?hdNet ?poNet ?saNet ?mkNet ?kcNet ?nNet_kept_houses ?nNet_kept_roads ?aNet_init ?iNet_init ?lNet_init ?cNet_init ?kNet_init ?aNet_houses ?iNet_houses ?lNet_houses ?cNet_houses ?kNet_houses ?aNet_roads ?iNet_roads ?lNet_roads ?cNet_roads ?kNet_roads ?ais_whole ?lis_whole ?cis_whole ?kis_whole ?ais_whole_within ?lis_whole_within ?cis_whole_within ?kis_whole_within ?ais_tuple_of ?lis_tuple_of ?cis_tuple_of ?kis_tuple_of ?aare_unlike_houses ?lare_unlike_houses ?care_unlike_houses ?kare_unlike_houses ?ais_name ?lis_name ?cis_name ?kis_name ?aare_houses ?lare_houses ?care_houses ?kare_houses ?ais_road ?lis_road ?cis_road ?kis_road ?aare_roads ?lare_roads ?care_roads ?kare_roads ?a_law_at ?l_law_at ?c_law_at ?k_law_at ?a_law_word ?l_law_word ?c_law_word ?k_law_word ?a_law_houses ?l_law_houses ?c_law_houses ?k_law_houses ?a_law_roads ?l_law_roads ?c_law_roads ?k_law_roads ?a_law_bad_name ?l_law_bad_name ?c_law_bad_name ?k_law_bad_name ?a_law_bad_road ?l_law_bad_road ?c_law_bad_road ?k_law_bad_road ?a_law_spoiled ?l_law_spoiled ?c_law_spoiled ?k_law_spoiled ?a_law_refused ?l_law_refused ?c_law_refused ?k_law_refused ?alaw ?llaw ?claw ?klaw ?aCRoadError ?lCRoadError ?aCNoNet ?lCNoNet ?aCBadBag ?lCBadBag ?aCCutOff ?lCCutOff ?aCManyGoals ?lCManyGoals ?aCNoDay ?lCNoDay ?aCNoHouse ?lCNoHouse ?aCNoLetter ?lCNoLetter ?aCNoRoad ?lCNoRoad ?aCNoRow ?lCNoRow ?aCNoText ?lCNoText ?aCNoWay ?lCNoWay ?xiNoNet ?xsRoadError_RoadError ?xsNoNet_RoadError ?vMOST_HOUSES ?vMOST_ROADS ?vMOST_SIGNS ?vMOST_TURNS ?vMOST_ROOM ?zlen ?zrange ?zisinstance ?zall ?zint ?zbool ?zstr ?zlist ?ztuple ?zset ?zValueError ?zenumerate ?zmax ?zmin ?zsum ?zany ?zdict ?zsorted ?zzip ?isNH ?suNH ?gaNoNet ?noNoNet ?haNoNet ?hnNoNet ?htNoNet ?hmNoNet ?hbNoNet ?naNoNet
    (case aCNet => k_is)
    (case pgNet => k_is)
    (case hdNet => k_is)
    (case poNet => k_is)
    (case saNet => k_is)
    (case mkNet => k_is)
    (case kcNet => k_is)
    (case nNet_kept_houses => k_is)
    (case nNet_kept_roads => k_is)
    (case aNet_init => k_is)
    (case iNet_init => k_is)
    (case lNet_init => k_is)
    (case cNet_init => k_is)
    (case kNet_init => k_is)
    (case aNet_houses => k_is)
    (case iNet_houses => k_is)
    (case lNet_houses => k_is)
    (case cNet_houses => k_is)
    (case kNet_houses => k_is)
    (case aNet_roads => k_is)
    (case iNet_roads => k_is)
    (case lNet_roads => k_is)
    (case cNet_roads => k_is)
    (case kNet_roads => k_is)
    (case ais_whole => k_is)
    (case lis_whole => k_is)
    (case cis_whole => k_is)
    (case kis_whole => k_is)
    (case ais_whole_within => k_is)
    (case lis_whole_within => k_is)
    (case cis_whole_within => k_is)
    (case kis_whole_within => k_is)
    (case ais_tuple_of => k_is)
    (case lis_tuple_of => k_is)
    (case cis_tuple_of => k_is)
    (case kis_tuple_of => k_is)
    (case aare_unlike_houses => k_is)
    (case lare_unlike_houses => k_is)
    (case care_unlike_houses => k_is)
    (case kare_unlike_houses => k_is)
    (case ais_name => k_is)
    (case lis_name => k_is)
    (case cis_name => k_is)
    (case kis_name => k_is)
    (case aare_houses => k_is)
    (case lare_houses => k_is)
    (case care_houses => k_is)
    (case kare_houses => k_is)
    (case ais_road => k_is)
    (case lis_road => k_is)
    (case cis_road => k_is)
    (case kis_road => k_is)
    (case aare_roads => k_is)
    (case lare_roads => k_is)
    (case care_roads => k_is)
    (case kare_roads => k_is)
    (case a_law_at => k_is)
    (case l_law_at => k_is)
    (case c_law_at => k_is)
    (case k_law_at => k_is)
    (case a_law_word => k_is)
    (case l_law_word => k_is)
    (case c_law_word => k_is)
    (case k_law_word => k_is)
    (case a_law_houses => k_is)
    (case l_law_houses => k_is)
    (case c_law_houses => k_is)
    (case k_law_houses => k_is)
    (case a_law_roads => k_is)
    (case l_law_roads => k_is)
    (case c_law_roads => k_is)
    (case k_law_roads => k_is)
    (case a_law_bad_name => k_is)
    (case l_law_bad_name => k_is)
    (case c_law_bad_name => k_is)
    (case k_law_bad_name => k_is)
    (case a_law_bad_road => k_is)
    (case l_law_bad_road => k_is)
    (case c_law_bad_road => k_is)
    (case k_law_bad_road => k_is)
    (case a_law_spoiled => k_is)
    (case l_law_spoiled => k_is)
    (case c_law_spoiled => k_is)
    (case k_law_spoiled => k_is)
    (case a_law_refused => k_is)
    (case l_law_refused => k_is)
    (case c_law_refused => k_is)
    (case k_law_refused => k_is)
    (case alaw => k_is)
    (case llaw => k_is)
    (case claw => k_is)
    (case klaw => k_is)
    (case aCRoadError => k_is)
    (case lCRoadError => k_is)
    (case aCNoNet => k_is)
    (case lCNoNet => k_is)
    (case aCBadBag => k_is)
    (case lCBadBag => k_is)
    (case aCCutOff => k_is)
    (case lCCutOff => k_is)
    (case aCManyGoals => k_is)
    (case lCManyGoals => k_is)
    (case aCNoDay => k_is)
    (case lCNoDay => k_is)
    (case aCNoHouse => k_is)
    (case lCNoHouse => k_is)
    (case aCNoLetter => k_is)
    (case lCNoLetter => k_is)
    (case aCNoRoad => k_is)
    (case lCNoRoad => k_is)
    (case aCNoRow => k_is)
    (case lCNoRow => k_is)
    (case aCNoText => k_is)
    (case lCNoText => k_is)
    (case aCNoWay => k_is)
    (case lCNoWay => k_is)
    (case xiNoNet => k_exc)
    (case xsRoadError_RoadError => decide +kernel)
    (case xsNoNet_RoadError => decide +kernel)
    (case vMOST_HOUSES => k_is)
    (case vMOST_ROADS => k_is)
    (case vMOST_SIGNS => k_is)
    (case vMOST_TURNS => k_is)
    (case vMOST_ROOM => k_is)
    (case zlen => k_is)
    (case zrange => k_is)
    (case zisinstance => k_is)
    (case zall => k_is)
    (case zint => k_is)
    (case zbool => k_is)
    (case zstr => k_is)
    (case zlist => k_is)
    (case ztuple => k_is)
    (case zset => k_is)
    (case zValueError => k_is)
    (case zenumerate => k_is)
    (case zmax => k_is)
    (case zmin => k_is)
    (case zsum => k_is)
    (case zany => k_is)
    (case zdict => k_is)
    (case zsorted => k_is)
    (case zzip => k_is)
    (case isNH => k_is)
    (case suNH => k_is)
    (case gaNoNet => k_is)
    (case noNoNet => k_is)
    (case haNoNet => k_is)
    (case hnNoNet => k_is)
    (case htNoNet => k_is)
    (case hmNoNet => k_is)
    (case hbNoNet => k_is)
    (case naNoNet => decide +kernel)
