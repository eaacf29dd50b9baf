import PyProof.Rows.All
import Wide.All
import OpenK.AllK
import Wide.FinOn
import Lean
import PyProof.EqAt
import PyProof.EqKinds
import PyProof.TupleCall
import PySem.Challenge.RW_postroad_k33_whole_one_goal_in_time
set_option Elab.async false
set_option linter.all false
set_option maxRecDepth 100000
namespace L2
open PySem PySem.Spec PyProof.Rows
noncomputable abbrev Key:=Sum Int Str
noncomputable def pP:Key→Value→Bool
 | .inl k,v=>Value.isInt k v
 | .inr x,v=>Value.isStrOf x v
noncomputable def O7 (w:World):Key→Int
 | .inl k=>hashInt k
 | .inr x=>hashStr w x
theorem bW:∀{k:Key} {v:Value},pP k v=true→(∃i t,k=Sum.inl i∧v=Value.int i t)∨(∃x t,k=Sum.inr x∧v=Value.str x t)
 | .inl i,v,h=>by
  obtain ⟨t,e⟩:=Value.isInt_shape (k:=i) (v:=v) h
  exact .inl ⟨i,t,rfl,e⟩
 | .inr x,v,h=>by
  obtain ⟨t,e⟩:=Value.isStrOf_shape (x:=x) (v:=v) h
  exact .inr ⟨x,t,rfl,e⟩
theorem Al (i:Int) (t:Tok):pP (.inl i) (.int i t)=true:=by simp [pP,Value.isInt]
theorem An (x:Str) (t:Tok):pP (.inr x) (.str x t)=true:=by simp [pP,Value.isStrOf]
theorem J9 (a b:Int):decide ((Sum.inl a:Key)=Sum.inl b)=(a==b):=by
 by_cases e:a=b
 ·subst e;simp
 ·have h:¬(Sum.inl a:Key)=Sum.inl b:=fun q=>e (Sum.inl.inj q)
  rw [decide_eq_false h]
  exact (beq_eq_false_iff_ne.mpr e).symm
theorem Ka (a b:Str):decide ((Sum.inr a:Key)=Sum.inr b)=decide (a=b):=by
 by_cases e:a=b
 ·subst e;simp
 ·have h:¬(Sum.inr a:Key)=Sum.inr b:=fun q=>e (Sum.inr.inj q)
  rw [decide_eq_false h,decide_eq_false e]
theorem Kc (a:Int) (b:Str):decide ((Sum.inl a:Key)=Sum.inr b)=false:=decide_eq_false (fun q=>nomatch q)
theorem Kd (a:Str) (b:Int):decide ((Sum.inr a:Key)=Sum.inl b)=false:=decide_eq_false (fun q=>nomatch q)
noncomputable def bH (prog:Program) (w:World):PySem.KeyKind prog w Key where
 is:=pP
 hash:=O7 w
 inj:=fun v a b ha hb=>by
  rcases bW ha with ⟨i,t,rfl,rfl⟩ | ⟨x,t,rfl,rfl⟩
  ·rcases bW hb with ⟨j,u,rfl,e⟩ | ⟨y,u,rfl,e⟩
   ·injection e with e1 _;rw [e1]
   ·exact nomatch e
  ·rcases bW hb with ⟨j,u,rfl,e⟩ | ⟨y,u,rfl,e⟩
   ·exact nomatch e
   ·injection e with e1 _;rw [e1]
 byValue:=fun k v h=>by
  rcases bW h with ⟨i,t,rfl,rfl⟩ | ⟨x,t,rfl,rfl⟩ <;> rfl
 pyHash:=fun hv h=>by
  rcases bW hv with ⟨i,t,rfl,rfl⟩ | ⟨x,t,rfl,rfl⟩
  ·exact wpAny_pyHash_int h
  ·exact wpAny_pyHash_str h
 eqBool:=fun hu hv h=>by
  rcases bW hu with ⟨i,t,rfl,rfl⟩ | ⟨x,t,rfl,rfl⟩
  ·rcases bW hv with ⟨j,u,rfl,rfl⟩ | ⟨y,u,rfl,rfl⟩
   ·rw [J9] at h;exact wpAny_eqBool_int h
   ·rw [Kc] at h;exact SeqAt.EqAt.int_str i t y u _ _ _ _ h
  ·rcases bW hv with ⟨j,u,rfl,rfl⟩ | ⟨y,u,rfl,rfl⟩
   ·rw [Kd] at h;exact SeqAt.EqAt.str_int x t j u _ _ _ _ h
   ·rw [Ka] at h;exact wpAny_eqBool_str h
 «strs»:=fun k x t v h=>by
  rcases bW h with ⟨i,u,rfl,e⟩ | ⟨y,u,rfl,e⟩
  ·exact nomatch e
  ·injection e with e1 _
   subst e1
   cases v <;> rfl
theorem vz (prog:Program) (w:World) (i:Int) (t:Tok):(bH prog w).is (.inl i) (.int i t)=true:=Al i t
theorem vA (prog:Program) (w:World) (x:Str) (t:Tok):(bH prog w).is (.inr x) (.str x t)=true:=An x t
inductive V where
 | non | bl (b:Bool) | int (i:Int) | str (x:Str) | byt (b:Array UInt8) | flt (b:UInt64) | ref (a:Addr) | ty (n:String)
 deriving DecidableEq
noncomputable def RelV:V→Value→Prop
 | .non,u=>u=Value.none
 | .bl b,u=>u=Value.bool b
 | .int i,u=>∃t,u=Value.int i t
 | .str x,u=>∃t,u=Value.str x t
 | .byt b,u=>∃t,u=Value.bytes b t
 | .flt b,u=>∃t,u=Value.float b t
 | .ref a,u=>u=Value.ref a
 | .ty n,u=>u=Value.type n
noncomputable abbrev Vals:List V→List Value→Prop:=Paired RelV
theorem Vals.length {xs:List V} {us:List Value} (r:Vals xs us):xs.length=us.length:=Paired.length r
theorem Vals.get:∀{xs:List V} {us:List Value} {i:Nat} {x:V},Vals xs us→xs[i]?=some x→∃u,us[i]?=some u∧RelV x u
 | _,_,_,_,.nil,e=>by simp at e
 | _,_,0,_,.cons r _,e=>by simp at e;subst e;exact ⟨_,rfl,r⟩
 | _,_,i+1,x,.cons _ t,e=>by
  obtain ⟨u,h1,h2⟩:=Vals.get (i:=i) (x:=x) t (by simpa using e)
  exact ⟨u,by simpa using h1,h2⟩
theorem Vals.set {x:V} {u:Value} (r:RelV x u):∀{xs:List V} {us:List Value} (i:Nat),Vals xs us→Vals (xs.set i x) (us.set i u)
 | _,_,_,.nil=>.nil
 | _,_,0,.cons _ t=>.cons r t
 | _,_,i+1,.cons q t=>.cons q (Vals.set r i t)
theorem Vals.append:∀{xs ys:List V} {us ws:List Value},Vals xs us→Vals ys ws→Vals (xs++ys) (us++ws)
 | _,_,_,_,.nil,s=>s
 | _,_,_,_,.cons r t,s=>.cons r (Vals.append t s)
theorem Vals.take:∀{xs:List V} {us:List Value} (n:Nat),Vals xs us→Vals (xs.take n) (us.take n)
 | _,_,0,_=>.nil
 | _,_,_+1,.nil=>.nil
 | _,_,n+1,.cons r t=>.cons r (Vals.take n t)
theorem Vals.drop:∀{xs:List V} {us:List Value} (n:Nat),Vals xs us→Vals (xs.drop n) (us.drop n)
 | _,_,0,r=>r
 | _,_,_+1,.nil=>.nil
 | _,_,n+1,.cons _ t=>Vals.drop n t
theorem Vals.none_of:∀{xs:List V} {us:List Value} {i:Nat},Vals xs us→xs[i]?=none→us[i]?=none:=fun {xs us i} r e=>by
 have h1:=r.length
 have h2:xs.length≤i:=List.getElem?_eq_none_iff.mp e
 exact List.getElem?_eq_none_iff.mpr (by omega)
noncomputable def je:Option V→Option Value→Prop
 | some v,some u=>RelV v u
 | none,none=>True
 | _,_=>False
noncomputable def KV {κ:Type}:List (κ × V)→List (κ × Value)→Prop:=Paired fun (p:κ × V) (q:κ × Value)=>p.1=q.1∧RelV p.2 q.2
noncomputable def kV:Key→V
 | .inl i=>.int i
 | .inr x=>.str x
inductive HO where
  | lst (xs:List V)
  | tup (xs:List V)
  | dK (kvs:List (Key × V)) | dT (kvs:List (List Key × V))
  | set (S:Int→Bool) (n:Nat)
  | ins (C dx:Addr) (fs:List (Str × V))
  | own (x:Addr)
  | xd (fs:List (Str × V))
  | met (f x:Addr)
  | rng (lo hi:Int)
  | frz (o:Obj) (u:HO)
  | tbl (ps:Array Value)
  | ext (φ:Heap→Prop)
noncomputable abbrev Hp:=Addr→Option HO
noncomputable def upd (H:Hp) (a:Addr) (o:HO):Hp:=fun b=>if b=a then some o else H b
theorem aj {H:Hp} {a:Addr} {o:HO}:upd H a o a=some o:=by unfold upd;rw [if_pos rfl]
theorem ak {H:Hp} {a b:Addr} {o:HO} (h:b≠a):upd H a o b=H b:=by unfold upd;rw [if_neg h]
theorem t7 {H:Hp} {a:Addr} {o u:HO}:upd (upd H a o) a u=upd H a u:=by
 funext b;unfold upd;split <;> rfl
theorem cP {H:Hp} {a b:Addr} {o u:HO} (h:H a=some o) (h':H b=some u) (d:o≠u):a≠b:=by
 intro e;subst e;rw [h] at h';exact d (Option.some.inj h')
theorem aA {H:Hp} {a b:Addr} {o:HO} (h:H a=some o) (h':H b=none):a≠b:=by
 intro e;subst e;rw [h] at h';cases h'
section
variable (P:Program) (w:World)
noncomputable def bB (H:Hp) (h:Heap) (a:Addr):HO→Prop
 | .lst xs=>xs.length≤sizeLine∧∃(its:List Value) (n:Nat),Vals xs its∧h.get? a=some {cls:=.type "list",data:=.seq its.toArray n}
 | .tup xs=>xs.length≤sizeLine∧∃its:List Value,Vals xs its∧IsTup h a its.toArray
 | .dK kvs=>kvs.length≤sizeLine∧(a==sysModules)=false∧∃vs,KV kvs vs∧h.DictOf (bH P w) a vs
 | .dT kvs=>kvs.length≤sizeLine∧(a==sysModules)=false∧∃xs:List (List Key × Addr × Value),
   Paired (fun (p:List Key × V) (q:List Key × Addr × Value)=>p.1=q.1∧H q.2.1=some (.tup (p.1.map kV))∧RelV p.2 q.2.2) kvs xs∧
   ∃o es ep,h.get? a=some o∧o.ExactDict∧o.data=.dict es ep∧es.toList=xs.map (entryOfKey (tupleKind (bH P w)))∧(xs.map (·.1)).Nodup
 | .set S n=>h.SetOf (intKind P w) a S n
 | .ins C dx fs=>H dx=some (.own a)∧fs.length≤1000∧dx≠a∧h.get? a=some (PySem.W.instObj C dx)∧
   ∃mA,h.Ns1 dx mA∧(∀f,je (fs.lookup f) (mA f))∧PySem.Within mA (fs.map (·.1))
 | .own _=>∃o,h.get? a=some o
 | .xd fs=>∃mA,h.Ns1 a mA∧∀f,je (fs.lookup f) (mA f)
 | .rng lo hi=>∃t u v,h.get? a=some {cls:=.type "range",data:=.fields #[.int lo t,.int hi u,.int 1 v]}
 | .frz o u=>h.get? a=some o∧bB H h a u
 | .tbl ps=>h.get? a=some {cls:=.none,data:=.fields ps}
 | .met f x=>h.get? a=some (PySem.W.methodObj (.ref f) (.ref x))
 | .ext φ=>φ h∧(∃o,h.get? a=some o)∧∀h1 h2:Heap,φ h1→(∀o,h1.get? a=some o→h2.get? a=some o)→φ h2
noncomputable def HOk (H:Hp) (h:Heap):Prop:=∀a o,H a=some o→bB P w H h a o
end
section
variable {P:Program} {w:World} {H H':Hp} {h h':Heap} {a:Addr} {o:HO}
theorem bB.lt (x:bB P w H h a o):a < h.objs.size:=by
 cases o with
 | lst xs=>obtain ⟨_,_,_,_,e⟩:=x;exact Heap.lt_size e
 | tup xs=>obtain ⟨_,_,_,p⟩:=x;exact p.lt
 | dK kvs=>obtain ⟨_,_,_,_,o,_,_,e,_⟩:=x;exact Heap.lt_size e
 | dT kvs=>obtain ⟨_,_,_,_,o,_,_,e,_⟩:=x;exact Heap.lt_size e
 | set S n=>obtain ⟨o,_,_,_,e,_⟩:=x;exact Heap.lt_size e
 | ins C dx fs=>obtain ⟨_,_,_,e,_⟩:=x;exact Heap.lt_size e
 | own y=>obtain ⟨_,e⟩:=x;exact Heap.lt_size e
 | xd fs=>obtain ⟨_,⟨_,_,_,e,_⟩,_⟩:=x;exact Heap.lt_size e
 | rng lo hi=>obtain ⟨_,_,_,e⟩:=x;exact Heap.lt_size e
 | frz ob u=>obtain ⟨e,_⟩:=x;exact Heap.lt_size e
 | tbl ps=>exact Heap.lt_size (show h.get? a=some _ from x)
 | met f y=>exact Heap.lt_size (show h.get? a=some _ from x)
 | ext φ=>obtain ⟨_,⟨_,e⟩,_⟩:=x;exact Heap.lt_size e
theorem Paired.mapP {α β:Type} {F G:α→β→Prop}:∀{l₁:List α} {l₂:List β},Paired F l₁ l₂→(∀a b,F a b→G a b)→Paired G l₁ l₂
 | _,_,.nil,_=>.nil
 | _,_,.cons r t,f=>.cons (f _ _ r) (Paired.mapP t f)
theorem bB.stay (x:bB P w H h a o) (k:∀b u,(b=a∨H b=some (.own a))→h.get? b=some u→h'.get? b=some u)
  (ho:∀b,H b=some (.own a)→H' b=some (.own a)) (ht:∀b xs,H b=some (.tup xs)→H' b=some (.tup xs)):bB P w H' h' a o:=by
 induction o with
 | lst xs=>obtain ⟨z,its,n,r,e⟩:=x;exact ⟨z,its,n,r,k _ _ (.inl rfl) e⟩
 | tup xs=>obtain ⟨z,its,r,ob,e,c⟩:=x;exact ⟨z,its,r,ob,k _ _ (.inl rfl) e,c⟩
 | dK kvs=>obtain ⟨z,y,vs,r,ob,es,ep,e,c⟩:=x;exact ⟨z,y,vs,r,ob,es,ep,k _ _ (.inl rfl) e,c⟩
 | dT kvs=>
  obtain ⟨z,y,xs,r,ob,es,ep,e,c⟩:=x
  exact ⟨z,y,xs,Paired.mapP r fun p q z=>⟨z.1,ht _ _ z.2.1,z.2.2⟩,ob,es,ep,k _ _ (.inl rfl) e,c⟩
 | set S n=>obtain ⟨ob,es,ep,t,e,c⟩:=x;exact ⟨ob,es,ep,t,k _ _ (.inl rfl) e,c⟩
 | ins C dx fs=>
  obtain ⟨d,z,ne,e,mA,⟨od,es,ep,e2,c⟩,r⟩:=x
  exact ⟨ho _ d,z,ne,k _ _ (.inl rfl) e,mA,⟨od,es,ep,k _ _ (.inr d) e2,c⟩,r⟩
 | own y=>obtain ⟨ob,e⟩:=x;exact ⟨ob,k _ _ (.inl rfl) e⟩
 | xd fs=>obtain ⟨mA,⟨od,es,ep,e,c⟩,r⟩:=x;exact ⟨mA,⟨od,es,ep,k _ _ (.inl rfl) e,c⟩,r⟩
 | rng lo hi=>obtain ⟨t,u,v,e⟩:=x;exact ⟨t,u,v,k _ _ (.inl rfl) e⟩
 | frz ob u ih=>obtain ⟨e,q⟩:=x;exact ⟨k _ _ (.inl rfl) e,ih q⟩
 | tbl ps=>
  have e:h.get? a=some {cls:=.none,data:=.fields ps}:=x
  show h'.get? a=some {cls:=.none,data:=.fields ps}
  exact k a _ (.inl rfl) e
 | met f y=>
  have e:h.get? a=some (PySem.W.methodObj (.ref f) (.ref y)):=x
  show h'.get? a=some (PySem.W.methodObj (.ref f) (.ref y))
  exact k a _ (.inl rfl) e
 | ext φ=>obtain ⟨p,⟨o,e⟩,st⟩:=x;exact ⟨st _ _ p fun o q=>k _ _ (.inl rfl) q,⟨o,k _ _ (.inl rfl) e⟩,st⟩
theorem HOk.lt (x:HOk P w H h) (e:H a=some o):a < h.objs.size:=(x a o e).lt
theorem HOk.fresh (x:HOk P w H h) (e:h.objs.size≤a):H a=none:=by
 cases q:H a with
 | none=>rfl
 | some u=>exact absurd (Nat.lt_of_lt_of_le (x.lt q) e) (Nat.lt_irrefl _)
theorem HOk.kept (x:HOk P w H h) (k:∀b u,h.get? b=some u→h'.get? b=some u):HOk P w H h':=fun a o e=>
 (x a o e).stay (fun b u _ q=>k b u q) (fun _ q=>q) fun _ _ q=>q
theorem HOk.laid (x:HOk P w H h) (k:∀b u,h.get? b=some u→h'.get? b=some u) (hp:h.objs.size≤a) (new:bB P w (upd H a o) h' a o):HOk P w (upd H a o) h':=fun b u e=>by
 have hn:=x.fresh hp
 by_cases hb:b=a
 ·subst hb;rw [aj] at e;cases e;exact new
 ·rw [ak hb] at e
  exact (x b u e).stay (fun c v _ q=>k c v q) (fun c q=>by rw [ak (aA q hn)];exact q) fun c xs q=>by rw [ak (aA q hn)];exact q
end
noncomputable def Rd (H:Hp) (a:Addr) (u:HO):Prop:=H a=some u∨∃o,H a=some (.frz o u)
theorem Rd.ok {P:Program} {w:World} {H:Hp} {h:Heap} {a:Addr} {u:HO} (r:Rd H a u) (x:HOk P w H h):bB P w H h a u:=by
 rcases r with r | ⟨o,r⟩
 ·exact x a u r
 ·obtain ⟨_,q⟩:=x a _ r
  exact q
noncomputable def Mut:Option HO→Prop
 | some (.lst _)=>True
 | some (.dK _)=>True
 | some (.dT _)=>True
 | some (.set _ _)=>True
 | some (.ins _ _ _)=>True
 | some (.ext _)=>True
 | _=>False
section
variable {P:Program} {w:World} {H:Hp} {h h':Heap} {x e:Addr} {o':HO}
theorem HOk.write (ok:HOk P w H h) (mu:Mut (H x)) (he:e=x∨H e=some (.own x)) (k:∀b u,b≠e→h.get? b=some u→h'.get? b=some u) (heo:∃u,h'.get? e=some u)
  (new:bB P w (upd H x o') h' x o'):HOk P w (upd H x o') h':=fun b u q=>by
 have nown:∀c y,H c=some (.own y)→c≠x:=fun c y r z=>by subst z;rw [r] at mu;exact mu
 have ntup:∀c xs,H c=some (.tup xs)→c≠x:=fun c xs r z=>by subst z;rw [r] at mu;exact mu
 by_cases hb:b=x
 ·subst hb;rw [aj] at q;cases q;exact new
 ·rw [ak hb] at q
  by_cases hbe:b=e
  ·have q':H b=some (.own x):=by
    rcases he with z | z
    ·exact absurd (hbe.trans z) hb
    ·rw [hbe];exact z
   rw [q] at q';cases q'
   obtain ⟨v,hv⟩:=heo
   exact ⟨v,by rw [hbe];exact hv⟩
  ·refine (ok b u q).stay (fun c v hc r=>k c v ?_ r) (fun c r=>by rw [ak (nown c b r)];exact r) fun c xs r=>by rw [ak (ntup c xs r)];exact r
   rcases hc with rfl | hc
   ·exact hbe
   ·rintro rfl
    rcases he with z | z
    ·exact nown c b hc z
    ·rw [hc] at z;cases z;exact hb rfl
end
structure Un (fs ex:List Addr) (H H':Hp) (h h':Heap):Prop where
 keep:∀b o,h.get? b=some o→H b=none→b∉fs→b∉ex→h'.get? b=some o
 slot:∀b o,h.get? b=some o→H b=none→b∈fs→b∉ex→∃sl,h'.get? b=some {o with slots:=sl}
 free:∀b o,h.get? b=some o→H b=none→b∉ex→H' b=none
 there:∀b o,h.get? b=some o→b∉ex→∃o',h'.get? b=some o'
 tups:∀b xs,H b=some (.tup xs)→H' b=some (.tup xs)
 frzs:∀b o u,H b=some (.frz o u)→H' b=some (.frz o u)
 tbls:∀b ps,H b=some (.tbl ps)→∃more,H' b=some (.tbl (ps++more))
section
variable {fs fs' ex ex':List Addr} {H H1 H2:Hp} {h h1 h2 h':Heap} {a x e:Addr} {o:HO}
theorem Un.any (u:Un fs ex H H1 h h1) {b:Addr} {ob:Obj} (q:h.get? b=some ob) (n:H b=none) (hx:b∉ex):∃sl,h1.get? b=some {ob with slots:=sl}:=by
 by_cases hb:b∈fs
 ·exact u.slot b ob q n hb hx
 ·exact ⟨ob.slots,u.keep b ob q n hb hx⟩
theorem Un.kept (k:∀b u,h.get? b=some u→h'.get? b=some u):Un fs ex H H h h':=
 ⟨fun b ob q _ _ _=>k b ob q,fun b ob q _ _ _=>⟨ob.slots,k b ob q⟩,fun _ _ _ n _=>n,fun b ob q _=>⟨ob,k b ob q⟩,fun _ _ q=>q,fun _ _ _ q=>q,fun _ ps q=>⟨#[],by rw [q];simp⟩⟩
theorem Un.refl:Un fs ex H H h h:=Un.kept fun _ _ q=>q
theorem Un.laid (k:∀b u,h.get? b=some u→h'.get? b=some u) (hp:h.objs.size≤a) (hn:H a=none):Un fs ex H (upd H a o) h h' where
 keep:=fun b u q _ _ _=>k b u q
 slot:=fun b u q _ _ _=>⟨u.slots,k b u q⟩
 free:=fun b u q n _=>by rw [ak (Nat.ne_of_lt (Nat.lt_of_lt_of_le (Heap.lt_size q) hp))];exact n
 there:=fun b u q _=>⟨u,k b u q⟩
 tups:=fun b xs q=>by rw [ak (aA q hn)];exact q
 frzs:=fun b u xs q=>by rw [ak (aA q hn)];exact q
 tbls:=fun b ps q=>⟨#[],by rw [ak (aA q hn),q];simp⟩
theorem Un.write (mu:Mut (H x)) (he:e=x∨H e=some (.own x)) (k:∀b u,b≠e→h.get? b=some u→h'.get? b=some u) (heo:∃u,h'.get? e=some u):Un fs ex H (upd H x o) h h':=by
 have hx:∀b,H b=none→b≠x:=fun b n z=>by subst z;rw [n] at mu;exact mu
 have hb:∀b,H b=none→b≠e:=fun b n z=>by
  subst z
  rcases he with r | r
  ·exact hx b n r
  ·rw [n] at r;cases r
 have hm:∀b u,H b=some u→¬Mut (some u)→b≠x:=fun b u q nm z=>by subst z;rw [q] at mu;exact nm mu
 refine ⟨fun b u q n _ _=>k b u (hb b n) q,fun b u q n _ _=>⟨u.slots,k b u (hb b n) q⟩,fun b u q n _=>by rw [ak (hx b n)];exact n,fun b u q _=>?_,
  fun b xs q=>by rw [ak (hm b _ q fun z=>z)];exact q,fun b u xs q=>by rw [ak (hm b _ q fun z=>z)];exact q,fun b ps q=>⟨#[],by rw [ak (hm b _ q fun z=>z),q];simp⟩⟩
 by_cases hbe:b=e
 ·subst hbe;exact heo
 ·exact ⟨u,k b u hbe q⟩
end
noncomputable def trk (h:Heap) (H:Hp):List Addr:=(List.range h.objs.size).filter fun a=>(H a).isSome
noncomputable def t8 (h:Heap) (H:Hp):Heap:=PySem.W.hideAll h (trk h H)
theorem Ao (h:Heap) (H:Hp):(t8 h H).objs.size=h.objs.size:=PySem.W.hideAll_size _ _
theorem CP {h:Heap} {H:Hp} {b:Addr} {o:Obj} (e:h.get? b=some o) (n:H b=none):(t8 h H).get? b=some o:=
 PySem.W.hideAll_get _ e fun hm=>by
  have q:(H b).isSome=true:=(List.mem_filter.mp hm).2
  rw [n] at q;simp at q
theorem Hn {h:Heap} {H:Hp} {b:Addr} {o:Obj} (e:(t8 h H).get? b=some o):h.get? b=some o∧H b=none:=by
 have e':h.get? b=some o:=PySem.W.of_hideAll (trk h H) e
 refine ⟨e',?_⟩
 cases q:H b with
 | none=>rfl
 | some x=>
  have hm:b∈trk h H:=List.mem_filter.mpr ⟨List.mem_range.mpr (Heap.lt_size e'),by simp [q]⟩
  have z:(t8 h H).get? b=none:=PySem.W.hideAll_none (trk h H) hm
  rw [z] at e;cases e
noncomputable def Ho (g h:Heap) (L:Addr):List (Addr × Obj):=(List.range h.objs.size).filterMap fun a=>if a=L∨(g.get? a).isSome=true then none else (h.get? a).map fun o=>(a,o)
noncomputable def rest (g h:Heap) (L d:Addr):List (Addr × Obj):=(Ho g h L).filter fun p=>decide (p.1≠d)
open PySem PySem.Spec PyProof.Rows
structure Mod (K:PySem.W.Frag) (mg:Str→Option Value) (base:Heap):Prop where
 kin:K.In base
 glob:base.Ns mainGlobals mg
 blt:∃mb,base.Ns builtinsNs mb∧∀x:Str,x≠"__name__"→mb x=bootBuiltins x
 nolimit:base.NoLimit
structure Cx where
 prog:Program
 w:World
 K:PySem.W.Frag
 mg:Str→Option Value
 base:Heap
 A:Around
 N:List Str
 s₀:Shared
 H₀:Hp
 env:Env
 outer:List Env
 stack:List Env
 ex:List Addr
 fn:Str→Bool
 calm:Bool
 pn:List (Addr × Obj)
 xe:Value→Shared→Prop
noncomputable def frs (l:List Env):List Addr:=l.filterMap (·.frame)
noncomputable abbrev Cx.fs (X:Cx):List Addr:=frs X.outer
noncomputable def Vis (sc:Scope) (x:Str):Prop:=sc.names.lookup x=some .local∨sc.names.lookup x=some .cell∨sc.names.lookup x=some .free
noncomputable def Loc (sc:Scope) (x:Str):Prop:=sc.names.lookup x=some .local∨sc.names.lookup x=some .cell
noncomputable def Look (env:Env) (h:Heap) (m:Str→Option Value) (x:Str) (u:Value):Prop:=
 (env.kindOf x=some .local∧m x=some u)∨((env.kindOf x=some .cell∨env.kindOf x=some .free)∧∃c,env.cells.lookup x=some c∧h.IsCell c (some u))
structure Cx.Ok (X:Cx):Prop where
 mod:Mod X.K X.mg X.base
 kind:X.env.scope.kind=.function
 glob:X.env.globals=mainGlobals
 blt:X.env.builtins=builtinsNs
 above:X.s₀.heap.objs.size≤X.env.locals
 inj:∀x y c,X.env.cells.lookup x=some c→X.env.cells.lookup y=some c→x=y
 has:∀x,(X.env.kindOf x=some .cell∨X.env.kindOf x=some .free)→∃c,X.env.cells.lookup x=some c
 cab:∀x c,X.fn x=true→X.env.cells.lookup x=some c→X.s₀.heap.objs.size≤c
 hd:X.calm=true→X.A.handled=none
 frames:X.A.frames=some X.stack
 stk:X.stack=X.outer∨(X.stack=X.env::X.outer∧X.env.frame=some X.env.locals)
 exf:∀b∈X.ex,b≠X.env.locals∧∀x c,X.env.cells.lookup x=some c→c≠b
 bs:∀b o,X.base.get? b=some o→X.s₀.heap.get? b=some o∧X.H₀ b=none
 bsz:X.base.objs.size≤X.s₀.heap.objs.size
 noex:∀b o,X.base.get? b=some o→b∉X.ex
 exfs:∀b∈X.ex,b∉X.fs
 funs:X.s₀.heap.FunFrames X.base X.outer
 frf:∀b∈X.fs,X.H₀ b=none
structure Inv (X:Cx) (pins:List (Addr × Obj)) (σ:List (Option V)) (H:Hp) (s:Shared):Prop where
 ok:X.Ok
 os:s.os=X.s₀.os
 bare:AllBare s.gens
 base:Un X.fs X.ex X.H₀ H X.s₀.heap s.heap
 loc:∃m,s.heap.Ns X.env.locals m∧∀(i:Nat) (x:Str) (v:V),X.N[i]?=some x→σ[i]?=some (some v)→Vis X.env.scope x→∃u,RelV v u∧Look X.env s.heap m x u
 cell:∀x c,X.env.cells.lookup x=some c→∃v,s.heap.IsCell c v
 free:H X.env.locals=none
 freeC:∀x c,X.env.cells.lookup x=some c→H c=none
 pin:∀p∈X.pn++pins,s.heap.get? p.1=some p.2∧H p.1=none∧p.1≠X.env.locals∧p.1∉X.fs∧∀v,p.2.data≠.cell v
 hok:HOk X.prog X.w H s.heap
 len:σ.length=X.N.length
section
variable {X:Cx} {pins:List (Addr × Obj)} {σ:List (Option V)} {H H':Hp} {s:Shared} {h':Heap}
theorem Cx.Ok.nofr (ok:X.Ok) {b:Addr} {o:Obj} (e:X.base.get? b=some o):b∉X.fs:=fun hb=>by
 have:=(ok.funs.mem hb).1
 rw [e] at this;cases this
theorem Inv.bs (I:Inv X pins σ H s):∀b o,X.base.get? b=some o→s.heap.get? b=some o∧H b=none:=fun b o e=>
 ⟨I.base.keep b o (I.ok.bs b o e).1 (I.ok.bs b o e).2 (I.ok.nofr e) (I.ok.noex b o e),I.base.free b o (I.ok.bs b o e).1 (I.ok.bs b o e).2 (I.ok.noex b o e)⟩
theorem Inv.bk (I:Inv X pins σ H s):∀b o,X.base.get? b=some o→s.heap.get? b=some o:=fun b o e=>(I.bs b o e).1
theorem Inv.mod (I:Inv X pins σ H s):Mod X.K X.mg X.base:=I.ok.mod
theorem Inv.kIn (I:Inv X pins σ H s):X.K.In s.heap:=I.ok.mod.kin.keeps I.bk
theorem Inv.lt (I:Inv X pins σ H s):X.env.locals < s.heap.objs.size:=let ⟨_,hn,_⟩:=I.loc;hn.lt
theorem Inv.sz (I:Inv X pins σ H s):X.s₀.heap.objs.size≤s.heap.objs.size:=Nat.le_trans I.ok.above (Nat.le_of_lt I.lt)
theorem Inv.nofs (I:Inv X pins σ H s) {a:Addr} (h:s.heap.objs.size≤a):a∉X.fs:=fun hb=>by
 obtain ⟨_,o,ho,_⟩:=I.ok.funs.mem hb
 exact absurd (Nat.lt_of_lt_of_le (Heap.lt_size ho) (Nat.le_trans I.sz h)) (Nat.lt_irrefl _)
theorem Inv.cne (I:Inv X pins σ H s):∀x c,X.env.cells.lookup x=some c→c≠X.env.locals:=fun x c e z=>by
 obtain ⟨v,o,ho,hd⟩:=I.cell x c e
 obtain ⟨m,⟨o',es,ep,ho',hd',_⟩,_⟩:=I.loc
 rw [z,ho'] at ho;cases ho;rw [hd'] at hd;cases hd
theorem Inv.funs (I:Inv X pins σ H s):s.heap.FunFrames X.base X.outer:=by
 have all:∀(l:List Env),(∀b∈frs l,b∈X.fs)→X.s₀.heap.FunFrames X.base l→s.heap.FunFrames X.base l:=by
  intro l
  induction l with
  | nil=>intro _ _;trivial
  | cons env r ih=>
   intro hs hl
   obtain ⟨hk,⟨L,o,hf,hn,ho,hd⟩,hr⟩:=hl
   have hL:L∈X.fs:=hs L (by unfold frs;rw [List.filterMap_cons,hf];exact List.mem_cons_self)
   obtain ⟨sl,e⟩:=I.base.slot L o ho (I.ok.frf L hL) hL fun z=>I.ok.exfs L z hL
   exact ⟨hk,⟨L,_,hf,hn,e,hd⟩,ih (fun b hb=>hs b (by unfold frs;rw [List.filterMap_cons,hf];exact List.mem_cons_of_mem _ hb)) hr⟩
 exact all X.outer (fun _ hb=>hb) I.ok.funs
theorem Inv.stack (I:Inv X pins σ H s):s.heap.FunFrames X.base X.stack:=by
 rcases I.ok.stk with e | ⟨e,hf⟩
 ·rw [e];exact I.funs
 ·rw [e]
  obtain ⟨m,hn,_⟩:=I.loc
  refine .cons (by rw [I.ok.kind];decide) hf hn ?_ I.funs
  exact Heap.get?_none_of_le (Nat.le_trans I.ok.bsz I.ok.above)
theorem Inv.stkSub (I:Inv X pins σ H s):∀b∈frs X.stack,b∈X.env.locals::X.fs:=fun b hb=>by
 rcases I.ok.stk with e | ⟨e,hf⟩
 ·rw [e] at hb;exact List.mem_cons_of_mem _ hb
 ·rw [e] at hb
  unfold frs at hb
  rw [List.filterMap_cons,hf] at hb
  exact hb
theorem Inv.stkFree (I:Inv X pins σ H s):∀b∈frs X.stack,H b=none:=fun b hb=>by
 rcases List.mem_cons.mp (I.stkSub b hb) with e | hb
 ·rw [e];exact I.free
 ·obtain ⟨_,o,ho,_⟩:=I.ok.funs.mem hb
  exact I.base.free b o ho (I.ok.frf b hb) fun z=>I.ok.exfs b z hb
theorem Inv.step {g':Array GenState} {t':Nat} {d':Drawn} {ch:List Addr} (I:Inv X pins σ H s)
  (hch:∀b∈ch,(b∈X.ex∨X.s₀.heap.objs.size≤b)∧b≠X.env.locals∧(∀x c,X.env.cells.lookup x=some c→c≠b)∧∀p∈X.pn++pins,p.1≠b)
  (keep:∀b o,b≠X.env.locals→b∉X.fs→b∉ch→s.heap.get? b=some o→H b=none→h'.get? b=some o)
  (slot:∀b o,b≠X.env.locals→b∈X.fs→b∉ch→s.heap.get? b=some o→H b=none→∃sl,h'.get? b=some {o with slots:=sl}) (free:∀b o,b∉ch→s.heap.get? b=some o→H b=none→H' b=none)
  (there:∀b o,b∉ch→s.heap.get? b=some o→∃o',h'.get? b=some o')
  (tups:∀b xs,H b=some (.tup xs)→H' b=some (.tup xs)) (frzs:∀b o u,H b=some (.frz o u)→H' b=some (.frz o u)) (tbls:∀b ps,H b=some (.tbl ps)→∃more,H' b=some (.tbl (ps++more)))
  (ns:∀m,s.heap.Ns X.env.locals m→h'.Ns X.env.locals m) (hok:HOk X.prog X.w H' h') (hg:AllBare g'):
  Inv X pins σ H' {s with heap:=h',gens:=g',drawn:=d',toks:=t'}:=by
 have neL:∀b o,X.s₀.heap.get? b=some o→b≠X.env.locals:=fun b o e=>Nat.ne_of_lt (Nat.lt_of_lt_of_le (Heap.lt_size e) I.ok.above)
 have neC:∀b o,X.s₀.heap.get? b=some o→b∉X.ex→b∉ch:=fun b o e hx hb=>by
  rcases (hch b hb).1 with z | z
  ·exact hx z
  ·exact absurd (Nat.lt_of_lt_of_le (Heap.lt_size e) z) (Nat.lt_irrefl _)
 have cellK:∀x c,X.env.cells.lookup x=some c→∀v,s.heap.IsCell c v→h'.IsCell c v:=fun x c e v ⟨o,ho,hd⟩=>by
  have nch:c∉ch:=fun z=>(hch c z).2.2.1 x c e rfl
  by_cases hc:c∈X.fs
  ·obtain ⟨sl,q⟩:=slot c o (I.cne x c e) hc nch ho (I.freeC x c e)
   exact ⟨_,q,hd⟩
  ·exact ⟨o,keep c o (I.cne x c e) hc nch ho (I.freeC x c e),hd⟩
 refine ⟨I.ok,I.os,hg,⟨fun b o e n hb hx=>?_,fun b o e n hb hx=>?_,fun b o e n hx=>?_,fun b o e hx=>?_,fun b xs e=>tups b xs (I.base.tups b xs e),fun b o xs e=>frzs b o xs (I.base.frzs b o xs e),fun b ps e=>?_⟩,?_,fun x c e=>?_,?_,fun x c e=>?_,fun p hp=>?_,hok,I.len⟩
 ·exact keep b o (neL b o e) hb (neC b o e hx) (I.base.keep b o e n hb hx) (I.base.free b o e n hx)
 ·obtain ⟨sl,e1⟩:=I.base.slot b o e n hb hx
  obtain ⟨sl',e2⟩:=slot b _ (neL b o e) hb (neC b o e hx) e1 (I.base.free b o e n hx)
  exact ⟨sl',e2⟩
 ·obtain ⟨o',e1⟩:=I.base.there b o e hx
  exact free b o' (neC b o e hx) e1 (I.base.free b o e n hx)
 ·obtain ⟨o',e1⟩:=I.base.there b o e hx
  exact there b o' (neC b o e hx) e1
 ·obtain ⟨m1,e1⟩:=I.base.tbls b ps e
  obtain ⟨m2,e2⟩:=tbls b _ e1
  exact ⟨m1++m2,by rw [e2,Array.append_assoc]⟩
 ·obtain ⟨m,hn,hl⟩:=I.loc
  refine ⟨m,ns m hn,fun i x v e1 e2 e3=>?_⟩
  obtain ⟨u,r,l⟩:=hl i x v e1 e2 e3
  refine ⟨u,r,?_⟩
  rcases l with l | ⟨k,c,e,z⟩
  ·exact .inl l
  ·exact .inr ⟨k,c,e,cellK x c e _ z⟩
 ·obtain ⟨v,z⟩:=I.cell x c e
  exact ⟨v,cellK x c e v z⟩
 ·obtain ⟨m,⟨o,_,_,ho,_⟩,_⟩:=I.loc
  exact free _ o (fun z=>(hch _ z).2.1 rfl) ho I.free
 ·obtain ⟨v,o,ho,hd⟩:=I.cell x c e
  exact free c o (fun z=>(hch c z).2.2.1 x c e rfl) ho (I.freeC x c e)
 ·obtain ⟨e,n,ne,nf,d⟩:=I.pin p hp
  have nch:p.1∉ch:=fun z=>(hch p.1 z).2.2.2 p hp rfl
  exact ⟨keep p.1 p.2 ne nf nch e n,free p.1 p.2 nch e n,ne,nf,d⟩
theorem Inv.un {t':Nat} (I:Inv X pins σ H s) (u:Un X.fs [] H H' s.heap h') (hok:HOk X.prog X.w H' h'):Inv X pins σ H' {s with heap:=h',toks:=t'}:=by
 obtain ⟨m,⟨o,es,ep,ho,r⟩,_⟩:=id I.loc
 obtain ⟨sl,hL⟩:=u.any ho I.free (by simp)
 exact I.step (g':=s.gens) (d':=s.drawn) (ch:=[]) (fun _ z=>nomatch z) (fun b o _ hb _ e n=>u.keep b o e n hb (by simp)) (fun b o _ hb _ e n=>u.slot b o e n hb (by simp)) (fun b o _ e n=>u.free b o e n (by simp)) (fun b o _ e=>u.there b o e (by simp)) u.tups u.frzs u.tbls (fun m' hm=>by
  obtain ⟨o',es',ep',ho',r'⟩:=hm
  rw [ho] at ho';cases ho'
  exact ⟨_,es',ep',hL,r'⟩) hok I.bare
theorem Inv.call {g':Array GenState} {t':Nat} {d':Drawn} {ch:List Addr} (I:Inv X pins σ H s) (u:Un (frs X.stack) ch H H' s.heap h') (hok:HOk X.prog X.w H' h') (hg:AllBare g')
  (hch:∀b∈ch,(b∈X.ex∨X.s₀.heap.objs.size≤b)∧b≠X.env.locals∧(∀x c,X.env.cells.lookup x=some c→c≠b)∧∀p∈X.pn++pins,p.1≠b):
  Inv X pins σ H' {s with heap:=h',gens:=g',drawn:=d',toks:=t'}:=by
 obtain ⟨m,⟨o,es,ep,ho,r⟩,_⟩:=id I.loc
 obtain ⟨sl,hL⟩:=u.any ho I.free fun z=>(hch _ z).2.1 rfl
 exact I.step (ch:=ch) hch (fun b o hL hb hc e n=>u.keep b o e n (fun z=>(List.mem_cons.mp (I.stkSub b z)).elim hL hb) hc) (fun b o _ _ hc e n=>u.any e n hc) (fun b o hc e n=>u.free b o e n hc) (fun b o hc e=>u.there b o e hc) u.tups u.frzs u.tbls (fun m' hm=>by
  obtain ⟨o',es',ep',ho',r'⟩:=hm
  rw [ho] at ho';cases ho'
  exact ⟨_,es',ep',hL,r'⟩) hok hg
theorem Inv.turned {t':Nat} {it:Addr} (I:Inv X pins σ H s) (k:∀b o,b≠it→s.heap.get? b=some o→h'.get? b=some o) (hn:H it=none) (hL:it≠X.env.locals)
  (h1:it∈X.ex∨X.s₀.heap.objs.size≤it) (h2:∀x c,X.env.cells.lookup x=some c→c≠it) (h3:∀p∈X.pn++pins,p.1≠it):Inv X pins σ H {s with heap:=h',toks:=t'}:=by
 have nit:∀b u,H b=some u→b≠it:=fun b u e z=>by rw [z,hn] at e;cases e
 refine I.step (g':=s.gens) (d':=s.drawn) (ch:=[it]) (fun b hb=>?_) (fun b o _ _ hc e _=>k b o (fun z=>hc (by simp [z])) e) (fun b o _ _ hc e _=>⟨o.slots,k b o (fun z=>hc (by simp [z])) e⟩) (fun _ _ _ _ n=>n)
  (fun b o hc e=>⟨o,k b o (fun z=>hc (by simp [z])) e⟩) (fun _ _ e=>e) (fun _ _ _ e=>e) (fun b ps e=>⟨#[],by rw [e];simp⟩) (fun m hm=>?_) (fun b u e=>?_) I.bare
 ·have e:b=it:=by simpa using hb
  subst e
  exact ⟨h1,hL,h2,h3⟩
 ·obtain ⟨o,es,ep,ho,r⟩:=hm
  exact ⟨o,es,ep,k _ o (Ne.symm hL) ho,r⟩
 ·refine (I.hok b u e).stay (fun c v hc q=>k c v ?_ q) (fun _ q=>q) fun _ _ q=>q
  rcases hc with z | z
  ·rw [z];exact nit b u e
  ·exact nit c _ z
theorem Inv.tok (I:Inv X pins σ H s) (t:Nat):Inv X pins σ H {s with toks:=t}:=I.un (h':=s.heap) (t':=t) Un.refl I.hok
theorem Inv.kept {t':Nat} (I:Inv X pins σ H s) (k:∀b u,s.heap.get? b=some u→h'.get? b=some u):Inv X pins σ H {s with heap:=h',toks:=t'}:=I.un (Un.kept k) (I.hok.kept k)
theorem Inv.laid {a:Addr} {o:HO} {t':Nat} (I:Inv X pins σ H s) (k:∀b u,s.heap.get? b=some u→h'.get? b=some u) (hp:s.heap.objs.size≤a) (new:bB X.prog X.w (upd H a o) h' a o):
  Inv X pins σ (upd H a o) {s with heap:=h',toks:=t'}:=I.un (Un.laid k hp (I.hok.fresh hp)) (I.hok.laid k hp new)
theorem Inv.write {x e:Addr} {o:HO} {t':Nat} (I:Inv X pins σ H s) (mu:Mut (H x)) (he:e=x∨H e=some (.own x)) (k:∀b u,b≠e→s.heap.get? b=some u→h'.get? b=some u) (heo:∃u,h'.get? e=some u)
  (new:bB X.prog X.w (upd H x o) h' x o):Inv X pins σ (upd H x o) {s with heap:=h',toks:=t'}:=I.un (Un.write mu he k heo) (I.hok.write mu he k heo new)
theorem Inv.pins_of {pins':List (Addr × Obj)} (I:Inv X pins σ H s) (h:∀p∈pins',s.heap.get? p.1=some p.2∧H p.1=none∧p.1≠X.env.locals∧p.1∉X.fs∧∀v,p.2.data≠.cell v):Inv X pins' σ H s:=
 ⟨I.ok,I.os,I.bare,I.base,I.loc,I.cell,I.free,I.freeC,fun p hp=>(List.mem_append.mp hp).elim (fun z=>I.pin p (List.mem_append_left _ z)) (h p),I.hok,I.len⟩
theorem vB {N:List Str} (hN:N.Nodup) {i j:Nat} {x:Str} (a:N[i]?=some x) (b:N[j]?=some x):i=j:=by
 obtain ⟨h1,e1⟩:=List.getElem?_eq_some_iff.mp a
 obtain ⟨h2,e2⟩:=List.getElem?_eq_some_iff.mp b
 exact (List.getElem_inj hN).mp (e1.trans e2.symm)
theorem nQ {M:Model} {A:Around} {E:Value→Shared→Prop} {i:Nat} {x:Str} {v:V} {u:Value} {Q:Unit→Shared→Prop} (I:Inv X pins σ H s) (hN:X.N.Nodup) (hi:X.N[i]?=some x) (hx:Loc X.env.scope x) (r:RelV v u)
  (h:∀s',Inv X pins (σ.set i (some v)) H s'→(∃a,Heap.SameBut a s.heap s'.heap∧(a=X.env.locals∨X.env.cells.lookup x=some a))→Q () s') (hf:X.fn x=true∨X.env.scope.names.lookup x=some .local:=by first | exact .inl rfl | exact .inr rfl | assumption):wpAny M A (storeName X.env x u) Q E s:=by
 obtain ⟨m,hn,hl⟩:=id I.loc
 have hcls:(X.env.scope.kind==.class || (X.env.scope.kind==.module && X.env.locals !=X.env.globals))=false:=by rw [I.ok.kind];rfl
 have hiσ:i < σ.length:=by rw [I.len];exact (List.getElem?_eq_some_iff.mp hi).1
 have cne:=I.cne
 have tracked:∀{a:Addr} {h':Heap},(∃o,s.heap.get? a=some o∧H a=none)→Heap.SameBut a s.heap h'→HOk X.prog X.w H h':=fun {a h'} ha hs b ob e=>by
  obtain ⟨_,_,hfree⟩:=ha
  refine (I.hok b ob e).stay (fun c w' hc q=>(hs.2 c ?_).trans q) (fun _ q=>q) fun _ _ q=>q
  rintro rfl
  rcases hc with rfl | hc
  ·rw [hfree] at e;cases e
  ·rw [hfree] at hc;cases hc
 rcases hx with hk | hk
 ·refine wpAny_storeName_local hk hn (fun h' hn' hs=>?_) hcls
  obtain ⟨oL,_,_,hoL,_⟩:=id hn
  refine h _ ⟨I.ok,I.os,I.bare,⟨fun b o e n hb hx=>?_,fun b o e n hb hx=>?_,I.base.free,fun b o e hx=>?_,I.base.tups,I.base.frzs,I.base.tbls⟩,⟨_,hn',fun j y v' e1 e2 e3=>?_⟩,fun y c e=>?_,I.free,I.freeC,fun p hp=>?_,tracked ⟨oL,hoL,I.free⟩ hs,by simpa using I.len⟩ ⟨_,hs,.inl rfl⟩
  ·exact (hs.2 b (Nat.ne_of_lt (Nat.lt_of_lt_of_le (Heap.lt_size e) I.ok.above))).trans (I.base.keep b o e n hb hx)
  ·obtain ⟨sl,e1⟩:=I.base.slot b o e n hb hx
   exact ⟨sl,(hs.2 b (Nat.ne_of_lt (Nat.lt_of_lt_of_le (Heap.lt_size e) I.ok.above))).trans e1⟩
  ·obtain ⟨o',e1⟩:=I.base.there b o e hx
   exact ⟨o',(hs.2 b (Nat.ne_of_lt (Nat.lt_of_lt_of_le (Heap.lt_size e) I.ok.above))).trans e1⟩
  ·by_cases hj:j=i
   ·subst hj
    rw [hi] at e1;cases e1
    rw [List.getElem?_set_self hiσ] at e2
    cases e2
    exact ⟨u,r,.inl ⟨hk,by simp⟩⟩
   ·rw [List.getElem?_set_ne (Ne.symm hj)] at e2
    obtain ⟨u',r',q⟩:=hl j y v' e1 e2 e3
    refine ⟨u',r',?_⟩
    rcases q with ⟨k,e⟩ | ⟨k,c,e,z⟩
    ·refine .inl ⟨k,?_⟩
     have:y≠x:=fun e=>hj (vB hN e1 (e▸hi))
     simp [this,e]
    ·exact .inr ⟨k,c,e,z.sameBut hs (cne y c e)⟩
  ·obtain ⟨w',z⟩:=I.cell y c e
   exact ⟨w',z.sameBut hs (cne y c e)⟩
  ·obtain ⟨e,n,ne,nf,d⟩:=I.pin p hp
   exact ⟨(hs.2 p.1 ne).trans e,n,ne,nf,d⟩
 ·have hfn:X.fn x=true:=by
   rcases hf with z | z
   ·exact z
   ·rw [z] at hk;cases hk
  obtain ⟨c,hc⟩:=I.ok.has x (.inl hk)
  obtain ⟨w',z⟩:=I.cell x c hc
  refine wpAny_storeName_cell I.ok.kind hk hc z (fun h' hc' hs=>?_)
  obtain ⟨oc,hoc,hocd⟩:=id z
  refine h {s with heap:=h'} ⟨I.ok,I.os,I.bare,⟨fun b o e n hb hx=>?_,fun b o e n hb hx=>?_,I.base.free,fun b o e hx=>?_,I.base.tups,I.base.frzs,I.base.tbls⟩,⟨m,hn.sameBut hs (Ne.symm (cne x c hc)),fun j y v' e1 e2 e3=>?_⟩,fun y c' e=>?_,I.free,I.freeC,fun p hp=>?_,tracked ⟨oc,hoc,I.freeC x c hc⟩ hs,by simpa using I.len⟩ ⟨c,hs,.inr hc⟩
  ·exact (hs.2 b (Nat.ne_of_lt (Nat.lt_of_lt_of_le (Heap.lt_size e) (I.ok.cab x c hfn hc)))).trans (I.base.keep b o e n hb hx)
  ·obtain ⟨sl,e1⟩:=I.base.slot b o e n hb hx
   exact ⟨sl,(hs.2 b (Nat.ne_of_lt (Nat.lt_of_lt_of_le (Heap.lt_size e) (I.ok.cab x c hfn hc)))).trans e1⟩
  ·obtain ⟨o',e1⟩:=I.base.there b o e hx
   exact ⟨o',(hs.2 b (Nat.ne_of_lt (Nat.lt_of_lt_of_le (Heap.lt_size e) (I.ok.cab x c hfn hc)))).trans e1⟩
  ·by_cases hj:j=i
   ·subst hj
    rw [hi] at e1;cases e1
    rw [List.getElem?_set_self hiσ] at e2
    cases e2
    exact ⟨u,r,.inr ⟨.inl hk,c,hc,hc'⟩⟩
   ·rw [List.getElem?_set_ne (Ne.symm hj)] at e2
    obtain ⟨u',r',q⟩:=hl j y v' e1 e2 e3
    refine ⟨u',r',?_⟩
    rcases q with q | ⟨k,c',e,z'⟩
    ·exact .inl q
    ·refine .inr ⟨k,c',e,z'.sameBut hs ?_⟩
     rintro rfl
     exact hj (vB hN e1 (I.ok.inj _ _ _ e hc▸hi))
  ·by_cases hcc:c'=c
   ·subst hcc;exact ⟨_,hc'⟩
   ·obtain ⟨w2,z2⟩:=I.cell y c' e
    exact ⟨w2,z2.sameBut hs hcc⟩
  ·obtain ⟨e,n,ne,nf,d⟩:=I.pin p hp
   refine ⟨(hs.2 p.1 ?_).trans e,n,ne,nf,d⟩
   intro q
   rw [q,hoc] at e
   have q':oc=p.2:=Option.some.inj e
   exact d w' (by rw [←q'];exact hocd)
theorem vC {M:Model} {A:Around} {E:Value→Shared→Prop} {i:Nat} {x:Str} {v:V} {u:Value} {Q:Unit→Shared→Prop} (I:Inv X pins σ H s) (hN:X.N.Nodup) (hi:X.N[i]?=some x) (hx:Loc X.env.scope x) (r:RelV v u)
  (h:∀s',Inv X pins (σ.set i (some v)) H s'→Q () s') (hf:X.fn x=true∨X.env.scope.names.lookup x=some .local:=by first | exact .inl rfl | exact .inr rfl | assumption):wpAny M A (storeName X.env x u) Q E s:=
 nQ I hN hi hx r (fun s' I' _=>h s' I') hf
theorem Inv.call' {s':Shared} {ch:List Addr} (I:Inv X pins σ H s) (ho:s'.os=s.os) (u:Un (frs X.stack) ch H H' s.heap s'.heap) (hok:HOk X.prog X.w H' s'.heap) (hg:AllBare s'.gens)
  (hch:∀b∈ch,(b∈X.ex∨X.s₀.heap.objs.size≤b)∧b≠X.env.locals∧(∀x c,X.env.cells.lookup x=some c→c≠b)∧∀p∈X.pn++pins,p.1≠b):Inv X pins σ H' s':=by
 obtain ⟨h',g',d',t',o'⟩:=s'
 have e:o'=s.os:=ho
 subst e
 exact I.call (g':=g') (t':=t') (d':=d') u hok hg hch
end
noncomputable abbrev XK:=Value→Option Addr→Hp→Prop
noncomputable abbrev St:=List (Option V)
noncomputable abbrev VK:=V→Hp→Prop
noncomputable abbrev TE:=St→Hp→VK→Prop
noncomputable abbrev TT:=St→Hp→(Bool→Hp→Prop)→Prop
noncomputable abbrev TA:=St→Hp→(List V→Hp→Prop)→Prop
structure Ends where
 nx:St→Hp→Prop
 rt:VK
 bk:St→Hp→Prop:=fun _ _=>False
 ct:St→Hp→Prop:=fun _ _=>False
noncomputable abbrev TS:=Ends→St→Hp→Prop
noncomputable def EP (X:Cx) (pins:List (Addr × Obj)) (σ:St) (Q:VK) (u:Value) (s':Shared):Prop:=∃v H',Inv X pins σ H' s'∧RelV v u∧Q v H'
noncomputable def TP (X:Cx) (pins:List (Addr × Obj)) (σ:St) (Q:Bool→Hp→Prop) (b:Bool) (s':Shared):Prop:=∃H',Inv X pins σ H' s'∧Q b H'
noncomputable def AP (X:Cx) (pins:List (Addr × Obj)) (σ:St) (Q:List V→Hp→Prop) (us:List Value) (s':Shared):Prop:=∃vs H',Inv X pins σ H' s'∧Vals vs us∧Q vs H'
noncomputable def SP (X:Cx) (pins:List (Addr × Obj)) (D:Ends) (f:Flow) (s':Shared):Prop:=
 match f with
 | .next=>∃σ' H',Inv X pins σ' H' s'∧D.nx σ' H'
 | .brk=>∃σ' H',Inv X pins σ' H' s'∧D.bk σ' H'
 | .cont=>∃σ' H',Inv X pins σ' H' s'∧D.ct σ' H'
 | .ret u=>∃v σ' H',Inv X pins σ' H' s'∧RelV v u∧D.rt v H'
noncomputable def PE (X:Cx) (e:Expr) (t:TE):Prop:=
 ∀(pins:List (Addr × Obj)) (s:Shared) (σ:St) (H:Hp) (Q:VK),Inv X pins σ H s→t σ H Q→wpAny (model X.prog X.w) X.A (eval e X.env) (EP X pins σ Q) X.xe s
noncomputable def PT (X:Cx) (e:Expr) (t:TT):Prop:=
 ∀(pins:List (Addr × Obj)) (s:Shared) (σ:St) (H:Hp) (Q:Bool→Hp→Prop),Inv X pins σ H s→t σ H Q→wpAny (model X.prog X.w) X.A (isTrue e X.env (eval e X.env)) (TP X pins σ Q) X.xe s
noncomputable def PW (X:Cx) (e:Expr) (t:TT):Prop:=
 ∀(whole:Sem Value) (pins:List (Addr × Obj)) (s:Shared) (σ:St) (H:Hp) (Q:Bool→Hp→Prop),Inv X pins σ H s→t σ H Q→wpAny (model X.prog X.w) X.A (isTrue e X.env whole) (TP X pins σ Q) X.xe s
theorem PW.pt {X:Cx} {e:Expr} {t:TT} (h:PW X e t):PT X e t:=h _
noncomputable def PA (X:Cx) (es:List Expr) (t:TA):Prop:=
 ∀(pos:Pos) (pins:List (Addr × Obj)) (s:Shared) (σ:St) (H:Hp) (Q:List V→Hp→Prop),Inv X pins σ H s→t σ H Q→wpAny (model X.prog X.w) X.A (spliced (backTo pos (starEach es X.env))) (AP X pins σ Q) X.xe s
noncomputable def PS (X:Cx) (st:Stmt) (t:TS):Prop:=
 ∀(pins:List (Addr × Obj)) (s:Shared) (σ:St) (H:Hp) (D:Ends),Inv X pins σ H s→t D σ H→wpAny (model X.prog X.w) X.A (exec st X.env) (SP X pins D) X.xe s
noncomputable def PSs (X:Cx) (st:List Stmt) (t:TS):Prop:=
 ∀(pins:List (Addr × Obj)) (s:Shared) (σ:St) (H:Hp) (D:Ends),Inv X pins σ H s→t D σ H→wpAny (model X.prog X.w) X.A (execs st X.env) (SP X pins D) X.xe s
theorem thn {α:Type} {t:Sem α} {Q Q':α→Shared→Prop} {M:Model} {A:Around} {E:Value→Shared→Prop} {s:Shared} (h:wpAny M A t Q E s) (hQ:∀a s,Q a s→Q' a s):wpAny M A t Q' E s:=wpAny_mono h hQ fun _ _ x=>x
open PySem PySem.Spec PyProof.Rows
section
variable {X:Cx}
theorem bin {a b:Expr} {ta tb:TE} (ha:PE X a ta) (hb:PE X b tb) {pins:List (Addr × Obj)} {s:Shared} {σ:St} {H:Hp} {R:V→V→Hp→Prop} (I:Inv X pins σ H s) (h:ta σ H fun x H1=>tb σ H1 fun y H2=>R x y H2)
  {α:Type} {Q:α→Shared→Prop} {f:Value→Value→Sem α}
  (hf:∀v u s2 x y H2,Inv X pins σ H2 s2→RelV x v→RelV y u→R x y H2→wpAny (model X.prog X.w) X.A (f v u) Q X.xe s2):
  wpAny (model X.prog X.w) X.A (eval a X.env) (fun v s₁=>wpAny (model X.prog X.w) X.A (eval b X.env) (fun u s₂=>wpAny (model X.prog X.w) X.A (f v u) Q X.xe s₂) X.xe s₁) X.xe s:=by
 refine thn (ha pins s σ H _ I h) fun v s1 ⟨x,H1,I1,r1,q1⟩=>?_
 refine thn (hb pins s1 σ H1 _ I1 q1) fun u s2 ⟨y,H2,I2,r2,q2⟩=>?_
 exact hf v u s2 x y H2 I2 r1 r2 q2
noncomputable def M9 (i:Nat):TE:=fun σ H Q=>∃v,σ[i]?=some (some v)∧Q v H
noncomputable def tC (v:V):TE:=fun _ H Q=>Q v H
theorem Ke {i:Nat} {x:Str} {pos:Pos} (hN:X.N[i]?=some x) (hv:Vis X.env.scope x) (hd:(x==("__debug__":Str))=false:=by decide) (hcd:(x==("__classdict__":Str))=false:=by decide):PE X (.Name x pos) (M9 i):=by
 intro pins s σ H Q I h
 obtain ⟨v,e,h⟩:=h
 obtain ⟨m,hn,hl⟩:=I.loc
 obtain ⟨u,r,l⟩:=hl i x v hN e hv
 have fin:EP X pins σ Q u s:=⟨v,H,I,r,h⟩
 rcases l with ⟨hk,hm⟩ | ⟨hk,c,hc,hcell⟩
 ·exact wpAny_Name (wpAny_loadName_local I.ok.kind hk hn hm fin) hd
 ·rcases hk with hk | hk
  ·exact wpAny_Name (wpAny_loadName_cell I.ok.kind hk hc hcell fin) hd
  ·exact wpAny_Name (wpAny_loadName_free I.ok.kind hk hc hcell fin hcd) hd
theorem au {i j pos}:PE X (.Constant (.int i) j pos) (tC (.int i)):=fun _ _ _ H _ I h=>wpAny_Constant_int ⟨.int i,H,I.tok _,⟨_,rfl⟩,h⟩
theorem jK {b j pos}:PE X (.Constant (.bool b) j pos) (tC (.bl b)):=fun _ _ _ H _ I h=>Constant_bool ⟨.bl b,H,I,rfl,h⟩
theorem jw {j pos}:PE X (.Constant .none j pos) (tC .non):=fun _ _ _ H _ I h=>Constant_none ⟨.non,H,I,rfl,h⟩
theorem ik {x j pos}:PE X (.Constant (.str x) j pos) (tC (.str x)):=fun _ _ _ H _ I h=>Calls.Constant_str ⟨.str x,H,I.tok _,⟨_,rfl⟩,h⟩
noncomputable def Gl (X:Cx) (x:Str):Prop:=X.env.kindOf x=some .globalImplicit
theorem jx {E:Value→Shared→Prop} {pins:List (Addr × Obj)} {s:Shared} {σ:St} {H:Hp} {x:Str} {u:Value} {pos:Pos} {Q:Value→Shared→Prop} (I:Inv X pins σ H s) (hg:Gl X x) (hm:X.mg x=some u) (h:Q u s)
  (hd:(x==("__debug__":Str))=false:=by decide):wpAny (model X.prog X.w) X.A (eval (.Name x pos) X.env) Q E s:=
 Calls.Name_function_global I.ok.kind hg (Calls.loadGlobal_global (by rw [I.ok.glob];exact I.mod.glob.keeps I.bk) hm h) hd
theorem lM {E:Value→Shared→Prop} {pins:List (Addr × Obj)} {s:Shared} {σ:St} {H:Hp} {x:Str} {u:Value} {pos:Pos} {Q:Value→Shared→Prop} (I:Inv X pins σ H s) (hg:Gl X x) (hm:X.mg x=none) (hv:bootBuiltins x=some u) (h:Q u s)
  (hn:x≠"__name__":=by decide) (hd:(x==("__debug__":Str))=false:=by decide):wpAny (model X.prog X.w) X.A (eval (.Name x pos) X.env) Q E s:=by
 obtain ⟨mb,h1,h2⟩:=I.mod.blt
 exact Calls.Name_function_global I.ok.kind hg (Calls.loadGlobal_builtin (by rw [I.ok.glob];exact I.mod.glob.keeps I.bk) hm (by rw [I.ok.blt];exact h1.keeps I.bk) ((h2 x hn).trans hv) h) hd
theorem Hr {x:Str} {v:V} {u:Value} {pos:Pos} (hg:Gl X x) (hm:X.mg x=some u) (r:RelV v u) (hd:(x==("__debug__":Str))=false:=by decide):PE X (.Name x pos) (tC v):=
 fun _ _ _ H _ I h=>jx I hg hm ⟨v,H,I,r,h⟩ hd
theorem Ht {x:Str} {v:V} {u:Value} {pos:Pos} (hg:Gl X x) (hm:X.mg x=none) (hv:bootBuiltins x=some u) (r:RelV v u) (hn:x≠"__name__":=by decide) (hd:(x==("__debug__":Str))=false:=by decide):PE X (.Name x pos) (tC v):=
 fun _ _ _ H _ I h=>lM I hg hm hv ⟨v,H,I,r,h⟩ hn hd
variable {a b:Expr} {ta tb:TE} {pos:Pos}
noncomputable def PC (X:Cx) (op:CmpOp) (a b:Expr) (t:TE):Prop:=
 ∀(pins:List (Addr × Obj)) (s:Shared) (σ:St) (H:Hp) (Q:VK),Inv X pins σ H s→t σ H Q→
  wpAny (model X.prog X.w) X.A (eval a X.env) (fun v s₁=>wpAny (model X.prog X.w) X.A (eval b X.env) (fun u s₂=>wpAny (model X.prog X.w) X.A (compareOp op v u) (EP X pins σ Q) X.xe s₂) X.xe s₁) X.xe s
theorem vD (b:Expr) {op:CmpOp} (h:op≠.In) (h2:op≠.NotIn):behindInMarks op b=false:=by
 have e1:(op==CmpOp.In)=false:=by cases op <;> first | rfl | exact absurd rfl h
 have e2:(op==CmpOp.NotIn)=false:=by cases op <;> first | rfl | exact absurd rfl h2
 cases b <;> simp [behindInMarks,e1,e2]
noncomputable def tB (t:TE):TT:=fun σ H Q=>t σ H fun x H1=>∃c,x=.bl c∧Q c H1
theorem CQ {op:CmpOp} {t:TE} (h:PC X op a b t) (h1:behindInMarks op b=false:=by first | exact vD _ (by decide) (by decide) | rfl):PE X (.Compare a [op] [b] pos) t:=fun pins s σ H Q I hw=>wpAny_Compare1 (h pins s σ H Q I hw) h1
theorem uc {op:CmpOp} {t:TE} (h:PC X op a b t) (h1:behindInMarks op b=false:=by first | exact vD _ (by decide) (by decide) | rfl):PT X (.Compare a [op] [b] pos) (tB t):=by
 intro pins s σ H Q I hw
 refine wpAny_isTrue_Compare1 (thn (h pins s σ H _ I hw) fun v s1 h1=>thn h1 fun u s2 h2=>thn h2 fun c s3 ⟨x,H1,I1,r1,q1⟩=>?_) h1
 obtain ⟨d,rfl,q⟩:=q1
 cases r1
 exact wpAny_truthy_bool ⟨H1,I1,q⟩
theorem iU {e:Expr} {t:TE} (h:PE X e t) (he:∀whole,isTrue e X.env whole=(do let v ←whole;standAt e.pos;holding [v] (truthy v)):=by intro _;rfl):PT X e (tB t):=by
 intro pins s σ H Q I hw
 refine isTrue_plain (thn (h pins s σ H _ I hw) fun v s1 ⟨x,H1,I1,r1,q1⟩=>?_) (he _)
 obtain ⟨d,rfl,q⟩:=q1
 cases r1
 exact wpAny_truthy_bool ⟨H1,I1,q⟩
variable {tA tB':TT} {rest:List Expr}
noncomputable def O8 (t u:TT):TT:=fun σ H Q=>t σ H fun c H1=>if c=true then u σ H1 Q else Q false H1
noncomputable def tOr (t u:TT):TT:=fun σ H Q=>t σ H fun c H1=>if c=true then Q true H1 else u σ H1 Q
noncomputable def O9 (t:TT):TT:=fun σ H Q=>t σ H fun c H1=>Q (!c) H1
theorem Hu (ha:PT X a tA):PW X (.BoolOp .And [a] pos) tA:=by
 intro wh pins s σ H Q I h
 refine isTrue_and (thn (ha pins s σ H Q I h) fun c s1 e=>?_)
 cases c with
 | true=>exact isTrue_and_nil e
 | false=>exact e
theorem ud (ha:PT X a tA):PW X (.BoolOp .Or [a] pos) tA:=by
 intro wh pins s σ H Q I h
 refine isTrue_or (thn (ha pins s σ H Q I h) fun c s1 e=>?_)
 cases c with
 | false=>exact isTrue_or_nil e
 | true=>exact e
theorem Kf (ha:PT X a tA) (hb:PW X (.BoolOp .And (b::rest) pos) tB'):PW X (.BoolOp .And (a::b::rest) pos) (O8 tA tB'):=by
 intro wh pins s σ H Q I h
 refine isTrue_and (thn (ha pins s σ H _ I h) fun c s1 ⟨H1,I1,q1⟩=>?_)
 cases c with
 | true=>exact hb wh pins s1 σ H1 Q I1 q1
 | false=>exact ⟨H1,I1,q1⟩
theorem zj (ha:PT X a tA) (hb:PW X (.BoolOp .Or (b::rest) pos) tB'):PW X (.BoolOp .Or (a::b::rest) pos) (tOr tA tB'):=by
 intro wh pins s σ H Q I h
 refine isTrue_or (thn (ha pins s σ H _ I h) fun c s1 ⟨H1,I1,q1⟩=>?_)
 cases c with
 | true=>exact ⟨H1,I1,q1⟩
 | false=>exact hb wh pins s1 σ H1 Q I1 q1
theorem iV (ha:PT X a tA):PT X (.UnaryOp .Not a pos) (O9 tA):=by
 intro pins s σ H Q I h
 exact isTrue_not (ha pins s σ H (fun c H1=>Q (!c) H1) I h)
noncomputable def zm (ta tb:TE):TE:=fun σ H Q=>ta σ H fun x H1=>∃c,x=.bl c∧if c=true then tb σ H1 Q else Q (.bl false) H1
noncomputable def Pa (ta tb:TE):TE:=fun σ H Q=>ta σ H fun x H1=>∃c,x=.bl c∧if c=true then Q (.bl true) H1 else tb σ H1 Q
noncomputable def Nb (ta:TE):TE:=fun σ H Q=>ta σ H fun x H1=>∃c,x=.bl c∧Q (.bl (!c)) H1
theorem jy {op} {t:TE} (h:PE X a t):PE X (.BoolOp op [a] pos) t:=fun pins s σ H Q I hw=>BoolOp_one (h pins s σ H Q I hw)
theorem gH (ha:PE X a ta) (hb:PE X (.BoolOp .And (b::rest) pos) tb):PE X (.BoolOp .And (a::b::rest) pos) (zm ta tb):=by
 intro pins s σ H Q I h
 refine BoolOp_and (thn (ha pins s σ H _ I h) fun v s1 ⟨x,H1,I1,r1,q1⟩=>?_)
 obtain ⟨c,rfl,q1⟩:=q1
 cases r1
 refine wpAny_truthy_bool ?_
 cases c with
 | true=>exact hb pins s1 σ H1 Q I1 q1
 | false=>exact ⟨.bl false,H1,I1,rfl,q1⟩
theorem Nf (ha:PE X a ta) (hb:PE X (.BoolOp .Or (b::rest) pos) tb):PE X (.BoolOp .Or (a::b::rest) pos) (Pa ta tb):=by
 intro pins s σ H Q I h
 refine BoolOp_or (thn (ha pins s σ H _ I h) fun v s1 ⟨x,H1,I1,r1,q1⟩=>?_)
 obtain ⟨c,rfl,q1⟩:=q1
 cases r1
 refine wpAny_truthy_bool ?_
 cases c with
 | false=>exact hb pins s1 σ H1 Q I1 q1
 | true=>exact ⟨.bl true,H1,I1,rfl,q1⟩
theorem Kg (ha:PE X a ta):PE X (.UnaryOp .Not a pos) (Nb ta):=by
 intro pins s σ H Q I h
 refine UnaryOp_ (thn (ha pins s σ H _ I h) fun v s1 ⟨x,H1,I1,r1,q1⟩=>?_)
 obtain ⟨c,rfl,q1⟩:=q1
 cases r1
 exact not_of (wpAny_truthy_bool ⟨.bl (!c),H1,I1,rfl,q1⟩)
end
open PySem PySem.Spec PyProof.Rows
noncomputable def SqL (K:PySem.W.Frag) (H:Hp) (a:Addr) (xs:List V):Prop:=
 Rd H a (.lst xs)∨
  ∃(o:Obj) (its:Array Value) (n:Nat),K.lookup a=some o∧o.cls=.type "list"∧o.dict=none∧o.data=.seq its n∧its.size≤sizeLine∧Vals xs its.toList
noncomputable def SqT (K:PySem.W.Frag) (H:Hp) (a:Addr) (xs:List V):Prop:=
 Rd H a (.tup xs)∨
  ∃(o:Obj) (its:Array Value) (n:Nat),K.lookup a=some o∧o.cls=.type "tuple"∧o.data=.seq its n∧its.size≤sizeLine∧Vals xs its.toList
noncomputable def Pb:Value→Option V
 | .none=>some .non
 | .bool b=>some (.bl b)
 | .int i _=>some (.int i)
 | .str x _=>some (.str x)
 | .bytes b _=>some (.byt b)
 | .float b _=>some (.flt b)
 | .ref a=>some (.ref a)
 | .type n=>some (.ty n)
 | _=>none
theorem RelV.abs {x:V} {u:Value} (r:RelV x u):Pb u=some x:=by
 cases x with
 | non=>cases r;rfl
 | bl _=>cases r;rfl
 | int _=>obtain ⟨t,rfl⟩:=r;rfl
 | str _=>obtain ⟨t,rfl⟩:=r;rfl
 | byt _=>obtain ⟨t,rfl⟩:=r;rfl
 | flt _=>obtain ⟨t,rfl⟩:=r;rfl
 | ref _=>cases r;rfl
 | ty _=>cases r;rfl
theorem RelV.inj {x y:V} {u:Value} (r:RelV x u) (q:RelV y u):x=y:=Option.some.inj (r.abs.symm.trans q.abs)
theorem Vals.inj:∀{xs ys:List V} {us:List Value},Vals xs us→Vals ys us→xs=ys
 | _,_,_,.nil,.nil=>rfl
 | _,_,_,.cons r t,.cons r' t'=>by rw [r.inj r',Vals.inj t t']
section
variable {X:Cx} {pins:List (Addr × Obj)} {σ:St} {H:Hp} {s:Shared} {a:Addr} {xs ys:List V}
theorem SqL.of {K:PySem.W.Frag} (h:H a=some (.lst xs)):SqL K H a xs:=.inl (.inl h)
theorem SqT.of {K:PySem.W.Frag} (h:H a=some (.tup xs)):SqT K H a xs:=.inl (.inl h)
theorem Inv.list (I:Inv X pins σ H s) (h:SqL X.K H a xs):∃its:List Value,Vals xs its∧PlainL s.heap a its.toArray∧xs.length≤sizeLine:=by
 rcases h with h | ⟨o,its,n,hk,hc,hd,hs,hz,r⟩
 ·obtain ⟨z,its,n,r,e⟩:=h.ok I.hok
  exact ⟨its,r,⟨_,n,e,rfl,rfl,rfl⟩,z⟩
 ·refine ⟨its.toList,r,⟨o,n,I.kIn a o hk,hc,hd,by simpa using hs⟩,?_⟩
  have e:=r.length
  simp only [Array.length_toList] at e
  omega
theorem Inv.tuple (I:Inv X pins σ H s) (h:SqT X.K H a xs):∃its:List Value,Vals xs its∧IsTup s.heap a its.toArray∧xs.length≤sizeLine:=by
 rcases h with h | ⟨o,its,n,hk,hc,hs,hz,r⟩
 ·obtain ⟨z,its,r,p⟩:=h.ok I.hok
  exact ⟨its,r,p,z⟩
 ·refine ⟨its.toList,r,⟨o,I.kIn a o hk,hc,n,by simpa using hs⟩,?_⟩
  have e:=r.length
  simp only [Array.length_toList] at e
  omega
theorem Inv.list_inj (I:Inv X pins σ H s) (h:SqL X.K H a xs) (h':SqL X.K H a ys):xs=ys:=by
 obtain ⟨its,r,⟨o,n,e,_,_,d⟩,_⟩:=I.list h
 obtain ⟨its',r',⟨o',n',e',_,_,d'⟩,_⟩:=I.list h'
 rw [e] at e';cases e'
 rw [d] at d'
 injection d' with d1 _
 have:its=its':=by simpa using congrArg Array.toList d1
 subst this
 exact r.inj r'
theorem Inv.tuple_inj (I:Inv X pins σ H s) (h:SqT X.K H a xs) (h':SqT X.K H a ys):xs=ys:=by
 obtain ⟨its,r,⟨o,e,_,n,d⟩,_⟩:=I.tuple h
 obtain ⟨its',r',⟨o',e',_,n',d'⟩,_⟩:=I.tuple h'
 rw [e] at e';cases e'
 rw [d] at d'
 injection d' with d1 _
 have:its=its':=by simpa using congrArg Array.toList d1
 subst this
 exact r.inj r'
end
noncomputable abbrev Cx.wish (X:Cx) (E:Value→Shared→Prop):Cx:={X with xe:=E}
noncomputable abbrev Cx.nox (X:Cx):Cx:=X.wish fun _ _=>False
theorem Cx.Ok.wish {X:Cx} (ok:X.Ok) (E:Value→Shared→Prop):(X.wish E).Ok:=
 ⟨ok.mod,ok.kind,ok.glob,ok.blt,ok.above,ok.inj,ok.has,ok.cab,ok.hd,ok.frames,ok.stk,ok.exf,ok.bs,ok.bsz,ok.noex,ok.exfs,ok.funs,ok.frf⟩
theorem Cx.Ok.unwish {X:Cx} {E:Value→Shared→Prop} (ok:(X.wish E).Ok):X.Ok:=
 ⟨ok.mod,ok.kind,ok.glob,ok.blt,ok.above,ok.inj,ok.has,ok.cab,ok.hd,ok.frames,ok.stk,ok.exf,ok.bs,ok.bsz,ok.noex,ok.exfs,ok.funs,ok.frf⟩
section
variable {X:Cx} {pins:List (Addr × Obj)} {σ:St} {H:Hp} {s:Shared} {E:Value→Shared→Prop}
theorem Inv.wish (I:Inv X pins σ H s) (E:Value→Shared→Prop):Inv (X.wish E) pins σ H s:=⟨I.ok.wish E,I.os,I.bare,I.base,I.loc,I.cell,I.free,I.freeC,I.pin,I.hok,I.len⟩
theorem Inv.unwish (I:Inv (X.wish E) pins σ H s):Inv X pins σ H s:=⟨I.ok.unwish,I.os,I.bare,I.base,I.loc,I.cell,I.free,I.freeC,I.pin,I.hok,I.len⟩
theorem SP.unwish {D:Ends} {f:Flow} {s':Shared} (h:SP (X.wish E) pins D f s'):SP X pins D f s':=by
 cases f with
 | next=>obtain ⟨σ',H',I,q⟩:=h;exact ⟨σ',H',I.unwish,q⟩
 | brk=>obtain ⟨σ',H',I,q⟩:=h;exact ⟨σ',H',I.unwish,q⟩
 | cont=>obtain ⟨σ',H',I,q⟩:=h;exact ⟨σ',H',I.unwish,q⟩
 | ret u=>obtain ⟨v,σ',H',I,r,q⟩:=h;exact ⟨v,σ',H',I.unwish,r,q⟩
theorem PSs.nox {st:List Stmt} {t:TS} (h:PSs X.nox st t):PSs X st t:=fun pins s σ H D I hw=>
 wpAny_mono (h pins s σ H D (I.wish _) hw) (fun _ _ q=>q.unwish) fun _ _ z=>False.elim z
end
section
variable {X:Cx} {st:Stmt} {rest:List Stmt} {t u:TS} {e:Expr} {te:TE} {pos:Pos}
noncomputable def zp:TS:=fun D σ H=>D.nx σ H
noncomputable def xO (t u:TS):TS:=fun D σ H=>t {D with nx:=u D} σ H
theorem bw:PSs X [] zp:=fun _ _ σ H _ I h=>wpAny_execs_nil ⟨σ,H,I,h⟩
theorem ao (h1:PS X st t) (h2:PSs X rest u):PSs X (st::rest) (xO t u):=by
 intro pins s σ H D I h
 refine wpAny_execs_cons (thn (h1 pins s σ H {D with nx:=u D} I h) fun f s1 q=>?_)
 cases f with
 | next=>
  obtain ⟨σ',H',I',q⟩:=q
  exact h2 pins s1 σ' H' D I' q
 | ret v=>exact q
 | brk=>exact q
 | cont=>exact q
theorem az (h1:PS X st t):PSs X [st] t:=by
 intro pins s σ H D I h
 refine wpAny_execs_cons (thn (h1 pins s σ H D I h) fun f s1 q=>?_)
 cases f with
 | next=>exact wpAny_execs_nil q
 | ret v=>exact q
 | brk=>exact q
 | cont=>exact q
theorem Inv.quiet {pins:List (Addr × Obj)} {σ:St} {H:Hp} {s:Shared} (I:Inv X pins σ H s):interactive X.env=false:=by simp [interactive,I.ok.kind]
noncomputable def Ng (te:TE):TS:=fun D σ H=>te σ H fun _ H1=>D.nx σ H1
theorem cg (he:PE X e te) (hs:swapsWith e none pos.line X.env=pure false:=by rfl):PS X (.Expr e pos) (Ng te):=by
 intro pins s σ H D I h
 exact wpAny_Expr_any (thn (he pins s σ H _ I h) fun v s1 ⟨x,H1,I1,r1,q1⟩=>⟨σ,H1,I1,q1⟩) I.quiet hs
noncomputable def Hv (te:TE):TS:=fun D σ H=>te σ H D.rt
theorem aU (he:PE X e te):PS X (.Return (some e) pos) (Hv te):=by
 intro pins s σ H D I h
 exact wpAny_Return_some (thn (he pins s σ H _ I h) fun v s1 ⟨x,H1,I1,r1,q1⟩=>⟨x,σ,H1,I1,r1,q1⟩)
noncomputable def Kh (c:TT) (t u:TS):TS:=fun D σ H=>c σ H fun b H1=>if b=true then t D σ H1 else u D σ H1
theorem cI {c:Expr} {a b:List Stmt} {tc:TT} (hc:PT X c tc) (ha:PSs X a t) (hb:PSs X b u):PS X (.If c a b pos) (Kh tc t u):=by
 intro pins s σ H D I h
 refine wpAny_If (thn (hc pins s σ H _ I h) fun d s1 ⟨H1,I1,q1⟩=>?_)
 cases d with
 | true=>exact ha pins s1 σ H1 D I1 q1
 | false=>exact hb pins s1 σ H1 D I1 q1
noncomputable def Kl:TS:=fun _ _ _=>False
theorem pQ:PS X st Kl:=fun _ _ _ _ _ _ h=>h.elim
end
noncomputable abbrev TG:=V→St→Hp→(St→Hp→Prop)→Prop
noncomputable abbrev TGs:=List V→St→Hp→(St→Hp→Prop)→Prop
noncomputable def PG (X:Cx) (target:Expr) (t:TG):Prop:=
 ∀(pins:List (Addr × Obj)) (s:Shared) (σ:St) (H:Hp) (v:V) (u:Value) (Q:St→Hp→Prop),Inv X pins σ H s→RelV v u→t v σ H Q→
  wpAny (model X.prog X.w) X.A (assign target X.env u) (fun _ s'=>∃σ' H',Inv X pins σ' H' s'∧Q σ' H') X.xe s
noncomputable def PGs (X:Cx) (ts:List Expr) (t:TGs):Prop:=
 ∀(pins:List (Addr × Obj)) (s:Shared) (σ:St) (H:Hp) (vs:List V) (us:List Value) (Q:St→Hp→Prop),Inv X pins σ H s→Vals vs us→t vs σ H Q→
  wpAny (model X.prog X.w) X.A (assignInOrder ((assignEach ts X.env).map (·.2)) us) (fun _ s'=>∃σ' H',Inv X pins σ' H' s'∧Q σ' H') X.xe s
noncomputable abbrev Km:=V→V→V→Hp→(Hp→Prop)→Prop
noncomputable def Nh (X:Cx) (t:Km):Prop:=
 ∀(pins:List (Addr × Obj)) (s:Shared) (σ:St) (H:Hp) (o i v:V) (ov iv u:Value) (Q:Hp→Prop),Inv X pins σ H s→RelV o ov→RelV i iv→RelV v u→t o i v H Q→
  wpAny (model X.prog X.w) X.A (setItem ov iv u) (fun _ s'=>∃H',Inv X pins σ H' s'∧Q H') X.xe s
section
variable {X:Cx} {pos:Pos}
noncomputable def cJ (i:Nat):TG:=fun v σ H Q=>Q (σ.set i (some v)) H
theorem aJ {i:Nat} {x:Str} (hN:X.N.Nodup) (hi:X.N[i]?=some x) (hx:Loc X.env.scope x) (hf:X.fn x=true∨X.env.scope.names.lookup x=some .local:=by first | exact .inl rfl | exact .inr rfl | assumption):PG X (.Name x pos) (cJ i):=by
 intro pins s σ H v u Q I r h
 exact wpAny_assign_Name (vC I hN hi hx r (fun s' I'=>⟨_,H,I',h⟩) hf)
noncomputable def CT:TGs:=fun vs σ H Q=>vs=[]∧Q σ H
noncomputable def lE (t:TG) (u:TGs):TGs:=fun vs σ H Q=>∃v r,vs=v::r∧t v σ H fun σ' H'=>u r σ' H' Q
theorem jz:PGs X [] CT:=by
 intro pins s σ H vs us Q I r h
 obtain ⟨e,h⟩:=h
 subst e
 cases r
 exact assignInOrder_nil ⟨σ,H,I,h⟩
theorem bQ {e:Expr} {es:List Expr} {t:TG} {u:TGs} (h1:PG X e t) (h2:PGs X es u)
  (hs:(assignEach (e::es) X.env).map (·.2)=assign e X.env::(assignEach es X.env).map (·.2):=by rfl):PGs X (e::es) (lE t u):=by
 intro pins s σ H vs us Q I r h
 obtain ⟨v,vr,e1,h⟩:=h
 subst e1
 cases r with
 | cons r rr=>
  rw [hs]
  refine assignInOrder_cons (thn (h1 pins s σ H _ _ _ I r h) fun _ s1 ⟨σ1,H1,I1,q1⟩=>?_)
  exact h2 pins s1 σ1 H1 _ _ Q I1 rr q1
noncomputable def Aq (K:PySem.W.Frag) (n:Nat) (t:TGs):TG:=fun v σ H Q=>∃a xs,v=.ref a∧SqT K H a xs∧xs.length=n∧t xs σ H Q
theorem xP {es:List Expr} {k:Nat} {t:TGs} {n:Nat} (hc:X.calm=true) (h:PGs X es t)
  (hn:(assignEach es X.env).length=n:=by rfl) (hst:(assignEach es X.env).findIdx? (·.1)=none:=by rfl):PG X (.Tuple es k pos) (Aq X.K n t):=by
 intro pins s σ H v u Q I r hw
 obtain ⟨a,xs,e1,hq,hl,hw⟩:=hw
 subst e1
 cases r
 obtain ⟨its,rv,ht,hz⟩:=I.tuple hq
 refine assign_Tuple_tuple (I.ok.hd hc) ht (by simp [hn,←hl,rv.length]) hst fun h' hx=>?_
 have I1:Inv X pins σ H {s with heap:=h'}:=I.kept (t':=s.toks) fun b o e=>hx b o (Nat.ne_of_lt (Heap.lt_size e)) e
 exact h pins _ σ H xs _ Q I1 (by simpa using rv) hw
noncomputable def Pg (to ti:TE) (t:Km):TG:=fun v σ H Q=>to σ H fun o H1=>ti σ H1 fun i H2=>t o i v H2 fun H3=>Q σ H3
theorem Ko {o i:Expr} {to ti:TE} {t:Km} (ho:PE X o to) (hi:PE X i ti) (hs:Nh X t)
  (ha:∀v,assign (.Subscript o i pos) X.env v=(do
   let ov ←holding [v] (eval o X.env)
   let iv ←holding [v,ov] (eval i X.env)
   standAt pos
   holding [v,ov,iv] (setItem ov iv v)
   release [v,ov,iv] []):=by intro _;rfl):PG X (.Subscript o i pos) (Pg to ti t):=by
 intro pins s σ H v u Q I r h
 rw [ha]
 refine wpAny_bind (wpAny_holding (thn (ho pins s σ H _ I h) fun ov s1 ⟨x,H1,I1,r1,q1⟩=>?_))
 refine wpAny_bind (wpAny_holding (thn (hi pins s1 σ H1 _ I1 q1) fun iv s2 ⟨y,H2,I2,r2,q2⟩=>?_))
 refine wpAny_bind (wpAny_standAt (wpAny_bind (wpAny_holding (thn (hs pins s2 σ H2 x y v ov iv u _ I2 r1 r2 r q2) fun _ s3 ⟨H3,I3,q3⟩=>?_))))
 exact wpAny_release ⟨σ,H3,I3,q3⟩
noncomputable def vG (te:TE) (g:TG):TS:=fun D σ H=>te σ H fun x H1=>g x σ H1 D.nx
theorem Kp {tg e:Expr} {te:TE} {g:TG} (he:PE X e te) (hg:PG X tg g) (hs:swapsWithSole [tg] e pos.line X.env=pure false:=by rfl) (hw:swappedStores [tg] e X.env=pure none:=by rfl)
  (h1:(assignEach [tg] X.env).map (·.2)=[assign tg X.env]:=by rfl):PS X (.Assign [tg] e pos) (vG te g):=by
 intro pins s σ H D I h
 refine wpAny_Assign_stores (thn (he pins s σ H _ I h) fun v s1 ⟨x,H1,I1,r1,q1⟩=>?_) hs hw
 rw [h1]
 exact thn (hg pins s1 σ H1 x v _ I1 r1 q1) fun _ s2 q=>q
theorem aL {i:Nat} {x:Str} {e:Expr} {te:TE} {pos':Pos} (hN:X.N.Nodup) (hi:X.N[i]?=some x) (hx:Loc X.env.scope x) (he:PE X e te) (hs:swapsWith e (some (.Name x pos')) pos.line X.env=pure false:=by rfl) (hf:X.fn x=true∨X.env.scope.names.lookup x=some .local:=by first | exact .inl rfl | exact .inr rfl | assumption):
  PS X (.Assign [.Name x pos'] e pos) (vG te (cJ i)):=by
 intro pins s σ H D I h
 refine wpAny_Assign_Name (thn (he pins s σ H _ I h) fun v s1 ⟨y,H1,I1,r1,q1⟩=>?_) hs
 exact vC I1 hN hi hx r1 (fun s2 I2=>⟨_,H1,I2,q1⟩) hf
end
section
variable {X:Cx} {pos:Pos}
noncomputable def Kq (c:TT) (tb:TS):TS:=fun D σ H=>∃W:Nat→St→Hp→Prop,(∃m,W m σ H)∧∀m σ H,W m σ H→
 c σ H fun b H1=>if b=true then ∃N:St→Hp→Prop,(∀σ' H',N σ' H'→∃m',m' < m∧W m' σ' H')∧tb {D with nx:=N,ct:=N,bk:=D.nx} σ H1 else D.nx σ H1
theorem pR {c:Expr} {body:List Stmt} {tc:TT} {tb:TS} (hp:PassesOwn (model X.prog X.w) X.A X.env X.xe) (hc:PT X c tc) (hb:PSs X body tb):PS X (.While c body [] pos) (Kq tc tb):=by
 intro pins s σ H D I h
 obtain ⟨W,⟨m0,w0⟩,turn⟩:=h
 refine wpAny_While (codeAny_whileLoop (fun n s'=>∃σ' H',Inv X pins σ' H' s'∧W n σ' H') ?_ m0 ⟨σ,H,I,w0⟩)
 rintro n s1 ⟨σ1,H1,I1,w1⟩
 refine wpAny_passesOwn hp (thn (hc pins s1 σ1 H1 _ I1 (turn n σ1 H1 w1)) fun b s2 ⟨H2,I2,q2⟩=>?_)
 cases b with
 | true=>
  obtain ⟨N,hN,q2⟩:=q2
  rw [if_pos rfl]
  refine wpAny_passesOwn hp (thn (hb pins s2 σ1 H2 _ I2 q2) fun f s3 q3=>?_)
  cases f with
  | next=>
   obtain ⟨σ3,H3,I3,n3⟩:=q3
   obtain ⟨m',hm,w3⟩:=hN σ3 H3 n3
   exact ⟨m',hm,σ3,H3,I3,w3⟩
  | cont=>
   obtain ⟨σ3,H3,I3,n3⟩:=q3
   obtain ⟨m',hm,w3⟩:=hN σ3 H3 n3
   exact ⟨m',hm,σ3,H3,I3,w3⟩
  | brk=>exact q3
  | ret v=>exact q3
 | false=>
  rw [if_neg Bool.false_ne_true]
  exact wpAny_execs_nil ⟨σ1,H2,I2,q2⟩
end
structure It where
 go:Nat→Hp→Prop
 yld:Nat→Hp→V→Hp→Prop
 stop:Nat→Hp→Prop
noncomputable def rH (X:Cx) (pins:List (Addr × Obj)) (H:Hp) (b:Addr):Prop:=
 H b=none∧b≠X.env.locals∧b∉X.fs∧(b∈X.ex∨X.s₀.heap.objs.size≤b)∧(∀x c,X.env.cells.lookup x=some c→c≠b)∧∀p∈X.pn++pins,p.1≠b
theorem Inv.fpOk {X:Cx} {pins:List (Addr × Obj)} {σ:St} {H H':Hp} {s:Shared} {b:Addr} (I:Inv X pins σ H s) (hb:s.heap.objs.size≤b) (hn:H' b=none):rH X pins H' b:=by
 refine ⟨hn,Nat.ne_of_gt (Nat.lt_of_lt_of_le I.lt hb),I.nofs hb,.inr (Nat.le_trans I.sz hb),fun x c e z=>?_,fun p hp z=>?_⟩
 ·obtain ⟨v,q⟩:=I.cell x c e
  exact absurd (Nat.lt_of_lt_of_le q.lt (by rw [z];exact hb)) (Nat.lt_irrefl _)
 ·exact absurd (Nat.lt_of_lt_of_le (Heap.lt_size (I.pin p hp).1) (by rw [z];exact hb)) (Nat.lt_irrefl _)
structure Turn (P:Program) (w:World) (K:PySem.W.Frag) (tg:Expr) (J:It) (fp:List Addr) (it:Addr) (tn:Nat→Heap→Prop):Prop where
 mem:it∈fp
 obj:∀i h,tn i h→∀b∈fp,∃o,h.get? b=some o∧∀v,o.data≠.cell v
 keep:∀i h h',tn i h→(∀b∈fp,∀o,h.get? b=some o→h'.get? b=some o)→tn i h'
 item:∀(X:Cx),X.prog=P→X.w=w→X.K=K→X.calm=true→∀(i:Nat) (pins:List (Addr × Obj)) (s:Shared) (σ:St) (H:Hp) (E:Value→Shared→Prop),Inv X pins σ H s→(∀b∈fp,rH X pins H b)→tn i s.heap→J.go i H→
  wpAny (model P w) X.A (pyNext (.ref it)) (fun r s1=>∃u,r=some u∧
   wpAny (model P w) X.A (letOwnedTupleGo tg (.ref it) u) (fun _ s2=>∃x H',Inv X pins σ H' s2∧RelV x u∧J.yld i H x H'∧tn (i+1) s2.heap∧∀b∈fp,H' b=none) E s1) E s
 done:∀(X:Cx),X.prog=P→X.w=w→X.K=K→X.calm=true→∀(i:Nat) (pins:List (Addr × Obj)) (s:Shared) (σ:St) (H:Hp) (E:Value→Shared→Prop),Inv X pins σ H s→(∀b∈fp,rH X pins H b)→tn i s.heap→J.stop i H→
  wpAny (model P w) X.A (pyNext (.ref it)) (fun r s1=>r=none∧Inv X pins σ H s1) E s
 self:∀(A:Around) (i:Nat) (s:Shared) (Q:Value→Shared→Prop) (E:Value→Shared→Prop),tn i s.heap→Q (.ref it) s→wpAny (model P w) A (pyIter (.ref it)) Q E s
noncomputable abbrev TI:=St→Hp→(It→Hp→Prop)→Prop
noncomputable def PIE (X:Cx) (pins:List (Addr × Obj)) (σ:St) (tg:Expr) (R:It→Hp→Prop) (itv:Value) (s2:Shared):Prop:=
 ∃(it:Addr) (fp:List Addr) (tn:Nat→Heap→Prop) (J:It) (H':Hp),itv=.ref it∧Inv X pins σ H' s2∧Turn X.prog X.w X.K tg J fp it tn∧tn 0 s2.heap∧(∀b∈fp,rH X pins H' b)∧R J H'
noncomputable def PI (X:Cx) (tg iter:Expr) (wi:TI):Prop:=
 ∀(pins:List (Addr × Obj)) (s:Shared) (σ:St) (H:Hp) (R:It→Hp→Prop),Inv X pins σ H s→wi σ H R→
  wpAny (model X.prog X.w) X.A (eval iter X.env) (fun v s1=>wpAny (model X.prog X.w) X.A (pyIter v) (PIE X pins σ tg R) X.xe s1) X.xe s
theorem rY {M:Model} {A:Around} {E:Value→Shared→Prop} {s:Shared} {tg:Expr} {it:Addr} {u:Value} {o:Obj} {n:String} {vs:Array Value} {Q:Unit→Shared→Prop} (ho:s.heap.get? it=some o) (hc:o.cls=.type n) (hd:o.data=.fields vs)
    (hn:["enumerate","zip","dict_itemiterator","dict_reverseitemiterator","odict_iterator","itertools.zip_longest","itertools.pairwise"].contains n=false) (hQ:Q () s):wpAny M A (letOwnedTupleGo tg (.ref it) u) Q E s:=by
  unfold letOwnedTupleGo
  cases tg <;> first
    | exact wpAny_pure hQ
    | (cases u <;> first
        | exact wpAny_pure hQ
        | (refine wpAny_bind (wpAny_load ho ?_)
           rw [hc,hd]
           show wpAny M A (if (["enumerate","zip","dict_itemiterator","dict_reverseitemiterator","odict_iterator","itertools.zip_longest","itertools.pairwise"].contains n && vs[0]?==some (rawInt _))=true then _ else _) Q E s
           rw [if_neg (by intro h;rw [hn,Bool.false_and] at h;cases h)]
           exact wpAny_pure hQ))
noncomputable def Itl (K:PySem.W.Frag) (a:Addr):It:=
 ⟨fun i H=>∃xs x,SqL K H a xs∧xs[i]?=some x,fun i H x H'=>H'=H∧∀xs,SqL K H a xs→xs[i]?=some x,fun i H=>∃xs,SqL K H a xs∧xs.length≤i⟩
noncomputable def Itt (K:PySem.W.Frag) (a:Addr):It:=
 ⟨fun i H=>∃xs x,SqT K H a xs∧xs[i]?=some x,fun i H x H'=>H'=H∧∀xs,SqT K H a xs→xs[i]?=some x,fun i H=>∃xs,SqT K H a xs∧xs.length≤i⟩
noncomputable def Itr (lo:Int) (n:Nat):It:=⟨fun i _=>i < n,fun i H x H'=>H'=H∧x=.int (lo+i),fun i _=>n≤i⟩
theorem Ar {P:Program} {w:World} {K:PySem.W.Frag} {tg:Expr} (a it:Addr):Turn P w K tg (Itl K a) [it] it (fun i h=>h.IsListIter it a i) where
 mem:=by simp
 obj:=fun i h st b hb=>by
  have e:b=it:=by simpa using hb
  subst e
  obtain ⟨o,e,c,d⟩:=st
  exact ⟨o,e,fun v z=>by rw [d] at z;cases z⟩
 keep:=fun i h h' st k=>st.at fun o e=>k it (by simp) o e
 item:=by
  intro X hP hw hK hc i pins s σ H E I hf st hg
  subst hP hw hK
  obtain ⟨xs,x,hq,hx⟩:=hg
  obtain ⟨its,rv,p,hz⟩:=I.list hq
  obtain ⟨u,hu,ru⟩:=rv.get hx
  obtain ⟨f0,f1,f2,f3,f4,f5⟩:=hf it (by simp)
  refine wpAny_pyNext_list_item st p.isList (x:=u) (by simpa using hu) fun h' st' sb=>?_
  have I1:Inv X pins σ H {s with heap:=h'}:=I.turned (t':=s.toks) (fun b o hb e=>(sb.2 b hb).trans e) f0 f1 f3 f4 f5
  obtain ⟨o,e,c,d⟩:=id st'
  exact ⟨u,rfl,rY (s:={s with heap:=h'}) e c d (by decide) ⟨x,H,I1,ru,⟨rfl,fun ys hy=>by rw [I.list_inj hy hq];exact hx⟩,st',fun b hb=>(hf b hb).1⟩⟩
 done:=by
  intro X hP hw hK hc i pins s σ H E I hf st hg
  subst hP hw hK
  obtain ⟨xs,hq,hx⟩:=hg
  obtain ⟨its,rv,p,hz⟩:=I.list hq
  obtain ⟨f0,f1,f2,f3,f4,f5⟩:=hf it (by simp)
  have hl:=rv.length
  exact wpAny_pyNext_list_end (I.ok.hd hc) st p.isList (by simp;omega) fun h' eb=>⟨rfl,I.turned (t':=s.toks) (fun b o hb e=>eb b o hb e) f0 f1 f3 f4 f5⟩
 self:=fun _ _ _ _ _ st h=>wpAny_pyIter_listiter st h
theorem xQ {P:Program} {w:World} {K:PySem.W.Frag} {tg:Expr} (a it:Addr):Turn P w K tg (Itt K a) [it] it (fun i h=>h.IsTupleIter it a i) where
 mem:=by simp
 obj:=fun i h st b hb=>by
  have e:b=it:=by simpa using hb
  subst e
  obtain ⟨o,e,c,d⟩:=st
  exact ⟨o,e,fun v z=>by rw [d] at z;cases z⟩
 keep:=fun i h h' st k=>st.at fun o e=>k it (by simp) o e
 item:=by
  intro X hP hw hK hc i pins s σ H E I hf st hg
  subst hP hw hK
  obtain ⟨xs,x,hq,hx⟩:=hg
  obtain ⟨its,rv,p,hz⟩:=I.tuple hq
  obtain ⟨u,hu,ru⟩:=rv.get hx
  obtain ⟨f0,f1,f2,f3,f4,f5⟩:=hf it (by simp)
  refine wpAny_pyNext_tuple_item st (show s.heap.IsTuple a its.toArray from p) (x:=u) (by simpa using hu) fun h' st' sb=>?_
  have I1:Inv X pins σ H {s with heap:=h'}:=I.turned (t':=s.toks) (fun b o hb e=>(sb.2 b hb).trans e) f0 f1 f3 f4 f5
  obtain ⟨o,e,c,d⟩:=id st'
  exact ⟨u,rfl,rY (s:={s with heap:=h'}) e c d (by decide) ⟨x,H,I1,ru,⟨rfl,fun ys hy=>by rw [I.tuple_inj hy hq];exact hx⟩,st',fun b hb=>(hf b hb).1⟩⟩
 done:=by
  intro X hP hw hK hc i pins s σ H E I hf st hg
  subst hP hw hK
  obtain ⟨xs,hq,hx⟩:=hg
  obtain ⟨its,rv,p,hz⟩:=I.tuple hq
  obtain ⟨f0,f1,f2,f3,f4,f5⟩:=hf it (by simp)
  have hl:=rv.length
  exact wpAny_pyNext_tuple_end (I.ok.hd hc) st (show s.heap.IsTuple a its.toArray from p) (by simp;omega) fun h' eb=>⟨rfl,I.turned (t':=s.toks) (fun b o hb e=>eb b o hb e) f0 f1 f3 f4 f5⟩
 self:=fun _ _ _ _ _ st h=>wpAny_pyIter_tupleiter st h
theorem xR {P:Program} {w:World} {K:PySem.W.Frag} {tg:Expr} (it:Addr) (lo:Int) (n:Nat):Turn P w K tg (Itr lo n) [it] it (fun i h=>IsRangeIter h it (lo+(i:Nat) * 1) ((n:Int) - (i:Nat)) 1) where
 mem:=by simp
 obj:=fun i h st b hb=>by
  have e:b=it:=by simpa using hb
  subst e
  exact ⟨_,st,fun v z=>by
   have z':Data.fields _=Data.cell v:=z
   cases z'⟩
 keep:=fun i h h' st k=>k it (by simp) _ st
 item:=by
  intro X hP hw hK hc i pins s σ H E I hf st hg
  subst hP hw hK
  obtain ⟨f0,f1,f2,f3,f4,f5⟩:=hf it (by simp)
  have W:=Walks.range (prog:=X.prog) (w:=X.w) (I.ok.hd hc) it lo 1 n
  refine W.item i s _ _ hg st fun v h' tk hv st' kk=>?_
  obtain ⟨t,rfl⟩:=hv
  have I1:Inv X pins σ H {s with heap:=h',toks:=tk}:=I.turned (fun b o hb e=>kk b o (by simpa using hb) e) f0 f1 f3 f4 f5
  refine ⟨_,rfl,rY (s:={s with heap:=h',toks:=tk}) (n:="range_iterator") st' rfl rfl (by decide) ⟨.int (lo+i),H,I1,⟨t,?_⟩,⟨rfl,rfl⟩,st',fun b hb=>(hf b hb).1⟩⟩
  rw [Int.mul_one]
 done:=by
  intro X hP hw hK hc i pins s σ H E I hf st hg
  subst hP hw hK
  obtain ⟨f0,f1,f2,f3,f4,f5⟩:=hf it (by simp)
  exact wpAny_pyNext_range_end (I.ok.hd hc) st (by have:n≤i:=hg;omega) fun h' eb=>⟨rfl,I.turned (t':=s.toks) (fun b o hb e=>eb b o hb e) f0 f1 f3 f4 f5⟩
 self:=fun _ _ _ _ _ st h=>wpAny_pyIter_rangeiter st h
open PySem PySem.Spec PyProof.Rows
section
variable {X:Cx} {tg:Expr}
noncomputable def JR (K:PySem.W.Frag) (tl:TE):TI:=fun σ H R=>tl σ H fun x H1=>∃a,x=.ref a∧(∃xs,SqL K H1 a xs)∧R (Itl K a) H1
noncomputable def Ph (K:PySem.W.Frag) (tl:TE):TI:=fun σ H R=>tl σ H fun x H1=>∃a,x=.ref a∧(∃xs,SqT K H1 a xs)∧R (Itt K a) H1
theorem bC {l:Expr} {tl:TE} (hl:PE X l tl):PI X tg l (JR X.K tl):=by
 intro pins s σ H R I h
 refine thn (hl pins s σ H _ I h) fun v s1 ⟨x,H1,I1,r1,q1⟩=>?_
 obtain ⟨a,e,⟨xs,hq⟩,q⟩:=q1
 subst e
 cases r1
 obtain ⟨its,rv,p,hz⟩:=I1.list hq
 refine wpAny_pyIter_list p.isList ?_
 refine ⟨s1.heap.objs.size,[s1.heap.objs.size],_,_,H1,rfl,I1.kept (t':=s1.toks) fun b o e=>Heap.get?_push_of_some _ e,Ar a _,⟨_,Heap.get?_push_size _ rfl,rfl,rfl⟩,fun b hb=>?_,q⟩
 have e:b=s1.heap.objs.size:=by simpa using hb
 subst e
 exact I1.fpOk (Nat.le_refl _) (I1.hok.fresh (Nat.le_refl _))
theorem CV {l:Expr} {tl:TE} (hl:PE X l tl):PI X tg l (Ph X.K tl):=by
 intro pins s σ H R I h
 refine thn (hl pins s σ H _ I h) fun v s1 ⟨x,H1,I1,r1,q1⟩=>?_
 obtain ⟨a,e,⟨xs,hq⟩,q⟩:=q1
 subst e
 cases r1
 obtain ⟨its,rv,p,hz⟩:=I1.tuple hq
 refine wpAny_pyIter_tuple (show s1.heap.IsTuple a its.toArray from p) ?_
 refine ⟨s1.heap.objs.size,[s1.heap.objs.size],_,_,H1,rfl,I1.kept (t':=s1.toks) fun b o e=>Heap.get?_push_of_some _ e,xQ a _,⟨_,Heap.get?_push_size _ rfl,rfl,rfl⟩,fun b hb=>?_,q⟩
 have e:b=s1.heap.objs.size:=by simpa using hb
 subst e
 exact I1.fpOk (Nat.le_refl _) (I1.hok.fresh (Nat.le_refl _))
theorem CZ {pins:List (Addr × Obj)} {σ:St} {H:Hp} {s:Shared} {R:It→Hp→Prop} {E:Value→Shared→Prop} {lo hi:Int} {t u v:Tok} {tk:Nat} (I:Inv X pins σ H s) (h1:-(2 ^ 62)≤lo) (h2:lo < 2 ^ 62) (h3:-(2 ^ 62)≤hi) (h4:hi < 2 ^ 62)
  (q:R (Itr lo (hi - lo).toNat) H):wpAny (model X.prog X.w) X.A (pyIter (.ref s.heap.objs.size)) (PIE X pins σ tg R) E {s with heap:=s.heap.push {cls:=.type "range",data:=.fields #[.int lo t,.int hi u,.int 1 v]},toks:=tk}:=by
 refine wpAny_pyIter_range (IsRange.new ..) (small_one h1 h2 h3 h4) ?_
 have I1:Inv X pins σ H {s with heap:=s.heap.push {cls:=.type "range",data:=.fields #[.int lo t,.int hi u,.int 1 v]},toks:=tk}:=I.kept fun b o e=>Heap.get?_push_of_some _ e
 refine ⟨(s.heap.push {cls:=.type "range",data:=.fields #[.int lo t,.int hi u,.int 1 v]}).objs.size,[(s.heap.push {cls:=.type "range",data:=.fields #[.int lo t,.int hi u,.int 1 v]}).objs.size],_,_,H,rfl,
  I1.kept (t':=tk) fun b o e=>Heap.get?_push_of_some _ e,xR _ lo (hi - lo).toNat,?_,fun b hb=>?_,q⟩
 ·have e1:lo+((0:Nat):Int) * 1=lo:=by simp
  have e2:(((hi - lo).toNat:Nat):Int) - ((0:Nat):Int)=Builtin.Range.rangeSize lo hi 1:=by rw [rangeSize_one];split <;> omega
  show IsRangeIter _ _ (lo+((0:Nat):Int) * 1) ((((hi - lo).toNat:Nat):Int) - ((0:Nat):Int)) 1
  rw [e1,e2]
  exact Heap.get?_push_size _ rfl
 ·have e:b=(s.heap.push {cls:=.type "range",data:=.fields #[.int lo t,.int hi u,.int 1 v]}).objs.size:=by simpa using hb
  subst e
  exact I1.fpOk (Nat.le_refl _) (I1.hok.fresh (Nat.le_refl _))
noncomputable def Ni (ta:TA):TI:=fun σ H R=>ta σ H fun vs H1=>∃j:Int,vs=[.int j]∧-(2 ^ 62)≤j∧j < 2 ^ 62∧R (Itr 0 j.toNat) H1
theorem rZ {a:Expr} {ta:TA} {p pos:Pos} (hg:Gl X "range") (hm:X.mg "range"=none) (ha:PA X [a] ta) (hs:starEach [a] X.env=[(false,eval a X.env)]:=by rfl):PI X tg (.Call (.Name "range" p) [a] [] pos) (Ni ta):=by
 intro pins s σ H R I h
 refine Call_ (lM I hg hm boot_range (PyProof.Rows.callWith_type1 (thn (ha pos pins s σ H _ I h) fun us s1 ⟨vs,H1,I1,r1,q1⟩=>?_) hs rfl))
 obtain ⟨j,e,q1,q2,q⟩:=q1
 subst e
 cases r1 with
 | cons r rr=>
  cases rr
  obtain ⟨t,rfl⟩:=r
  exact call_range_1 (CZ I1 (by omega) (by omega) q1 q2 (by simpa using q))
noncomputable def Pj (wi:TI) (g:TG) (tb:TS):TS:=fun D σ H=>wi σ H fun J H1=>∃W:Nat→Nat→St→Hp→Prop,(∃m,W 0 m σ H1)∧∀i m σ H,W i m σ H→
 (J.stop i H∧D.nx σ H)∨(J.go i H∧∃N:St→Hp→Prop,(∀σ' H',N σ' H'→∃m',m' < m∧W (i+1) m' σ' H')∧∀x H',J.yld i H x H'→g x σ H' fun σ2 H2=>tb {D with nx:=N,ct:=N,bk:=D.nx} σ2 H2)
noncomputable def nR (fp:List Addr) (h:Heap):List (Addr × Obj):=fp.filterMap fun b=>(h.get? b).map fun o=>(b,o)
theorem fV {fp:List Addr} {h:Heap} {b:Addr} {o:Obj} (hb:b∈fp) (e:h.get? b=some o):(b,o)∈nR fp h:=List.mem_filterMap.mpr ⟨b,hb,by rw [e];rfl⟩
theorem Av {fp:List Addr} {h:Heap} {p:Addr × Obj} (hp:p∈nR fp h):p.1∈fp∧h.get? p.1=some p.2:=by
 obtain ⟨b,hb,e⟩:=List.mem_filterMap.mp hp
 cases q:h.get? b with
 | none=>rw [q] at e;cases e
 | some o=>
  rw [q] at e
  have e':(b,o)=p:=Option.some.inj e
  subst e'
  exact ⟨hb,q⟩
theorem Inv.pinned {pins:List (Addr × Obj)} {σ:St} {H:Hp} {s:Shared} {fp:List Addr} (I:Inv X pins σ H s) (hf:∀b∈fp,rH X pins H b) (ho:∀b∈fp,∃o,s.heap.get? b=some o∧∀v,o.data≠.cell v):Inv X (pins++nR fp s.heap) σ H s:=
 I.pins_of fun p hp=>(List.mem_append.mp hp).elim (fun z=>I.pin p (List.mem_append_right _ z)) fun z=>by
  obtain ⟨hb,e⟩:=Av z
  obtain ⟨f0,f1,f2,_⟩:=hf p.1 hb
  obtain ⟨o,e',d⟩:=ho p.1 hb
  rw [e] at e';cases e'
  exact ⟨e,f0,f1,f2,d⟩
theorem Inv.unpinned {pins pl:List (Addr × Obj)} {σ:St} {H:Hp} {s:Shared} (I:Inv X (pins++pl) σ H s):Inv X pins σ H s:=I.pins_of fun p hp=>I.pin p (List.mem_append_right _ (List.mem_append_left _ hp))
theorem dI {iter:Expr} {body:List Stmt} {wi:TI} {g:TG} {tb:TS} {pos:Pos} (hp:PassesOwn (model X.prog X.w) X.A X.env X.xe) (hc:X.calm=true) (hi:PI X tg iter wi) (hg:PG X tg g) (hb:PSs X body tb)
  (hs:∀x,foldedSetIterable iter X.env x=pure x:=by intro _;rfl):PS X (.For tg iter body [] pos) (Pj wi g tb):=by
 intro pins s σ H D I h
 refine wpAny_For (thn (hi pins s σ H _ I h) fun v s1 h1=>thn h1 fun itv s2 h2=>?_) hs
 obtain ⟨it,fp,tn,J,H2,e,I2,T,st2,f2,W,⟨m0,w0⟩,turn⟩:=h2
 subst e
 have stat:∀{H':Hp},(∀b∈fp,H' b=none)→∀b∈fp,rH X pins H' b:=fun hn b hb=>⟨hn b hb,(f2 b hb).2⟩
 refine codeAny_forLoop_any (fun n s'=>∃i σ' H',Inv X pins σ' H' s'∧tn i s'.heap∧(∀b∈fp,H' b=none)∧W i n σ' H') ?_ m0 ⟨0,σ,H2,I2,st2,fun b hb=>(f2 b hb).1,w0⟩
 rintro n s3 ⟨i,σ3,H3,I3,st3,fr3,w3⟩
 rcases turn i n σ3 H3 w3 with ⟨stop,qn⟩ | ⟨go,N,hN,step⟩
 ·refine wpAny_passesOwn hp (thn (T.done X rfl rfl rfl hc i pins s3 σ3 H3 X.xe I3 (stat fr3) st3 stop) fun r s4 ⟨hr,I4⟩=>?_)
  subst hr
  exact wpAny_execs_nil ⟨σ3,H3,I4,qn⟩
 ·refine wpAny_passesOwn hp (thn (T.item X rfl rfl rfl hc i pins s3 σ3 H3 X.xe I3 (stat fr3) st3 go) fun r s4 ⟨u,hr,h4⟩=>?_)
  subst hr
  refine wpAny_passesOwn hp (thn h4 fun _ s5 ⟨x,H5,I5,r5,y5,st5,fr5⟩=>?_)
  have I5':=I5.pinned (stat fr5) (T.obj _ _ st5)
  refine wpAny_passesOwn hp (thn (hg _ s5 σ3 H5 x u _ I5' r5 (step x H5 y5)) fun _ s6 ⟨σ6,H6,I6,q6⟩=>?_)
  refine wpAny_passesOwn hp (thn (hb _ s6 σ6 H6 _ I6 q6) fun f s7 q7=>?_)
  have again:∀{σ7:St} {H7:Hp},Inv X (pins++nR fp s5.heap) σ7 H7 s7→N σ7 H7→∃m,m < n∧∃i σ' H',Inv X pins σ' H' s7∧tn i s7.heap∧(∀b∈fp,H' b=none)∧W i m σ' H':=fun {σ7 H7} I7 n7=>by
   obtain ⟨m',hm,w7⟩:=hN σ7 H7 n7
   refine ⟨m',hm,i+1,σ7,H7,I7.unpinned,T.keep _ _ _ st5 fun b hb o e=>(I7.pin (b,o) (List.mem_append_right _ (List.mem_append_right _ (fV hb e)))).1,fun b hb=>?_,w7⟩
   obtain ⟨o,e,d⟩:=T.obj _ _ st5 b hb
   exact (I7.pin (b,o) (List.mem_append_right _ (List.mem_append_right _ (fV hb e)))).2.1
  cases f with
  | next=>obtain ⟨σ7,H7,I7,n7⟩:=q7;exact again I7 n7
  | cont=>obtain ⟨σ7,H7,I7,n7⟩:=q7;exact again I7 n7
  | brk=>obtain ⟨σ7,H7,I7,q7⟩:=q7;exact ⟨σ7,H7,I7.unpinned,q7⟩
  | ret v=>obtain ⟨x7,σ7,H7,I7,r7,q7⟩:=q7;exact ⟨x7,σ7,H7,I7.unpinned,r7,q7⟩
end
theorem dJ {K:PySem.W.Frag} {a:Addr} {xs:List V} {g:TG} {tb:TS} {D:Ends} {σ:St} {H:Hp} (Pv:Nat→St→Hp→Prop) (h0:Pv 0 σ H) (hl:∀i σ H,i≤xs.length→Pv i σ H→SqL K H a xs)
  (hs:∀i x σ H,xs[i]?=some x→Pv i σ H→g x σ H fun σ2 H2=>tb {D with nx:=Pv (i+1),ct:=Pv (i+1),bk:=D.nx} σ2 H2) (hd:∀σ H,Pv xs.length σ H→D.nx σ H):
  ∃W:Nat→Nat→St→Hp→Prop,(∃m,W 0 m σ H)∧∀i m σ H,W i m σ H→
   ((Itl K a).stop i H∧D.nx σ H)∨((Itl K a).go i H∧∃N:St→Hp→Prop,(∀σ' H',N σ' H'→∃m',m' < m∧W (i+1) m' σ' H')∧∀x H',(Itl K a).yld i H x H'→g x σ H' fun σ2 H2=>tb {D with nx:=N,ct:=N,bk:=D.nx} σ2 H2):=by
 refine ⟨fun i m σ H=>m=xs.length - i∧i≤xs.length∧Pv i σ H,⟨xs.length,by simp,Nat.zero_le _,h0⟩,?_⟩
 rintro i m σ H ⟨rfl,hi,p⟩
 have q:=hl i σ H hi p
 by_cases hlt:i < xs.length
 ·refine .inr ⟨⟨xs,xs[i],q,by simp [hlt]⟩,Pv (i+1),fun σ' H' p'=>⟨xs.length - (i+1),by omega,rfl,hlt,p'⟩,fun x H' y=>?_⟩
  obtain ⟨e,y⟩:=y
  subst e
  exact hs i x σ _ (y xs q) p
 ·have e:i=xs.length:=by omega
  subst e
  exact .inl ⟨⟨xs,q,Nat.le_refl _⟩,hd σ H p⟩
theorem zq {K:PySem.W.Frag} {a:Addr} {xs:List V} {g:TG} {tb:TS} {D:Ends} {σ:St} {H:Hp} (Pv:Nat→St→Hp→Prop) (h0:Pv 0 σ H) (hl:∀i σ H,i≤xs.length→Pv i σ H→SqT K H a xs)
  (hs:∀i x σ H,xs[i]?=some x→Pv i σ H→g x σ H fun σ2 H2=>tb {D with nx:=Pv (i+1),ct:=Pv (i+1),bk:=D.nx} σ2 H2) (hd:∀σ H,Pv xs.length σ H→D.nx σ H):
  ∃W:Nat→Nat→St→Hp→Prop,(∃m,W 0 m σ H)∧∀i m σ H,W i m σ H→
   ((Itt K a).stop i H∧D.nx σ H)∨((Itt K a).go i H∧∃N:St→Hp→Prop,(∀σ' H',N σ' H'→∃m',m' < m∧W (i+1) m' σ' H')∧∀x H',(Itt K a).yld i H x H'→g x σ H' fun σ2 H2=>tb {D with nx:=N,ct:=N,bk:=D.nx} σ2 H2):=by
 refine ⟨fun i m σ H=>m=xs.length - i∧i≤xs.length∧Pv i σ H,⟨xs.length,by simp,Nat.zero_le _,h0⟩,?_⟩
 rintro i m σ H ⟨rfl,hi,p⟩
 have q:=hl i σ H hi p
 by_cases hlt:i < xs.length
 ·refine .inr ⟨⟨xs,xs[i],q,by simp [hlt]⟩,Pv (i+1),fun σ' H' p'=>⟨xs.length - (i+1),by omega,rfl,hlt,p'⟩,fun x H' y=>?_⟩
  obtain ⟨e,y⟩:=y
  subst e
  exact hs i x σ _ (y xs q) p
 ·have e:i=xs.length:=by omega
  subst e
  exact .inl ⟨⟨xs,q,Nat.le_refl _⟩,hd σ H p⟩
theorem su {lo:Int} {n:Nat} {g:TG} {tb:TS} {D:Ends} {σ:St} {H:Hp} (Pv:Nat→St→Hp→Prop) (h0:Pv 0 σ H)
  (hs:∀i σ H,i < n→Pv i σ H→g (.int (lo+i)) σ H fun σ2 H2=>tb {D with nx:=Pv (i+1),ct:=Pv (i+1),bk:=D.nx} σ2 H2) (hd:∀σ H,Pv n σ H→D.nx σ H):
  ∃W:Nat→Nat→St→Hp→Prop,(∃m,W 0 m σ H)∧∀i m σ H,W i m σ H→
   ((Itr lo n).stop i H∧D.nx σ H)∨((Itr lo n).go i H∧∃N:St→Hp→Prop,(∀σ' H',N σ' H'→∃m',m' < m∧W (i+1) m' σ' H')∧∀x H',(Itr lo n).yld i H x H'→g x σ H' fun σ2 H2=>tb {D with nx:=N,ct:=N,bk:=D.nx} σ2 H2):=by
 refine ⟨fun i m σ H=>m=n - i∧i≤n∧Pv i σ H,⟨n,by simp,Nat.zero_le _,h0⟩,?_⟩
 rintro i m σ H ⟨rfl,hi,p⟩
 by_cases hlt:i < n
 ·refine .inr ⟨hlt,Pv (i+1),fun σ' H' p'=>⟨n - (i+1),by omega,rfl,hlt,p'⟩,fun x H' y=>?_⟩
  obtain ⟨e,y⟩:=y
  subst e y
  exact hs i σ _ hlt p
 ·have e:i=n:=by omega
  subst e
  exact .inl ⟨Nat.le_refl _,hd σ H p⟩
open PySem PySem.Spec PyProof.Rows
noncomputable abbrev R2:=V→V→Hp→VK→Prop
noncomputable def OpR (X:Cx) (f:Value→Value→Sem Value) (r:R2):Prop:=
 ∀(pins:List (Addr × Obj)) (s:Shared) (σ:St) (H:Hp) (x y:V) (v u:Value) (Q:VK),Inv X pins σ H s→RelV x v→RelV y u→r x y H Q→
  wpAny (model X.prog X.w) X.A (f v u) (EP X pins σ Q) X.xe s
noncomputable def UnR (X:Cx) (f:Value→Sem Value) (r:V→Hp→VK→Prop):Prop:=
 ∀(pins:List (Addr × Obj)) (s:Shared) (σ:St) (H:Hp) (x:V) (v:Value) (Q:VK),Inv X pins σ H s→RelV x v→r x H Q→
  wpAny (model X.prog X.w) X.A (f v) (EP X pins σ Q) X.xe s
noncomputable def eU (X:Cx) (f:Value) (r:List V→Hp→VK→Prop):Prop:=
 ∀(pins:List (Addr × Obj)) (s:Shared) (σ:St) (H:Hp) (xs:List V) (us:List Value) (Q:VK),Inv X pins σ H s→Vals xs us→r xs H Q→
  wpAny (model X.prog X.w) X.A (call f us) (EP X pins σ Q) X.xe s
noncomputable def Pk (X:Cx) (r:V→Hp→(Bool→Hp→Prop)→Prop):Prop:=
 ∀(pins:List (Addr × Obj)) (s:Shared) (σ:St) (H:Hp) (x:V) (v:Value) (Q:Bool→Hp→Prop),Inv X pins σ H s→RelV x v→r x H Q→
  wpAny (model X.prog X.w) X.A (truthy v) (TP X pins σ Q) X.xe s
noncomputable def tOp (r:R2) (ta tb:TE):TE:=fun σ H Q=>ta σ H fun x H1=>tb σ H1 fun y H2=>r x y H2 Q
noncomputable def tUn (r:V→Hp→VK→Prop) (ta:TE):TE:=fun σ H Q=>ta σ H fun x H1=>r x H1 Q
noncomputable def rI (C:Int→Int→Prop) (g:Int→Int→V):R2:=fun x y H Q=>∃i j,x=.int i∧y=.int j∧C i j∧Q (g i j) H
noncomputable def rI0 (g:Int→Int→V):R2:=fun x y H Q=>∃i j,x=.int i∧y=.int j∧Q (g i j) H
noncomputable def rU (g:Int→V):V→Hp→VK→Prop:=fun x H Q=>∃i,x=.int i∧Q (g i) H
section
variable {X:Cx} {a b c:Expr} {ta tb tc:TE} {pos:Pos}
theorem Kr (ha:PE X a ta) (hb:PE X b tb) {pins:List (Addr × Obj)} {s:Shared} {σ:St} {H:Hp} {R:V→V→Hp→Prop} (I:Inv X pins σ H s)
  (h:ta σ H fun x H1=>tb σ H1 fun y H2=>R x y H2) {Q:Value→Shared→Prop} {f:Value→Value→Sem Value}
  (hf:∀v u s2 x y H2,Inv X pins σ H2 s2→RelV x v→RelV y u→R x y H2→wpAny (model X.prog X.w) X.A (f v u) Q X.xe s2):
  wpAny (model X.prog X.w) X.A (eval a X.env) (fun v s₁=>wpAny (model X.prog X.w) X.A (eval b X.env) (fun u s₂=>wpAny (model X.prog X.w) X.A (f v u) Q X.xe s₂) X.xe s₁) X.xe s:=by
 refine thn (ha pins s σ H _ I h) fun v s1 ⟨x,H1,I1,r1,q1⟩=>?_
 refine thn (hb pins s1 σ H1 _ I1 q1) fun u s2 ⟨y,H2,I2,r2,q2⟩=>?_
 exact hf v u s2 x y H2 I2 r1 r2 q2
theorem aM {op:Operator} {r:R2} (ho:OpR X (binaryOp op) r) (ha:PE X a ta) (hb:PE X b tb):PE X (.BinOp a op b pos) (tOp r ta tb):=by
 intro pins s σ H Q I h
 exact wpAny_BinOp (Kr ha hb I h fun v u s2 x y H2 I2 rx ry q=>ho pins s2 σ H2 x y v u Q I2 rx ry q)
theorem vH {op:UnaryOp} {r:V→Hp→VK→Prop} (ho:UnR X (unaryOp op) r) (ha:PE X a ta):PE X (.UnaryOp op a pos) (tUn r ta):=by
 intro pins s σ H Q I h
 exact UnaryOp_ (thn (ha pins s σ H _ I h) fun v s1 ⟨x,H1,I1,r1,q1⟩=>ho pins s1 σ H1 x v Q I1 r1 q1)
theorem opI {f:Value→Value→Sem Value} {C:Int→Int→Prop} {g:Int→Int→Int}
  (rule:∀(i j:Int) (t u:Tok) (s:Shared) (Q:Value→Shared→Prop) (E:Value→Shared→Prop),C i j→Q (.int (g i j) s.toks) {s with toks:=s.toks+1}→wpAny (model X.prog X.w) X.A (f (.int i t) (.int j u)) Q E s):
  OpR X f (rI C fun i j=>.int (g i j)):=by
 intro pins s σ H x y v u Q I rx ry h
 obtain ⟨i,j,rfl,rfl,hc,q⟩:=h
 obtain ⟨t,rfl⟩:=rx
 obtain ⟨t',rfl⟩:=ry
 exact rule i j t t' s _ _ hc ⟨.int (g i j),H,I.tok _,⟨_,rfl⟩,q⟩
theorem Nj {f:Value→Value→Sem Value} {g:Int→Int→Int}
  (rule:∀(i j:Int) (t u:Tok) (s:Shared) (Q:Value→Shared→Prop) (E:Value→Shared→Prop),Q (.int (g i j) s.toks) {s with toks:=s.toks+1}→wpAny (model X.prog X.w) X.A (f (.int i t) (.int j u)) Q E s):
  OpR X f (rI0 fun i j=>.int (g i j)):=by
 intro pins s σ H x y v u Q I rx ry h
 obtain ⟨i,j,rfl,rfl,q⟩:=h
 obtain ⟨t,rfl⟩:=rx
 obtain ⟨t',rfl⟩:=ry
 exact rule i j t t' s _ _ ⟨.int (g i j),H,I.tok _,⟨_,rfl⟩,q⟩
theorem Ks {f:Value→Value→Sem Value} {g:Int→Int→Bool}
  (rule:∀(i j:Int) (t u:Tok) (s:Shared) (Q:Value→Shared→Prop) (E:Value→Shared→Prop),Q (.bool (g i j)) s→wpAny (model X.prog X.w) X.A (f (.int i t) (.int j u)) Q E s):
  OpR X f (rI0 fun i j=>.bl (g i j)):=by
 intro pins s σ H x y v u Q I rx ry h
 obtain ⟨i,j,rfl,rfl,q⟩:=h
 obtain ⟨t,rfl⟩:=rx
 obtain ⟨t',rfl⟩:=ry
 exact rule i j t t' s _ _ ⟨.bl (g i j),H,I,rfl,q⟩
noncomputable def Pn (i j:Int):Prop:=0 < j∧j < 1073741824
noncomputable def Pq (i j:Int):Prop:=0≤j∧j≤1000000∧i.natAbs < 2 ^ 64
noncomputable def Ku (i j:Int):Prop:=(-(2 ^ 64) < i∧i < 2 ^ 64)∨(-(2 ^ 64) < j∧j < 2 ^ 64)
theorem Ku.ok {i j:Int} (h:Ku i j):IntMulOk i j:=by
 rcases h with ⟨h1,h2⟩ | ⟨h1,h2⟩
 ·exact .of_left (intBits_le_64 h1 h2)
 ·exact .of_right (intBits_le_64 h1 h2)
theorem cu:OpR X (binaryOp .Add) (rI0 fun i j=>.int (i+j)):=Nj fun _ _ _ _ _ _ _ q=>add_int q
theorem ue:OpR X (binaryOp .Sub) (rI0 fun i j=>.int (i - j)):=Nj fun _ _ _ _ _ _ _ q=>sub_int q
theorem nT:OpR X (binaryOp .Mult) (rI Ku fun i j=>.int (i * j)):=opI fun _ _ _ _ _ _ _ hc q=>mul_int q hc.ok
theorem gh:OpR X (binaryOp .FloorDiv) (rI Pn fun i j=>.int (i / j)):=opI fun i j _ _ _ _ _ hc q=>by
 have h1:(0:Int) < j:=hc.1
 have h2:j < 1073741824:=hc.2
 exact floordiv_int (by omega) (by rw [Int.fdiv_eq_ediv_of_nonneg i (by omega)];exact q) (.inl (PyProof.noPylong_small (by omega)))
theorem cM:OpR X (binaryOp .Mod) (rI (fun _ j=>0 < j) fun i j=>.int (i % j)):=opI fun i j _ _ _ _ _ hc q=>by
 have h1:(0:Int) < j:=hc
 exact mod_int' (by omega) (by rw [Int.fmod_eq_emod_of_nonneg i (by omega)];exact q)
theorem Dc:OpR X (binaryOp .Pow) (rI Pq fun i j=>.int (i ^ j.toNat)):=opI fun _ _ _ _ _ _ _ hc q=>pow_int_small hc.1 hc.2.1 hc.2.2 q
theorem unI {f:Value→Sem Value} {g:Int→Int}
  (rule:∀(i:Int) (t:Tok) (s:Shared) (Q:Value→Shared→Prop) (E:Value→Shared→Prop),Q (.int (g i) s.toks) {s with toks:=s.toks+1}→wpAny (model X.prog X.w) X.A (f (.int i t)) Q E s):
  UnR X f (rU fun i=>.int (g i)):=by
 intro pins s σ H x v Q I rx h
 obtain ⟨i,rfl,q⟩:=h
 obtain ⟨t,rfl⟩:=rx
 exact rule i t s _ _ ⟨.int (g i),H,I.tok _,⟨_,rfl⟩,q⟩
theorem pU:UnR X (unaryOp .USub) (rU fun i=>.int (-i)):=unI fun _ _ _ _ _ q=>neg_int q
end
noncomputable def Nk:V→V→Bool
 | .non,.non=>true | .non,.int _=>true | .int _,.non=>true | .non,.bl _=>true | .bl _,.non=>true | .non,.str _=>true | .str _,.non=>true
 | .int _,.int _=>true | .bl _,.bl _=>true | .str _,.str _=>true | .byt _,.byt _=>true
 | .int _,.str _=>true | .str _,.int _=>true | .bl _,.str _=>true | .str _,.bl _=>true
 | _,_=>false
noncomputable def rEq:R2:=fun x y H Q=>Nk x y=true∧Q (.bl (decide (x=y))) H
noncomputable def rNe:R2:=fun x y H Q=>Nk x y=true∧Q (.bl (!decide (x=y))) H
theorem uf {i j:Int}:decide (V.int i=V.int j)=(i==j):=by
 rw [Bool.eq_iff_iff]
 simp
theorem Dd {i j:Bool}:decide (V.bl i=V.bl j)=(i==j):=by
 rw [Bool.eq_iff_iff]
 simp
theorem zr {i j:Str}:decide (V.str i=V.str j)=(i==j):=by
 rw [Bool.eq_iff_iff]
 simp
theorem zu {i j:Array UInt8}:decide (V.byt i=V.byt j)=(i.toList==j.toList):=by
 rw [Bool.eq_iff_iff]
 cases i
 cases j
 simp
section
variable {X:Cx} {a b c:Expr} {ta tb tc:TE} {pos:Pos}
theorem bj {pins:List (Addr × Obj)} {σ:St} {H:Hp} {s:Shared} {Q:VK} {k k':Bool} (I:Inv X pins σ H s) (q:Q (.bl k) H) (e:k=k'):EP X pins σ Q (.bool k') s:=by
 subst e
 exact ⟨.bl k,H,I,rfl,q⟩
theorem mC:OpR X (compareOp .Eq) rEq:=by
 intro pins s σ H x y v u Q I rx ry h
 obtain ⟨hs,q⟩:=h
 cases x with
 | non=>
  cases rx
  cases y with
  | non=>cases ry;exact PySem.EqNone.eq_none_none (bj I q (by simp))
  | bl j=>cases ry;exact PySem.EqNone.eq_none_bool (bj I q (by simp))
  | int j=>obtain ⟨t',rfl⟩:=ry;exact PySem.EqNone.eq_none_int (bj I q (by simp))
  | str j=>obtain ⟨t',rfl⟩:=ry;exact PySem.EqNone.eq_none_str (bj I q (by simp))
  | _=>exact absurd (show false=true from hs) Bool.false_ne_true
 | bl i=>
  cases rx
  cases y with
  | non=>cases ry;exact PySem.EqNone.eq_bool_none (bj I q (by simp))
  | bl j=>cases ry;exact eq_bool (bj I q Dd)
  | str j=>obtain ⟨t',rfl⟩:=ry;exact PySem.EqMixed.eq_bool_str (bj I q (by simp))
  | _=>exact absurd (show false=true from hs) Bool.false_ne_true
 | int i=>
  obtain ⟨t,rfl⟩:=rx
  cases y with
  | non=>cases ry;exact PySem.EqNone.eq_int_none (bj I q (by simp))
  | int j=>obtain ⟨t',rfl⟩:=ry;exact eq_int (bj I q uf)
  | str j=>obtain ⟨t',rfl⟩:=ry;exact PySem.EqMixed.eq_int_str (bj I q (by simp))
  | _=>exact absurd (show false=true from hs) Bool.false_ne_true
 | str i=>
  obtain ⟨t,rfl⟩:=rx
  cases y with
  | non=>cases ry;exact PySem.EqNone.eq_str_none (bj I q (by simp))
  | bl j=>cases ry;exact PySem.EqMixed.eq_str_bool (bj I q (by simp))
  | int j=>obtain ⟨t',rfl⟩:=ry;exact PySem.EqMixed.eq_str_int (bj I q (by simp))
  | str j=>obtain ⟨t',rfl⟩:=ry;exact eq_str (bj I q zr)
  | _=>exact absurd (show false=true from hs) Bool.false_ne_true
 | byt i=>
  obtain ⟨t,rfl⟩:=rx
  cases y with
  | byt j=>obtain ⟨t',rfl⟩:=ry;exact PySem.W.eq_bytes (bj I q zu)
  | _=>exact absurd (show false=true from hs) Bool.false_ne_true
 | _=>cases y <;> exact absurd (show false=true from hs) Bool.false_ne_true
theorem sy:OpR X (compareOp .NotEq) rNe:=by
 intro pins s σ H x y v u Q I rx ry h
 obtain ⟨hs,q⟩:=h
 cases x with
 | non=>
  cases rx
  cases y with
  | non=>cases ry;exact PySem.EqNone.ne_none_none (bj I q (by simp))
  | bl j=>cases ry;exact PySem.EqNone.ne_none_bool (bj I q (by simp))
  | int j=>obtain ⟨t',rfl⟩:=ry;exact PySem.EqNone.ne_none_int (bj I q (by simp))
  | str j=>obtain ⟨t',rfl⟩:=ry;exact PySem.EqNone.ne_none_str (bj I q (by simp))
  | _=>exact absurd (show false=true from hs) Bool.false_ne_true
 | bl i=>
  cases rx
  cases y with
  | non=>cases ry;exact PySem.EqNone.ne_bool_none (bj I q (by simp))
  | bl j=>cases ry;exact ne_bool (bj I q (congrArg not Dd))
  | str j=>obtain ⟨t',rfl⟩:=ry;exact PySem.EqMixed.ne_bool_str (bj I q (by simp))
  | _=>exact absurd (show false=true from hs) Bool.false_ne_true
 | int i=>
  obtain ⟨t,rfl⟩:=rx
  cases y with
  | non=>cases ry;exact PySem.EqNone.ne_int_none (bj I q (by simp))
  | int j=>obtain ⟨t',rfl⟩:=ry;exact ne_int (bj I q (congrArg not uf))
  | str j=>obtain ⟨t',rfl⟩:=ry;exact PySem.EqMixed.ne_int_str (bj I q (by simp))
  | _=>exact absurd (show false=true from hs) Bool.false_ne_true
 | str i=>
  obtain ⟨t,rfl⟩:=rx
  cases y with
  | non=>cases ry;exact PySem.EqNone.ne_str_none (bj I q (by simp))
  | bl j=>cases ry;exact PySem.EqMixed.ne_str_bool (bj I q (by simp))
  | int j=>obtain ⟨t',rfl⟩:=ry;exact PySem.EqMixed.ne_str_int (bj I q (by simp))
  | str j=>obtain ⟨t',rfl⟩:=ry;exact ne_str (bj I q (congrArg not zr))
  | _=>exact absurd (show false=true from hs) Bool.false_ne_true
 | byt i=>
  obtain ⟨t,rfl⟩:=rx
  cases y with
  | byt j=>obtain ⟨t',rfl⟩:=ry;exact PySem.W.ne_bytes (bj I q (congrArg not zu))
  | _=>exact absurd (show false=true from hs) Bool.false_ne_true
 | _=>cases y <;> exact absurd (show false=true from hs) Bool.false_ne_true
theorem vI:OpR X (compareOp .Lt) (rI0 fun i j=>.bl (decide (i < j))):=Ks fun _ _ _ _ _ _ _ q=>lt_int q
theorem mD:OpR X (compareOp .LtE) (rI0 fun i j=>.bl (decide (i≤j))):=Ks fun _ _ _ _ _ _ _ q=>le_int q
theorem JS:OpR X (compareOp .Gt) (rI0 fun i j=>.bl (decide (j < i))):=Ks fun _ _ _ _ _ _ _ q=>gt_int q
theorem xT:OpR X (compareOp .Is) (fun x y H Q=>y=.non∧Q (.bl (decide (x=.non))) H):=by
 intro pins s σ H x y v u Q I rx ry h
 obtain ⟨rfl,q⟩:=h
 cases ry
 refine is_none_gen (bj I q ?_)
 cases x <;> first
  | (cases rx;rfl)
  | (obtain ⟨t,rfl⟩:=rx;rfl)
theorem ug:OpR X (compareOp .IsNot) (fun x y H Q=>y=.non∧Q (.bl (!decide (x=.non))) H):=by
 intro pins s σ H x y v u Q I rx ry h
 obtain ⟨rfl,q⟩:=h
 cases ry
 refine isnot_none_gen (bj I q ?_)
 cases x <;> first
  | (cases rx;rfl)
  | (obtain ⟨t,rfl⟩:=rx;rfl)
theorem bG (b:Expr) {op:CmpOp} (h:op≠.In:=by decide) (h2:op≠.NotIn:=by decide):behindInMarks op b=false:=by
 have e1:(op==CmpOp.In)=false:=by cases op <;> first | rfl | exact absurd rfl h
 have e2:(op==CmpOp.NotIn)=false:=by cases op <;> first | rfl | exact absurd rfl h2
 cases b <;> simp [behindInMarks,e1,e2]
theorem c7 {op:CmpOp} {r:R2} (ho:OpR X (compareOp op) r) (ha:PE X a ta) (hb:PE X b tb) (hm:behindInMarks op b=false):PE X (.Compare a [op] [b] pos) (tOp r ta tb):=by
 intro pins s σ H Q I h
 exact wpAny_Compare1 (Kr ha hb I h fun v u s2 x y H2 I2 rx ry q=>ho pins s2 σ H2 x y v u Q I2 rx ry q) hm
noncomputable def JT (t:TE):TT:=fun σ H Q=>t σ H fun x H'=>∃k,x=.bl k∧Q k H'
theorem bK {op:CmpOp} {r:R2} (ho:OpR X (compareOp op) r) (ha:PE X a ta) (hb:PE X b tb) (hm:behindInMarks op b=false):PT X (.Compare a [op] [b] pos) (JT (tOp r ta tb)):=by
 intro pins s σ H Q I h
 refine wpAny_isTrue_Compare1 (thn (ha pins s σ H _ I h) fun v s1 ⟨x,H1,I1,r1,q1⟩=>thn (hb pins s1 σ H1 _ I1 q1) fun u s2 ⟨y,H2,I2,r2,q2⟩=>
  thn (ho pins s2 σ H2 x y v u _ I2 r1 r2 q2) fun c s3 ⟨z,H3,I3,r3,k,e,q3⟩=>?_) hm
 subst e
 cases r3
 exact wpAny_truthy_bool ⟨H3,I3,q3⟩
noncomputable def De (r r':R2) (ta tb tc:TE):TE:=fun σ H Q=>ta σ H fun x H1=>tb σ H1 fun y H2=>r x y H2 fun z H3=>∃k,z=.bl k∧
 (if k=true then tc σ H3 fun w' H4=>r' y w' H4 Q else Q (.bl false) H3)
theorem vJ {op op':CmpOp} {r r':R2} (ho:OpR X (compareOp op) r) (ho':OpR X (compareOp op') r') (ha:PE X a ta) (hb:PE X b tb) (hc:PE X c tc)
  (hm:lastMarks [op,op'] [b,c]=false:=by with_unfolding_all rfl):PE X (.Compare a [op,op'] [b,c] pos) (De r r' ta tb tc):=by
 intro pins s σ H Q I h
 refine Compare_chain (thn (ha pins s σ H _ I h) fun v s1 ⟨x,H1,I1,r1,q1⟩=>chain_link (thn (hb pins s1 σ H1 _ I1 q1) fun u s2 ⟨y,H2,I2,r2,q2⟩=>
  thn (ho pins s2 σ H2 x y v u _ I2 r1 r2 q2) fun d s3 ⟨z,H3,I3,r3,k,e,q3⟩=>?_)) hm
 subst e
 cases r3
 refine wpAny_truthy_bool ?_
 cases k with
 | false=>exact ite_ff ⟨.bl false,H3,I3,rfl,q3⟩
 | true=>exact ite_tt (chain_last (thn (hc pins s3 σ H3 _ I3 q3) fun w' s4 ⟨z',H4,I4,r4,q4⟩=>ho' pins s4 σ H4 y z' u w' Q I4 r2 r4 q4))
theorem mF {op op':CmpOp} {r r':R2} (ho:OpR X (compareOp op) r) (ho':OpR X (compareOp op') r') (ha:PE X a ta) (hb:PE X b tb) (hc:PE X c tc)
  (hm:lastMarks [op,op'] [b,c]=false:=by with_unfolding_all rfl):PT X (.Compare a [op,op'] [b,c] pos) (JT (De r r' ta tb tc)):=by
 intro pins s σ H Q I h
 refine isTrue_chain (thn (ha pins s σ H _ I h) fun v s1 ⟨x,H1,I1,r1,q1⟩=>test_link (thn (hb pins s1 σ H1 _ I1 q1) fun u s2 ⟨y,H2,I2,r2,q2⟩=>
  thn (ho pins s2 σ H2 x y v u _ I2 r1 r2 q2) fun d s3 ⟨z,H3,I3,r3,k,e,q3⟩=>?_)) hm
 subst e
 cases r3
 refine wpAny_truthy_bool ?_
 cases k with
 | false=>
  obtain ⟨k',e',q'⟩:=q3
  cases e'
  exact ite_ff ⟨H3,I3,q'⟩
 | true=>
  refine ite_tt (test_last (thn (hc pins s3 σ H3 _ I3 q3) fun w' s4 ⟨z',H4,I4,r4,q4⟩=>thn (ho' pins s4 σ H4 y z' u w' _ I4 r2 r4 q4) fun d' s5 ⟨z2,H5,I5,r5,k2,e2,q5⟩=>?_))
  subst e2
  cases r5
  exact wpAny_truthy_bool ⟨H5,I5,q5⟩
noncomputable def Np (K:PySem.W.Frag) (x:V) (H:Hp) (k:Bool):Prop:=
 match x with
 | .non=>k=false
 | .bl b=>k=b
 | .int i=>k=(i !=0)
 | .str y=>y.length≤sizeLine∧k=((y.length:Int) !=0)
 | .byt y=>y.size≤sizeLine∧k=((y.size:Int) !=0)
 | .ref p=>(∃xs,SqL K H p xs∧k=!xs.isEmpty)∨(∃xs,SqT K H p xs∧k=!xs.isEmpty)∨∃kvs,H p=some (.dK kvs)∧k=!kvs.isEmpty
 | _=>False
theorem xU {κ:Type} {kvs:List (κ × V)} {vs:List (κ × Value)} (r:KV kvs vs):(!vs.isEmpty)=!kvs.isEmpty:=by
 cases r <;> rfl
theorem pW {xs:List V} {its:List Value} (r:Vals xs its):(!its.toArray.isEmpty)=!xs.isEmpty:=by
 cases r <;> simp
theorem lN:(sizeLine:Nat) < 2 ^ 63:=by rw [sizeLine_eq];decide
theorem Kv:Pk X (fun x H Q=>∃k,Np X.K x H k∧Q k H):=by
 intro pins s σ H x v Q I rx h
 obtain ⟨k,e,q⟩:=h
 have hl:=lN
 have hs:sizeLine=16777216:=sizeLine_eq
 cases x with
 | non=>
  cases rx
  have e':k=false:=e
  subst e'
  exact truthy_none ⟨H,I,q⟩
 | bl b=>
  cases rx
  have e':k=b:=e
  subst e'
  exact wpAny_truthy_bool ⟨H,I,q⟩
 | int i=>
  obtain ⟨t,rfl⟩:=rx
  have e':k=(i !=0):=e
  subst e'
  exact PySem.P.truthy_int ⟨H,I,q⟩
 | str y=>
  obtain ⟨t,rfl⟩:=rx
  obtain ⟨hy,e'⟩:y.length≤sizeLine∧k=((y.length:Int) !=0):=e
  subst e'
  exact PySem.P.truthy_str (by omega) ⟨H,I.tok _,q⟩
 | byt y=>
  obtain ⟨t,rfl⟩:=rx
  obtain ⟨hy,e'⟩:y.size≤sizeLine∧k=((y.size:Int) !=0):=e
  subst e'
  exact PySem.W.truthy_bytes (by omega) ⟨H,I.tok _,q⟩
 | ref p=>
  cases rx
  have e':(∃xs,SqL X.K H p xs∧k=!xs.isEmpty)∨(∃xs,SqT X.K H p xs∧k=!xs.isEmpty)∨∃kvs,H p=some (.dK kvs)∧k=!kvs.isEmpty:=e
  rcases e' with ⟨xs,hx,e'⟩ | ⟨xs,hx,e'⟩ | ⟨kvs,hx,e'⟩
  ·subst e'
   obtain ⟨its,r,pl,hz⟩:=I.list hx
   have hlen:=r.length
   exact wpAny_truthy_list pl.isList (by simp only [List.size_toArray];omega) ⟨H,I.tok _,by rw [pW r];exact q⟩
  ·subst e'
   obtain ⟨its,r,pl,hz⟩:=I.tuple hx
   have hlen:=r.length
   exact truthy_tuple pl (by simp only [List.size_toArray];omega) ⟨H,I.tok _,by rw [pW r];exact q⟩
  ·subst e'
   obtain ⟨hz,hS,vs,r,m⟩:kvs.length≤sizeLine∧(p==sysModules)=false∧∃vs,KV kvs vs∧s.heap.DictOf (bH X.prog X.w) p vs:=I.hok p _ hx
   have hlen:kvs.length=vs.length:=Paired.length r
   exact wpAny_truthy_dict hS m (by omega) ⟨H,I.tok _,by rw [xU r];exact q⟩
 | _=>exact (show False from e).elim
theorem Df (ha:PE X a ta) (he:∀whole,isTrue a X.env whole=(do let v ←whole;standAt a.pos;holding [v] (truthy v))):
  PT X a (fun σ H Q=>ta σ H fun x H'=>∃k,Np X.K x H' k∧Q k H'):=by
 intro pins s σ H Q I h
 exact isTrue_plain (thn (ha pins s σ H _ I h) fun v s1 ⟨x,H1,I1,r1,q1⟩=>Kv pins s1 σ H1 x v Q I1 r1 q1) (he _)
theorem xV:OpR X (binaryOp .Add) (fun x y H Q=>∃i j,x=.str i∧y=.str j∧i.length+j.length≤sizeLine∧Q (.str (i++j)) H):=by
 intro pins s σ H x y v u Q I rx ry h
 obtain ⟨i,j,rfl,rfl,hz,q⟩:=h
 obtain ⟨t,rfl⟩:=rx
 obtain ⟨t',rfl⟩:=ry
 exact add_str (fun t' tk=>⟨.str (i++j),H,I.tok _,⟨_,rfl⟩,q⟩) hz
theorem vals1 {x:V} {us:List Value} (r:Vals [x] us):∃u,us=[u]∧RelV x u:=by
 cases r with
 | cons r1 r2=>cases r2;exact ⟨_,rfl,r1⟩
theorem vals2 {x y:V} {us:List Value} (r:Vals [x,y] us):∃u w',us=[u,w']∧RelV x u∧RelV y w':=by
 cases r with
 | cons r1 r2=>
  cases r2 with
  | cons r3 r4=>cases r4;exact ⟨_,_,rfl,r1,r3⟩
theorem Aw (hc:X.calm=true):eU X (.builtin "max") (fun xs H Q=>∃i j,xs=[.int i,.int j]∧Q (.int (if j > i then j else i)) H):=by
 intro pins s σ H xs us Q I r h
 obtain ⟨i,j,rfl,q⟩:=h
 obtain ⟨u,w',rfl,⟨t,rfl⟩,⟨t',rfl⟩⟩:=vals2 r
 refine max_two_ints (I.ok.hd hc) fun h' tk k=>⟨_,H,I.kept k,?_,q⟩
 by_cases hj:j > i
 ·rw [if_pos hj,if_pos hj];exact ⟨_,rfl⟩
 ·rw [if_neg hj,if_neg hj];exact ⟨_,rfl⟩
theorem sE:eU X (.type "int") (fun xs H Q=>(∃i,xs=[.int i]∧Q (.int i) H)∨∃k,xs=[.bl k]∧Q (.int (if k then 1 else 0)) H):=by
 intro pins s σ H xs us Q I r h
 rcases h with ⟨i,rfl,q⟩ | ⟨k,rfl,q⟩
 ·obtain ⟨u,rfl,t,rfl⟩:=vals1 r
  exact call_int_int ⟨.int i,H,I,⟨_,rfl⟩,q⟩
 ·obtain ⟨u,rfl,r1⟩:=vals1 r
  cases r1
  exact call_int_bool ⟨.int (if k then 1 else 0),H,I.tok _,⟨_,rfl⟩,q⟩
end
open PySem PySem.Spec PyProof.Rows
structure xW (h:Heap) (x dx C:Addr) (mA:Str→Option Value):Prop where
 obj:h.get? x=some (PySem.W.instObj C dx)
 ns:h.Ns1 dx mA
 ne:dx≠x
theorem Ax {h:Heap} {dx:Addr} {mA:Str→Option Value} (n:h.Ns1 dx mA):∃od,h.get? dx=some od∧∀name,PySem.W.lookIn name od=some (mA name):=by
 obtain ⟨o,es,ep,ho,hd,hk,_,hm⟩:=n
 refine ⟨o,ho,fun name=>?_⟩
 have e:=hm name
 unfold nsFind findBy at e
 rw [←Array.find?_toList] at e
 unfold PySem.W.lookIn
 rw [hd]
 dsimp only
 split
 ·rename_i y q
  rw [q] at e
  exact congrArg some e
 ·rename_i q
  rw [q] at e
  have a:es.toList.any (·.refKey)=false:=by
   rw [List.any_eq_false]
   intro y hy
   obtain ⟨z,t,hkey⟩:=hk y (Array.mem_toList_iff.mp hy)
   simp [DictEntry.refKey,hkey]
  have a':¬es.toList.any (·.refKey)=true:=by rw [a];exact Bool.false_ne_true
  rw [if_neg a']
  exact congrArg some e
theorem xW.look {h:Heap} {x dx C:Addr} {mA:Str→Option Value} (I:xW h x dx C mA):∃od,PySem.W.InstAt h x (PySem.W.instObj C dx) C (some od)∧∀name,PySem.W.lookIn name od=some (mA name):=
 let ⟨od,ho,hl⟩:=Ax I.ns
 ⟨od,⟨I.obj,rfl,rfl,ho⟩,hl⟩
section
variable {prog:Program} {w:World} {A:Around} {E:Value→Shared→Prop} {s:Shared} {K:PySem.W.Frag} {x dx C f:Addr} {mA:Str→Option Value} {name:Str} {v:Value}
theorem Hw {expr:Bool} {Q:Value→Shared→Prop} (X:K.In s.heap) (I:xW s.heap x dx C mA) (hg:PySem.W.plainGet K C name=true) (hh:PySem.W.hasDictIn K C=true)
  (ha:PySem.W.findIn K (.ref C) name=some none) (hv:mA name=some v) (hv':PySem.W.handedIn v=true) (h:Q v {s with toks:=s.toks+1}):
  wpAny (model prog w) A (getAttr (.ref x) name expr) Q E s:=by
 obtain ⟨od,J,hl⟩:=I.look
 exact PySem.W.get_value X J (PySem.W.plainGet_of hg).1 (PySem.W.findObj_own hh ha rfl (by rw [hl,hv])) hv' h
theorem Dg {pl:Sem Bool} {Q:Value × List Value→Shared→Prop} (X:K.In s.heap) (I:xW s.heap x dx C mA) (hg:PySem.W.plainGet K C name=true)
  (hf:PySem.W.findIn K (.ref C) name=some (some (.ref f))) (ht:PySem.W.isFn K (.ref f)=true) (hv:mA name=none) (h:Q (.ref f,[.ref x]) s):
  wpAny (model prog w) A (getMethod (.ref x) name pl) Q E s:=by
 obtain ⟨od,J,hl⟩:=I.look
 exact PySem.W.method_fn X J (PySem.W.plainGet_of hg).1 (PySem.W.plainGet_of hg).2 hf (beq_iff_eq.mp ht) (by show (PySem.W.lookIn name od).map (·.isSome)=some false;rw [hl,hv];rfl) h
theorem Hy {ns:List Str} {Q:Unit→Shared→Prop} (X:K.In s.heap) (I:xW s.heap x dx C mA)
  (hs:PySem.W.findIn K (.ref C) "__setattr__"=some (some (.builtin "object.__setattr__"))) (hp:PySem.W.plainOver K C=true) (ht:PySem.W.takerIn K C name=some none) (hh:PySem.W.hasDictIn K C=true)
  (hw:PySem.Within mA ns) (hsz:ns.length≤sizeLine)
  (h:∀h',xW h' x dx C (fun y=>if y=name then some v else mA y)→Heap.SameBut dx s.heap h'→Q () {s with heap:=h',toks:=s.toks+2}):
  wpAny (model prog w) A (setAttr (.ref x) name v) Q E s:=by
 obtain ⟨od,J,hl⟩:=I.look
 refine PySem.W.set_plain X J hs (PySem.W.osa_open (s:={s with toks:=s.toks+1}) (r:=none) X J hp ht fun b=>?_)
 obtain ⟨cd,hc,hd'⟩:=PySem.W.any_some hh
 have hx:s.heap.get? x=some ⟨.ref C,some dx,.plain,#[]⟩:=I.obj
 refine wpAny_bind (wpAny_pure (wpAny_bind (wpAny_bind (wpAny_loadPart hx (wpAny_bind (PySem.W.Looks.here (s:={s with toks:=s.toks+1}) (PySem.W.looks_clsIn X hc) ?_))))))
 rw [hd']
 refine wpAny_pure (a:=some dx) (wpAny_bind (wpAny_pure (wpAny_bind ?_)))
 refine wpAny_nsSet1 (s:={s with toks:=s.toks+1}) I.ns fun h' hn2 hs2=>?_
 obtain ⟨oD,esD,epD,hoD,hdD,hcD⟩:=hn2.count (PySem.Within.cons name v hw)
 refine wpAny_bind (wpAny_lookBehind hoD (by rw [hdD];exact pastItsLine_dict (Nat.le_trans hcD (by rw [List.length_cons];omega))) ?_)
 exact wpAny_pure (h _ ⟨(hs2.2 _ (Ne.symm I.ne)).trans I.obj,hn2,I.ne⟩ hs2)
theorem Dh {R:Result→Shared→Prop} {vs:List Value} {kw:List (Str × Value)} (X:K.In s.heap) (hm:PySem.W.makesIn K C=true)
  (hi:PySem.W.findIn K (.ref C) "__init__"=some (some (.ref f))) (hf:PySem.W.typeIn K (.ref f)=some (.type "function"))
  (h:codeAny (model prog w) (A.under (.builtin "type.__call__" ⟨.ref C::vs,kw⟩)) (.call (.ref f) ⟨.ref (s.heap.objs.size+1)::vs,kw⟩) (PySem.W.InitBack (s.heap.objs.size+1) R)
   {s with heap:=(s.heap.push PySem.W.emptyDict).push (PySem.W.instObj C s.heap.objs.size)}):
  codeAny (model prog w) A (.call (.ref C) ⟨vs,kw⟩) R s:=by
 obtain ⟨hh,g,d,t,os⟩:=s
 exact PySem.W.make_core (PySem.W.makes_of X hm) (PySem.W.looks_findIn X hi) (fun self=>PySem.W.bind_fn X self hf) (.inl rfl) h
end
noncomputable def jA (f:Str) (v:V):List (Str × V)→List (Str × V)
 | []=>[(f,v)]
 | (g,x)::r=>if g=f then (g,v)::r else (g,x)::jA f v r
theorem jN (f g:Str) (v:V):∀fs:List (Str × V),(jA f v fs).lookup g=if g=f then some v else fs.lookup g
 | []=>by
  show List.lookup g [(f,v)]=_
  by_cases h:g=f
  ·have hb:(g==f)=true:=beq_iff_eq.mpr h
   simp only [List.lookup,hb,if_pos h]
  ·have hb:(g==f)=false:=beq_eq_false_iff_ne.mpr h
   simp only [List.lookup,hb,if_neg h]
 | (k,x)::r=>by
  have ih:=jN f g v r
  rw [show jA f v ((k,x)::r)=(if k=f then (k,v)::r else (k,x)::jA f v r) from rfl]
  by_cases hk:k=f
  ·rw [if_pos hk]
   by_cases h:g=k
   ·have hb:(g==k)=true:=beq_iff_eq.mpr h
    simp only [List.lookup,hb,if_pos (h.trans hk)]
   ·have hb:(g==k)=false:=beq_eq_false_iff_ne.mpr h
    simp only [List.lookup,hb,if_neg (fun e:g=f=>h (e.trans hk.symm))]
  ·rw [if_neg hk]
   by_cases h:g=k
   ·have hb:(g==k)=true:=beq_iff_eq.mpr h
    simp only [List.lookup,hb,if_neg (fun e:g=f=>hk (h.symm.trans e))]
   ·have hb:(g==k)=false:=beq_eq_false_iff_ne.mpr h
    simp only [List.lookup,hb]
    exact ih
theorem jf (f:Str) (v:V):∀fs:List (Str × V),f∈(jA f v fs).map (·.1)∧∀g,g∈fs.map (·.1)→g∈(jA f v fs).map (·.1)
 | []=>⟨by simp [jA],fun g h=>by simp at h⟩
 | (k,x)::r=>by
  obtain ⟨i1,i2⟩:=jf f v r
  rw [show jA f v ((k,x)::r)=(if k=f then (k,v)::r else (k,x)::jA f v r) from rfl]
  by_cases hk:k=f
  ·rw [if_pos hk]
   subst hk
   exact ⟨by simp,fun g h=>by simpa using h⟩
  ·rw [if_neg hk]
   refine ⟨?_,fun g h=>?_⟩
   ·rw [List.map_cons]
    exact List.mem_cons_of_mem _ i1
   ·rw [List.map_cons] at h ⊢
    rcases List.mem_cons.mp h with e | e
    ·exact List.mem_cons.mpr (.inl e)
    ·exact List.mem_cons_of_mem _ (i2 g e)
theorem jO (f:Str) (v:V):∀fs:List (Str × V),(jA f v fs).length≤fs.length+1
 | []=>by simp [jA]
 | (k,x)::r=>by
  have ih:=jO f v r
  rw [show jA f v ((k,x)::r)=(if k=f then (k,v)::r else (k,x)::jA f v r) from rfl]
  by_cases hk:k=f
  ·rw [if_pos hk,List.length_cons,List.length_cons];omega
  ·rw [if_neg hk,List.length_cons,List.length_cons];omega
theorem je.some_of {v:V} {o:Option Value} (r:je (some v) o):∃u,o=some u∧RelV v u:=by
 cases o with
 | none=>exact (show False from r).elim
 | some u=>exact ⟨u,rfl,r⟩
theorem je.none_of {o:Option Value} (r:je none o):o=none:=by
 cases o with
 | none=>rfl
 | some u=>exact (show False from r).elim
theorem Ay {v:V} {u:Value} (r:RelV v u):PySem.W.handedIn u=true:=by
 cases v with
 | non=>cases (show u=Value.none from r);rfl
 | bl b=>cases (show u=Value.bool b from r);rfl
 | int i=>obtain ⟨t,e⟩:=(show ∃t,u=Value.int i t from r);cases e;rfl
 | str x=>obtain ⟨t,e⟩:=(show ∃t,u=Value.str x t from r);cases e;rfl
 | byt b=>obtain ⟨t,e⟩:=(show ∃t,u=Value.bytes b t from r);cases e;rfl
 | flt b=>obtain ⟨t,e⟩:=(show ∃t,u=Value.float b t from r);cases e;rfl
 | ref a=>cases (show u=Value.ref a from r);rfl
 | ty n=>cases (show u=Value.type n from r);rfl
section
variable {P:Program} {w:World} {H H':Hp} {h h':Heap} {a C dx:Addr} {fs fs':List (Str × V)}
theorem pq (hok:HOk P w H h) (e:H a=some (.ins C dx fs)):∃mA,xW h a dx C mA∧(∀f,je (fs.lookup f) (mA f))∧PySem.Within mA (fs.map (·.1))∧fs.length≤1000∧H dx=some (.own a):=by
 obtain ⟨d,z,ne,ob,mA,n,r,q⟩:=(show bB P w H h a (.ins C dx fs) from hok a _ e)
 exact ⟨mA,⟨ob,n,ne⟩,r,q,z,d⟩
end
structure Cls (K:PySem.W.Frag) (C:Addr):Prop where
 pg:PySem.W.plainGet K C Str.empty=true
 hd:PySem.W.hasDictIn K C=true
 po:PySem.W.plainOver K C=true
 sa:PySem.W.findIn K (.ref C) "__setattr__"=some (some (.builtin "object.__setattr__"))
theorem Cls.get {K:PySem.W.Frag} {C:Addr} (c:Cls K C) (f:Str):PySem.W.plainGet K C f=true:=c.pg
noncomputable def jP (K:PySem.W.Frag) (C:Addr) (f:Str):Prop:=PySem.W.findIn K (.ref C) f=some none
theorem jP.taker {K:PySem.W.Frag} {C:Addr} {f:Str} (n:jP K C f):PySem.W.takerIn K C f=some none:=by
 unfold PySem.W.takerIn
 rw [show PySem.W.findIn K (.ref C) f=some none from n]
 rfl
structure Meth (K:PySem.W.Frag) (C:Addr) (m:Str) (f:Addr):Prop where
 at_:PySem.W.findIn K (.ref C) m=some (some (.ref f))
 fn:PySem.W.isFn K (.ref f)=true
 kp:PySem.W.keepIn K (.ref f)=true
section
variable {X:Cx} {pins:List (Addr × Obj)} {σ:St} {H:Hp} {s:Shared} {a C dx:Addr} {fs:List (Str × V)} {f:Str} {v:V} {A:Around} {E:Value→Shared→Prop}
theorem xY {b:Bool} {Q:Value→Shared→Prop} (I:Inv X pins σ H s) (e:H a=some (.ins C dx fs)) (c:Cls X.K C) (n:jP X.K C f) (l:fs.lookup f=some v)
  (h:∀u s',Inv X pins σ H s'→RelV v u→Q u s'):wpAny (model X.prog X.w) A (getAttr (.ref a) f b) Q E s:=by
 obtain ⟨mA,O,r,_,_,_⟩:=pq I.hok e
 obtain ⟨u,hu,ru⟩:=je.some_of (v:=v) (o:=mA f) (by rw [←l];exact r f)
 exact Hw I.kIn O (c.get f) c.hd n hu (Ay ru) (h u _ (I.tok _) ru)
theorem jB {m:Str} {g:Addr} {pl:Sem Bool} {Q:Value × List Value→Shared→Prop} (I:Inv X pins σ H s) (e:H a=some (.ins C dx fs)) (c:Cls X.K C) (k:Meth X.K C m g) (l:fs.lookup m=none)
  (h:Q (.ref g,[.ref a]) s):wpAny (model X.prog X.w) A (getMethod (.ref a) m pl) Q E s:=by
 obtain ⟨mA,O,r,_,_,_⟩:=pq I.hok e
 have hn:mA m=none:=je.none_of (by rw [←l];exact r m)
 exact Dg I.kIn O (c.get m) k.at_ k.fn hn h
theorem xZ {y:V} {u:Value} {Q:Unit→Shared→Prop} (I:Inv X pins σ H s) (e:H a=some (.ins C dx fs)) (c:Cls X.K C) (n:jP X.K C f) (hl:fs.length < 1000) (ry:RelV y u)
  (h:∀s',Inv X pins σ (upd H a (.ins C dx (jA f y fs))) s'→Q () s'):wpAny (model X.prog X.w) A (setAttr (.ref a) f u) Q E s:=by
 obtain ⟨mA,O,r,wi,_,ho⟩:=pq I.hok e
 have hz:(fs.map (·.1)).length≤sizeLine:=by rw [List.length_map,sizeLine_eq];omega
 refine Hy I.kIn O c.sa c.po n.taker c.hd wi hz fun h' O' sb=>h _ ?_
 have hd:∃o,h'.get? dx=some o:=let ⟨o,_,_,e',_⟩:=O'.ns;⟨o,e'⟩
 refine I.write (x:=a) (e:=dx) (by rw [e];exact True.intro) (.inr ho) (fun b q hb z=>(sb.2 b hb).trans z) hd ?_
 refine ⟨by rw [ak O.ne];exact ho,?_,O.ne,O'.obj,_,O'.ns,fun g=>?_,fun g hg=>?_⟩
 ·have:=jO f y fs;omega
 ·show je ((jA f y fs).lookup g) (if g=f then some u else mA g)
  rw [jN]
  by_cases q:g=f
  ·rw [if_pos q,if_pos q];exact ry
  ·rw [if_neg q,if_neg q];exact r g
 ·by_cases q:g=f
  ·rw [q];exact (jf f y fs).1
  ·refine (jf f y fs).2 g (wi g fun z=>hg ?_)
   show (if g=f then some u else mA g)=none
   rw [if_neg q];exact z
theorem Inv.made (I:Inv X pins σ H s):Inv X pins σ (upd (upd H s.heap.objs.size (.own (s.heap.objs.size+1))) (s.heap.objs.size+1) (.ins C s.heap.objs.size []))
  {s with heap:=(s.heap.push PySem.W.emptyDict).push (PySem.W.instObj C s.heap.objs.size)}:=by
 have e1:(s.heap.push PySem.W.emptyDict).get? s.heap.objs.size=some PySem.W.emptyDict:=Heap.get?_push_size s.heap rfl
 have e2:((s.heap.push PySem.W.emptyDict).push (PySem.W.instObj C s.heap.objs.size)).get? (s.heap.objs.size+1)=some (PySem.W.instObj C s.heap.objs.size):=by
  have:=Heap.get?_push_size (s.heap.push PySem.W.emptyDict) (o:=PySem.W.instObj C s.heap.objs.size) rfl
  rwa [Heap.size_push] at this
 have e3:(s.heap.push PySem.W.emptyDict).Ns s.heap.objs.size (fun _=>none):=⟨PySem.W.emptyDict,#[],_,e1,rfl,(fun e he=>absurd he (by simp)),fun _=>rfl⟩
 have I1:=I.laid (a:=s.heap.objs.size) (o:=.own (s.heap.objs.size+1)) (h':=s.heap.push PySem.W.emptyDict) (t':=s.toks) (fun b u q=>Heap.get?_push_of_some _ q) (Nat.le_refl _) ⟨_,e1⟩
 refine I1.laid (a:=s.heap.objs.size+1) (o:=.ins C s.heap.objs.size []) (t':=s.toks) (fun b u q=>Heap.get?_push_of_some _ q) (Nat.le_of_eq (Heap.size_push _ _)) ?_
 have ne:s.heap.objs.size≠s.heap.objs.size+1:=Nat.ne_of_lt (Nat.lt_succ_self _)
 refine ⟨by rw [ak ne,aj],Nat.zero_le _,ne,e2,fun _=>none,(Heap.Ns1.of_empty e3).at fun o q=>Heap.get?_push_of_some _ q,fun _=>True.intro,fun y hy=>absurd rfl hy⟩
theorem Hz {prog:Program} {w:World} {env:Env} {e:Expr} {f:Str} {pos:Pos} {s:Shared} {Q:Value→Shared→Prop} (hb:attributeBase e f env (eval e env)=eval e env)
  (h:wpAny (model prog w) A (eval e env) (fun o s₁=>wpAny (model prog w) A (getAttr o f true) Q E s₁) E s):wpAny (model prog w) A (eval (.Attribute e f pos) env) Q E s:=
 Attribute_any_ h (by rw [arm_eval_Attribute,hb])
end
noncomputable def Pr (K:PySem.W.Frag) (ta:TE) (f:Str):TE:=fun σ H Q=>ta σ H fun x H1=>∃a C dx fs v,x=.ref a∧H1 a=some (.ins C dx fs)∧Cls K C∧jP K C f∧fs.lookup f=some v∧Q v H1
noncomputable def Pu (K:PySem.W.Frag) (ta tv:TE) (f:Str):TS:=fun D σ H=>tv σ H fun y H1=>ta σ H1 fun x H2=>∃a C dx fs,x=.ref a∧H2 a=some (.ins C dx fs)∧Cls K C∧jP K C f∧fs.length < 1000∧
 D.nx σ (upd H2 a (.ins C dx (jA f y fs)))
section
variable {X:Cx} {o e value:Expr} {f:Str} {pos pos' tpos:Pos} {ta tv:TE}
theorem bV (he:PE X e ta) (hb:attributeBase e f X.env (eval e X.env)=eval e X.env):PE X (.Attribute e f pos) (Pr X.K ta f):=by
 intro pins s σ H Q I h
 refine Hz hb (thn (he pins s σ H _ I h) fun u s1 ⟨x,H1,I1,rx,a,C,dx,fs,v,ex,ea,c,n,l,q⟩=>?_)
 subst ex
 obtain rfl:u=Value.ref a:=rx
 exact xY I1 ea c n l fun u' s2 I2 ru=>⟨v,H1,I2,ru,q⟩
theorem lO (ha:PE X o ta) (hv:PE X value tv) (hs:swapsWith value (some (.Attribute o f pos')) pos.line X.env=pure false):PS X (.Assign [.Attribute o f pos'] value pos) (Pu X.K ta tv f):=by
 intro pins s σ H D I h
 refine plainObj_wpAny_Assign_Attribute (thn (hv pins s σ H _ I h) fun u s1 ⟨y,H1,I1,ry,q⟩=>thn (ha pins s1 σ H1 _ I1 q) fun ov s2 ⟨x,H2,I2,rx,a,C,dx,fs,ex,ea,c,n,l,q2⟩=>?_) hs
 subst ex
 obtain rfl:ov=Value.ref a:=rx
 exact xZ I2 ea c n l ry fun s3 I3=>⟨σ,_,I3,q2⟩
theorem JV {pl:Sem Bool} {m:Str} {apos:Pos} {args:List Expr} {pins:List (Addr × Obj)} {s:Shared} {σ:St} {H:Hp} {Q:Value→Shared→Prop} {te:TE} (he:PE X e te) (I:Inv X pins σ H s)
  (h:te σ H fun x H1=>∃a C dx fs g,x=.ref a∧H1 a=some (.ins C dx fs)∧Cls X.K C∧Meth X.K C m g∧fs.lookup m=none∧
   ∀s1,Inv X pins σ H1 s1→wpAny (model X.prog X.w) X.A (callWith pos (.ref g) [.ref a] (backTo pos (starEach args X.env)) (backToKw pos (keywordEach [] X.env))) Q X.xe s1)
  (ht:eval (.Call (.Attribute e m apos) args [] pos) X.env=(do
   let ov ←eval e X.env
   standAt apos.atName
   let (f,first) ←holding [ov] (getMethod ov m pl)
   callWith pos f first (backTo pos (starEach args X.env)) (backToKw pos (keywordEach [] X.env)))):
  wpAny (model X.prog X.w) X.A (eval (.Call (.Attribute e m apos) args [] pos) X.env) Q X.xe s:=by
 refine PySem.W.methodCall_KW (pl:=pl) (thn (he pins s σ H _ I h) fun u s1 ⟨x,H1,I1,rx,a,C,dx,fs,g,ex,ea,c,k,l,q⟩=>?_) ht
 subst ex
 obtain rfl:u=Value.ref a:=rx
 exact jB I1 ea c k l (q s1 I1)
end
section
variable {X:Cx} {pins:List (Addr × Obj)} {σ:St} {H:Hp} {s:Shared} {A:Around} {E:Value→Shared→Prop} {Q:Value→Shared→Prop} {c:Value} {b:Bool}
inductive nU (K:PySem.W.Frag) (H:Hp):V→Value→Prop where
 | non:nU K H .non (.type "NoneType")
 | bl (x:Bool):nU K H (.bl x) (.type "bool")
 | int (i:Int):nU K H (.int i) (.type "int")
 | str (x:Str):nU K H (.str x) (.type "str")
 | flt (x:UInt64):nU K H (.flt x) (.type "float")
 | lst {a:Addr} {xs:List V} (e:H a=some (.lst xs)):nU K H (.ref a) (.type "list")
 | frz {a:Addr} {o:Obj} {xs:List V} (e:H a=some (.frz o (.lst xs))):nU K H (.ref a) (.type "list")
 | tup {a:Addr} {xs:List V} (e:H a=some (.tup xs)):nU K H (.ref a) (.type "tuple")
 | dK {a:Addr} {kvs:List (Key × V)} (e:H a=some (.dK kvs)):nU K H (.ref a) (.type "dict")
 | dT {a:Addr} {kvs:List (List Key × V)} (e:H a=some (.dT kvs)):nU K H (.ref a) (.type "dict")
 | ins {a C dx:Addr} {fs:List (Str × V)} (e:H a=some (.ins C dx fs)) (cl:Cls K C) (ha:PySem.W.findIn K (.ref C) "__class__"=some (some (.builtin "object.__class__")))
   (hn:PySem.W.specialIn K (.builtin "object.__class__") "__get__"=some (some (.builtin "getset_descriptor.__get__"))) (htk:PySem.W.takesIn K (.builtin "object.__class__")=some true)
   (hm:PySem.W.mroIn K C (.type "object")=some true):nU K H (.ref a) (.ref C)
theorem Az {x:V} {u t:Value} (I:Inv X pins σ H s) (rx:RelV x u) (ty:nU X.K H x t) (e:PySem.W.kitOne X.K t c=some b) (h:∀tk,Q (.bool b) {s with toks:=tk}):
  wpAny (model X.prog X.w) A (call (.builtin "isinstance") [u,c]) Q E s:=by
 cases ty with
 | non=>cases (show u=Value.none from rx);exact PySem.W.kia_one PySem.W.kitx_none I.kIn True.intro e (fun z=>nomatch z) h
 | bl y=>cases (show u=Value.bool y from rx);exact PySem.W.kia_one PySem.W.kitx_bool I.kIn True.intro e (fun z=>nomatch z) h
 | int i=>obtain ⟨t,q⟩:=(show ∃t,u=Value.int i t from rx);cases q;exact PySem.W.kia_one PySem.W.kitx_int I.kIn True.intro e (fun z=>nomatch z) h
 | str y=>obtain ⟨t,q⟩:=(show ∃t,u=Value.str y t from rx);cases q;exact PySem.W.kia_one PySem.W.kitx_str I.kIn True.intro e (fun z=>nomatch z) h
 | flt y=>obtain ⟨t,q⟩:=(show ∃t,u=Value.float y t from rx);cases q;exact PySem.W.kia_one PySem.W.kitx_float I.kIn True.intro e (fun z=>nomatch z) h
 | @lst a xs ea=>
  cases (show u=Value.ref a from rx)
  obtain ⟨_,_,n,_,h1⟩:=(show bB X.prog X.w H s.heap a (.lst xs) from I.hok a _ ea)
  exact PySem.W.kia_one PySem.W.kitx_list I.kIn ⟨_,h1,rfl⟩ e (fun z=>nomatch z) h
 | @frz a ob xs ea=>
  cases (show u=Value.ref a from rx)
  obtain ⟨_,_,_,n,_,h1⟩:=(show bB X.prog X.w H s.heap a (.frz ob (.lst xs)) from I.hok a _ ea)
  exact PySem.W.kia_one PySem.W.kitx_list I.kIn ⟨_,h1,rfl⟩ e (fun z=>nomatch z) h
 | @tup a xs ea=>
  cases (show u=Value.ref a from rx)
  obtain ⟨_,_,_,p⟩:=(show bB X.prog X.w H s.heap a (.tup xs) from I.hok a _ ea)
  obtain ⟨o,h1,h2,_⟩:=p
  exact PySem.W.kia_one PySem.W.kitx_tuple I.kIn ⟨o,h1,h2⟩ e (fun z=>nomatch z) h
 | @dK a kvs ea=>
  cases (show u=Value.ref a from rx)
  obtain ⟨_,_,vs,_,p⟩:=(show bB X.prog X.w H s.heap a (.dK kvs) from I.hok a _ ea)
  obtain ⟨o,es,ep,h1,h2,_⟩:=p
  exact PySem.W.kia_one PySem.W.kitx_dict I.kIn ⟨o,h1,h2.1⟩ e (fun z=>nomatch z) h
 | @dT a kvs ea=>
  cases (show u=Value.ref a from rx)
  obtain ⟨_,_,xs,_,o,es,ep,h1,h2,_⟩:=(show bB X.prog X.w H s.heap a (.dT kvs) from I.hok a _ ea)
  exact PySem.W.kia_one PySem.W.kitx_dict I.kIn ⟨o,h1,h2.1⟩ e (fun z=>nomatch z) h
 | @ins a C dx fs ea cl ha hn htk hm=>
  cases (show u=Value.ref a from rx)
  obtain ⟨mA,O,_⟩:=pq I.hok ea
  obtain ⟨od,J,_⟩:=O.look
  exact PySem.W.kia_one (PySem.W.kitx_own (cl.get _) cl.hd ha hn htk hm) I.kIn J e (fun z=>nomatch z) h
end
open PySem PySem.Spec PyProof.Rows
structure dM (k:Nat) (A:Around):Prop where
 hd:A.handled=none
 dp:A.depth+3 * k+5 < recursionLimit
 un:A.units+16 * k+200 < cLine
theorem dM.mono {j k:Nat} {A:Around} (r:dM k A) (h:j≤k):dM j A:=⟨r.hd,by have:=r.dp;omega,by have:=r.un;omega⟩
theorem dM.deeper {k:Nat} {A:Around} (r:dM (k+1) A) (env:Env):dM k (A.deeper env):=
 ⟨r.hd,by have:=r.dp;show A.depth+1+3 * k+5 < _;omega,by have:=r.un;show A.units+3+16 * k+200 < _;omega⟩
theorem yc {A:Around} {C:Addr} {us:List Value} {kw:List (Str × Value)}:(A.under (.builtin "type.__call__" ⟨.ref C::us,kw⟩)).depth=A.depth+1:=by
 first | rfl | simp [Around.under,Code.weight,Code.isCreation,Code.isGuard,Code.isCaller,Code.frames,Code.isFrame,guardIds]
theorem yd {A:Around} {C:Addr} {us:List Value} {kw:List (Str × Value)}:(A.under (.builtin "type.__call__" ⟨.ref C::us,kw⟩)).units=A.units+1:=by
 first | rfl | simp [Around.under,Code.cUnits,Code.frames,Code.isFrame]
theorem dM.make {k:Nat} {A:Around} (r:dM (k+1) A) (C:Addr) (us:List Value) (kw:List (Str × Value)):dM k (A.under (.builtin "type.__call__" ⟨.ref C::us,kw⟩)):=
 ⟨r.hd,by have:=r.dp;rw [yc];omega,by have:=r.un;rw [yd];omega⟩
theorem dM.depth {k:Nat} {A:Around} (r:dM k A):A.depth < recursionLimit:=by have:=r.dp;omega
theorem dM.units {k:Nat} {A:Around} (r:dM k A):A.units+64 < cLine:=by have:=r.un;omega
noncomputable def Ba:TA:=fun _ H Q=>Q [] H
noncomputable def mG (ta:TE) (tr:TA):TA:=fun σ H Q=>ta σ H fun x H1=>tr σ H1 fun xs H2=>Q (x::xs) H2
section
variable {X:Cx} {e:Expr} {es:List Expr} {te:TE} {t:TA} {pos:Pos}
theorem aq:PA X [] Ba:=fun _ _ _ _ H Q I h=>Calls.spliced_nil ⟨[],H,I,.nil,h⟩
theorem aa (ha:PE X e te) (hr:PA X es t) (hs:starEach (e::es) X.env=(false,eval e X.env)::starEach es X.env:=by rfl):PA X (e::es) (mG te t):=by
 intro pos pins s σ H Q I h
 rw [hs]
 show wpAny _ _ (spliced ((false,eval e X.env)::backTo pos (starEach es X.env))) _ _ s
 refine Calls.spliced_cons (thn (ha pins s σ H _ I h) fun u s1 ⟨x,H1,I1,r1,q1⟩=>?_)
 exact thn (hr pos pins s1 σ H1 _ I1 q1) fun us s2 ⟨xs,H2,I2,r2,q2⟩=>⟨x::xs,H2,I2,.cons r1 r2,q2⟩
noncomputable def Px (t:TA):TE:=fun σ H Q=>t σ H fun xs H1=>xs.length≤sizeLine∧∀p,H1 p=none→Q (.ref p) (upd H1 p (.tup xs))
noncomputable def Py (t:TA):TE:=fun σ H Q=>t σ H fun xs H1=>xs.length≤sizeLine∧∀p,H1 p=none→Q (.ref p) (upd H1 p (.lst xs))
theorem iu {x1} (h:PA X es t):PE X (.Tuple es x1 pos) (Px t):=by
 intro pins s σ H Q I hq
 refine wpAny_Tuple_spliced (thn (h pos pins s σ H _ I hq) fun us s1 ⟨xs,H1,I1,r,z,q⟩=>⟨by rw [←r.length];exact z,?_⟩)
 have hf:H1 s1.heap.objs.size=none:=I1.hok.fresh (Nat.le_refl _)
 refine ⟨.ref s1.heap.objs.size,upd H1 s1.heap.objs.size (.tup xs),I1.laid (t':=s1.toks) (fun b u e=>Heap.get?_push_of_some _ e) (Nat.le_refl _) ?_,rfl,q _ hf⟩
 exact ⟨z,us,r,⟨_,Heap.get?_push_size _ rfl,rfl,_,rfl⟩⟩
theorem iW (h:PA X es t):PE X (.List es pos) (Py t):=by
 intro pins s σ H Q I hq
 refine wpAny_List_spliced (thn (h pos pins s σ H _ I hq) fun us s1 ⟨xs,H1,I1,r,z,q⟩=>⟨by rw [←r.length];exact z,?_⟩)
 have hf:H1 s1.heap.objs.size=none:=I1.hok.fresh (Nat.le_refl _)
 refine ⟨.ref s1.heap.objs.size,upd H1 s1.heap.objs.size (.lst xs),I1.laid (t':=s1.toks) (fun b u e=>Heap.get?_push_of_some _ e) (Nat.le_refl _) ?_,rfl,q _ hf⟩
 exact ⟨z,us,0,r,Heap.get?_push_size _ rfl⟩
end
noncomputable abbrev Sp:=List V→Hp→VK→XK→Prop
noncomputable abbrev CXT:=List Env→Hp→Shared→XK→Value→Shared→Prop
structure ye (P:Program) (w:World) (K:PySem.W.Frag) (mg:Str→Option Value) (base:Heap) (A:Around) (outer:List Env) (s:Shared) (H:Hp):Prop where
 frames:A.frames=some outer
 mod:Mod K mg base
 bs:∀b o,base.get? b=some o→s.heap.get? b=some o∧H b=none
 bsz:base.objs.size≤s.heap.objs.size
 funs:s.heap.FunFrames base outer
 frf:∀b∈frs outer,H b=none
 hok:HOk P w H s.heap
 bare:AllBare s.gens
noncomputable def CE (outer:List Env) (P:Program) (w:World) (H:Hp) (s:Shared) (Q:VK) (u:Value) (s':Shared):Prop:=
 ∃v H',s'.os=s.os∧AllBare s'.gens∧Un (frs outer) [] H H' s.heap s'.heap∧HOk P w H' s'.heap∧RelV v u∧Q v H'
noncomputable def CR (CX:CXT) (outer:List Env) (P:Program) (w:World) (H:Hp) (s:Shared) (Q:VK) (E:XK) (r:Result) (s':Shared):Prop:=
 match r with
 | .ok (.ret u)=>CE outer P w H s Q u s'
 | .ok _=>False
 | .error e=>CX outer H s E e s'
structure aD (P:Program) (w:World) (K:PySem.W.Frag) (mg:Str→Option Value) (base:Heap) (CX:CXT) (k:Nat) (f:Addr) (fd:FuncData) (ps:List Str) (sp:Sp):Prop where
 len:∀vs H Q E,sp vs H Q E→vs.length=ps.length
 run:∀(A:Around) (outer:List Env) (s:Shared) (H:Hp) (args:Args) (us:List Value) (vs:List V) (Q:VK) (E:XK),dM k A→ye P w K mg base A outer s H→BindsTo s fd args (ps.zip us)→Vals vs us→sp vs H Q E→
  codeAny (model P w) A (.call (.ref f) args) (CR CX outer P w H s Q E) s
theorem aD.imp {P:Program} {w:World} {K:PySem.W.Frag} {mg:Str→Option Value} {base:Heap} {CX:CXT} {k:Nat} {f:Addr} {fd:FuncData} {ps:List Str} {sp sp':Sp} (F:aD P w K mg base CX k f fd ps sp)
  (h:∀vs H Q E,sp' vs H Q E→sp vs H Q E):aD P w K mg base CX k f fd ps sp':=
 ⟨fun vs H Q E q=>F.len vs H Q E (h _ _ _ _ q),fun A outer s H args us vs Q E hr he hb hv hs=>F.run A outer s H args us vs Q E hr he hb hv (h _ _ _ _ hs)⟩
theorem ye.make {P:Program} {w:World} {K:PySem.W.Frag} {mg:Str→Option Value} {base:Heap} {A:Around} {outer:List Env} {s:Shared} {H:Hp} (e:ye P w K mg base A outer s H) (C:Addr) (us:List Value) (kw:List (Str × Value)):
  ye P w K mg base (A.under (.builtin "type.__call__" ⟨.ref C::us,kw⟩)) outer s H:=⟨by first | exact e.frames | (simpa [Around.under,Code.envs,Code.isFrame,pushEnvs] using e.frames),e.mod,e.bs,e.bsz,e.funs,e.frf,e.hok,e.bare⟩
section
variable {X:Cx} {pins:List (Addr × Obj)} {σ:St} {H:Hp} {s s':Shared}
theorem Inv.env0 (I:Inv X pins σ H s):ye X.prog X.w X.K X.mg X.base X.A X.stack s H:=
 ⟨I.ok.frames,I.ok.mod,I.bs,Nat.le_trans I.ok.bsz I.sz,I.stack,I.stkFree,I.hok,I.bare⟩
theorem Inv.after {Q:VK} {u:Value} (I:Inv X pins σ H s) (h:CE X.stack X.prog X.w H s Q u s'):EP X pins σ Q u s':=by
 obtain ⟨v,H',os,bare,un,hok,r,q⟩:=h
 obtain ⟨hh,g,d,t,os'⟩:=s'
 obtain rfl:os'=s.os:=os
 exact ⟨v,H',I.call (h':=hh) (g':=g) (d':=d) (t':=t) (ch:=[]) un hok bare (fun b z=>absurd z (by simp)),r,q⟩
end
noncomputable def Nq (sp:Sp) (dvs:List V) (E:XK) (t:TA):TE:=fun σ H Q=>t σ H fun vs H1=>sp (vs++dvs) H1 Q E
noncomputable def Di (C:Addr) (m:Str) (sp:Sp) (dvs:List V) (E:XK) (ta:TE) (t:TA):TE:=fun σ H Q=>ta σ H fun x H1=>∃a dx fs,x=.ref a∧H1 a=some (.ins C dx fs)∧fs.lookup m=none∧
 t σ H1 fun vs H2=>sp (x::(vs++dvs)) H2 Q E
noncomputable def Nr (C:Addr) (sp:Sp) (dvs:List V) (E:XK) (t:TA):TE:=fun σ H Q=>t σ H fun vs H1=>∀x dx,H1 x=none→H1 dx=none→dx≠x→
 sp (.ref x::(vs++dvs)) (upd (upd H1 dx (.own x)) x (.ins C dx [])) (fun v H2=>v=.non∧Q (.ref x) H2) E
noncomputable def Binds (K:PySem.W.Frag) (fd:FuncData) (ps:List Str) (ds:List Value):Prop:=
 ∀(s:Shared) (us:List Value),K.In s.heap→(us++ds).length=ps.length→BindsTo s fd ⟨us,[]⟩ (ps.zip (us++ds))
theorem Binds.all {K:PySem.W.Frag} {fd:FuncData} {ps:List Str} (h:∀us:List Value,us.length=ps.length→bindArgs fd ⟨us,[]⟩=pure (ps.zip us)):Binds K fd ps []:=fun s us _ hl=>by
 rw [List.append_nil] at hl ⊢
 exact .of_eq (h us hl)
noncomputable def iY (CX:CXT) (X:Cx) (E:XK):Prop:=∀(pins:List (Addr × Obj)) (σ:St) (H:Hp) (s:Shared) (e:Value) (s':Shared),Inv X pins σ H s→CX X.stack H s E e s'→X.xe e s'
section
variable {X:Cx} {CX:CXT} {k:Nat} {f C:Addr} {fd:FuncData} {ps:List Str} {sp:Sp} {dvs:List V} {ds:List Value} {E:XK} {x m:Str} {p pos apos:Pos} {e o:Expr} {es:List Expr} {ta:TE} {t:TA}
theorem yf {pins:List (Addr × Obj)} {σ:St} {H:Hp} {s:Shared} {Q:VK} {us:List Value} {vs:List V} (F:aD X.prog X.w X.K X.mg X.base CX k f fd ps sp) (hr:dM k X.A) (hb:Binds X.K fd ps ds) (hd:Vals dvs ds) (hx:iY CX X E)
  (I:Inv X pins σ H s) (r:Vals vs us) (h:sp (vs++dvs) H Q E):wpAny (model X.prog X.w) X.A (call (.ref f) us) (EP X pins σ Q) X.xe s:=by
 have r2:Vals (vs++dvs) (us++ds):=r.append hd
 have hl:(us++ds).length=ps.length:=by rw [←r2.length];exact F.len _ _ _ _ h
 refine wpAny_call (codeAny_mono (F.run X.A X.stack s H ⟨us,[]⟩ (us++ds) (vs++dvs) Q E hr I.env0 (hb s us I.kIn hl) r2 h) fun r s' hq=>?_)
 cases r with
 | error e=>exact hx pins σ H s e s' I hq
 | ok fl=>
  cases fl with
  | ret u=>exact I.after hq
  | next=>exact False.elim hq
  | brk=>exact False.elim hq
  | cont=>exact False.elim hq
theorem bc (F:aD X.prog X.w X.K X.mg X.base CX k f fd ps sp) (hr:dM k X.A) (hg:Gl X x) (hm:X.mg x=some (.ref f)) (hk:PySem.W.keepIn X.K (.ref f)=true) (hb:Binds X.K fd ps ds) (hd:Vals dvs ds) (hx:iY CX X E)
  (ha:PA X (e::es) t) (hdb:(x==("__debug__":Str))=false:=by decide) (he:starEach (e::es) X.env=(false,eval e X.env)::starEach es X.env:=by rfl) (hpl:(backTo pos (starEach es X.env)).any (·.1)=false:=by rfl):
  PE X (.Call (.Name x p) (e::es) [] pos) (Nq sp dvs E t):=by
 intro pins s σ H Q I h
 refine wpAny_Call_Name_kw (jx I hg hm ?_ hdb)
 refine PySem.W.callWith_K (h₀:=X.base) I.ok.mod.kin hk (thn (ha pos pins s σ H _ I h) fun us s1 ⟨vs,H1,I1,r,q⟩=>⟨I1.kIn,?_⟩) he hpl
 exact yf F hr hb hd hx I1 r q
theorem bL {pl:Sem Bool} (he:PE X o ta) (c:Cls X.K C) (hm:Meth X.K C m f) (F:aD X.prog X.w X.K X.mg X.base CX k f fd ps sp) (hr:dM k X.A) (hb:Binds X.K fd ps ds) (hd:Vals dvs ds) (hx:iY CX X E) (ha:PA X (e::es) t)
  (hst:starEach (e::es) X.env=(false,eval e X.env)::starEach es X.env:=by rfl) (hpl:(backTo pos (starEach es X.env)).any (·.1)=false:=by rfl)
  (ht:eval (.Call (.Attribute o m apos) (e::es) [] pos) X.env=(do
   let ov ←eval o X.env
   standAt apos.atName
   let (f,first) ←holding [ov] (getMethod ov m pl)
   callWith pos f first (backTo pos (starEach (e::es) X.env)) (backToKw pos (keywordEach [] X.env))):=by rfl):
  PE X (.Call (.Attribute o m apos) (e::es) [] pos) (Di C m sp dvs E ta t):=by
 intro pins s σ H Q I h
 refine PySem.W.methodCall_KW (pl:=pl) (thn (he pins s σ H _ I h) fun u s1 ⟨x,H1,I1,rx,a,dx,fs,ex,ea,l,q⟩=>?_) ht
 subst ex
 obtain rfl:u=Value.ref a:=rx
 refine jB I1 ea c hm l ?_
 refine PySem.W.callWith_K (first:=[.ref a]) (h₀:=X.base) I.ok.mod.kin hm.kp (thn (ha pos pins s1 σ H1 _ I1 q) fun us s2 ⟨vs,H2,I2,r,q2⟩=>⟨I2.kIn,?_⟩) hst hpl
 exact yf (us:=.ref a::us) (vs:=.ref a::vs) F hr hb hd hx I2 (.cons rfl r) q2
theorem mH {pl:Sem Bool} (he:PE X o ta) (c:Cls X.K C) (hm:Meth X.K C m f) (F:aD X.prog X.w X.K X.mg X.base CX k f fd ps sp) (hr:dM k X.A) (hb:Binds X.K fd ps ds) (hd:Vals dvs ds) (hx:iY CX X E)
  (ht:eval (.Call (.Attribute o m apos) [] [] pos) X.env=(do
   let ov ←eval o X.env
   standAt apos.atName
   let (f,first) ←holding [ov] (getMethod ov m pl)
   callWith pos f first (backTo pos (starEach [] X.env)) (backToKw pos (keywordEach [] X.env))):=by rfl):
  PE X (.Call (.Attribute o m apos) [] [] pos) (Di C m sp dvs E ta Ba):=by
 intro pins s σ H Q I h
 refine PySem.W.methodCall_KW (pl:=pl) (thn (he pins s σ H _ I h) fun u s1 ⟨x,H1,I1,rx,a,dx,fs,ex,ea,l,q⟩=>?_) ht
 subst ex
 obtain rfl:u=Value.ref a:=rx
 refine jB I1 ea c hm l ?_
 exact PySem.W.callWith_K0 (first:=[.ref a]) I1.kIn hm.kp (yf (us:=[.ref a]) (vs:=[.ref a]) F hr hb hd hx I1 (.cons rfl .nil) q)
structure Mk (K:PySem.W.Frag) (C f:Addr):Prop where
 makes:PySem.W.makesIn K C=true
 init:PySem.W.findIn K (.ref C) "__init__"=some (some (.ref f))
 fn:PySem.W.isFn K (.ref f)=true
 kp:PySem.W.keepIn K (.ref C)=true
theorem Dj {pins:List (Addr × Obj)} {σ:St} {H:Hp} {s:Shared} {Q:VK} {us:List Value} {vs:List V} (M:Mk X.K C f) (F:aD X.prog X.w X.K X.mg X.base CX k f fd ps sp) (hr:dM (k+1) X.A) (hb:Binds X.K fd ps ds) (hd:Vals dvs ds)
  (hx:iY CX X E) (I:Inv X pins σ H s) (r:Vals vs us)
  (h:∀x dx,H x=none→H dx=none→dx≠x→sp (.ref x::(vs++dvs)) (upd (upd H dx (.own x)) x (.ins C dx [])) (fun v H2=>v=.non∧Q (.ref x) H2) E):
  wpAny (model X.prog X.w) X.A (call (.ref C) us) (EP X pins σ Q) X.xe s:=by
 have hq:=h (s.heap.objs.size+1) s.heap.objs.size (I.hok.fresh (Nat.le_succ _)) (I.hok.fresh (Nat.le_refl _)) (Nat.ne_of_lt (Nat.lt_succ_self _))
 have I2:=Inv.made (C:=C) I
 have r2:Vals (V.ref (s.heap.objs.size+1)::(vs++dvs)) (Value.ref (s.heap.objs.size+1)::(us++ds)):=.cons rfl (r.append hd)
 have hl:(Value.ref (s.heap.objs.size+1)::us++ds).length=ps.length:=by
  have e:=r2.length
  rw [F.len _ _ _ _ hq] at e
  exact e.symm
 refine wpAny_call (Dh (f:=f) I.kIn M.makes M.init (beq_iff_eq.mp M.fn) (codeAny_mono (F.run _ X.stack _ _ ⟨Value.ref (s.heap.objs.size+1)::us,[]⟩ (Value.ref (s.heap.objs.size+1)::(us++ds)) _ _ E (hr.make C us [])
  (I2.env0.make C us []) (hb _ (Value.ref (s.heap.objs.size+1)::us) I2.kIn hl) r2 hq) fun r s' hq'=>?_))
 cases r with
 | error e=>exact hx pins σ _ _ e s' I2 hq'
 | ok fl=>
  cases fl with
  | ret u=>
   obtain ⟨v,H',I3,rv,ev,q3⟩:=I2.after hq'
   subst ev
   exact ⟨rv,⟨V.ref (s.heap.objs.size+1),H',I3,rfl,q3⟩⟩
  | next=>exact False.elim hq'
  | brk=>exact False.elim hq'
  | cont=>exact False.elim hq'
theorem uh (M:Mk X.K C f) (F:aD X.prog X.w X.K X.mg X.base CX k f fd ps sp) (hr:dM (k+1) X.A) (hg:Gl X x) (hm:X.mg x=some (.ref C)) (hb:Binds X.K fd ps ds) (hd:Vals dvs ds) (hx:iY CX X E)
  (ha:PA X (e::es) t) (hdb:(x==("__debug__":Str))=false:=by decide) (he:starEach (e::es) X.env=(false,eval e X.env)::starEach es X.env:=by rfl) (hpl:(backTo pos (starEach es X.env)).any (·.1)=false:=by rfl):
  PE X (.Call (.Name x p) (e::es) [] pos) (Nr C sp dvs E t):=by
 intro pins s σ H Q I h
 refine wpAny_Call_Name_kw (jx I hg hm ?_ hdb)
 refine PySem.W.callWith_K (h₀:=X.base) I.ok.mod.kin M.kp (thn (ha pos pins s σ H _ I h) fun us s1 ⟨vs,H1,I1,r,q⟩=>⟨I1.kIn,?_⟩) he hpl
 exact Dj M F hr hb hd hx I1 r q
end
noncomputable def PK (X:Cx) (kws:List Keyword) (t:TA):Prop:=
 ∀(pos:Pos) (pins:List (Addr × Obj)) (s:Shared) (σ:St) (H:Hp) (Q:List V→Hp→Prop),Inv X pins σ H s→t σ H Q→wpAny (model X.prog X.w) X.A (evalAll ((backToKw pos (keywordEach kws X.env)).map (·.2))) (AP X pins σ Q) X.xe s
section
variable {X:Cx} {CX:CXT} {k:Nat} {f C:Addr} {fd:FuncData} {ps ks:List Str} {sp:Sp} {E:XK} {x m:Str} {p pos apos kpos:Pos} {e o:Expr} {es:List Expr} {kws:List Keyword} {te ta:TE} {t tk:TA} {nm:Option Str}
theorem Kw:PK X [] Ba:=fun _ _ _ _ H Q I h=>wpAny_evalAll_nil ⟨[],H,I,.nil,h⟩
theorem HB (ha:PE X e te) (hr:PK X kws t):PK X (⟨nm,e,kpos⟩::kws) (mG te t):=by
 intro pos pins s σ H Q I h
 show wpAny _ _ (evalAll ((do let v ←eval e X.env;standAt pos;pure v)::(backToKw pos (keywordEach kws X.env)).map (·.2))) _ _ s
 refine wpAny_evalAll_cons (wpAny_bind (thn (ha pins s σ H _ I h) fun u s1 ⟨x,H1,I1,r1,q1⟩=>wpAny_bind (wpAny_standAt (wpAny_pure ?_))))
 exact thn (hr pos pins s1 σ H1 _ I1 q1) fun us s2 ⟨xs,H2,I2,r2,q2⟩=>⟨x::xs,H2,I2,.cons r1 r2,q2⟩
variable {g:List Value→List Value→List Value} {gV:List V→List V→List V}
end
structure aH (N P:List Str) (sc:Scope):Prop where
 kind:sc.kind=.function
 co:sc.isCoroutine=false
 gen:sc.isGenerator=false
 nd:N.Nodup
 pre:N.take P.length=P
 par:∀x∈P,sc.names.lookup x=some .local∨sc.names.lookup x=some .cell
 nofree:∀y∈sc.names,y.2≠.free
theorem sG {kindOf:Str→Option NameKind} {x:Str}:∀{binds:List (Str × Value)} {m:Str→Option Value},(∀v,(x,v)∉binds)→bindL kindOf binds m x=m x
 | [],_,_=>rfl
 | (n,v)::r,m,h=>by
  unfold bindL
  rw [sG fun w hw=>h w (List.mem_cons_of_mem _ hw)]
  split
  ·have:x≠n:=by rintro rfl;exact h v List.mem_cons_self
   simp [this]
  ·rfl
theorem sH {kindOf:Str→Option NameKind} {x:Str}:∀{binds:List (Str × Value)} {m:Str→Option Value},(∀v,(x,v)∉binds)→bindC kindOf binds m x=m x
 | [],_,_=>rfl
 | (n,v)::r,m,h=>by
  unfold bindC
  rw [sH fun w hw=>h w (List.mem_cons_of_mem _ hw)]
  split
  ·rfl
  ·have:x≠n:=by rintro rfl;exact h v List.mem_cons_self
   simp [this]
theorem sI {kindOf:Str→Option NameKind} {x:Str} {v:Value}:∀{P:List Str} {vs:List Value} {i:Nat} {m:Str→Option Value},P.Nodup→P[i]?=some x→vs[i]?=some v→kindOf x=some .local→
  bindL kindOf (P.zip vs) m x=some v
 | [],_,_,_,_,h,_,_=>by simp at h
 | _::_,[],_,_,_,_,h,_=>by simp at h
 | p::P,w::vs,0,m,nd,h1,h2,hk=>by
  simp at h1 h2;subst h1;subst h2
  show bindL kindOf ((p,w)::P.zip vs) m p=_
  unfold bindL
  rw [sG fun v hv=>(List.nodup_cons.mp nd).1 (List.of_mem_zip hv).1,if_pos hk]
  simp
 | p::P,w::vs,i+1,m,nd,h1,h2,hk=>by
  show bindL kindOf ((p,w)::P.zip vs) m x=_
  unfold bindL
  exact sI (i:=i) (List.nodup_cons.mp nd).2 (by simpa using h1) (by simpa using h2) hk
theorem sJ {kindOf:Str→Option NameKind} {x:Str} {v:Value}:∀{P:List Str} {vs:List Value} {i:Nat} {m:Str→Option Value},P.Nodup→P[i]?=some x→vs[i]?=some v→kindOf x≠some .local→
  bindC kindOf (P.zip vs) m x=some v
 | [],_,_,_,_,h,_,_=>by simp at h
 | _::_,[],_,_,_,_,h,_=>by simp at h
 | p::P,w::vs,0,m,nd,h1,h2,hk=>by
  simp at h1 h2;subst h1;subst h2
  show bindC kindOf ((p,w)::P.zip vs) m p=_
  unfold bindC
  rw [sH fun v hv=>(List.nodup_cons.mp nd).1 (List.of_mem_zip hv).1,if_neg hk]
  simp
 | p::P,w::vs,i+1,m,nd,h1,h2,hk=>by
  show bindC kindOf ((p,w)::P.zip vs) m x=_
  unfold bindC
  exact sJ (i:=i) (List.nodup_cons.mp nd).2 (by simpa using h1) (by simpa using h2) hk
noncomputable def start (N:List Str) (vs:List V):St:=vs.map some++List.replicate (N.length - vs.length) none
noncomputable def lD (CX:CXT) (P:Program) (w:World) (K:PySem.W.Frag) (mg:Str→Option Value) (base:Heap) (N:List Str) (qual:Str) (scope:Scope) (f:Addr) (cd:Value) (A:Around) (outer:List Env) (s:Shared) (H:Hp) (E:XK):Cx where
 prog:=P
 w:=w
 K:=K
 mg:=mg
 base:=base
 A:=A.deeper (envOfC qual scope s.heap.objs.size f cd)
 N:=N
 s₀:=s
 H₀:=H
 env:=envOfC qual scope s.heap.objs.size f cd
 outer:=outer
 stack:=envOfC qual scope s.heap.objs.size f cd::outer
 ex:=[]
 calm:=true
 fn:=fun _=>true
 pn:=[]
 xe:=fun e s'=>wpAny (model P w) (A.deeper (envOfC qual scope s.heap.objs.size f cd)) (leaving (envOfC qual scope s.heap.objs.size f cd) e) (fun _ s''=>CX outer H s E e s'') (fun e' s''=>CX outer H s E e' s'') s'
theorem vK {sc:Scope} {n:Nat} {x:Str} (h:sc.names.lookup x=some .cell):∃c,(cellsFrom n sc.names []).lookup x=some c:=by
 have q:=PySem.W.cellsFrom_some sc.names n [] (.inl h)
 exact Option.isSome_iff_exists.mp q
theorem Bb {CX:CXT} {P:Program} {w:World} {K:PySem.W.Frag} {mg:Str→Option Value} {base:Heap} {N ps:List Str} {qual:Str} {scope:Scope} {f:Addr} {cd:Value} {A:Around} {outer:List Env} {s s1:Shared} {H:Hp} {E:XK} {us:List Value} {vs:List V}
  (S:aH N ps scope) (hd:A.handled=none) (e0:ye P w K mg base A outer s H) (hl:vs.length=ps.length) (r:Vals vs us)
  (x:InCallC s s.heap.objs.size (bindL (envOfC qual scope s.heap.objs.size f cd).kindOf (ps.zip us) fun _=>none) (cellsFrom (s.heap.objs.size+1) scope.names []) (bindC (envOfC qual scope s.heap.objs.size f cd).kindOf (ps.zip us) fun _=>none) s1):
  Inv (lD CX P w K mg base N qual scope f cd A outer s H E) [] (start N vs) H s1:=by
 have hpl:ps.length≤N.length:=by have:=congrArg List.length S.pre;rw [List.length_take] at this;omega
 obtain ⟨h1,tk,rfl,hk⟩:=x.done
 have noA:∀b:Addr,b∉(lD CX P w K mg base N qual scope f cd A outer s H E).ex:=fun b z=>absurd (show b∈([]:List Addr) from z) (by simp)
 refine ⟨⟨e0.mod,S.kind,rfl,rfl,Nat.le_refl _,fun y z c h1 h2=>?_,fun y hy=>?_,fun y c _ h=>?_,fun _=>hd,Around.frames_deeper e0.frames,.inr ⟨rfl,rfl⟩,fun b z=>absurd z (noA b),e0.bs,e0.bsz,fun b _ _=>noA b,fun b z=>absurd z (noA b),e0.funs,e0.frf⟩,
  rfl,e0.bare,Un.kept hk,⟨_,x.toInCall.ns,fun i y v h1 h2 h3=>?_⟩,fun y c h=>⟨_,x.cell y c h⟩,e0.hok.fresh (Nat.le_refl _),fun y c h=>?_,fun p hp=>absurd (show p∈([]:List (Addr × Obj)) from hp) (by simp),e0.hok.kept hk,?_⟩
 ·exact name_of_addr x.apart (PySem.mem_of_lookup h1) (PySem.mem_of_lookup h2)
 ·have hy:scope.names.lookup y=some .cell∨scope.names.lookup y=some .free:=hy
  rcases hy with hy | hy
  ·exact vK hy
  ·exact absurd rfl (S.nofree _ (PySem.mem_of_lookup hy))
 ·exact Nat.le_of_lt (x.above y c (PySem.mem_of_lookup h))
 ·have hi:i < vs.length:=by
   unfold start at h2
   by_cases hi:i < vs.length
   ·exact hi
   ·rw [List.getElem?_append_right (by simpa using hi)] at h2
    rw [List.getElem?_replicate] at h2
    split at h2 <;> cases h2
  have ha:vs[i]?=some v:=by
   unfold start at h2
   rw [List.getElem?_append_left (by simpa using hi),List.getElem?_map] at h2
   cases e:vs[i]? with
   | none=>rw [e] at h2;cases h2
   | some a=>rw [e] at h2;cases h2;rfl
  obtain ⟨u,hu,rv⟩:=r.get ha
  have hp:ps[i]?=some y:=by
   rw [←S.pre,List.getElem?_take_of_lt (by omega)];exact h1
  have ndP:ps.Nodup:=by rw [←S.pre];exact S.nd.sublist (List.take_sublist _ _)
  refine ⟨u,rv,?_⟩
  rcases S.par y (List.mem_of_getElem? hp) with k | k
  ·exact .inl ⟨k,sI ndP hp hu k⟩
  ·obtain ⟨c,e⟩:=vK (n:=s.heap.objs.size+1) k
   refine .inr ⟨.inl k,c,e,?_⟩
   have q:=x.cell y c e
   rw [sJ ndP hp hu (by show scope.names.lookup y≠_;rw [k];decide)] at q
   exact q
 ·exact e0.hok.fresh (Nat.le_of_lt (x.above y c (PySem.mem_of_lookup h)))
 ·unfold start
  show _=N.length
  rw [List.length_append,List.length_map,List.length_replicate]
  omega
theorem Dk {CX:CXT} {P:Program} {w:World} {K:PySem.W.Frag} {mg:Str→Option Value} {base:Heap} {k:Nat} {f:Addr} {name qual:Str} {params:Arguments} {body:List Stmt} {scope:Scope} {dV kV doc pm cdv ct oc:Value} {an od:Option Addr}
  {osl:Array (Option Value)} {N ps:List Str} {sp:Sp} (lk:K.lookup f=some ⟨oc,od,.func (PySem.W.fnOf name qual params body scope dV kV doc pm an cdv ct),osl⟩) (hcd:PySem.W.codeIn K cdv qual=true) (S:aH N ps scope)
  (len:∀vs H Q E,sp vs H Q E→vs.length=ps.length)
  (hbody:∀(A:Around) (outer:List Env) (s:Shared) (H:Hp) (vs:List V) (Q:VK) (E:XK),dM k (A.deeper (envOfC qual scope s.heap.objs.size f cdv))→sp vs H Q E→
   ∃t,PSs (lD CX P w K mg base N qual scope f cdv A outer s H E) body t∧t {nx:=fun _ H'=>Q .non H',rt:=Q} (start N vs) H):
  aD P w K mg base CX (k+1) f (PySem.W.fnOf name qual params body scope dV kV doc pm an cdv ct) ps sp:=by
 refine ⟨len,fun A outer s H args us vs Q E hr e0 hb r hsp=>?_⟩
 have hl:=len _ _ _ _ hsp
 have KX:K.In s.heap:=e0.mod.kin.keeps fun b o e=>(e0.bs b o e).1
 have lim:s.heap.NoLimit:=e0.mod.nolimit.keeps fun b o e=>(e0.bs b o e).1
 have hkind:∀y∈ps.zip us,scope.names.lookup y.1=some .local∨(scope.names.lookup y.1=some .cell∧((cellsFrom (s.heap.objs.size+1) scope.names []).lookup y.1).isSome=true):=fun ⟨n,v⟩ hy=>by
  rcases S.par n (List.of_mem_zip hy).1 with q | q
  ·exact .inl q
  ·exact .inr ⟨q,PySem.W.cellsFrom_some _ _ _ (.inl q)⟩
 refine codeAny_call_function hr.depth (KX _ _ lk) rfl S.co S.gen rfl (PySem.W.codeRec_of KX hcd) (hb _ _ _ _ ?_)
 refine wpAny_newFunctionEnv_cells S.kind hkind fun env he s1 x=>?_
 subst he
 refine ⟨lim.keeps x.toInCall.keep,codeAny_func ?_⟩
 obtain ⟨t,ht,hq⟩:=hbody A outer s H vs Q E (hr.deeper _) hsp
 have I:Inv (lD CX P w K mg base N qual scope f cdv A outer s H E) [] (start N vs) H s1:=Bb S hr.hd e0 hl r x
 refine wpAny_mono (ht [] s1 (start N vs) H _ I hq) (fun fl s' hs=>?_) fun e s' hs=>hs
 have fin:∀{σ':St} {H':Hp} {v:V} {u:Value},Inv (lD CX P w K mg base N qual scope f cdv A outer s H E) [] σ' H' s'→RelV v u→Q v H'→CE outer P w H s Q u s':=
  fun {σ' H' v u} J rv q=>⟨v,H',J.os,J.bare,J.base,J.hok,rv,q⟩
 cases fl with
 | ret u=>
  obtain ⟨v,σ',H',J,rv,q⟩:=hs
  exact fin J rv q
 | next=>
  obtain ⟨σ',H',J,q⟩:=hs
  exact fin (v:=V.non) (u:=Value.none) J rfl q
 | brk=>
  obtain ⟨_,_,_,q⟩:=hs
  exact False.elim q
 | cont=>
  obtain ⟨_,_,_,q⟩:=hs
  exact False.elim q
open PySem PySem.Spec PyProof.Rows
section
variable {X:Cx} {x:Str} {p pos:Pos} {e:Expr} {es:List Expr} {t:TA} {id T:String} {r:List V→Hp→VK→Prop}
noncomputable def tCB (r:List V→Hp→VK→Prop) (t:TA):TE:=fun σ H Q=>t σ H fun vs H1=>r vs H1 Q
theorem aV (hc:eU X (.builtin id) r) (hg:Gl X x) (hm:X.mg x=none) (hv:bootBuiltins x=some (.builtin id)) (ha:PA X (e::es) t) (hn:x≠"__name__":=by decide) (hdb:(x==("__debug__":Str))=false:=by decide)
  (he:starEach (e::es) X.env=(false,eval e X.env)::starEach es X.env:=by rfl) (hpl:(backTo pos (starEach es X.env)).any (·.1)=false:=by rfl):PE X (.Call (.Name x p) (e::es) [] pos) (tCB r t):=by
 intro pins s σ H Q I h
 refine wpAny_Call_Name_kw (lM I hg hm hv ?_ hn hdb)
 exact PyProof.Rows.callWith_builtin1 (thn (ha pos pins s σ H _ I h) fun us s1 ⟨vs,H1,I1,r1,q1⟩=>hc pins s1 σ H1 vs us Q I1 r1 q1) he hpl
theorem dB (hc:eU X (.type T) r) (hg:Gl X x) (hm:X.mg x=none) (hv:bootBuiltins x=some (.type T)) (ha:PA X (e::es) t) (hn:x≠"__name__":=by decide) (hdb:(x==("__debug__":Str))=false:=by decide)
  (he:starEach (e::es) X.env=(false,eval e X.env)::starEach es X.env:=by rfl) (hpl:(backTo pos (starEach es X.env)).any (·.1)=false:=by rfl):PE X (.Call (.Name x p) (e::es) [] pos) (tCB r t):=by
 intro pins s σ H Q I h
 refine wpAny_Call_Name_kw (lM I hg hm hv ?_ hn hdb)
 exact PyProof.Rows.callWith_type1 (thn (ha pos pins s σ H _ I h) fun us s1 ⟨vs,H1,I1,r1,q1⟩=>hc pins s1 σ H1 vs us Q I1 r1 q1) he hpl
end
end L2
namespace HT
open PySem PyProof.Rows
noncomputable def lexLt:List Int→List Int→Bool
 | [],[]=>false
 | [],_::_=>true
 | _::_,[]=>false
 | x::xs,y::ys=>if x=y then lexLt xs ys else decide (x < y)
section
open PySem.SeqAt
open PySem.AutoSeq1 (wpAny_loadPart')
open PySem.MeetsSeq PySem.MeetsSeq2 PySem.MeetsSeq3
end
section
variable {prog:Program} {w:World} {A:Around} {E:Value→Shared→Prop} {s:Shared}
noncomputable def sIx (n d:Nat):Option Int→Nat
 | none=>d
 | some v=>if v < 0 then (v+(n:Int)).toNat else min v.toNat n
theorem sIx_nat (n d k:Nat):sIx n d (some (k:Int))=min k n:=by
 show (if (k:Int) < 0 then ((k:Int)+(n:Int)).toNat else min (k:Int).toNat n)=min k n
 rw [if_neg (by omega),Int.toNat_natCast]
end
end HT
namespace L2
open PySem PySem.Spec PyProof.Rows
noncomputable abbrev TO:=St→Hp→(Option Int→Hp→Prop)→Prop
noncomputable def PO (X:Cx) (e:Option Expr) (t:TO):Prop:=
 ∀(pins:List (Addr × Obj)) (s:Shared) (σ:St) (H:Hp) (Q:Option Int→Hp→Prop),Inv X pins σ H s→t σ H Q→
  wpAny (model X.prog X.w) X.A (evalPart e X.env) (fun u s'=>∃o H',Inv X pins σ H' s'∧IsPart u o∧Q o H') X.xe s
noncomputable def HD:TO:=fun _ H Q=>Q none H
noncomputable def Nt (t:TE):TO:=fun σ H Q=>t σ H fun x H1=>∃i,x=.int i∧Q (some i) H1
section
variable {X:Cx} {e:Expr} {te:TE} {lo hi:Option Expr} {tl th:TO} {pos p2:Pos}
theorem HF:PO X none HD:=by
 intro pins s σ H Q I h
 rw [evalPart_none]
 exact wpAny_pure ⟨none,H,I,.none,h⟩
theorem mJ (h:PE X e te):PO X (some e) (Nt te):=by
 intro pins s σ H Q I hw
 rw [evalPart_some]
 refine thn (h pins s σ H _ I hw) fun u s1 ⟨x,H1,I1,r1,q1⟩=>?_
 obtain ⟨i,rfl,q⟩:=q1
 obtain ⟨t,rfl⟩:=r1
 exact ⟨some i,H1,I1,.int i t,q⟩
noncomputable def SlR (X:Cx) (r:V→Option Int→Option Int→Hp→VK→Prop):Prop:=
 ∀(pins:List (Addr × Obj)) (s:Shared) (σ:St) (H:Hp) (x:V) (v vl vu:Value) (lo hi:Option Int) (sl:Addr) (Q:VK),Inv X pins σ H s→RelV x v→s.heap.IsSliceOf sl vl vu .none→IsPart vl lo→IsPart vu hi→r x lo hi H Q→
  ∃T id,typeLookup (.type T) "__getitem__"=pure (some (.builtin id))∧s.TypeIs v T∧wpAny (model X.prog X.w) X.A (getItem v (.ref sl)) (EP X pins σ Q) X.xe s
noncomputable def tSl (r:V→Option Int→Option Int→Hp→VK→Prop) (te:TE) (tl th:TO):TE:=fun σ H Q=>te σ H fun x H1=>tl σ H1 fun l H2=>th σ H2 fun u H3=>r x l u H3 Q
theorem Dl {r:V→Option Int→Option Int→Hp→VK→Prop} (hr:SlR X r) (he:PE X e te) (hl:PO X lo tl) (hu:PO X hi th):PE X (.Subscript e (.Slice lo hi none p2) pos) (tSl r te tl th):=by
 intro pins s σ H Q I h
 refine Subscript_ (thn (he pins s σ H _ I h) fun v s1 ⟨x,H1,I1,r1,q1⟩=>?_)
 refine wpAny_Slice (thn (hl pins s1 σ H1 _ I1 q1) fun vl s2 ⟨l,H2,I2,pl,q2⟩=>thn (hu pins s2 σ H2 _ I2 q2) fun vu s3 ⟨u,H3,I3,pu,q3⟩=>?_)
 rw [evalPart_none]
 refine wpAny_pure ?_
 have I4:Inv X pins σ H3 {s3 with heap:=s3.heap.push {cls:=.type "slice",data:=.fields #[vl,vu,.none]}}:=I3.kept (t':=s3.toks) fun b ob q=>Heap.get?_push_of_some _ q
 obtain ⟨T,id,hT,ht,hg⟩:=hr pins {s3 with heap:=s3.heap.push {cls:=.type "slice",data:=.fields #[vl,vu,.none]}} σ H3 x v vl vu l u s3.heap.objs.size Q I4 r1 (Heap.IsSliceOf.new ..) pl pu q3
 show wpAny (model X.prog X.w) X.A (subscriptTail e (.Slice lo hi none p2) v (.ref s3.heap.objs.size)) (EP X pins σ Q) X.xe {s3 with heap:=s3.heap.push {cls:=.type "slice",data:=.fields #[vl,vu,.none]}}
 exact tail_any (ops:=[.ref s3.heap.objs.size,v]) ht hT hg (by with_unfolding_all rfl)
noncomputable def Bd (xs:List V) (lo hi:Option Int):List V:=(xs.drop (HT.sIx xs.length 0 lo)).take (HT.sIx xs.length xs.length hi - HT.sIx xs.length 0 lo)
theorem vL (xs:List V) (lo hi:Option Int):(Bd xs lo hi).length≤xs.length:=by
 unfold Bd
 rw [List.length_take,List.length_drop]
 omega
end
open PySem PySem.Spec PyProof.Rows
noncomputable def ixN (n:Nat) (i:Int):Option Nat:=if 0≤i then (if i < n then some i.toNat else none) else if -(n:Int)≤i then some (i+n).toNat else none
noncomputable def atI {α:Type} (xs:List α) (i:Int):Option α:=(ixN xs.length i).bind fun j=>xs[j]?
theorem zx {n:Nat} {i:Int} {j:Nat} (h:ixN n i=some j):seqIndex? i n=some j∧j < n∧-(n:Int)≤i∧i < n:=by
 unfold ixN at h
 by_cases h0:0≤i
 ·rw [if_pos h0] at h
  by_cases h1:i < n
  ·rw [if_pos h1] at h
   have e:i.toNat=j:=Option.some.inj h
   exact ⟨by rw [seqIndex_of h0 h1,e],by omega,by omega,h1⟩
  ·rw [if_neg h1] at h;cases h
 ·rw [if_neg h0] at h
  by_cases h1:-(n:Int)≤i
  ·rw [if_pos h1] at h
   have e:(i+n).toNat=j:=Option.some.inj h
   exact ⟨by rw [seqIndex_neg (by omega) h1,e],by omega,h1,by omega⟩
  ·rw [if_neg h1] at h;cases h
theorem ul {α:Type} {xs:List α} {i:Int} {v:α} (h:atI xs i=some v):∃j,seqIndex? i xs.length=some j∧xs[j]?=some v∧j < xs.length∧-(xs.length:Int)≤i∧i < xs.length:=by
 unfold atI at h
 cases e:ixN xs.length i with
 | none=>rw [e] at h;cases h
 | some j=>
  rw [e] at h
  obtain ⟨h1,h2,h3,h4⟩:=zx e
  exact ⟨j,h1,h,h2,h3,h4⟩
theorem cN {α:Type} {xs:List α} {j:Nat} {v:α} (h:xs[j]?=some v):atI xs (j:Int)=some v:=by
 have hj:j < xs.length:=(List.getElem?_eq_some_iff.mp h).1
 have e:ixN xs.length (j:Int)=some j:=by
  unfold ixN
  rw [if_pos (by omega),if_pos (by omega)];simp
 unfold atI;rw [e];exact h
theorem vM {α:Type} (xs:List α) (v:α):atI (xs++[v]) (-1)=some v:=by
 have hl:(xs++[v]).length=xs.length+1:=by simp
 have e:ixN (xs++[v]).length (-1)=some xs.length:=by
  unfold ixN
  rw [hl,if_neg (by decide),if_pos (by omega)]
  congr 1
  omega
 unfold atI
 rw [e]
 show (xs++[v])[xs.length]?=some v
 simp
noncomputable def HH (b:Expr):Prop:=∀o i,subscripted b false o i=operate [o,i] (getItem o i)
noncomputable def IxR (X:Cx) (r:R2):Prop:=
 ∀(value slice:Expr) (pins:List (Addr × Obj)) (s:Shared) (σ:St) (H:Hp) (x y:V) (v u:Value) (Q:VK),Inv X pins σ H s→RelV x v→RelV y u→r x y H Q→
  subscripted slice false v u=operate [v,u] (getItem v u)→wpAny (model X.prog X.w) X.A (subscriptTail value slice v u) (EP X pins σ Q) X.xe s
noncomputable def MtR (X:Cx) (id:String) (r:V→List V→Hp→VK→Prop):Prop:=
 ∀(pins:List (Addr × Obj)) (s:Shared) (σ:St) (H:Hp) (x:V) (xs:List V) (v:Value) (us:List Value) (Q:VK),Inv X pins σ H s→RelV x v→Vals xs us→r x xs H Q→
  wpAny (model X.prog X.w) X.A (call (.builtin id) (v::us)) (EP X pins σ Q) X.xe s
section
variable {X:Cx} {a b:Expr} {ta tb:TE} {pos:Pos}
theorem aK {r:R2} (hr:IxR X r) (ha:PE X a ta) (hb:PE X b tb) (hs:HH b):PE X (.Subscript a b pos) (tOp r ta tb):=by
 intro pins s σ H Q I h
 exact Subscript_ (Kr ha hb I h fun v u s2 x y H2 I2 rx ry q=>hr a b pins s2 σ H2 x y v u Q I2 rx ry q (hs _ _))
noncomputable def Nu (K:PySem.W.Frag):R2:=fun x y H Q=>∃p xs i v,x=.ref p∧y=.int i∧SqL K H p xs∧atI xs i=some v∧Q v H
noncomputable def Nv (K:PySem.W.Frag):R2:=fun x y H Q=>∃p xs i v,x=.ref p∧y=.int i∧SqT K H p xs∧atI xs i=some v∧Q v H
noncomputable def Pz:R2:=fun x y H Q=>∃z i c,x=.str z∧y=.int i∧z.length≤sizeLine∧atI z.cps.toList i=some c∧Q (.str ⟨#[c]⟩) H
theorem bM:IxR X (Nu X.K):=by
 intro value slice pins s σ H x y v u Q I rx ry h hs
 obtain ⟨p,xs,i,z,rfl,rfl,hq,he,q⟩:=h
 cases rx
 obtain ⟨t,rfl⟩:=ry
 obtain ⟨its,r,pl,hz⟩:=I.list hq
 obtain ⟨j,h1,h2,h3,h4,h5⟩:=ul he
 obtain ⟨w,ew,rw'⟩:=r.get h2
 have hl:=r.length
 have hn:=lN
 have fin:EP X pins σ Q w s:=⟨z,H,I,rw',q⟩
 by_cases h0:0≤i
 ·have hj:i.toNat=j:=by
   rw [seqIndex_of h0 h5] at h1
   exact Option.some.inj h1
  exact item_listR pl.isList h0 (by omega) (by rw [hj];simpa using ew) fin hs
 ·have hj:(i+(its.toArray.size:Int)).toNat=j:=by
   rw [seqIndex_neg (by omega) h4] at h1
   rw [List.size_toArray,←hl]
   exact Option.some.inj h1
  exact subscriptTail_builtinR (x:=w) pl.isList.typeIs slot_list_getitem.lookup
   (wpAny_getItem_list_neg (Q:=fun r s'=>r=w∧EP X pins σ Q r s') pl.isList (by omega) (by rw [List.size_toArray] <;> omega) (by omega) (by rw [hj];simpa using ew) ⟨rfl,fin⟩) hs
theorem aP:IxR X (Nv X.K):=by
 intro value slice pins s σ H x y v u Q I rx ry h hs
 obtain ⟨p,xs,i,z,rfl,rfl,hq,he,q⟩:=h
 cases rx
 obtain ⟨t,rfl⟩:=ry
 obtain ⟨its,r,pl,hz⟩:=I.tuple hq
 obtain ⟨j,h1,h2,h3,h4,h5⟩:=ul he
 obtain ⟨w,ew,rw'⟩:=r.get h2
 have hl:=r.length
 have hn:=lN
 have fin:EP X pins σ Q w s:=⟨z,H,I,rw',q⟩
 exact subscriptTail_builtinR (x:=w) pl.typeIs slot_tuple_getitem.lookup
  (getItem_tuple (j:=j) (Q:=fun r s'=>r=w∧EP X pins σ Q r s') pl (by omega) (by omega) (by rw [List.size_toArray,←hl];exact h1) (by simpa using ew) ⟨rfl,fin⟩) hs
theorem Ky:IxR X Pz:=by
 intro value slice pins s σ H x y v u Q I rx ry h hs
 obtain ⟨z,i,c,rfl,rfl,hz,he,q⟩:=h
 obtain ⟨t,rfl⟩:=rx
 obtain ⟨t',rfl⟩:=ry
 obtain ⟨j,h1,h2,h3,h4,h5⟩:=ul he
 have hl:z.cps.toList.length=z.length:=by simp [Str.length]
 rw [hl] at h1 h4 h5
 have hn:=lN
 exact tail_any (typeIs_str s z t) slot_str_getitem.lookup (getItem_str (c:=c) (by
  have e1:decide (i < -(2 ^ 63:Int))=false:=decide_eq_false (by omega)
  have e2:decide (i ≥ 2 ^ 63)=false:=decide_eq_false (by omega)
  rw [e1,e2,Bool.or_false]) (by rw [h1];simpa using h2) ⟨.str ⟨#[c]⟩,H,I.tok _,⟨_,rfl⟩,q⟩) hs
theorem yg (its:List Value) (n j:Nat) (u:Value):Obj.mapSeq (·.setIfInBounds j u) {cls:=.type "list",data:=.seq its.toArray n}={cls:=.type "list",data:=.seq (its.set j u).toArray n}:=by
 simp [Obj.mapSeq]
theorem Inv.lst {pins:List (Addr × Obj)} {σ:St} {H:Hp} {s:Shared} {p:Addr} {xs:List V} (I:Inv X pins σ H s) (h:H p=some (.lst xs)):
  ∃(its:List Value) (n:Nat),Vals xs its∧s.heap.get? p=some {cls:=.type "list",data:=.seq its.toArray n}∧xs.length≤sizeLine:=by
 obtain ⟨z,its,n,r,e⟩:=I.hok p _ h
 exact ⟨its,n,r,e,z⟩
theorem Inv.lstUpd {pins:List (Addr × Obj)} {σ:St} {H:Hp} {s:Shared} {p:Addr} {xs ys:List V} {its its':List Value} {n n':Nat} {f:Obj→Obj} (I:Inv X pins σ H s) (h:H p=some (.lst xs))
  (ho:s.heap.get? p=some {cls:=.type "list",data:=.seq its.toArray n}) (hf:f {cls:=.type "list",data:=.seq its.toArray n}={cls:=.type "list",data:=.seq its'.toArray n'}) (r:Vals ys its') (hz:ys.length≤sizeLine) (t:Nat):
  Inv X pins σ (upd H p (.lst ys)) {s with heap:=s.heap.update p f,toks:=t}:=by
 have e:(s.heap.update p f).get? p=some {cls:=.type "list",data:=.seq its'.toArray n'}:=by
  rw [Heap.get?_update_self f ho (by rw [hf] <;> rfl),hf]
 refine I.write (x:=p) (e:=p) (by rw [h];trivial) (.inl rfl) (fun b u hb q=>(Heap.get?_update_other _ _ (Ne.symm hb)).trans q) ⟨_,e⟩ ?_
 exact ⟨hz,its',n',r,e⟩
noncomputable def Nx:V→V→V→Hp→(Hp→Prop)→Prop:=fun o i v H Q=>∃p xs k j,o=.ref p∧i=.int k∧H p=some (.lst xs)∧ixN xs.length k=some j∧Q (upd H p (.lst (xs.set j v)))
theorem set_list:Nh X Nx:=by
 intro pins s σ H o i v ov iv u Q I ro ri rv h
 obtain ⟨p,xs,k,j,rfl,rfl,hp,hj,q⟩:=h
 cases ro
 obtain ⟨t,rfl⟩:=ri
 obtain ⟨its,n,r,ho,hz⟩:=I.lst hp
 obtain ⟨h1,h2,h3,h4⟩:=zx hj
 have hl:=r.length
 have hn:=lN
 have I':Inv X pins σ (upd H p (.lst (xs.set j v))) {s with heap:=s.heap.update p (Obj.mapSeq (·.setIfInBounds j u))}:=
  I.lstUpd hp ho (yg its n j u) (r.set rv j) (by rw [List.length_set];exact hz) s.toks
 by_cases h0:0≤k
 ·have hk:k.toNat=j:=by
   rw [seqIndex_of h0 h4] at h1
   exact Option.some.inj h1
  exact PySem.W.ki_setAt ho h0 (by omega) (by rw [List.size_toArray,←hl];exact h4) (by rw [hk];exact ⟨_,I',q⟩)
 ·have hk:(k+(its.toArray.size:Int)).toNat=j:=by
   rw [seqIndex_neg (by omega) h3] at h1
   rw [List.size_toArray,←hl]
   exact Option.some.inj h1
  exact PySem.W.ki_setBack ho (by omega) (by rw [List.size_toArray,←hl];exact h3) (by omega) (by rw [hk];exact ⟨_,I',q⟩)
theorem um (lo hi:Option Int) (n:Nat):(sliceBounds lo hi none n).1=((HT.sIx n 0 lo:Nat):Int)∧(sliceBounds lo hi none n).2.1=((HT.sIx n n hi:Nat):Int)∧(sliceBounds lo hi none n).2.2=1:=by
 refine ⟨?_,?_,rfl⟩
 ·cases lo with
  | none=>simp [sliceBounds,HT.sIx]
  | some i=>
   simp only [sliceBounds,HT.sIx,Option.getD_none,show (1:Int) > 0 by decide,if_true]
   by_cases h:i < 0
   ·simp only [h,if_true] <;> omega
   ·simp only [h,if_false] <;> omega
 ·cases hi with
  | none=>simp [sliceBounds,HT.sIx]
  | some i=>
   simp only [sliceBounds,HT.sIx,Option.getD_none,show (1:Int) > 0 by decide,if_true]
   by_cases h:i < 0
   ·simp only [h,if_true] <;> omega
   ·simp only [h,if_false] <;> omega
theorem rJ (its:List Value) (lo hi:Option Int):slicePick its.toArray lo hi none=((its.drop (HT.sIx its.length 0 lo)).take (HT.sIx its.length its.length hi - HT.sIx its.length 0 lo)).toArray:=by
 obtain ⟨h1,h2,h3⟩:=um lo hi its.toArray.size
 unfold slicePick
 rw [h1,h2,h3]
 simp only [sliceRange_one,pick_run,List.size_toArray] <;> rfl
noncomputable def PB (K:PySem.W.Frag):V→Option Int→Option Int→Hp→VK→Prop:=fun x lo hi H Q=>∃a xs,x=.ref a∧SqL K H a xs∧∀p,H p=none→Q (.ref p) (upd H p (.lst (Bd xs lo hi)))
theorem HJ:SlR X (PB X.K):=by
 intro pins s σ H x v vl vu lo hi sl Q I rx hs pl pu h
 obtain ⟨a,xs,rfl,hx,q⟩:=h
 cases rx
 obtain ⟨its,r,ht,hz⟩:=I.list hx
 have hlen:=r.length
 refine ⟨"list",_,slot_list_getitem.lookup,ht.isList.typeIs,?_⟩
 refine wpAny_getItem_list_slice ht.isList hs pl pu .none (by simp) ?_ (by rw [List.size_toArray] <;> omega)
 rw [rJ,←hlen]
 refine ⟨.ref s.heap.objs.size,_,I.laid (t':=s.toks) (o:=.lst (Bd xs lo hi)) (fun b ob q=>Heap.get?_push_of_some _ q) (Nat.le_refl _) ?_,rfl,q _ (I.hok.fresh (Nat.le_refl _))⟩
 exact ⟨Nat.le_trans (vL xs lo hi) hz,_,0,(r.drop (HT.sIx xs.length 0 lo)).take (HT.sIx xs.length xs.length hi - HT.sIx xs.length 0 lo),Heap.get?_push_size _ rfl⟩
noncomputable def lF:V→Bool
 | .non=>true
 | .bl _=>true
 | .int _=>true
 | .str _=>true
 | _=>false
noncomputable def eqV:V→V→Bool
 | .non,.non=>true
 | .bl a,.bl b=>a==b
 | .bl a,.int b=>(if a then 1 else 0)==b
 | .int a,.bl b=>a==(if b then 1 else 0)
 | .int a,.int b=>a==b
 | .str a,.str b=>a==b
 | _,_=>false
theorem Kz {A:Around} {s:Shared} {y x:V} {u v:Value} (ry:RelV y u) (rx:RelV x v) (fy:lF y=true) (fx:lF x=true):SeqAt.EqAt A s u v (eqV y x):=by
 cases y with
 | non=>
  cases ry
  cases x with
  | non=>cases rx;exact SeqAt.EqAt.same _
  | bl b=>cases rx;exact SeqAt.EqAt.none_bool b
  | int b=>obtain ⟨t,rfl⟩:=rx;exact SeqAt.EqAt.none_int b t
  | str b=>obtain ⟨t,rfl⟩:=rx;exact SeqAt.EqAt.none_str b t
  | _=>exact absurd (show false=true from fx) Bool.false_ne_true
 | bl a=>
  cases ry
  cases x with
  | non=>cases rx;exact SeqAt.EqAt.bool_none a
  | bl b=>cases rx;exact SeqAt.EqAt.bool_bool a b
  | int b=>obtain ⟨t,rfl⟩:=rx;exact SeqAt.EqAt.bool_int a b t
  | str b=>obtain ⟨t,rfl⟩:=rx;exact SeqAt.EqAt.bool_str a b t
  | _=>exact absurd (show false=true from fx) Bool.false_ne_true
 | int a=>
  obtain ⟨t',rfl⟩:=ry
  cases x with
  | non=>cases rx;exact SeqAt.EqAt.int_none a t'
  | bl b=>cases rx;exact SeqAt.EqAt.int_bool a t' b
  | int b=>obtain ⟨t,rfl⟩:=rx;exact SeqAt.EqAt.int_int a t' b t
  | str b=>obtain ⟨t,rfl⟩:=rx;exact SeqAt.EqAt.int_str a t' b t
  | _=>exact absurd (show false=true from fx) Bool.false_ne_true
 | str a=>
  obtain ⟨t',rfl⟩:=ry
  cases x with
  | non=>cases rx;exact SeqAt.EqAt.str_none a t'
  | bl b=>cases rx;exact SeqAt.EqAt.str_bool a t' b
  | int b=>obtain ⟨t,rfl⟩:=rx;exact SeqAt.EqAt.str_int a t' b t
  | str b=>obtain ⟨t,rfl⟩:=rx;exact SeqAt.EqAt.str_str a t' b t
  | _=>exact absurd (show false=true from fx) Bool.false_ne_true
 | _=>exact absurd (show false=true from fy) Bool.false_ne_true
noncomputable def eqU (x:V) (u:Value):Bool:=match u with
 | .none=>eqV .non x
 | .bool b=>eqV (.bl b) x
 | .int i _=>eqV (.int i) x
 | .str z _=>eqV (.str z) x
 | _=>false
theorem Dm {x y:V} {u:Value} (r:RelV y u) (f:lF y=true):eqU x u=eqV y x:=by
 cases y with
 | non=>cases r;rfl
 | bl b=>cases r;rfl
 | int i=>obtain ⟨t,rfl⟩:=r;rfl
 | str z=>obtain ⟨t,rfl⟩:=r;rfl
 | _=>exact absurd (show false=true from f) Bool.false_ne_true
theorem mK {x:V}:∀{xs:List V} {us:List Value},Vals xs us→xs.all lF=true→us.any (eqU x)=xs.any fun y=>eqV y x
 | _,_,.nil,_=>rfl
 | y::xs,u::us,.cons r t,f=>by
  rw [List.all_cons,Bool.and_eq_true] at f
  rw [List.any_cons,List.any_cons,Dm r f.1,mK t f.2]
theorem jQ {A:Around} {s:Shared} {x:V} {v:Value} (rx:RelV x v) (fx:lF x=true):∀{xs:List V} {us:List Value},Vals xs us→xs.all lF=true→∀u∈us,SeqAt.EqAt A s u v (eqU x u)
 | _,_,.nil,_=>fun u hu=>by cases hu
 | y::xs,u::us,.cons r t,f=>fun u' hu=>by
  rw [List.all_cons,Bool.and_eq_true] at f
  rcases List.mem_cons.mp hu with rfl | hu
  ·rw [Dm r f.1];exact Kz r rx f.1 fx
  ·exact jQ rx fx t f.2 u' hu
noncomputable def inV (x:V) (xs:List V):Bool:=xs.any fun y=>eqV y x
noncomputable def rIn (K:PySem.W.Frag) (neg:Bool):R2:=fun x y H Q=>∃p xs,y=.ref p∧(SqL K H p xs∨SqT K H p xs)∧lF x=true∧xs.all lF=true∧Q (.bl (if neg then !inV x xs else inV x xs)) H
theorem nW:OpR X (compareOp .In) (rIn X.K false):=by
 intro pins s σ H x y v u Q I rx ry h
 obtain ⟨p,xs,rfl,hq,fx,fs,q⟩:=h
 cases ry
 rcases hq with hq | hq
 ·obtain ⟨its,r,pl,hz⟩:=I.list hq
  refine SeqAt.in_listAt (eqU x) pl.isList (fun w hw=>jQ rx fx r fs w (by simpa using hw)) ⟨.bl _,H,I,rfl,?_⟩
  rw [show its.toArray.any (eqU x)=its.any (eqU x) by simp,mK r fs]
  exact q
 ·obtain ⟨its,r,pl,hz⟩:=I.tuple hq
  refine SeqAt.in_tupleAt (eqU x) pl (fun w hw=>jQ rx fx r fs w (by simpa using hw)) ⟨.bl _,H,I,rfl,?_⟩
  rw [show its.toArray.any (eqU x)=its.any (eqU x) by simp,mK r fs]
  exact q
theorem mL:OpR X (compareOp .NotIn) (rIn X.K true):=by
 intro pins s σ H x y v u Q I rx ry h
 obtain ⟨p,xs,rfl,hq,fx,fs,q⟩:=h
 cases ry
 rcases hq with hq | hq
 ·obtain ⟨its,r,pl,hz⟩:=I.list hq
  refine SeqAt.notIn_listAt (eqU x) pl.isList (fun w hw=>jQ rx fx r fs w (by simpa using hw)) ⟨.bl _,H,I,rfl,?_⟩
  rw [show its.toArray.any (eqU x)=its.any (eqU x) by simp,mK r fs]
  exact q
 ·obtain ⟨its,r,pl,hz⟩:=I.tuple hq
  refine SeqAt.notIn_tupleAt (eqU x) pl (fun w hw=>jQ rx fx r fs w (by simpa using hw)) ⟨.bl _,H,I,rfl,?_⟩
  rw [show its.toArray.any (eqU x)=its.any (eqU x) by simp,mK r fs]
  exact q
theorem bN:eU X (.builtin "len") (fun xs H Q=>∃p ys,xs=[.ref p]∧(SqL X.K H p ys∨SqT X.K H p ys)∧Q (.int ys.length) H):=by
 intro pins s σ H xs us Q I r h
 obtain ⟨p,ys,rfl,hq,q⟩:=h
 obtain ⟨u,rfl,rx⟩:=vals1 r
 cases rx
 have hn:=lN
 rcases hq with hq | hq
 ·obtain ⟨its,r',pl,hz⟩:=I.list hq
  have hlen:=r'.length
  exact Calls.call_len_list pl.isList (by simp only [List.size_toArray] <;> omega) ⟨.int ys.length,H,I.tok _,⟨s.toks+1,by rw [List.size_toArray,hlen]⟩,q⟩
 ·obtain ⟨its,r',pl,hz⟩:=I.tuple hq
  have hlen:=r'.length
  exact len_tuple pl (by simp only [List.size_toArray] <;> omega) ⟨.int ys.length,H,I.tok _,⟨s.toks+1,by rw [List.size_toArray,hlen]⟩,q⟩
theorem uo:eU X (.builtin "len") (fun xs H Q=>∃z,xs=[.str z]∧z.length≤sizeLine∧Q (.int z.length) H):=by
 intro pins s σ H xs us Q I r h
 obtain ⟨z,rfl,hz,q⟩:=h
 obtain ⟨u,rfl,t,rfl⟩:=vals1 r
 have hn:=lN
 exact len_str (by omega) ⟨.int z.length,H,I.tok _,⟨_,rfl⟩,q⟩
theorem eX:eU X (.type "list") (fun xs H Q=>∃p ys,xs=[.ref p]∧(SqL X.K H p ys∨SqT X.K H p ys)∧∀l,H l=none→Q (.ref l) (upd H l (.lst ys))):=by
 intro pins s σ H xs us Q I r h
 obtain ⟨p,ys,rfl,hq,q⟩:=h
 obtain ⟨u,rfl,rx⟩:=vals1 r
 cases rx
 have fin:∀(its:List Value),Vals ys its→ys.length≤sizeLine→∀(h':Heap) (c':Nat),(∀b o',s.heap.get? b=some o'→h'.get? b=some o')→
   h'.get? s.heap.objs.size=some {cls:=.type "list",dict:=none,data:=.seq its.toArray c',slots:=#[]}→EP X pins σ Q (.ref s.heap.objs.size) {s with heap:=h'}:=fun its r' hz h' c' kp e=>
  ⟨.ref s.heap.objs.size,_,I.laid (t':=s.toks) kp (Nat.le_refl _) (show bB X.prog X.w _ h' _ (.lst ys) from ⟨hz,its,c',r',e⟩),rfl,q _ (I.hok.fresh (Nat.le_refl _))⟩
 rcases hq with hq | hq
 ·obtain ⟨its,r',pl,hz⟩:=I.list hq
  have hlen:=r'.length
  obtain ⟨o,ho,hc,n,hd⟩:=pl.isList
  exact call_list_seq p (.inl rfl) ho hc hd (fun h' c' kp e=>fin its r' hz h' c' kp e) (by simp only [List.size_toArray] <;> omega)
 ·obtain ⟨its,r',pl,hz⟩:=I.tuple hq
  have hlen:=r'.length
  obtain ⟨o,ho,hc,n,hd⟩:=pl
  exact call_list_seq p (.inr rfl) ho hc hd (fun h' c' kp e=>fin its r' hz h' c' kp e) (by simp only [List.size_toArray] <;> omega)
theorem rK:eU X (.type "tuple") (fun xs H Q=>∃p ys,xs=[.ref p]∧((SqL X.K H p ys∧∀l,H l=none→Q (.ref l) (upd H l (.tup ys)))∨(SqT X.K H p ys∧Q (.ref p) H))):=by
 intro pins s σ H xs us Q I r h
 obtain ⟨p,ys,rfl,h⟩:=h
 obtain ⟨u,rfl,rx⟩:=vals1 r
 cases rx
 rcases h with ⟨hq,q⟩ | ⟨hq,q⟩
 ·obtain ⟨its,r',pl,hz⟩:=I.list hq
  have hlen:=r'.length
  refine call_tuple_list pl.isList (fun h' kp=>?_) (by simp only [List.size_toArray] <;> omega)
  have I1:Inv X pins σ H {s with heap:=h'}:=I.kept (t':=s.toks) kp
  have I2:Inv X pins σ (upd H h'.objs.size (.tup ys)) {s with heap:=h'.push {cls:=.type "tuple",data:=.seq its.toArray}}:=
   I1.laid (t':=s.toks) (fun b o e=>Heap.get?_push_of_some _ e) (Nat.le_refl _) (show bB X.prog X.w _ _ _ (.tup ys) from ⟨hz,its,r',IsTup.new _ _⟩)
  exact ⟨.ref h'.objs.size,_,I2,rfl,q _ (I1.hok.fresh (Nat.le_refl _))⟩
 ·obtain ⟨its,r',pl,hz⟩:=I.tuple hq
  exact call_tuple_same pl ⟨.ref p,H,I,rfl,q⟩
noncomputable def tyV (K:PySem.W.Frag) (T:String) (x:V) (H:Hp):Prop:=match x with
 | .str _=>T="str"
 | .int _=>T="int"
 | .ref p=>(T="list"∧∃xs,SqL K H p xs)∨(T="tuple"∧∃o,K.lookup p=some o∧o.cls=.type "tuple"∧o.dict=none)∨
   (T="dict"∧((∃kvs,H p=some (.dK kvs))∨∃kvs,H p=some (.dT kvs)))∨(T="set"∧∃S n,H p=some (.set S n))
 | _=>False
theorem KC {pins:List (Addr × Obj)} {σ:St} {H:Hp} {s:Shared} {T:String} {x:V} {v:Value} (I:Inv X pins σ H s) (r:RelV x v) (ty:tyV X.K T x H):
  s.TypeIs v T∧∀a,v=.ref a→∃ob,s.heap.get? a=some ob∧ob.dict=none:=by
 cases x with
 | str z=>
  obtain ⟨t,rfl⟩:=r
  cases (show T="str" from ty)
  exact ⟨typeIs_str s z t,fun _ e=>nomatch e⟩
 | int i=>
  obtain ⟨t,rfl⟩:=r
  cases (show T="int" from ty)
  exact ⟨typeIs_int s i t,fun _ e=>nomatch e⟩
 | ref p=>
  cases r
  rcases ty with ⟨rfl,xs,hq⟩ | ⟨rfl,o,hk,hc,hd⟩ | ⟨rfl,hk⟩ | ⟨rfl,S,n,hk⟩
  ·obtain ⟨its,_,pl,_⟩:=I.list hq
   refine ⟨pl.isList.typeIs,fun a e=>?_⟩
   cases e
   obtain ⟨o,n,e,c,hd,_⟩:=pl
   exact ⟨o,e,hd⟩
  ·refine ⟨⟨o,I.kIn p o hk,hc⟩,fun a e=>?_⟩
   cases e
   exact ⟨o,I.kIn _ o hk,hd⟩
  ·have z:∃o,s.heap.get? p=some o∧o.ExactDict:=by
    rcases hk with ⟨kvs,hk⟩ | ⟨kvs,hk⟩
    ·obtain ⟨_,_,_,_,o,_,_,e,ex,_⟩:=I.hok p _ hk
     exact ⟨o,e,ex⟩
    ·obtain ⟨_,_,_,_,o,_,_,e,ex,_⟩:=I.hok p _ hk
     exact ⟨o,e,ex⟩
   obtain ⟨o,e,ex⟩:=z
   refine ⟨⟨o,e,ex.1⟩,fun a e2=>?_⟩
   cases e2
   exact ⟨o,e,ex.2.1⟩
  ·obtain ⟨o,_,_,_,e,ex,_⟩:=I.hok p _ hk
   refine ⟨⟨o,e,ex.1⟩,fun a e2=>?_⟩
   cases e2
   exact ⟨o,e,ex.2.1⟩
 | _=>exact False.elim ty
noncomputable def tBM (K:PySem.W.Frag) (T:String) (r:V→List V→Hp→VK→Prop) (to:TE) (t:TA):TE:=fun σ H Q=>to σ H fun x H1=>tyV K T x H1∧t σ H1 fun xs H2=>r x xs H2 Q
variable {o e:Expr} {es:List Expr} {to:TE} {t:TA} {name:Str} {apos cpos:Pos} {T id:String} {r:V→List V→Hp→VK→Prop}
theorem lG (pa:PlainAttrs T) (slot:Slot T name id) (hty:typeOf (.builtin id)=pure (.type "method_descriptor")) (hm:MtR X id r) (ho:PE X o to) (ha:PA X (e::es) t)
  (hbase:attributeBase o name X.env (eval o X.env)=eval o X.env:=by rfl)
  (hfew:((backTo cpos (starEach (e::es) X.env)).all (fun x=>!x.1) && (backToKw cpos (keywordEach [] X.env)).all (fun x=>x.1.isSome)
   && decide ((e::es).length+([]:List Keyword).length+(if ([]:List Keyword).isEmpty then 0 else 1) < 30))=true:=by rfl)
  (hline:(apos.endLine==cpos.line)=true:=by rfl) (hs:starEach (e::es) X.env=(false,eval e X.env)::starEach es X.env:=by rfl) (hplain:(backTo cpos (starEach es X.env)).any (·.1)=false:=by rfl):
  PE X (.Call (.Attribute o name apos) (e::es) [] cpos) (tBM X.K T r to t):=by
 intro pins s σ H Q I h
 refine wpAny_Call_method_late hbase hfew hline rfl (thn (ho pins s σ H _ I h) fun v s1 ⟨x,H1,I1,r1,ty,q1⟩=>?_)
 obtain ⟨h1,h2⟩:=KC I1 r1 ty
 refine ⟨T,id,pa,slot,hty,h1,h2,?_⟩
 have hA:=ha cpos pins s1 σ H1 _ I1 q1
 rw [hs] at hA ⊢
 refine Calls.callWith_builtin (by show (false || (backTo cpos (starEach es X.env)).any (·.1))=false;rw [hplain] <;> rfl) (Calls.evalArgs_plain ?_)
 exact thn hA fun us s2 ⟨vs,H2,I2,r2,q2⟩=>hm pins s2 σ H2 x vs v us Q I2 r1 r2 q2
end
open PySem PySem.Spec PyProof.Rows
noncomputable def MtM (X:Cx) (id:String) (r:V→List V→Hp→VK→Prop):Prop:=
 ∀(pins:List (Addr × Obj)) (s:Shared) (σ:St) (H:Hp) (x:V) (xs:List V) (v:Value) (us:List Value) (Q:VK),Inv X pins σ H s→RelV x v→Vals xs us→r x xs H Q→
  wpAny (model X.prog X.w) X.A (call (.builtin id) (v::us)) (EP X pins σ Q) X.xe s
theorem Vals.one:∀{x:V} {us:List Value},Vals [x] us→∃u,us=[u]∧RelV x u
 | _,_,.cons r .nil=>⟨_,rfl,r⟩
section
variable {X:Cx} {pins:List (Addr × Obj)} {σ:St} {H:Hp} {s:Shared} {l b:Addr} {xs ys zs:List V}
theorem Inv.lset {its its':List Value} {n:Nat} {f:Array Value→Array Value} {t':Nat} (I:Inv X pins σ H s) (hH:H l=some (.lst xs))
  (e:s.heap.get? l=some {cls:=.type "list",data:=.seq its.toArray n}) (hf:f its.toArray=its'.toArray) (hv:Vals ys its') (hz:ys.length≤sizeLine):
  Inv X pins σ (upd H l (.lst ys)) {s with heap:=s.heap.update l (Obj.mapSeq f),toks:=t'}:=by
 have q:=PySem.IsL.update e f
 rw [hf] at q
 refine I.write (x:=l) (e:=l) (by rw [hH];exact trivial) (.inl rfl) (fun b' u hb hu=>(Heap.get?_update_other s.heap (Obj.mapSeq f) (Ne.symm hb)).trans hu) ⟨_,q⟩ ?_
 exact ⟨hz,its',_,hv,q⟩
theorem Inv.lnew {its:List Value} {t':Nat} (I:Inv X pins σ H s) (hv:Vals ys its) (hz:ys.length≤sizeLine):
  Inv X pins σ (upd H s.heap.objs.size (.lst ys)) {s with heap:=s.heap.push {cls:=.type "list",data:=.seq its.toArray},toks:=t'}:=
 I.laid (fun _ _ q=>Heap.get?_push_of_some _ q) (Nat.le_refl _) ⟨hz,its,0,hv,Heap.get?_push_size _ rfl⟩
theorem Inv.fresh (I:Inv X pins σ H s):H s.heap.objs.size=none:=I.hok.fresh (Nat.le_refl _)
theorem Inv.lstM (I:Inv X pins σ H s) (hH:H l=some (.lst xs)):xs.length≤sizeLine∧∃(its:List Value) (n:Nat),Vals xs its∧xs.length=its.length∧s.heap.get? l=some {cls:=.type "list",data:=.seq its.toArray n}:=by
 obtain ⟨z,its,n,r,e⟩:=I.hok l _ hH
 exact ⟨z,its,n,r,r.length,e⟩
theorem Do {n:Nat} (h:n≤sizeLine):Builtin.List.listTooLong n=false:=by
 unfold Builtin.List.listTooLong
 exact decide_eq_false (by omega)
end
section
variable {X:Cx}
noncomputable def HN:V→List V→Hp→VK→Prop:=fun x vs H Q=>∃l xs y,x=.ref l∧vs=[y]∧H l=some (.lst xs)∧xs.length < sizeLine∧Q .non (upd H l (.lst (xs++[y])))
theorem cG:MtM X "list.append" HN:=by
 intro pins s σ H x vs v us Q I rx rv h
 obtain ⟨l,xs,y,rfl,rfl,hH,hz,q⟩:=h
 cases rx
 obtain ⟨u,rfl,ru⟩:=rv.one
 obtain ⟨z,its,n,r,hl,e⟩:=I.lstM hH
 refine call_meets F.slot_list_append ⟨_,e,rfl⟩ F.entry_list_append (F.args_list_append_2 _ _) (PySem.list_append l its.toArray n u (by rw [List.size_toArray];omega)) ⟨e,?_⟩
 refine ⟨.non,_,I.lset (its':=its++[u]) hH e (by simp) (r.append (.cons ru .nil)) ?_,rfl,q⟩
 rw [List.length_append,List.length_singleton]
 omega
noncomputable def HQ:V→List V→Hp→VK→Prop:=fun x vs H Q=>∃l b xs zs,x=.ref l∧vs=[.ref b]∧H l=some (.lst xs)∧H b=some (.lst zs)∧xs.length+zs.length≤sizeLine∧Q .non (upd H l (.lst (xs++zs)))
theorem M8:MtM X "list.extend" HQ:=by
 intro pins s σ H x vs v us Q I rx rv h
 obtain ⟨l,b,xs,zs,rfl,rfl,hH,hB,hz,q⟩:=h
 cases rx
 obtain ⟨u,rfl,ru⟩:=rv.one
 cases ru
 obtain ⟨z,its,n,r,hl,e⟩:=I.lstM hH
 obtain ⟨z2,its2,n2,r2,hl2,e2⟩:=I.lstM hB
 have hsz:its.toArray.size+its2.toArray.size≤sizeLine:=by rw [List.size_toArray,List.size_toArray];omega
 have hlong:¬(!its.toArray.isEmpty && Builtin.List.listTooLong (its.toArray.size+its2.toArray.size))=true:=by
  rw [Do hsz,Bool.and_false]
  exact Bool.false_ne_true
 refine call_meets F.slot_list_extend ⟨_,e,rfl⟩ F.entry_list_extend (F.args_list_extend_2 _ _)
  (AutoSeq1.list_extend_list_list_0 l its.toArray n b its2.toArray n2 hlong (by rw [List.size_toArray];omega) (by omega)) ⟨e,e2,?_⟩
 refine ⟨.non,_,I.lset (its':=its++its2) hH e (by simp) (r.append r2) ?_,rfl,q⟩
 rw [List.length_append]
 omega
noncomputable def PJ:R2:=fun x y H Q=>∃l b xs zs,x=.ref l∧y=.ref b∧H l=some (.lst xs)∧H b=some (.lst zs)∧xs.length+zs.length≤sizeLine∧∀p,H p=none→Q (.ref p) (upd H p (.lst (xs++zs)))
theorem KD:OpR X (binaryOp .Add) PJ:=by
 intro pins s σ H x y v u Q I rx ry h
 obtain ⟨l,b,xs,zs,rfl,rfl,hH,hB,hz,q⟩:=h
 cases rx
 cases ry
 obtain ⟨z,its,n,r,hl,e⟩:=I.lstM hH
 obtain ⟨z2,its2,n2,r2,hl2,e2⟩:=I.lstM hB
 refine PySem.P.add_list e e2 ?_ (by rw [List.size_toArray,List.size_toArray];omega)
 have ea:its.toArray++its2.toArray=(its++its2).toArray:=by simp
 rw [ea]
 exact ⟨.ref _,_,I.lnew (t':=s.toks) (r.append r2) (by rw [List.length_append];omega),rfl,q _ I.fresh⟩
end
end L2
namespace Att
open PySem PySem.W PySem.Calls PyProof.Rows
theorem o9 {P:Params} {h:Heap}:∀(ns:List Int) (vs:List Value),WellAll P h vs (ns.map WData.int)→IntsAre vs ns:=by
 intro ns
 induction ns with
 | nil=>
  intro vs w
  rw [List.map_nil] at w
  cases w
  exact .nil
 | cons n ns ih=>
  intro vs w
  rw [List.map_cons] at w
  cases w with
  | cons a b=>
   cases a
   exact .cons _ _ (ih _ b)
theorem Bf {l:OpenLaw} {n:Nat} (hn:l.most=some n) {P:Params} {h:Heap} {args:List WData} {vals:List Value}
  (hpre:l.row.toRowW.claim.pre args=true) (hwl:WellAll P h vals args):
  ∃a vs ns,vals=[Value.ref a]∧args=[WData.list (ns.map WData.int)]∧h.get? a=some {cls:=.type "list",data:=.seq vs.toArray}∧IntsAre vs ns∧ns.length≤n:=by
 have hsh:WShape.hasAll [] args [.list .int]=true:=(pre_splitW hpre).1
 have hc:l.pre.holds [] {args:=args}=true:=(pre_splitW hpre).2
 obtain ⟨d,r,rfl,h1,h2⟩:=hasAllW_cons hsh
 obtain rfl:=hasAllW_nil h2
 obtain ⟨xs,rfl,h3⟩:=hasW_list h1
 obtain ⟨ns,rfl⟩:=items_int h3
 have hlen:ns.length≤n:=by
  unfold OpenLaw.pre at hc
  have h4:(WTm.not (.lt (.lit (.int (n:Int))) (.len (.arg 0)))).holds [] {args:=[.list (ns.map .int)]}=true:=by
   have h4:=(holds_andW hc).1
   rw [hn] at h4
   exact h4
  have h5:=condW_of h4 (w_not (w_lt w_lit (w_len_list (w_arg rfl))))
  rw [List.length_map] at h5
  refine Nat.le_of_not_lt fun q=>?_
  have q':(n:Int) < ((ns.length:Nat):Int):=by omega
  first
   | (rw [decide_eq_true q'] at h5;exact absurd h5 (by decide))
   | (simp at h5;omega)
 cases hwl with
 | cons w1 w2=>
  cases w2
  cases w1 with
  | list ho hall=>exact ⟨_,_,ns,rfl,rfl,ho,o9 ns _ hall,hlen⟩
theorem Bg (l:OpenLaw) (args:List WData):l.row.toRowW.claim.post args (.bool true) args=true:=
 postW_of (r:=l.row.toRowW) (X:=(true==true))
  (show WShape.has [] (.bool true) .bool=true by first | rfl | decide | simp [WShape.has,WShape.arms,WShape.armsAll])
  (show (WTm.eq .res (.lit (.bool true))).value [] {args:=args,res:=some (.bool true),after:=args}=some (.bool (true==true)) from w_eq_bool (w_res rfl) w_lit) rfl
theorem attach_call {l:OpenLaw} {n:Nat} {q:Program} {loose:List Str} {XP:(Str→Option Value)→Heap→Prop} {YP:World→Heap→Prop} {d:DefRec}
  (hn:l.most=some n) (hdf:d.params.defaults=[])
  (call:∀(w:World) (s₀ s₁:Shared) (mg mb:Str→Option Value) (fa:Addr) (o:Obj) (pm cd doc:Value) (a:Addr) (vs:List Value) (ns:List Int),
   Ground q loose [] XP w s₀ mg mb s₁.heap→YP w s₁.heap→
   s₁.heap.get? fa=some o→o.data=.func (docDef d.name d.params d.body d.scope pm cd doc)→s₁.heap.CodeRec cd d.name→mg d.name=some (.ref fa)→
   s₁.heap.get? a=some {cls:=.type "list",data:=.seq vs.toArray}→IntsAre vs ns→ns.length≤n→s₁.gens=#[]→
   codeAny (model l.prog w) callerA (.call (.ref fa) ⟨[.ref a],[]⟩) (fun r s'=>r=.ok (.ret (.bool true))∧OldK s₁.heap s'.heap∧s'.os=s₁.os∧AllBare s'.gens) s₁):
  WalkO q loose XP YP l.row.toRowW d [] (fun f vs=>PySem.call f vs):=by
 intro w s₀ s₁ mg mb G Y fa o pm cd doc dV kV ho hd hcd hD hmg hg args vals as hpre hlay hrd hwl hlo
 obtain rfl:dV=.none:=Dflts.none hD hdf
 obtain rfl:kV=.none:=Dflts.noKw hD
 obtain ⟨a,vs,ns,rfl,rfl,hobj,hints,hlen⟩:=Bf hn hpre hwl
 refine enter_call (codeAny_mono (call w s₀ s₁ mg mb fa o pm cd doc a vs ns G Y ho (fd_plain hd) hcd hmg hobj hints hlen hg) fun r s' hq=>?_)
 obtain ⟨rfl,h2,h3,h4⟩:=hq
 exact ⟨.inl ⟨.bool true,.bool true,[],rfl,fun _=>rfl,.bool true,Bg l _,fun _=>⟨List.Pairwise.nil,fun _ hm=>(nomatch hm)⟩⟩,h2,h3,h4⟩
end Att
namespace L2
open PySem PySem.Spec PyProof.Rows
theorem sO:∀{vs:List Value} {ns:List Int},IntsAre vs ns→Vals (ns.map V.int) vs
 | _,_,.nil=>.nil
 | _,_,.cons n t h=>.cons ⟨t,rfl⟩ (sO h)
noncomputable def Only (H:Hp):Prop:=∀b,H b=none∨∃o xs,H b=some (.frz o (.lst xs))
theorem Dq {P:Program} {w:World} {K:PySem.W.Frag} {mg mb:Str→Option Value} {CX:CXT} {k:Nat} {fa a:Addr} {fd:FuncData} {x:Str} {sp:Sp} {s₁:Shared} {vs:List Value} {ns:List Int}
  (KX:K.In s₁.heap) (hns:s₁.heap.Ns mainGlobals mg) (hb:s₁.heap.Ns builtinsNs mb) (hbb:∀x:Str,x≠"__name__"→mb x=bootBuiltins x) (hlim:s₁.heap.NoLimit) (hg:s₁.gens=#[])
  (ha:s₁.heap.get? a=some {cls:=.type "list",data:=.seq vs.toArray}) (hi:IntsAre vs ns) (hl:ns.length≤sizeLine) (hr:dM k callerA)
  (F:∀base:Heap,K.In base→base.Ns mainGlobals mg→aD P w K mg base CX k fa fd [x] sp) (hbind:∀(s:Shared) (u:Value),BindsTo s fd ⟨[u],[]⟩ [(x,u)])
  (hsp:∀H:Hp,Only H→SqL K H a (ns.map V.int)→sp [.ref a] H (fun v _=>v=.bl true) fun _ _ _=>False)
  (hCX:∀H e s',CX [] H s₁ (fun _ _ _=>False) e s'→False):
  codeAny (model P w) callerA (.call (.ref fa) ⟨[.ref a],[]⟩) (fun r s'=>r=.ok (.ret (.bool true))∧OldK s₁.heap s'.heap∧s'.os=s₁.os∧AllBare s'.gens) s₁:=by
 have rv:=sO hi
 have lenV:=hi.length
 have core:∀H:Hp,Only H→SqL K H a (ns.map V.int)→HOk P w H s₁.heap→(∀b,H b≠none→b=a)→(H a≠none→K.lookup a=none)→
   codeAny (model P w) callerA (.call (.ref fa) ⟨[.ref a],[]⟩) (fun r s'=>r=.ok (.ret (.bool true))∧OldK s₁.heap s'.heap∧s'.os=s₁.os∧AllBare s'.gens) s₁:=by
  intro H hO hS hok hA hK
  have base_of:∀{b:Addr} {o:Obj},s₁.heap.get? b=some o→H b=none→(t8 s₁.heap H).get? b=some o:=fun e n=>CP e n
  have noA:∀{b:Addr} {o:Obj} {es:Array DictEntry} {ep:Nat},s₁.heap.get? b=some o→o.data=.dict es ep→H b=none:=fun {b o es ep} e d=>by
   cases q:H b with
   | none=>rfl
   | some u=>
    have e':b=a:=hA b (by rw [q];simp)
    subst e'
    rw [ha] at e;cases e
    have d':Data.seq vs.toArray _=Data.dict es ep:=d
    cases d'
  have nsK:∀{b:Addr} {m:Str→Option Value},s₁.heap.Ns b m→(t8 s₁.heap H).Ns b m:=fun {b m} ⟨o,es,ep,e,d,r⟩=>⟨o,es,ep,base_of e (noA e d),d,r⟩
  have hKb:K.In (t8 s₁.heap H):=fun b o e=>base_of (KX b o e) (by
   cases q:H b with
   | none=>rfl
   | some u=>
    have e':b=a:=hA b (by rw [q];simp)
    subst e'
    rw [hK (by rw [q];simp)] at e;cases e)
  have hM:Mod K mg (t8 s₁.heap H):=⟨hKb,nsK hns,⟨mb,nsK hb,hbb⟩,let ⟨mc,h1,h2⟩:=hlim;⟨mc,nsK h1,h2⟩⟩
  have e0:ye P w K mg (t8 s₁.heap H) callerA [] s₁ H:=⟨rfl,hM,fun b o e=>Hn e,Nat.le_of_eq (Ao _ _),trivial,fun b hb=>absurd (show b∈([]:List Addr) from hb) (by simp),hok,.of_eq hg⟩
  refine codeAny_mono ((F _ hKb (nsK hns)).run callerA [] s₁ H ⟨[.ref a],[]⟩ [.ref a] [.ref a] _ _ hr e0 (hbind s₁ (.ref a)) (.cons rfl .nil) (hsp H hO hS)) fun r s' h=>?_
  cases r with
  | error e=>exact (hCX H e s' h).elim
  | ok fl=>
   cases fl with
   | next=>exact False.elim h
   | brk=>exact False.elim h
   | cont=>exact False.elim h
   | ret u=>
    obtain ⟨v,H',os,bare,un,hok',r',q⟩:=h
    have q':v=.bl true:=q
    subst q'
    obtain rfl:u=Value.bool true:=r'
    refine ⟨rfl,OldK.of_keep fun b o e=>?_,os,bare⟩
    cases q:H b with
    | none=>exact un.keep b o e q (by intro z;exact absurd (show b∈([]:List Addr) from z) (by simp)) (by simp)
    | some u=>
     rcases hO b with z | ⟨ob,xs,z⟩
     ·rw [q] at z;cases z
     ·have z2:=un.frzs b ob _ z
      obtain ⟨e1,_⟩:=hok b _ z
      obtain ⟨e2,_⟩:=hok' b _ z2
      rw [e] at e1;cases e1
      exact e2
 cases hk:K.lookup a with
 | some o=>
  have e:=KX a o hk
  rw [ha] at e
  cases e
  refine core (fun _=>none) (fun _=>.inl rfl) (.inr ⟨_,vs.toArray,_,hk,rfl,rfl,rfl,by rw [List.size_toArray,lenV];exact hl,by simpa using rv⟩) (fun b u z=>by have z':(none:Option HO)=some u:=z;cases z') (fun b z=>absurd rfl z) fun z=>absurd rfl z
 | none=>
  refine core (fun b=>if b=a then some (.frz {cls:=.type "list",data:=.seq vs.toArray} (.lst (ns.map V.int))) else none) (fun b=>?_) (.inl (.inr ⟨{cls:=.type "list",data:=.seq vs.toArray},if_pos rfl⟩)) (fun b u z=>?_) (fun b z=>?_) fun _=>hk
  ·by_cases hb:b=a
   ·exact .inr ⟨_,_,if_pos hb⟩
   ·exact .inl (if_neg hb)
  ·by_cases hb:b=a
   ·have z':=(if_pos hb).symm.trans z
    cases z'
    subst hb
    exact ⟨ha,by rw [List.length_map];exact hl,vs,_,rv,ha⟩
   ·have z':=(if_neg hb).symm.trans z
    cases z'
  ·by_cases hb:b=a
   ·exact hb
   ·exact absurd (if_neg hb) z
noncomputable abbrev KOf {K:PySem.W.Frag} {h:Heap} (_:K.In h):PySem.W.Frag:=K
theorem walk_of {l:PySem.W.OpenLaw} {n k:Nat} {q:Program} {loose:List Str} {XP:(Str→Option Value)→Heap→Prop} {YP:World→Heap→Prop} {d:DefRec} {K:Params→PySem.W.Frag} {CX:World→CXT} {sp:World→Sp} {x:Str}
  (hn:l.most=some n) (hn2:n≤sizeLine) (hdf:d.params.defaults=[]) (hr:dM k callerA)
  (hY:∀(w:World) (h:Heap),YP w h→(K w.params).In h)
  (F:∀(w:World) (mg:Str→Option Value) (fa:Addr) (h:Heap),(K w.params).In h→h.Ns mainGlobals mg→mg d.name=some (.ref fa)→
   ∃fd:FuncData,(∀(s:Shared) (u:Value),BindsTo s fd ⟨[u],[]⟩ [(x,u)])∧
    ∀base:Heap,(K w.params).In base→base.Ns mainGlobals mg→aD l.prog w (K w.params) mg base (CX w) k fa fd [x] (sp w))
  (hsp:∀(w:World) (H:Hp) (a:Addr) (ns:List Int),ns.length≤n→Only H→SqL (K w.params) H a (ns.map V.int)→sp w [.ref a] H (fun v _=>v=.bl true) fun _ _ _=>False)
  (hCX:∀(w:World) (H:Hp) (s:Shared) (e:Value) (s':Shared),CX w [] H s (fun _ _ _=>False) e s'→False):
  PySem.W.WalkO q loose XP YP l.row.toRowW d [] (fun f vs=>PySem.call f vs):=by
 refine Att.attach_call hn hdf fun w s₀ s₁ mg mb fa o pm cd doc a vs ns G Y ho hd hcd hmg hobj hints hlen hg=>?_
 have KX:=hY w _ Y
 obtain ⟨fd,hb,hF⟩:=F w mg fa _ KX G.T.g hmg
 exact Dq KX G.T.g G.T.b G.T.builtins G.T.nolimit hg hobj hints (Nat.le_trans hlen hn2) hr hF hb (fun H hO hS=>hsp w H a ns hlen hO hS) fun H e s'=>hCX w H s₁ e s'
end L2
/- THE LAST THEOREM (shape;LID,My.* are yours):
 My.Adr:a structure of the addresses that your layer names (classes,functions);My.Txt K t:a structure (Prop) of the equations over K;
 My.txt_mk:{K} {implicit addresses ..} (e1:nsIn K mainGlobals "law"=some (some (.ref f))) (e2:K.lookup f=some ⟨oc,od,.func (fnOf "law" "law" params body scope dV kV doc pm an cdv ct),sl⟩) (e3:codeIn K cdv "law"=true) ..:∃t,My.Txt K t
set_option maxRecDepth 100000 in
set_option maxHeartbeats 0 in
theorem PySem.Challenge.cw_LID_holds : PySem.Challenge.rw_LID.Holds := by
 w_on;o_law;k_head;(case hw=>w_witness2)
 k_fill
 refine L2.walk_of (l:=PySem.Challenge.rw_LID) (n:=63) (k:=40) (x:="script") (CX:=fun w=>..) (sp:=fun _=>My.sp_law) rfl (by decide) rfl ⟨rfl,by decide,by decide⟩ (fun w h Y=>PySem.W.kIn_of Y) ?F ?S ?C
 case F=>
  intro w mg fa h KX G hmg
  have T:∃t,My.Txt (L2.KOf KX) t:=by
   dsimp only [L2.KOf] -- K must stand as «<heap const> w.params» for k_is
   refine' My.txt_mk ?e1 ?e2 ?e3 ..
   (case e1=>PySem.W.k_is) -- in the order:a name -> its address -> its object -> its parts
   (case e2=>PySem.W.k_is)
   ..
  obtain ⟨t,T⟩:=T
  have e0:=hmg.symm.trans (PySem.W.mg_of KX G T.law)
  cases e0 -- fa is the law's own address
  exact ⟨_,fun s u=>.of_eq rfl,fun base kb nb=>My.law_fn T kb nb⟩ -- if «.of_eq rfl» comes too early:refine' ⟨_,?b,fun base kb nb=>My.law_fn T kb nb⟩;exact fun s u=>.of_eq rfl
 case S=>exact fun w H a ns hl hO hS=>..
 case C=>exact ..
(the tactic k_is has no namespace:write k_is) -/
namespace L2
open PySem PySem.Spec PyProof.Rows
noncomputable def inClass (s:Stmt) (j:Nat):Stmt:=match s with
 | .ClassDef _ _ _ body _ _ _ _ _ _ _=>body.getD j (.Pass ⟨0,0,0,0⟩)
 | _=>.Pass ⟨0,0,0,0⟩
noncomputable def mO (s:Stmt):Arguments:=match s with
 | .FunctionDef _ a _ _ _ _ _ _ _ _=>a
 | _=>{posonlyargs:=[],args:=[],vararg:=none,kwonlyargs:=[],kw_defaults:=[],kwarg:=none,defaults:=[]}
noncomputable def iH (s:Stmt):List Stmt:=match s with
 | .FunctionDef _ _ b _ _ _ _ _ _ _=>b
 | _=>[]
noncomputable def aC (s:Stmt):Scope:=match s with
 | .FunctionDef _ _ _ _ _ _ sc _ _ _=>sc
 | _=>{kind:=.function,names:=[],isGenerator:=false,isCoroutine:=false}
noncomputable abbrev CX0:CXT:=fun _ _ _ _ _ _=>False
noncomputable abbrev E0:XK:=fun _ _ _=>False
theorem bh {X:Cx}:iY CX0 X E0:=fun _ _ _ _ _ _ _ h=>h.elim
structure Fun (K:PySem.W.Frag) (x qual:Str) (st:Stmt) (f:Addr) (fd:FuncData):Prop where
 ex:∃(oc:Value) (od:Option Addr) (kV doc pm:Value) (an:Option Addr) (cdv ct:Value) (osl:Array (Option Value)),
  fd=PySem.W.fnOf x qual (mO st) (iH st) (aC st) .none kV doc pm an cdv ct∧K.lookup f=some ⟨oc,od,.func fd,osl⟩∧PySem.W.codeIn K cdv qual=true
 kp:PySem.W.keepIn K (.ref f)=true
section
variable {P:Program} {w:World} {K:PySem.W.Frag} {mg:Str→Option Value} {base:Heap}
theorem Fun.ok {x qual:Str} {st:Stmt} {f:Addr} {fd:FuncData} {N ps:List Str} {k:Nat} {sp:Sp} (F:Fun K x qual st f fd) (S:aH N ps (aC st)) (len:∀vs H Q E,sp vs H Q E→vs.length=ps.length)
  (hbody:∀(cdv:Value) (A:Around) (outer:List Env) (s:Shared) (H:Hp) (vs:List V) (Q:VK) (E:XK),dM k (A.deeper (envOfC qual (aC st) s.heap.objs.size f cdv))→sp vs H Q E→
   ∃t,PSs (lD CX0 P w K mg base N qual (aC st) f cdv A outer s H E).nox (iH st) t∧t {nx:=fun _ H'=>Q .non H',rt:=Q} (start N vs) H):aD P w K mg base CX0 (k+1) f fd ps sp:=by
 obtain ⟨oc,od,kV,doc,pm,an,cdv,ct,osl,rfl,lk,hcd⟩:=F.ex
 refine Dk lk hcd S len fun A outer s H vs Q E hr hsp=>?_
 obtain ⟨t,h,q⟩:=hbody cdv A outer s H vs Q E hr hsp
 exact ⟨t,h.nox,q⟩
theorem Fun.binds {x qual:Str} {st:Stmt} {f:Addr} {fd:FuncData} {ps:List Str} (F:Fun K x qual st f fd)
  (h:∀(kV doc pm:Value) (an:Option Addr) (cdv ct:Value) (us:List Value),us.length=ps.length→bindArgs (PySem.W.fnOf x qual (mO st) (iH st) (aC st) .none kV doc pm an cdv ct) ⟨us,[]⟩=pure (ps.zip us)):Binds K fd ps []:=by
 obtain ⟨oc,od,kV,doc,pm,an,cdv,ct,osl,rfl,lk,hcd⟩:=F.ex
 exact .all (h kV doc pm an cdv ct)
theorem fun_mk {x qual:Str} {st:Stmt} {f:Addr} {oc:Value} {od an:Option Addr} {osl:Array (Option Value)} {kV doc pm cdv ct:Value} (l:K.lookup f=some ⟨oc,od,.func (PySem.W.fnOf x qual (mO st) (iH st) (aC st) .none kV doc pm an cdv ct),osl⟩)
  (c:PySem.W.codeIn K cdv qual=true) (k:PySem.W.keepIn K (.ref f)=true):Fun K x qual st f (PySem.W.fnOf x qual (mO st) (iH st) (aC st) .none kV doc pm an cdv ct):=⟨⟨oc,od,kV,doc,pm,an,cdv,ct,osl,rfl,l,c⟩,k⟩
end
theorem cQ {A:Around} {k:Nat} (hr:dM k A):A.units+1 < cLine:=Nat.lt_of_le_of_lt (Nat.add_le_add_left (by decide:1≤64) _) hr.units
theorem aG {n:Nat} (h:n≤1000):n < sizeLine:=Nat.lt_of_le_of_lt h (by decide)
section
variable {X:Cx}
theorem pv (i:Nat) {x:Str} {pos:Pos} (hN:X.N[i]?=some x:=by rfl) (hv:Vis X.env.scope x:=by first | exact Or.inl rfl | exact Or.inr (Or.inl rfl) | exact Or.inr (Or.inr rfl)) (hd:(x==("__debug__":Str))=false:=by decide)
  (hcd:(x==("__classdict__":Str))=false:=by decide):PE X (.Name x pos) (M9 i):=Ke hN hv hd hcd
end
theorem lQ {A B:Prop} (h:B):if false=true then A else B:=by
 rw [if_neg Bool.false_ne_true]
 exact h
theorem jR {A B:Prop} (h:A):if true=true then A else B:=by
 rw [if_pos rfl]
 exact h
theorem PL {c A B:Prop} [Decidable c] (h1:c→A) (h2:¬c→B):if c then A else B:=by
 by_cases h:c
 ·rw [if_pos h]
  exact h1 h
 ·rw [if_neg h]
  exact h2 h
theorem Dr {c A B:Prop} [Decidable c] (hc:c) (h:B):if (!decide c)=true then A else B:=by
 rw [decide_eq_true hc]
 exact lQ h
noncomputable def aB (H H':Hp):Prop:=∀b o,H b=some o→H' b=some o
theorem aB.refl (H:Hp):aB H H:=fun _ _ h=>h
theorem aB.trans {H H1 H2:Hp} (a:aB H H1) (b:aB H1 H2):aB H H2:=fun c o h=>b c o (a c o h)
theorem aB.free {H H':Hp} (e:aB H H') {l:Addr} (h:H' l=Option.none):H l=Option.none:=by
 cases q:H l with
 | none=>rfl
 | some o=>
  rw [e l o q] at h
  cases h
theorem aB.seq {K:PySem.W.Frag} {H H':Hp} {a:Addr} {xs:List V} (e:aB H H') (h:SqL K H a xs):SqL K H' a xs:=by
 rcases h with (h | ⟨o,h⟩) | h
 ·exact .inl (.inl (e _ _ h))
 ·exact .inl (.inr ⟨o,e _ _ h⟩)
 ·exact .inr h
end L2
set_option maxHeartbeats 4000000
namespace L3
open PySem PySem.Spec PyProof.Rows L2
noncomputable abbrev St:=L2.St
noncomputable abbrev V:=L2.V
noncomputable abbrev NoX:Value→Shared→Prop:=fun _ _=>False
theorem HR {α:Type} {M:Model} {A:Around} {t:Sem α} {Q:α→Shared→Prop} {E:Value→Shared→Prop} {s:Shared} (h:wpAny M A t Q NoX s):wpAny M A t Q E s:=
 wpAny_mono h (fun _ _ q=>q) fun _ _ z=>False.elim z
theorem pX {prog:Program} {w:World} {A:Around} {R:Result→Shared→Prop} {s:Shared} {elt tg iter:Expr} {ifs:List Expr} {scope:Scope} {pos:Pos} {it acc:Value} {env:Env} (I:Nat→Shared→Prop)
  (turn:∀n s,I n s→wpAny (model prog w) A (pyNext it) (fun r s1=>match r with
   | none=>R (.ok .next) s1
   | some v=>wpAny (model prog w) A (letOwnedTupleGo tg it v) (fun _ s2=>wpAny (model prog w) A (assign tg env v) (fun _ s3=>
     wpAny (model prog w) A (forIn ifs true fun c r=>if r=true then do let ok ←isTrue c env (eval c env);pure (ForInStep.yield ok) else pure (ForInStep.yield r)) (fun ok s4=>
      if ok=true then wpAny (model prog w) A (eval elt env) (fun x s5=>wpAny (model prog w) A (call (.builtin "list.append") [acc,x]) (fun _ s6=>∃m,m < n∧I m s6) NoX s5) NoX s4
      else ∃m,m < n∧I m s4) NoX s3) NoX s2) NoX s1) NoX s)
  (n:Nat) (h:I n s):codeAny (model prog w) A (.compLoop (.ListComp elt [⟨tg,iter,ifs,0⟩] scope pos) 0 it acc env) R s:=by
 refine codeAny_loop rfl I (fun n s hI=>?_) n h
 show wpAny _ A ((compTurn (.ListComp elt [⟨tg,iter,ifs,0⟩] scope pos) 0 it acc env).onRaise (fun x=>do noteFrame x env;theTreesLotGoes x)) _ _ s
 refine wpAny_noted (HR ?_)
 rw [compTurn_list]
 refine wpAny_bind (wpAny_standAt (wpAny_bind (wpAny_mono (turn n s hI) (fun r s1 h1=>?_) fun _ _ z=>z)))
 cases r with
 | none=>exact wpAny_pure h1
 | some v=>
  refine wpAny_bind (wpAny_mono h1 (fun _ s2 h2=>wpAny_bind (wpAny_mono h2 (fun _ s3 h3=>wpAny_bind (wpAny_mono h3 (fun ok s4 h4=>?_) fun _ _ z=>z)) fun _ _ z=>z)) fun _ _ z=>z)
  cases ok with
  | false=>exact wpAny_pure ⟨rfl,h4⟩
  | true=>exact wpAny_bind (wpAny_bind (wpAny_mono h4 (fun x s5 h5=>wpAny_bind (wpAny_mono h5 (fun _ s6 h6=>wpAny_pure (wpAny_pure ⟨rfl,h6⟩)) fun _ _ z=>z)) fun _ _ z=>z))
noncomputable def fQ (cs:List (Option Nat)) (σ:St):St:=cs.map fun o=>o.bind fun j=>(σ[j]?).bind id
noncomputable def eE (X:Cx) (N':List Str) (scope:Scope) (cl:List (Str × Addr)) (C:Addr) (s3:Shared) (H3:Hp) (fp:List Addr) (pn:List (Addr × Obj)):Cx:=
 {X with N:=N',s₀:=s3,H₀:=H3,env:=compEnvC scope cl C X.env,outer:=X.stack,stack:=X.stack,ex:=fp,fn:=fun _=>false,pn:=pn,xe:=fun _ _=>False}
noncomputable def vN (k:Option NameKind):Prop:=k=some .cell∨k=some .free
inductive mQ (X:Cx) (scope:Scope) (cl:List (Str × Addr)):List Str→List (Option Nat)→Prop
 | nil:mQ X scope cl [] []
 | own {x N cs}:mQ X scope cl N cs→mQ X scope cl (x::N) (none::cs)
 | cap {x j N cs} (h1:X.N[j]?=some x) (h2:vN (X.env.kindOf x)) (h3:vN ((relabel scope X.env).names.lookup x)) (h4:cl.lookup x=X.env.cells.lookup x):
   mQ X scope cl N cs→mQ X scope cl (x::N) (some j::cs)
theorem mQ.len {X:Cx} {scope:Scope} {cl:List (Str × Addr)} {N cs} (h:mQ X scope cl N cs):cs.length=N.length:=by
 induction h with
 | nil=>rfl
 | own _ ih=>simp [ih]
 | cap _ _ _ _ _ ih=>simp [ih]
theorem mQ.get {X:Cx} {scope:Scope} {cl:List (Str × Addr)} {N cs} (h:mQ X scope cl N cs) {σ:St}:∀{i:Nat} {x:Str} {v:V},N[i]?=some x→(fQ cs σ)[i]?=some (some v)→
  ∃j:Nat,X.N[j]?=some x∧σ[j]?=some (some v)∧vN (X.env.kindOf x)∧vN ((relabel scope X.env).names.lookup x)∧cl.lookup x=X.env.cells.lookup x:=by
 induction h with
 | nil=>intro i x v h1 h2;simp at h1
 | own _ ih=>
  intro i x v h1 h2
  cases i with
  | zero=>simp [fQ] at h2
  | succ i=>exact ih (i:=i) (by simpa using h1) (by simpa [fQ] using h2)
 | @cap y j N cs a1 a2 a3 a4 _ ih=>
  intro i x v h1 h2
  cases i with
  | zero=>
   simp at h1
   subst h1
   refine ⟨j,a1,?_,a2,a3,a4⟩
   simp [fQ] at h2
   cases q:σ[j]? with
   | none=>rw [q] at h2;simp at h2
   | some o=>
    rw [q] at h2
    simp at h2
    rw [h2]
  | succ i=>exact ih (i:=i) (by simpa using h1) (by simpa [fQ] using h2)
noncomputable def Bh (cl:List (Str × Addr)) (names:List (Str × NameKind)):Bool:=names.all fun y=>(y.2 !=.cell && y.2 !=.free) || (cl.lookup y.1).isSome
theorem vO {cl:List (Str × Addr)} {names:List (Str × NameKind)} (h:Bh cl names=true) {x:Str} (k:vN (names.lookup x)):∃c,cl.lookup x=some c:=by
 have key:∀q:NameKind,names.lookup x=some q→(q=.cell∨q=.free)→∃c,cl.lookup x=some c:=fun q e hq=>by
  have m:=List.all_eq_true.mp h (x,q) (PySem.mem_of_lookup e)
  rcases hq with rfl | rfl
  ·exact Option.isSome_iff_exists.mp (by simpa using m)
  ·exact Option.isSome_iff_exists.mp (by simpa using m)
 rcases k with k | k
 ·exact key _ k (.inl rfl)
 ·exact key _ k (.inr rfl)
noncomputable def yh (X:Cx) (ifs:List Expr) (t:TT):Prop:=
 ∀(pins:List (Addr × Obj)) (s:Shared) (σ:St) (H:Hp) (Q:Bool→Hp→Prop),Inv X pins σ H s→t σ H Q→
  wpAny (model X.prog X.w) X.A (forIn ifs true fun c r=>if r=true then do let ok ←isTrue c X.env (eval c X.env);pure (ForInStep.yield ok) else pure (ForInStep.yield r)) (TP X pins σ Q) X.xe s
noncomputable def yj:TT:=fun _ H Q=>Q true H
theorem d7 {X:Cx}:yh X [] yj:=fun _ _ _ H _ I h=>wpAny_tests_nil ⟨H,I,h⟩
theorem kW {X:Cx} {c:Expr} {t:TT} (h:PT X c t):yh X [c] t:=fun pins s σ H Q I q=>wpAny_tests_one (h pins s σ H Q I q)
noncomputable def tLC (wi:TI) (cs:List (Option Nat)) (g:TG) (tt:TT) (te:TE):TE:=fun σ H Q=>wi σ H fun J H1=>∀D,H1 D=none→
 ∃W:Nat→Nat→List V→St→Hp→Prop,(∃m,W 0 m [] (fQ cs σ) (upd H1 D (.lst [])))∧∀i m ys σ' H',W i m ys σ' H'→H' D=some (.lst ys)∧ys.length < sizeLine∧
  ((J.stop i H'∧Q (.ref D) H')∨(J.go i H'∧∀x H2,J.yld i H' x H2→g x σ' H2 fun σ3 H3=>tt σ3 H3 fun b H4=>
   if b=true then te σ3 H4 fun y H5=>H5 D=some (.lst ys)∧∃m',m' < m∧W (i+1) m' (ys++[y]) σ3 (upd H5 D (.lst (ys++[y])))
   else ∃m',m' < m∧W (i+1) m' ys σ3 H4))
section
variable {X:Cx} {elt tg iter:Expr} {ifs:List Expr} {scope:Scope} {pos:Pos} {N':List Str} {cs:List (Option Nat)} {cl:List (Str × Addr)} {wi:TI} {g:TG} {tt:TT} {te:TE}
theorem Ds {use:Option (Value→Sem Unit)} {QQ:Value→Shared→Prop} {pins:List (Addr × Obj)} {s:Shared} {σ:St} {H:Hp} {Q:VK} {fpos:Pos} (hc:X.calm=true) (hi:PI X tg iter wi) (hclos:closureFor scope X.env=pure cl) (hcell:∀y∈scope.names,y.2≠.cell) (hkind:scope.kind=.function)
  (hnames:∀y∈scope.names,y.2=.local→scope.names.lookup y.1=some .local) (hsub:∀x c,cl.lookup x=some c→X.env.cells.lookup x=some c)
  (hok:Bh cl (relabel scope X.env).names=true) (hcaps:mQ X scope cl N' cs)
  (hb:∀(C:Addr) (s3:Shared) (H3:Hp) (fp:List Addr) (pn:List (Addr × Obj)),PG (eE X N' scope cl C s3 H3 fp pn) tg g∧yh (eE X N' scope cl C s3 H3 fp pn) ifs tt∧PE (eE X N' scope cl C s3 H3 fp pn) elt te)
  (hs:∀x,foldedSetIterable iter X.env x=pure x:=by intro _;rfl) (I:Inv X pins σ H s) (h:tLC wi cs g tt te σ H Q)
  (post:∀(D C:Addr) (s4:Shared) (H':Hp) (m:Str→Option Value),Inv X pins σ H' s4→s4.heap.Ns C m→rH X pins H' C→Q (.ref D) H'→compPost (model X.prog X.w) X.A X.xe use QQ (.ref D) C (.ok .next) s4):
  wpAny (model X.prog X.w) X.A (comprehension (.ListComp elt [⟨tg,iter,ifs,0⟩] scope pos) scope X.env fpos (newList []) false (eval iter X.env) use) QQ X.xe s:=by
 refine wpAny_comprehension_free (use:=use) rfl hs hclos hkind hnames (thn (hi pins s σ H _ I h) fun v s1 h1=>thn h1 fun itv s2 h2=>?_)
 obtain ⟨it,fp,tn,J,H2,rfl,I2,T,st2,f2,q2⟩:=h2
 refine wpAny_newObj_type (wpAny_newFunctionEnv hcell (by intro y hy;simp at hy) (fun h1 hns1 hsb1=>?_) hkind)
 dsimp only at hns1 hsb1 ⊢
 have I3:Inv X pins σ (upd H2 s2.heap.objs.size (.lst [])) {s2 with heap:=s2.heap.push {cls:=.type "list",data:=.seq ([]:List Value).toArray},toks:=s2.toks}:=I2.lnew (its:=[]) (ys:=[]) .nil (Nat.zero_le _)
 have hDf:H2 s2.heap.objs.size=none:=I2.fresh
 obtain ⟨W,⟨m0,w0⟩,turn⟩:=q2 _ hDf
 generalize hH3:s2.heap.push {cls:=.type "list",dict:=none,data:=.seq ([]:List Value).toArray}=h3 at hns1 hsb1 I3 ⊢
 have hsz3:h3.objs.size=s2.heap.objs.size+1:=by rw [←hH3,Heap.size_push]
 generalize hD:s2.heap.objs.size=D at *
 have kept:∀b o,h3.get? b=some o→h1.get? b=some o:=fun b o e=>hsb1.extBut b o (Nat.ne_of_lt (Heap.lt_size e)) (Heap.get?_push_of_some _ e)
 have old:∀b o,s2.heap.get? b=some o→h3.get? b=some o:=fun b o e=>by rw [←hH3];exact Heap.get?_push_of_some _ e
 have fpo:∀b∈fp,b < D:=fun b hb'=>by
  obtain ⟨o,e,_⟩:=T.obj 0 _ st2 b hb'
  rw [←hD]
  exact Heap.lt_size e
 have fpfs:∀b∈fp,b∉frs X.stack:=fun b hb' z=>by
  obtain ⟨_,f1,f3,_⟩:=f2 b hb'
  rcases List.mem_cons.mp (I2.stkSub b z) with e | e
  ·exact f1 e
  ·exact f3 e
 generalize hX:eE X N' scope cl h3.objs.size {s2 with heap:=h3,toks:=s2.toks} (upd H2 D (.lst [])) fp (X.pn++pins)=X'
 obtain ⟨hg,hif,he⟩:=hb h3.objs.size {s2 with heap:=h3,toks:=s2.toks} (upd H2 D (.lst [])) fp (X.pn++pins)
 rw [hX] at hg hif he
 have eP:X'.prog=X.prog:=by rw [←hX];rfl
 have eW:X'.w=X.w:=by rw [←hX];rfl
 have eK:X'.K=X.K:=by rw [←hX];rfl
 have eC:X'.calm=X.calm:=by rw [←hX];rfl
 have I4:Inv X' [] (fQ cs σ) (upd H2 D (.lst [])) {s2 with heap:=h1,toks:=s2.toks+0}:=by
  rw [←hX]
  refine ⟨⟨I3.ok.mod,hkind,I3.ok.glob,I3.ok.blt,Nat.le_refl _,fun x y c e1 e2=>I3.ok.inj x y c (hsub _ _ e1) (hsub _ _ e2),fun x hx=>vO hok hx,fun x c z _=>absurd (show false=true from z) Bool.false_ne_true,I3.ok.hd,I3.ok.frames,.inl rfl,
   fun b hb'=>⟨fun e=>?_,fun x c e=>(f2 b hb').2.2.2.2.1 x c (hsub _ _ e)⟩,I3.bs,Nat.le_trans I3.ok.bsz I3.sz,fun b o e hb'=>?_,fpfs,I3.stack,I3.stkFree⟩,rfl,I3.bare,Un.kept kept,⟨_,hns1,fun i x v e1 e2 e3=>?_⟩,fun x c e=>?_,I3.hok.fresh (Nat.le_refl _),fun x c e=>I3.freeC x c (hsub _ _ e),
   fun p hp=>?_,I3.hok.kept kept,?_⟩
  ·have l:=fpo b hb'
   rw [show b=h3.objs.size from e,hsz3] at l
   exact Nat.lt_irrefl _ (Nat.lt_of_succ_lt l)
  ·have l:=fpo b hb'
   rcases (f2 b hb').2.2.2.1 with z | z
   ·exact I2.ok.noex b o e z
   ·exact absurd (Nat.lt_of_lt_of_le (Heap.lt_size (I2.ok.bs b o e).1) z) (Nat.lt_irrefl _)
  ·obtain ⟨j,a1,a2,a3,a4,a5⟩:=hcaps.get e1 e2
   obtain ⟨m,hn,hl⟩:=I3.loc
   obtain ⟨u,ru,l⟩:=hl j x v a1 a2 (by rcases a3 with z | z;exact .inr (.inl z);exact .inr (.inr z))
   refine ⟨u,ru,.inr ⟨a4,?_⟩⟩
   rcases l with ⟨k,_⟩ | ⟨k,c,e,z⟩
   ·rcases a3 with q | q <;> (rw [k] at q;cases q)
   ·obtain ⟨o,ho,hd⟩:=z
    exact ⟨c,a5.trans e,o,kept c o ho,hd⟩
  ·obtain ⟨v,o,ho,hd⟩:=I3.cell x c (hsub _ _ e)
   exact ⟨v,o,kept c o ho,hd⟩
  ·have hp':p∈X.pn++pins:=by simpa [eE] using hp
   obtain ⟨e,n,ne,nf,d⟩:=I3.pin p hp'
   refine ⟨kept _ _ e,n,Nat.ne_of_lt (Heap.lt_size e),fun z=>?_,d⟩
   rcases List.mem_cons.mp (I3.stkSub p.1 z) with q | q
   ·exact ne q
   ·exact nf q
  ·show (fQ cs σ).length=N'.length
   rw [fQ,List.length_map]
   exact hcaps.len
 have tn1:tn 0 h1:=T.keep 0 _ _ st2 fun b hb' o e=>kept b o (old b o e)
 have stat:∀{H':Hp},(∀b∈fp,H' b=none)→∀b∈fp,rH X' [] H' b:=fun {H'} hn b hb'=>by
  rw [←hX]
  refine ⟨hn b hb',fun e=>?_,fpfs b hb',.inl hb',fun x c e=>(f2 b hb').2.2.2.2.1 x c (hsub _ _ e),fun p hp=>(f2 b hb').2.2.2.2.2 p (by simpa [eE] using hp)⟩
  have l:=fpo b hb'
  rw [show b=h3.objs.size from e,hsz3] at l
  exact Nat.lt_irrefl _ (Nat.lt_of_succ_lt l)
 have fr0:∀b∈fp,(upd H2 D (.lst [])) b=none:=fun b hb'=>by
  rw [ak (Nat.ne_of_lt (fpo b hb'))]
  exact (f2 b hb').1
 have xA:X'.A=X.A:=by rw [←hX];rfl
 have xE:X'.env=compEnvC scope cl h3.objs.size X.env:=by rw [←hX];rfl
 have xX:X'.xe=NoX:=by rw [←hX];rfl
 have loop:codeAny (model X.prog X.w) X.A (.compLoop (.ListComp elt [⟨tg,iter,ifs,0⟩] scope pos) 0 (.ref it) (.ref D) (compEnvC scope cl h3.objs.size X.env))
   (compPost (model X.prog X.w) X.A X.xe use QQ (.ref D) h3.objs.size) {s2 with heap:=h1,toks:=s2.toks+0}:=by
  refine pX (fun n s'=>∃i ys σ' H',Inv X' [] σ' H' s'∧tn i s'.heap∧(∀b∈fp,H' b=none)∧W i n ys σ' H') ?_ m0 ⟨0,[],_,_,I4,tn1,fr0,w0⟩
  rintro n s' ⟨i,ys,σ',H',I',st',fr',w'⟩
  obtain ⟨hHD,hyl,hor⟩:=turn i n ys σ' H' w'
  rcases hor with ⟨stop,q⟩ | ⟨go,step⟩
  ·have hd:=T.done X' eP eW eK (eC.trans hc) i [] s' σ' H' NoX I' (stat fr') st' stop
   rw [xA] at hd
   refine thn hd fun r s4 hr=>?_
   obtain ⟨rfl,I5⟩:=hr
   obtain ⟨m,hn,_⟩:=id I5.loc
   have eL:X'.env.locals=h3.objs.size:=by rw [xE];rfl
   have hfree:H' h3.objs.size=none:=by rw [←eL];exact I5.free
   have bu:=I5.base
   rw [←hX] at bu
   have hos:s4.os=s2.os:=by
    have z:=I5.os
    rw [←hX] at z
    exact z
   have hk5:=I5.hok
   rw [eP,eW] at hk5
   have Iout:Inv X pins σ H' s4:=I3.call' (s':=s4) (ch:=fp) hos ⟨bu.keep,bu.slot,bu.free,bu.there,bu.tups,bu.frzs,bu.tbls⟩ hk5 I5.bare fun b hb'=>by
    obtain ⟨_,g1,_,g3,g4,g5⟩:=f2 b hb'
    exact ⟨g3,g1,g4,g5⟩
   exact post D h3.objs.size s4 H' m Iout (by rw [eL] at hn;exact hn) (I3.fpOk (Nat.le_refl _) hfree) q
  ·have hit:=T.item X' eP eW eK (eC.trans hc) i [] s' σ' H' NoX I' (stat fr') st' go
   rw [xA] at hit
   refine thn hit fun r s4 hr=>?_
   obtain ⟨u,rfl,h4⟩:=hr
   refine thn h4 fun _ s5 h5=>?_
   obtain ⟨x,H5,I5,r5,y5,st5,fr5⟩:=h5
   have I5':=I5.pinned (stat fr5) (T.obj _ _ st5)
   have ha:=hg _ s5 σ' H5 x u _ I5' r5 (step x H5 y5)
   rw [xA,xE,xX,eP,eW] at ha
   refine thn ha fun _ s6 h6=>?_
   obtain ⟨σ6,H6,I6,q6⟩:=h6
   have ht:=hif _ s6 σ6 H6 _ I6 q6
   rw [xA,xE,xX,eP,eW] at ht
   refine thn ht fun ok s7 h7=>?_
   obtain ⟨H7,I7,q7⟩:=h7
   have back:∀{σ8:St} {H8:Hp} {s8:Shared} {ys':List V} {m':Nat},Inv X' ([]++nR fp s5.heap) σ8 H8 s8→m' < n→W (i+1) m' ys' σ8 H8→
     ∃m,m < n∧∃i ys σ' H',Inv X' [] σ' H' s8∧tn i s8.heap∧(∀b∈fp,H' b=none)∧W i m ys σ' H':=fun {σ8 H8 s8 ys' m'} I8 hm w8=>by
    refine ⟨m',hm,i+1,ys',σ8,H8,I8.unpinned,T.keep _ _ _ st5 fun b hb' o e=>(I8.pin (b,o) (List.mem_append_right _ (List.mem_append_right _ (fV hb' e)))).1,fun b hb'=>?_,w8⟩
    obtain ⟨o,e,d⟩:=T.obj _ _ st5 b hb'
    exact (I8.pin (b,o) (List.mem_append_right _ (List.mem_append_right _ (fV hb' e)))).2.1
   cases ok with
   | false=>
    rw [if_neg Bool.false_ne_true] at q7 ⊢
    obtain ⟨m',hm,w7⟩:=q7
    exact back I7 hm w7
   | true=>
    rw [if_pos rfl] at q7 ⊢
    have hel:=he _ s7 σ6 H7 _ I7 q7
    rw [xA,xE,xX,eP,eW] at hel
    refine thn hel fun yv s8 h8=>?_
    obtain ⟨y,H8,I8,r8,hD8,m',hm,w8⟩:=h8
    have hap:=cG (X:=X') _ s8 σ6 H8 (.ref D) [y] (.ref D) [yv] (fun _ H9=>H9=upd H8 D (.lst (ys++[y]))) I8 rfl (.cons r8 .nil) ⟨D,ys,y,rfl,rfl,hD8,hyl,rfl⟩
    rw [xA,xX,eP,eW] at hap
    refine thn hap fun _ s9 h9=>?_
    obtain ⟨_,H9,I9,_,rfl⟩:=h9
    exact back I9 hm w8
 exact codeAny_compStart_list loop (T.self _ 0 _ _ _ tn1 loop)
theorem mR (hc:X.calm=true) (hi:PI X tg iter wi) (hclos:closureFor scope X.env=pure cl) (hcell:∀y∈scope.names,y.2≠.cell) (hkind:scope.kind=.function)
  (hnames:∀y∈scope.names,y.2=.local→scope.names.lookup y.1=some .local) (hsub:∀x c,cl.lookup x=some c→X.env.cells.lookup x=some c)
  (hok:Bh cl (relabel scope X.env).names=true) (hcaps:mQ X scope cl N' cs)
  (hb:∀(C:Addr) (s3:Shared) (H3:Hp) (fp:List Addr) (pn:List (Addr × Obj)),PG (eE X N' scope cl C s3 H3 fp pn) tg g∧yh (eE X N' scope cl C s3 H3 fp pn) ifs tt∧PE (eE X N' scope cl C s3 H3 fp pn) elt te)
  (hs:∀x,foldedSetIterable iter X.env x=pure x:=by intro _;rfl):PE X (.ListComp elt [⟨tg,iter,ifs,0⟩] scope pos) (tLC wi cs g tt te):=by
 intro pins s σ H Q I h
 rw [eval_ListComp]
 refine Ds hc hi hclos hcell hkind hnames hsub hok hcaps hb hs I h fun D C s4 H' m I4 hn fC q=>⟨m,hn,fun h' hsb=>⟨.ref D,H',?_,rfl,q⟩⟩
 obtain ⟨f0,f1,f2,f3,f4,f5⟩:=fC
 exact I4.turned (t':=s4.toks) (fun b o hb e=>(hsb.2 b hb).trans e) f0 f1 f3 f4 f5
theorem gr {i:Nat} {y:Str} {py spos:Pos} (hN:X.N.Nodup) (hiy:X.N[i]?=some y) (hly:X.env.scope.names.lookup y=some .local) (hsw:swapsWith (.ListComp elt [⟨tg,iter,ifs,0⟩] scope pos) (some (.Name y py)) spos.line X.env=pure true)
  (hc:X.calm=true) (hi:PI X tg iter wi) (hclos:closureFor scope X.env=pure cl) (hcell:∀y∈scope.names,y.2≠.cell) (hkind:scope.kind=.function)
  (hnames:∀y∈scope.names,y.2=.local→scope.names.lookup y.1=some .local) (hsub:∀x c,cl.lookup x=some c→X.env.cells.lookup x=some c)
  (hok:Bh cl (relabel scope X.env).names=true) (hcaps:mQ X scope cl N' cs)
  (hb:∀(C:Addr) (s3:Shared) (H3:Hp) (fp:List Addr) (pn:List (Addr × Obj)),PG (eE X N' scope cl C s3 H3 fp pn) tg g∧yh (eE X N' scope cl C s3 H3 fp pn) ifs tt∧PE (eE X N' scope cl C s3 H3 fp pn) elt te)
  (hs:∀x,foldedSetIterable iter X.env x=pure x:=by intro _;rfl):PS X (.Assign [.Name y py] (.ListComp elt [⟨tg,iter,ifs,0⟩] scope pos) spos) (vG (tLC wi cs g tt te) (cJ i)):=by
 intro pins s σ H D0 I h
 rw [exec_Assign_Name_used _ _ _ _ hsw]
 refine wpAny_bind (wpAny_standAt (wpAny_bind ?_))
 show wpAny _ X.A (do let _ ←comprehension (.ListComp elt [⟨tg,iter,ifs,0⟩] scope pos) scope X.env _ (newList []) false (eval iter X.env) (some (assign (.Name y py) X.env))) _ _ s
 refine wpAny_bind (wpAny_mono (Ds (use:=some (assign (.Name y py) X.env)) (QQ:=fun _ s'=>SP X pins D0 .next s') hc hi hclos hcell hkind hnames hsub hok hcaps hb hs I h ?_) (fun _ s' hq=>wpAny_pure (wpAny_pure hq)) fun _ _ e=>e)
 intro D C s4 H' m I4 hn fC q
 obtain ⟨f0,f1,f2,f3,f4,f5⟩:=fC
 refine wpAny_assign_Name (nQ I4 hN hiy (.inl hly) (v:=.ref D) rfl (fun s6 I6 ⟨a,sb,ha⟩=>?_) (.inr hly))
 have hCa:C≠a:=by
  rcases ha with rfl | ha
  ·exact f1
  ·exact fun e=>f4 _ _ ha e.symm
 refine ⟨m,hn.sameBut sb hCa,fun h' hsb=>⟨_,H',?_,q⟩⟩
 exact I6.turned (t':=s6.toks) (fun b o hb e=>(hsb.2 b hb).trans e) f0 f1 f3 f4 f5
end
noncomputable def Wk (J:It) (H1:Hp) (xs:List V):Prop:=∀H',aB H1 H'→J.stop xs.length H'∧(∀i,i < xs.length→J.go i H')∧∀i x H2,i < xs.length→J.yld i H' x H2→H2=H'∧xs[i]?=some x
theorem dD {K:PySem.W.Frag} {a:Addr} {xs:List V} {H1:Hp} (h:SqL K H1 a xs):Wk (Itl K a) H1 xs:=fun H' sm=>
 ⟨⟨xs,sm.seq h,Nat.le_refl _⟩,fun i hi=>⟨xs,xs[i],sm.seq h,by simp [hi]⟩,fun i x H2 _ y=>⟨y.1,y.2 xs (sm.seq h)⟩⟩
theorem PN {J:It} {xs:List V} {g:TG} {tb:TS} {D:Ends} {σ:St} {H:Hp} (Pv:Nat→St→Hp→Prop) (wk:Wk J H xs) (h0:Pv 0 σ H) (hm:∀i σ' H',Pv i σ' H'→aB H H')
  (hs:∀i x σ' H',xs[i]?=some x→Pv i σ' H'→g x σ' H' fun σ2 H2=>tb {D with nx:=Pv (i+1),ct:=Pv (i+1),bk:=D.nx} σ2 H2) (hd:∀σ' H',Pv xs.length σ' H'→D.nx σ' H'):
  ∃W:Nat→Nat→St→Hp→Prop,(∃m,W 0 m σ H)∧∀i m σ H,W i m σ H→
   (J.stop i H∧D.nx σ H)∨(J.go i H∧∃N:St→Hp→Prop,(∀σ' H',N σ' H'→∃m',m' < m∧W (i+1) m' σ' H')∧∀x H',J.yld i H x H'→g x σ H' fun σ2 H2=>tb {D with nx:=N,ct:=N,bk:=D.nx} σ2 H2):=by
 refine ⟨fun i m σ' H'=>m=xs.length - i∧i≤xs.length∧Pv i σ' H',⟨xs.length,by simp,Nat.zero_le _,h0⟩,?_⟩
 rintro i m σ' H' ⟨rfl,hi,p⟩
 obtain ⟨w1,w2,w3⟩:=wk H' (hm i σ' H' p)
 by_cases hlt:i < xs.length
 ·refine .inr ⟨w2 i hlt,Pv (i+1),fun σ2 H2 p'=>⟨xs.length - (i+1),by omega,rfl,hlt,p'⟩,fun x H2 y=>?_⟩
  obtain ⟨rfl,ex⟩:=w3 i x H2 hlt y
  exact hs i x σ' _ ex p
 ·have e:i=xs.length:=by omega
  subst e
  exact .inl ⟨w1,hd σ' H' p⟩
theorem Du {J:It} {xs:List V} {cs:List (Option Nat)} {σ rest:St} {tt:TT} {te:TE} {Q:VK} {H1:Hp} (hcs:fQ cs σ=none::rest) (wk:Wk J H1 xs) (hl:xs.length < sizeLine) (p:V→Bool) (f:V→V)
  (test:∀(i:Nat) (x:V) (H2:Hp) (R:Bool→Hp→Prop),xs[i]?=some x→aB H1 H2→(∀H5,aB H2 H5→R (p x) H5)→tt (some x::rest) H2 R)
  (elt:∀(i:Nat) (x:V) (H2:Hp) (R:VK),xs[i]?=some x→p x=true→aB H1 H2→(∀H5,aB H2 H5→R (f x) H5)→te (some x::rest) H2 R)
  (fin:∀(D:Addr) (H':Hp),H1 D=none→H' D=some (.lst ((xs.filter p).map f))→aB H1 H'→Q (.ref D) H'):
  ∀D,H1 D=none→∃W:Nat→Nat→List V→St→Hp→Prop,(∃m,W 0 m [] (fQ cs σ) (upd H1 D (.lst [])))∧∀i m ys σ' H',W i m ys σ' H'→H' D=some (.lst ys)∧ys.length < sizeLine∧
   ((J.stop i H'∧Q (.ref D) H')∨(J.go i H'∧∀x H2,J.yld i H' x H2→cJ 0 x σ' H2 fun σ3 H3=>tt σ3 H3 fun b H4=>
    if b=true then te σ3 H4 fun y H5=>H5 D=some (.lst ys)∧∃m',m' < m∧W (i+1) m' (ys++[y]) σ3 (upd H5 D (.lst (ys++[y])))
    else ∃m',m' < m∧W (i+1) m' ys σ3 H4)):=by
 intro D hD
 refine ⟨fun i m ys σ' H'=>m=xs.length - i∧i≤xs.length∧ys=((xs.take i).filter p).map f∧(∃o,σ'=o::rest)∧aB H1 H'∧H' D=some (.lst ys),⟨xs.length,by simp,Nat.zero_le _,by simp,⟨none,hcs⟩,fun b o e=>?_,aj⟩,?_⟩
 ·rw [ak (aA e hD)]
  exact e
 ·rintro i m ys σ' H' ⟨rfl,hi,rfl,⟨o,rfl⟩,sm,hHD⟩
  obtain ⟨w1,w2,w3⟩:=wk H' sm
  refine ⟨hHD,Nat.lt_of_le_of_lt ?_ hl,?_⟩
  ·rw [List.length_map]
   refine Nat.le_trans (List.length_filter_le _ _) ?_
   rw [List.length_take]
   exact Nat.min_le_right _ _
  by_cases hlt:i < xs.length
  ·refine .inr ⟨w2 i hlt,fun x H2 y=>?_⟩
   obtain ⟨rfl,ex⟩:=w3 i x H2 hlt y
   show tt (some x::rest) H2 _
   refine test i x H2 _ ex sm fun H4 s4=>?_
   have tk:xs.take (i+1)=xs.take i++[x]:=by rw [List.take_add_one,ex];rfl
   cases hp:p x with
   | true=>
    refine jR ?_
    refine elt i x H4 _ ex hp (sm.trans s4) fun H5 s5=>⟨s5 _ _ (s4 _ _ hHD),xs.length - (i+1),by omega,rfl,hlt,?_,⟨_,rfl⟩,fun b ob e=>?_,aj⟩
    ·rw [tk,List.filter_append,List.map_append]
     simp [hp]
    ·rw [ak (aA e hD)]
     exact s5 _ _ (s4 _ _ (sm _ _ e))
   | false=>
    refine lQ ⟨xs.length - (i+1),by omega,rfl,hlt,?_,⟨_,rfl⟩,sm.trans s4,s4 _ _ hHD⟩
    rw [tk,List.filter_append,List.map_append]
    simp [hp]
  ·have e:i=xs.length:=by omega
   subst e
   exact .inl ⟨w1,fin D H' hD (by rw [hHD,List.take_length]) sm⟩
theorem KH {J:It} {xs:List V} {cs:List (Option Nat)} {σ rest:St} {te:TE} {Q:VK} {H1:Hp} (hcs:fQ cs σ=none::rest) (wk:Wk J H1 xs) (hl:xs.length < sizeLine) (f:V→V)
  (elt:∀(i:Nat) (x:V) (H2:Hp) (R:VK),xs[i]?=some x→aB H1 H2→(∀H5,aB H2 H5→R (f x) H5)→te (some x::rest) H2 R)
  (fin:∀(D:Addr) (H':Hp),H1 D=none→H' D=some (.lst (xs.map f))→aB H1 H'→Q (.ref D) H'):
  ∀D,H1 D=none→∃W:Nat→Nat→List V→St→Hp→Prop,(∃m,W 0 m [] (fQ cs σ) (upd H1 D (.lst [])))∧∀i m ys σ' H',W i m ys σ' H'→H' D=some (.lst ys)∧ys.length < sizeLine∧
   ((J.stop i H'∧Q (.ref D) H')∨(J.go i H'∧∀x H2,J.yld i H' x H2→cJ 0 x σ' H2 fun σ3 H3=>yj σ3 H3 fun b H4=>
    if b=true then te σ3 H4 fun y H5=>H5 D=some (.lst ys)∧∃m',m' < m∧W (i+1) m' (ys++[y]) σ3 (upd H5 D (.lst (ys++[y])))
    else ∃m',m' < m∧W (i+1) m' ys σ3 H4)):=
 Du hcs wk hl (fun _=>true) f (fun i x H2 R _ _ h=>h H2 (aB.refl _)) (fun i x H2 R ex _ sm h=>elt i x H2 R ex sm h) fun D H' h1 h2 h3=>fin D H' h1 (by rw [h2,List.filter_eq_self.mpr fun _ _=>rfl]) h3
open PySem PySem.Spec PyProof.Rows L2
noncomputable def signs (x:Str):List V:=x.cps.toList.map fun c=>V.str ⟨#[c]⟩
noncomputable def Its (x:Str):It:=⟨fun i _=>i < x.cps.size,fun i H v H'=>H'=H∧∃c,x.cps[i]?=some c∧v=.str ⟨#[c]⟩,fun i _=>i=x.cps.size⟩
theorem KJ {H1:Hp} (x:Str):Wk (Its x) H1 (signs x):=fun H' _=>by
 have hl:(signs x).length=x.cps.size:=by simp [signs]
 refine ⟨hl,fun i hi=>by rw [hl] at hi;exact hi,fun i v H2 hi y=>?_⟩
 obtain ⟨e1,c,e2,e3⟩:=y
 refine ⟨e1,?_⟩
 subst e3
 have e4:x.cps.toList[i]?=some c:=by simpa using e2
 simp [signs,e4]
theorem Dv {P:Program} {w:World} {K:PySem.W.Frag} {tg:Expr} (it:Addr) (x:Str) (t:Tok) {ty:String} (hty:ty="str_ascii_iterator"∨ty="str_iterator"):Turn P w K tg (Its x) [it] it (fun i h=>h.IsStrIter it ty x t i) where
 mem:=by simp
 obj:=fun i h st b hb=>by
  have e:b=it:=by simpa using hb
  subst e
  obtain ⟨o,e,c,d⟩:=st
  exact ⟨o,e,fun v z=>by rw [d] at z;cases z⟩
 keep:=fun i h h' st k=>by
  obtain ⟨o,e,r⟩:=st
  exact ⟨o,k it (by simp) o e,r⟩
 item:=by
  intro X hP hw hK hc i pins s σ H E I hf st hg
  subst hP hw hK
  obtain ⟨f0,f1,f2,f3,f4,f5⟩:=hf it (by simp)
  have hi:i < x.cps.size:=hg
  have ec:x.cps[i]?=some x.cps[i]:=by simp [hi]
  rcases hty with rfl | rfl
  ·refine wpAny_pyNext_ascii_item st ec fun h' st' sb=>?_
   have I1:Inv X pins σ H {s with heap:=h',toks:=s.toks+1}:=I.turned (fun b o hb e=>(sb.2 b hb).trans e) f0 f1 f3 f4 f5
   obtain ⟨o,e,c,d⟩:=id st'
   exact ⟨_,rfl,rY (s:={s with heap:=h',toks:=s.toks+1}) e c d (by decide) ⟨.str ⟨#[x.cps[i]]⟩,H,I1,⟨_,rfl⟩,⟨rfl,_,ec,rfl⟩,st',fun b hb=>(hf b hb).1⟩⟩
  ·refine wpAny_pyNext_wide_item st ec fun h' st' sb=>?_
   have I1:Inv X pins σ H {s with heap:=h',toks:=s.toks+1}:=I.turned (fun b o hb e=>(sb.2 b hb).trans e) f0 f1 f3 f4 f5
   obtain ⟨o,e,c,d⟩:=id st'
   exact ⟨_,rfl,rY (s:={s with heap:=h',toks:=s.toks+1}) e c d (by decide) ⟨.str ⟨#[x.cps[i]]⟩,H,I1,⟨_,rfl⟩,⟨rfl,_,ec,rfl⟩,st',fun b hb=>(hf b hb).1⟩⟩
 done:=by
  intro X hP hw hK hc i pins s σ H E I hf st hg
  subst hP hw hK
  obtain ⟨f0,f1,f2,f3,f4,f5⟩:=hf it (by simp)
  have ec:x.cps[i]?=none:=by
   have e:i=x.cps.size:=hg
   simp [e]
  rcases hty with rfl | rfl
  ·exact wpAny_pyNext_ascii_end (I.ok.hd hc) st ec fun h' eb=>⟨rfl,I.turned (t':=s.toks) (fun b o hb e=>eb b o hb e) f0 f1 f3 f4 f5⟩
  ·exact wpAny_pyNext_wide_end (I.ok.hd hc) st ec fun h' eb=>⟨rfl,I.turned (t':=s.toks) (fun b o hb e=>eb b o hb e) f0 f1 f3 f4 f5⟩
 self:=fun _ _ _ _ _ st h=>by
  rcases hty with rfl | rfl
  ·exact wpAny_pyIter_striter_ascii st h
  ·exact wpAny_pyIter_striter_wide st h
section
variable {X:Cx} {tg:Expr}
noncomputable def PP (tl:TE):TI:=fun σ H R=>tl σ H fun x H1=>∃z,x=.str z∧R (Its z) H1
theorem KN {l:Expr} {tl:TE} (hl:PE X l tl):PI X tg l (PP tl):=by
 intro pins s σ H R I h
 refine thn (hl pins s σ H _ I h) fun v s1 ⟨x,H1,I1,r1,q1⟩=>?_
 obtain ⟨z,e,q⟩:=q1
 subst e
 obtain ⟨t,rfl⟩:=r1
 have fin:∀(ty:String) (_:ty="str_ascii_iterator"∨ty="str_iterator"),PIE X pins σ tg R (.ref s1.heap.objs.size) {s1 with heap:=s1.heap.push {cls:=.type ty,data:=.fields #[.str z t,.int 0 0]}}:=fun ty hty=>by
  refine ⟨s1.heap.objs.size,[s1.heap.objs.size],_,_,H1,rfl,I1.kept (t':=s1.toks) fun b o e=>Heap.get?_push_of_some _ e,Dv _ z t hty,⟨_,Heap.get?_push_size _ rfl,rfl,rfl⟩,fun b hb=>?_,q⟩
  have e:b=s1.heap.objs.size:=by simpa using hb
  subst e
  exact I1.fpOk (Nat.le_refl _) (I1.hok.fresh (Nat.le_refl _))
 cases ha:z.cps.all (· < 128) with
 | true=>exact wpAny_pyIter_ascii ha (fin _ (.inl rfl))
 | false=>exact wpAny_pyIter_wide ha (fin _ (.inr rfl))
end
section
variable {X:Cx} {e:Expr} {te:TE} {lo hi:Option Expr} {tl th:TO} {pos p2:Pos}
theorem sS:OpR X (compareOp .LtE) (fun x y H Q=>∃i j,x=.str i∧y=.str j∧Q (.bl (!decide (j.cps.toList < i.cps.toList))) H):=by
 intro pins s σ H x y v u Q I rx ry h
 obtain ⟨i,j,rfl,rfl,q⟩:=h
 obtain ⟨t,rfl⟩:=rx
 obtain ⟨t',rfl⟩:=ry
 exact PySem.P.le_str (bj I q rfl)
theorem Dw (c a:Nat):(!decide ((⟨#[c]⟩:Str).cps.toList < (⟨#[a]⟩:Str).cps.toList))=decide (a≤c):=by
 have h:((⟨#[c]⟩:Str).cps.toList < (⟨#[a]⟩:Str).cps.toList)↔c < a:=by
  show ([c]:List Nat) < [a]↔c < a
  simp [List.cons_lt_cons_iff]
 by_cases q:c < a
 ·rw [decide_eq_true (h.mpr q),decide_eq_false (by omega)]
  rfl
 ·rw [decide_eq_false fun z=>q (h.mp z),decide_eq_true (by omega)]
  rfl
theorem pY (hc:X.calm=true):eU X (.builtin "all") (fun xs H Q=>∃(p:Addr) (bs:List Bool),xs=[.ref p]∧SqL X.K H p (bs.map V.bl)∧Q (.bl (bs.all id)) H):=by
 intro pins s σ H xs us Q I r h
 obtain ⟨p,bs,rfl,hq,q⟩:=h
 obtain ⟨u,rfl,ru⟩:=vals1 r
 cases ru
 obtain ⟨its,rv,pl,hz⟩:=I.list hq
 have hlen:bs.length=its.length:=by have:=rv.length;rwa [List.length_map] at this
 obtain ⟨o,n,eo,_⟩:=id pl
 have hne:p≠s.heap.objs.size:=Nat.ne_of_lt (Heap.lt_size eo)
 have hh:X.A.in1.handled=none:=I.ok.hd hc
 refine call_all_walk (wpAny_pyIter_list pl.isList ?_)
 refine ⟨s.heap.objs.size,[s.heap.objs.size,p],[s.heap.objs.size],its.toArray.size,_,_,fun i=>bs.getD i false,rfl,Walks.list hh _ p hne its.toArray,⟨⟨_,Heap.get?_push_size _ rfl,rfl,rfl⟩,pl.isList.push _⟩,?_,fun h' tk k=>?_⟩
 ·intro i v s' Q' E' hP hQ
  have hP':its[i]?=some v:=by simpa using hP
  have hi:i < its.length:=(List.getElem?_eq_some_iff.mp hP').1
  have hb:(bs.map V.bl)[i]?=some (V.bl (bs.getD i false)):=by
   rw [List.getElem?_map,List.getElem?_eq_getElem (by omega:i < bs.length)]
   simp [List.getD,hlen▸hi]
  obtain ⟨u',e',r'⟩:=rv.get hb
  rw [hP'] at e'
  cases e'
  cases r'
  exact wpAny_truthy_bool hQ
 ·have e:(List.range its.toArray.size).all (fun i=>bs.getD i false)=bs.all id:=by
   rw [List.size_toArray,←hlen,Bool.eq_iff_iff]
   simp only [List.all_eq_true,List.mem_range]
   constructor
   ·intro a b hb
    obtain ⟨i,hi,rfl⟩:=List.mem_iff_getElem.mp hb
    have:=a i hi
    simpa [List.getD,hi] using this
   ·intro a i hi
    have:=a bs[i] (List.getElem_mem hi)
    simpa [List.getD,hi] using this
  rw [e]
  exact ⟨.bl (bs.all id),H,I.kept fun b ob z=>k b ob (by simpa using Nat.ne_of_lt (Heap.lt_size z)) (Heap.get?_push_of_some _ z),rfl,q⟩
theorem jg:eU X (.builtin "isinstance") (fun xs H Q=>∃x c cv t b,xs=[x,c]∧(c=.ty cv∧nU X.K H x t∧PySem.W.kitOne X.K t (.type cv)=some b)∧Q (.bl b) H):=by
 intro pins s σ H xs us Q I r h
 obtain ⟨x,c,cv,t,b,rfl,⟨rfl,ty,e⟩,q⟩:=h
 obtain ⟨u,w',rfl,ru,rw'⟩:=vals2 r
 cases rw'
 exact Az I ru ty e fun tk=>⟨.bl b,H,I.tok tk,rfl,q⟩
end
mutual
inductive Dt (K:PySem.W.Frag) (H:Hp):V→PyData→Prop
 | non:Dt K H .non .none
 | bl (b:Bool):Dt K H (.bl b) (.bool b)
 | int (i:Int):Dt K H (.int i) (.int i)
 | str (x:Str):Dt K H (.str x) (.str x)
 | lst {a:Addr} {xs:List V} {ds:List PyData}:SqL K H a xs→Dts K H xs ds→Dt K H (.ref a) (.list ds)
 | tup {a:Addr} {xs:List V} {ds:List PyData}:SqT K H a xs→Dts K H xs ds→Dt K H (.ref a) (.tuple ds)
inductive Dts (K:PySem.W.Frag) (H:Hp):List V→List PyData→Prop
 | nil:Dts K H [] []
 | cons {v:V} {d:PyData} {vs:List V} {ds:List PyData}:Dt K H v d→Dts K H vs ds→Dts K H (v::vs) (d::ds)
end
section
variable {X:Cx} {pins:List (Addr × Obj)} {σ:St} {H:Hp} {s:Shared}
mutual
theorem jT (I:Inv X pins σ H s):∀{v:V} {d:PyData} {u:Value},Dt X.K H v d→RelV v u→∃as,Reads s.heap u d as
 | _,_,_,.non,r=>by cases r;exact ⟨_,.none⟩
 | _,_,_,.bl b,r=>by cases r;exact ⟨_,.bool b⟩
 | _,_,_,.int i,r=>by obtain ⟨t,rfl⟩:=r;exact ⟨_,.int i t⟩
 | _,_,_,.str x,r=>by obtain ⟨t,rfl⟩:=r;exact ⟨_,.str x t⟩
 | _,_,_,.lst h ds,r=>by
  cases r
  obtain ⟨its,rv,⟨o,n,e,c,_,d⟩,_⟩:=I.list h
  obtain ⟨as,q⟩:=nY I ds rv
  exact ⟨_,.list e c d (by simpa using q)⟩
 | _,_,_,.tup h ds,r=>by
  cases r
  obtain ⟨its,rv,⟨o,e,c,n,d⟩,_⟩:=I.tuple h
  obtain ⟨as,q⟩:=nY I ds rv
  exact ⟨_,.tuple e c d (by simpa using q)⟩
theorem nY (I:Inv X pins σ H s):∀{vs:List V} {ds:List PyData} {us:List Value},Dts X.K H vs ds→Vals vs us→∃as,ReadsAll s.heap us ds as
 | _,_,_,.nil,.nil=>⟨_,.nil⟩
 | _,_,_,.cons a b,.cons r t=>by
  obtain ⟨as,q⟩:=jT I a r
  obtain ⟨bs,q'⟩:=nY I b t
  exact ⟨_,.cons q q'⟩
end
end
section
variable {X:Cx}
noncomputable def PQ (K:PySem.W.Frag) (neg:Bool):R2:=fun x y H Q=>∃d e,Dt K H x d∧Dt K H y e∧SeqAt.shaped d=true∧SeqAt.shaped e=true∧Q (.bl (if neg then !PyData.eqv d e else PyData.eqv d e)) H
theorem KQ (hu:X.A.units+64 < cLine):OpR X (compareOp .NotEq) (PQ X.K true):=by
 intro pins s σ H x y v u Q I rx ry h
 obtain ⟨d,e,hd,he,sd,se,q⟩:=h
 obtain ⟨as,ra⟩:=jT I hd rx
 obtain ⟨bs,rb⟩:=jT I he ry
 exact ne_dataH ra rb sd se hu ⟨.bl _,H,I,rfl,q⟩
end
open PySem PySem.Spec PyProof.Rows L2
noncomputable def rM (val:Nat→Str):Nat→Str→Bool
 | 0=>fun _=>false
 | i+1=>fun k=>rM val i k || decide (k=val i)
noncomputable def nZ (val:Nat→Str):Nat→Nat
 | 0=>0
 | i+1=>if rM val i (val i) then nZ val i else nZ val i+1
theorem zy (val:Nat→Str):∀i,nZ val i≤i
 | 0=>Nat.le_refl _
 | i+1=>by
  have:=zy val i
  unfold nZ
  split <;> omega
theorem vP (val:Nat→Str) (k:Str):∀i,rM val i k=true↔∃j,j < i∧val j=k
 | 0=>by simp [rM]
 | i+1=>by
  simp only [rM,Bool.or_eq_true,vP val k i,decide_eq_true_eq]
  constructor
  ·rintro (⟨j,hj,e⟩ | e)
   ·exact ⟨j,by omega,e⟩
   ·exact ⟨i,by omega,e.symm⟩
  ·rintro ⟨j,hj,e⟩
   by_cases h:j=i
   ·subst h
    exact .inr e.symm
   ·exact .inl ⟨j,by omega,e⟩
theorem vQ (val:Nat→Str):∀n,(∀i j,i < j→j < n→val i≠val j)→nZ val n=n
 | 0,_=>rfl
 | n+1,h=>by
  have ih:=vQ val n fun i j a b=>h i j a (by omega)
  have hm:¬rM val n (val n)=true:=fun z=>by
   obtain ⟨j,hj,e⟩:=(vP val (val n) n).mp z
   exact h j n hj (by omega) e
  unfold nZ
  rw [if_neg hm,ih]
theorem isS (x:Str) (t:Tok):Value.isStrOf x (.str x t)=true:=by simp [Value.isStrOf]
theorem Bj {prog:Program} {w:World} {A:Around} {R:Result→Shared→Prop} {I:Addr} {fp wr:List Addr} {n:Nat} {Pv:Nat→Value→Prop} {St':Nat→Heap→Prop} (W:Walks prog w A.in1 I fp wr n Pv St') (S:Addr) (hSf:S∉fp)
  (val:Nat→Str) (hval:∀i v,Pv i v→∃t,v=.str (val i) t) (hb:n+1 < scanBound):∀(k i:Nat) (s:Shared),n - i=k→i≤n→St' i s.heap→s.heap.SetOf (strKind prog w) S (rM val i) (nZ val i)→
   (∀h' tk,(∀b o,b≠S→b∉wr→s.heap.get? b=some o→h'.get? b=some o)→h'.SetOf (strKind prog w) S (rM val n) (nZ val n)→R (.ok (.ret .none)) {s with heap:=h',toks:=tk})→
   codeAny (model prog w) A (.builtin "set.update.loop" ⟨[.ref S,.ref I],[]⟩) R s:=by
 have hSw:S∉wr:=fun z=>hSf (W.sub _ z)
 have stays:∀{h h':Heap} {S':Str→Bool} {m:Nat},(∀o,h.get? S=some o→h'.get? S=some o)→h.SetOf (strKind prog w) S S' m→h'.SetOf (strKind prog w) S S' m:=fun kk ⟨o,es,ep,t,ho,r⟩=>⟨o,es,ep,t,kk o ho,r⟩
 intro k
 induction k with
 | zero=>
  intro i s hk hi st hS hR
  obtain rfl:i=n:=by omega
  refine codeAny_builtin PyProof.Rows.F.entry_set_update_loop ?_
  rw [Around.under_plainId PyProof.Rows.F.plain_set_update_loop _]
  show wpAny _ A.in1 (pyNext (.ref I) >>=_) _ _ s
  refine wpAny_bind (W.done s _ _ st fun h' tk kk=>?_)
  show wpAny _ A.in1 (ret Value.none) _ _ _
  exact wpAny_pure (hR h' tk (fun b o _ hb e=>kk b o hb e) (stays (fun o e=>kk S o hSw e) hS))
 | succ k ih=>
  intro i s hk hi st hS hR
  have hlt:i < n:=by omega
  refine codeAny_builtin PyProof.Rows.F.entry_set_update_loop ?_
  rw [Around.under_plainId PyProof.Rows.F.plain_set_update_loop _]
  show wpAny _ A.in1 (pyNext (.ref I) >>=_) _ _ s
  refine wpAny_bind (W.item i s _ _ hlt st fun v h1 tk hP st1 kk=>?_)
  obtain ⟨t,rfl⟩:=hval i v hP
  have hS1:=stays (fun o e=>kk S o hSw e) hS
  show wpAny _ A.in1 (holding [Value.str (val i) t] (setAdd S (.str (val i) t)) >>=_) _ _ _
  refine wpAny_bind (wpAny_holding ?_)
  unfold setAdd
  refine wpAny_holding (wpAny_bind ((strKind prog w).pyHash (k:=val i) (isS (val i) t) ?_))
  have hroom:nZ val i+1 < scanBound:=by have:=zy val i;omega
  refine wpAny_setAddHashed_of (knd:=strKind prog w) (isS (val i) t) rfl hS1 hroom fun h2 sb hS2=>?_
  refine wpAny_pure ⟨plainId_quiet PyProof.Rows.F.plain_set_update_loop _,ih (i+1) _ (by omega) hlt (W.frame _ _ _ st1 fun b hb' o e=>(sb.2 b fun z=>hSf (z▸hb')).trans e) hS2 fun h3 tk3 kk3 hS3=>?_⟩
  exact hR h3 tk3 (fun b o hb1 hb2 e=>kk3 b o hb1 hb2 ((sb.2 b hb1).trans (kk b o hb2 e))) hS3
set_option maxHeartbeats 8000000 in
theorem uq {prog:Program} {w:World} {A:Around} {E:Value→Shared→Prop} {s:Shared} {l:Addr} {items:Array Value} {val:Nat→Str} {Q:Value→Shared→Prop} (hh:A.handled=none) (hl:s.heap.IsList l items)
  (hval:∀(i:Nat) (v:Value),items[i]?=some v→∃t,v=.str (val i) t) (hb:items.size+1 < scanBound)
  (h:∀(h':Heap) (tk:Nat),h'.SetOf (strKind prog w) s.heap.objs.size (rM val items.size) (nZ val items.size)→(∀b o,s.heap.get? b=some o→h'.get? b=some o)→Q (.ref s.heap.objs.size) {s with heap:=h',toks:=tk}):
  wpAny (model prog w) A (call (.type "set") [.ref l]) Q E s:=by
 obtain ⟨c,tl,hmro⟩:=F.called_set.mro
 have m1:=F.called_set.made
 have m2:=F.called_set.sub
 have m3:=F.called_set.notType
 have m4:=F.called_set.canCreate
 have m5:=F.typeCall_set_1 (.ref l)
 refine wpAny_call (codeAny_of_tree ?_)
 show wpAny _ _ (callAny (.type "set") _) _ _ _
 refine wpAny_pure ⟨Code.quiet_builtin _ (by decide+kernel),codeAny_builtin F.entry_type_call ?_⟩
 rw [Around.under_plain (weight_type_call_type "set" [.ref l] []) rfl]
 repeat (any_goals (first | assumption | wp_step))
 generalize hS0:s.heap.objs.size=S at *
 refine codeAny_mono (code_set_new_1 (.ref l) (E:=E) (Q₁:=fun ob s1=>∃led:Bool,ob=.ref S∧s1={s with heap:=s.heap.push {cls:=.type "set",dict:=none,data:=.set #[] 0 (.fresh 0 0 led)}}) fun led=>⟨led,by rw [hS0],rfl⟩) fun r s1 hr=>?_
 cases r with
 | error e=>exact hr
 | ok fl=>
  cases fl with
  | ret ob=>
   obtain ⟨led,rfl,rfl⟩:=hr
   have hget:(s.heap.push {cls:=.type "set",dict:=none,data:=.set #[] 0 (.fresh 0 0 led)}).get? S=some {cls:=.type "set",dict:=none,data:=.set #[] 0 (.fresh 0 0 led)}:=by
    rw [←hS0]
    exact Heap.get?_push_size _ rfl
   have hT:Shared.TypeIs {s with heap:=s.heap.push {cls:=.type "set",dict:=none,data:=.set #[] 0 (.fresh 0 0 led)}} (.ref S) "set":=⟨_,hget,rfl⟩
   have n1:=F.called_set.init.lookup
   have n2:=F.called_set.init.bind (.ref S)
   repeat (any_goals (first | assumption | wp_step))
   refine codeAny_mono (codeAny_call_builtin (R:=wants (fun r s2=>r=.none∧∃h' tk,s2={s with heap:=h',toks:=tk}∧h'.SetOf (strKind prog w) S (rM val items.size) (nZ val items.size)∧(∀b o,s.heap.get? b=some o→h'.get? b=some o)) E)
    F.called_set.init.plain F.entry_set_init (check_set_init_1 hT ?_)) fun r2 s2 hr2=>?_
   ·obtain ⟨⟨oc,od,odt,osl⟩,hol,hcl,nl,hdl⟩:=id hl
    simp only at hcl hdl
    subst hcl hdl
    have hol':=Heap.get?_push_of_some (h:=s.heap) {cls:=.type "set",dict:=none,data:=.set #[] 0 (.fresh 0 0 led)} hol
    have p1:=F.sub_list_set
    have p2:=F.sub_list_frozenset
    have p3:(Value.type "list"==Value.type "dict")=false:=by decide
    have hl1:=hl.push (o:={cls:=.type "set",dict:=none,data:=.set #[] 0 (.fresh 0 0 led)})
    unfold Builtin.«set.__init__» noKeywords Builtin.Frozenset.updateFrom
    generalize hPI:pyIter=PI
    wp_walk
    subst hPI
    refine wpAny_pyIter_list hl1 (wpAny_bind (wpAny_runValue ?_))
    have hlS:l < S:=by rw [←hS0];exact Heap.lt_size hol
    have hsz:(s.heap.push {cls:=.type "set",dict:=none,data:=.set #[] 0 (.fresh 0 0 led)}).objs.size=S+1:=by rw [Heap.size_push,hS0]
    refine Bj (Walks.list (A:=A.in1.in1.in1) (by simp [hh]) _ l (by rw [hsz];exact Nat.ne_of_lt (Nat.lt_succ_of_lt hlS)) items) S ?_ val hval hb (items.size - 0) 0 _ (by omega) (Nat.zero_le _) ⟨⟨_,Heap.get?_push_size _ rfl,rfl,rfl⟩,hl1.push _⟩ ?_ ?_
    ·rw [hsz]
     simp only [List.mem_cons,List.not_mem_nil,or_false,not_or]
     exact ⟨Nat.ne_of_lt (Nat.lt_succ_self _),Nat.ne_of_gt hlS⟩
    ·have hg2:=Heap.get?_push_of_some (h:=s.heap.push {cls:=.type "set",dict:=none,data:=.set #[] 0 (.fresh 0 0 led)}) {cls:=.type "list_iterator",data:=.fields #[.ref l,.int 0 0]} hget
     exact (PyProof.Rows.setObjOf_fresh (knd:=strKind prog w) led).setOf hg2 (by unfold scanBound;omega)
    ·intro h' tk kk hS'
     show wpAny _ _ _ _ _ _
     refine wpAny_pure ?_
     show wpAny _ _ (ret Value.none) _ _ _
     refine wpAny_pure ⟨rfl,h',tk,rfl,hS',fun b o e=>?_⟩
     have hbl:b < S:=by rw [←hS0];exact Heap.lt_size e
     exact kk b o (Nat.ne_of_lt hbl) (fun z=>Nat.ne_of_lt (Nat.lt_succ_of_lt hbl) (by rw [hsz] at z;simpa using z)) (Heap.get?_push_of_some _ (Heap.get?_push_of_some _ e))
   ·cases r2 with
    | error e=>exact hr2
    | ok fl2=>
     cases fl2 with
     | ret r=>
      obtain ⟨rfl,h',tk,rfl,hS',kk⟩:=hr2
      repeat (any_goals (first | assumption | wp_step))
      exact h _ _ hS' kk
     | _=>exact hr2.elim
  | _=>exact hr.elim
noncomputable def HS (P:Program) (w:World) (a:Addr) (n:Nat):HO:=.ext fun h=>∃S,h.SetOf (strKind P w) a S n
section
variable {X:Cx}
theorem Dy (hc:X.calm=true):eU X (.type "set") (fun xs H Q=>∃(p:Addr) (ys:List Str),xs=[.ref p]∧SqL X.K H p (ys.map V.str)∧ys.length < 1000∧∀q,H q=none→Q (.ref q) (upd H q (HS X.prog X.w q (nZ (fun i=>ys.getD i Str.empty) ys.length)))):=by
 intro pins s σ H xs us Q I r h
 obtain ⟨p,ys,rfl,hq,hl,q⟩:=h
 obtain ⟨u,rfl,ru⟩:=vals1 r
 cases ru
 obtain ⟨its,rv,pl,hz⟩:=I.list hq
 have hlen:ys.length=its.length:=by have:=rv.length;rwa [List.length_map] at this
 have hsz:its.toArray.size=ys.length:=by
  rw [hlen]
  rfl
 refine uq (val:=fun i=>ys.getD i Str.empty) (I.ok.hd hc) pl.isList (fun i v e=>?_) (by rw [hsz];unfold scanBound;omega) fun h' tk hS kk=>?_
 ·have e':its[i]?=some v:=by simpa using e
  have hi:i < ys.length:=by rw [hlen];exact (List.getElem?_eq_some_iff.mp e').1
  have hb:(ys.map V.str)[i]?=some (V.str (ys.getD i Str.empty)):=by
   rw [List.getElem?_map,List.getElem?_eq_getElem hi]
   simp [List.getD,hi]
  obtain ⟨u',e2,r'⟩:=rv.get hb
  rw [e'] at e2
  cases e2
  exact r'
 ·rw [hsz] at hS
  refine ⟨.ref s.heap.objs.size,_,I.laid kk (Nat.le_refl _) ?_,rfl,q _ (I.hok.fresh (Nat.le_refl _))⟩
  obtain ⟨o,es,ep,t,ho,r'⟩:=id hS
  exact ⟨⟨_,hS⟩,⟨o,ho⟩,fun h1 h2 ⟨S',o',es',ep',t',ho',r2⟩ kk'=>⟨S',o',es',ep',t',kk' _ ho',r2⟩⟩
theorem rN:eU X (.builtin "len") (fun xs H Q=>∃q n,xs=[.ref q]∧H q=some (HS X.prog X.w q n)∧Q (.int n) H):=by
 intro pins s σ H xs us Q I r h
 obtain ⟨a,n,rfl,hq,q⟩:=h
 obtain ⟨u,rfl,ru⟩:=vals1 r
 cases ru
 obtain ⟨⟨S,o,es,ep,t,ho,hex,hd,_,_,hb,hf,hn⟩,_,_⟩:=(show bB X.prog X.w H s.heap a (HS X.prog X.w a n) from I.hok a _ hq)
 subst hn
 have hfit:(es.size:Int) < 2 ^ 63:=by unfold scanBound at hb;omega
 exact call_len_set ho hex hd hf hfit ⟨.int es.size,H,I.tok _,⟨_,rfl⟩,q⟩
end
open PySem PySem.Spec PyProof.Rows L2
theorem KR {P:Program} {w:World} {H:Hp} {h:Heap} {a:Addr} {o:HO} (x:bB P w H h a o):∃ob,h.get? a=some ob:=by
 cases o with
 | lst xs=>obtain ⟨_,_,_,_,e⟩:=x;exact ⟨_,e⟩
 | tup xs=>obtain ⟨_,_,_,ob,e,_⟩:=x;exact ⟨ob,e⟩
 | dK kvs=>obtain ⟨_,_,_,_,ob,_,_,e,_⟩:=x;exact ⟨ob,e⟩
 | dT kvs=>obtain ⟨_,_,_,_,ob,_,_,e,_⟩:=x;exact ⟨ob,e⟩
 | set S n=>obtain ⟨ob,_,_,_,e,_⟩:=x;exact ⟨ob,e⟩
 | ins C dx fs=>obtain ⟨_,_,_,e,_⟩:=x;exact ⟨_,e⟩
 | own y=>obtain ⟨ob,e⟩:=x;exact ⟨ob,e⟩
 | xd fs=>obtain ⟨_,⟨ob,_,_,e,_⟩,_⟩:=x;exact ⟨ob,e⟩
 | rng lo hi=>obtain ⟨_,_,_,e⟩:=x;exact ⟨_,e⟩
 | frz ob u=>obtain ⟨e,_⟩:=x;exact ⟨_,e⟩
 | tbl ps=>exact ⟨_,(show h.get? a=some _ from x)⟩
 | met f y=>exact ⟨_,(show h.get? a=some _ from x)⟩
 | ext φ=>obtain ⟨_,⟨ob,e⟩,_⟩:=x;exact ⟨ob,e⟩
theorem Dz {P:Program} {w:World} {H:Hp} {h:Heap} {a:Addr} (ok:HOk P w H h) (e:h.get? a=none):H a=none:=by
 cases q:H a with
 | none=>rfl
 | some o=>
  obtain ⟨ob,z⟩:=KR (ok a o q)
  rw [e] at z
  cases z
structure gJ (P:Program) (w:World) (fr:List Env) (H:Hp) (s:Shared) (ea:Addr) (cls a0:Value) (H':Hp) (B:Heap) (s':Shared):Prop where
 fl:Heap.FlyingW B fr ea cls a0 s'.heap
 os:s'.os=s.os
 bare:AllBare s'.gens
 ok:HOk P w H' B
 un:Un (frs fr) [] H H' s.heap s'.heap
 inB:∀b o,s.heap.get? b=some o→b∉frs fr→∃o',B.get? b=some o'∧(H b=none→o'=o)
noncomputable def CXe (P:Program) (w:World):CXT:=fun fr H s E e s'=>∃(ea:Addr) (cls a0:Value) (H':Hp) (B:Heap),e=.ref ea∧gJ P w fr H s ea cls a0 H' B s'∧E cls none H'
section
variable {P:Program} {w:World} {fr:List Env} {H H':Hp} {s s':Shared} {ea:Addr} {cls a0:Value} {B:Heap}
theorem gJ.move (T:gJ P w fr H s ea cls a0 H' B s') {h2:Heap} (fl:Heap.FlyingW B fr ea cls a0 h2) (up:s'.heap.UpToSlots h2):gJ P w fr H s ea cls a0 H' B {s' with heap:=h2}:=by
 refine ⟨fl,T.os,T.bare,T.ok,⟨fun b o e n hb hx=>?_,fun b o e n hb hx=>?_,T.un.free,fun b o e hx=>?_,T.un.tups,T.un.frzs,T.un.tbls⟩,T.inB⟩
 ·obtain ⟨o',z,q⟩:=T.inB b o e hb
  rw [q n] at z
  exact fl.1 b o z
 ·obtain ⟨sl,z⟩:=T.un.slot b o e n hb hx
  obtain ⟨_,ob,e',nf⟩:=T.fl.2.2.1.mem hb
  rw [z] at e'
  cases e'
  obtain ⟨sl',z'⟩:=up b _ z nf
  exact ⟨sl',z'⟩
 ·by_cases hb:b∈frs fr
  ·obtain ⟨_,ob,e',nf⟩:=T.fl.2.2.1.mem hb
   obtain ⟨sl',z'⟩:=up b _ e' nf
   exact ⟨_,z'⟩
  ·obtain ⟨o',z,_⟩:=T.inB b o e hb
   exact ⟨o',fl.1 b o' z⟩
theorem gJ.hok (T:gJ P w fr H s ea cls a0 H' B s'):HOk P w H' s'.heap:=T.ok.kept fun b u e=>T.fl.1 b u e
theorem gJ.new (T:gJ P w fr H s ea cls a0 H' B s'):H' ea=none:=Dz T.ok T.fl.2.1
theorem gJ.notOld (T:gJ P w fr H s ea cls a0 H' B s') {b:Addr} {o:Obj} (e:s.heap.get? b=some o):b≠ea:=by
 rintro rfl
 by_cases hb:b∈frs fr
 ·obtain ⟨_,ob,e',nf⟩:=T.fl.2.2.1.mem hb
  obtain ⟨oe,vs,he,_,hd,_⟩:=T.fl.first
  rw [he] at e'
  cases e'
  exact nf vs hd
 ·obtain ⟨o',z,_⟩:=T.inB b o e hb
  rw [T.fl.2.1] at z
  cases z
end
section
variable {P:Program} {w:World} {K:PySem.W.Frag} {mg:Str→Option Value} {base:Heap} {N:List Str} {qual:Str} {scope:Scope} {f:Addr} {cdv:Value} {A:Around} {outer:List Env} {s:Shared} {H:Hp} {E:XK}
noncomputable abbrev cxE (P:Program) (w:World) (K:PySem.W.Frag) (mg:Str→Option Value) (base:Heap) (N:List Str) (qual:Str) (scope:Scope) (f:Addr) (cdv:Value) (A:Around) (outer:List Env) (s:Shared) (H:Hp) (E:XK):Cx:=
 lD (CXe P w) P w K mg base N qual scope f cdv A outer s H E
theorem mU {pins:List (Addr × Obj)} {σ:St} {H1:Hp} {s1:Shared} (I:Inv (cxE P w K mg base N qual scope f cdv A outer s H E) pins σ H1 s1) {b:Addr} {o:Obj} (e:s.heap.get? b=some o) (hb:b∉frs outer):
  b∉frs (cxE P w K mg base N qual scope f cdv A outer s H E).stack:=fun z=>by
 rcases List.mem_cons.mp (I.stkSub b z) with q | q
 ·have l:=Heap.lt_size e
  have l2:s.heap.objs.size≤b:=by
   have:=I.ok.above
   rw [←q] at this
   exact this
  exact Nat.lt_irrefl _ (Nat.lt_of_lt_of_le l l2)
 ·exact hb q
theorem vR {pins:List (Addr × Obj)} {σ:St} {H1:Hp} {s1:Shared} {h':Heap} {ea:Addr} {cls:Value} {vs:List Value} (I:Inv (cxE P w K mg base N qual scope f cdv A outer s H E) pins σ H1 s1)
  (hx:Heap.MadeExcOf s1.heap h' ea cls vs) (hE:E cls none H1):(cxE P w K mg base N qual scope f cdv A outer s H E).xe (.ref ea) {s1 with heap:=h'}:=by
 have hfr:=I.ok.frames
 have hin:∀env∈(cxE P w K mg base N qual scope f cdv A outer s H E).stack,∀b,env.frame=some b→b∈frs (cxE P w K mg base N qual scope f cdv A outer s H E).stack:=fun env he b hb=>List.mem_filterMap.mpr ⟨env,he,hb⟩
 have hnt:∀b o,H1 b=some o→b∉frs (cxE P w K mg base N qual scope f cdv A outer s H E).stack:=fun b o e z=>by rw [I.stkFree b z] at e;cases e
 refine wpAny_leaves_madeW (base:=PySem.W.hideAll s1.heap (frs (cxE P w K mg base N qual scope f cdv A outer s H E).stack)) hfr rfl (fun b o q=>PySem.W.of_hideAll _ q) (PySem.W.funFrames_hide I.stack hin) hx fun h2 t x1 x2 x3 x4=>?_
 have inB:∀b o,s1.heap.get? b=some o→b∉frs (cxE P w K mg base N qual scope f cdv A outer s H E).stack→(PySem.W.hideAll s1.heap (frs (cxE P w K mg base N qual scope f cdv A outer s H E).stack)).get? b=some o:=fun b o e n=>PySem.W.hideAll_get _ e n
 refine ⟨ea,cls,.ref t,H1,_,rfl,⟨x1,I.os,I.bare,fun b ob e=>(I.hok b ob e).stay (fun c u hc q=>inB c u q ?_) (fun _ q=>q) fun _ _ q=>q,⟨fun b o e n hb hx'=>?_,fun b o e n hb hx'=>?_,I.base.free,fun b o e hx'=>?_,I.base.tups,I.base.frzs,I.base.tbls⟩,fun b o e hb=>?_⟩,hE⟩
 ·rcases hc with rfl | hc
  ·exact hnt c _ e
  ·exact hnt c _ hc
 ·exact x1.1 b o (inB b o (I.base.keep b o e n hb hx') (mU I e hb))
 ·obtain ⟨sl,z⟩:=I.base.slot b o e n hb hx'
  obtain ⟨_,ob,e',nf⟩:=I.funs.mem hb
  rw [z] at e'
  cases e'
  obtain ⟨sl',z'⟩:=x4 b _ (hx.keeps _ _ z) nf
  exact ⟨sl',z'⟩
 ·obtain ⟨o',z⟩:=I.base.there b o e hx'
  by_cases hb:b∈frs outer
  ·obtain ⟨_,ob,e',nf⟩:=I.funs.mem hb
   obtain ⟨sl',z'⟩:=x4 b _ (hx.keeps _ _ e') nf
   exact ⟨_,z'⟩
  ·exact ⟨o',x1.1 b o' (inB b o' z (mU I e hb))⟩
 ·obtain ⟨o',z⟩:=I.base.there b o e (by simp [cxE,lD])
  refine ⟨o',inB b o' z (mU I e hb),fun n=>?_⟩
  have z2:=I.base.keep b o e n hb (by simp [cxE,lD])
  rw [z] at z2
  exact Option.some.inj z2
theorem mV:iY (CXe P w) (cxE P w K mg base N qual scope f cdv A outer s H E) E:=by
 rintro pins σ Hc sc e s' I ⟨ea,cls,a0,H',B,rfl,T,hE⟩
 refine wpAny_leaves_onW I.ok.frames rfl T.fl fun h2 x1 x2=>?_
 have T2:Un (frs (cxE P w K mg base N qual scope f cdv A outer s H E).stack) [] Hc H' sc.heap s'.heap:=T.un
 have oldB:∀b o,s.heap.get? b=some o→b∉frs outer→∃o',B.get? b=some o'∧(H b=none→o'=o):=fun b o e hb=>by
  obtain ⟨o1,z⟩:=I.base.there b o e (by simp [cxE,lD])
  obtain ⟨o',z',q⟩:=T.inB b o1 z (mU I e hb)
  refine ⟨o',z',fun n=>?_⟩
  have z2:=I.base.keep b o e n hb (by simp [cxE,lD])
  rw [z] at z2
  cases z2
  exact q (I.base.free b _ e n (by simp [cxE,lD]))
 refine ⟨ea,cls,a0,H',B,rfl,⟨x1,T.os.trans I.os,T.bare,T.ok,⟨fun b o e n hb hx'=>?_,fun b o e n hb hx'=>?_,fun b o e n hx'=>?_,fun b o e hx'=>?_,fun b xs q=>T.un.tups b xs (I.base.tups b xs q),fun b o u q=>T.un.frzs b o u (I.base.frzs b o u q),fun b ps q=>?_⟩,oldB⟩,hE⟩
 ·obtain ⟨o',z,q⟩:=oldB b o e hb
  rw [q n] at z
  exact x1.1 b o z
 ·obtain ⟨sl,z⟩:=I.base.slot b o e n hb hx'
  have hb':b∈frs (cxE P w K mg base N qual scope f cdv A outer s H E).stack:=by
   show b∈frs (_::outer)
   unfold frs
   rw [List.filterMap_cons]
   exact List.mem_cons_of_mem _ hb
  obtain ⟨sl2,z2⟩:=T2.slot b _ z (I.base.free b o e n hx') hb' (by simp)
  obtain ⟨_,ob,e',nf⟩:=T.fl.2.2.1.mem hb'
  rw [z2] at e'
  cases e'
  obtain ⟨sl',z'⟩:=x2 b _ z2 nf
  exact ⟨sl',z'⟩
 ·obtain ⟨o1,z⟩:=I.base.there b o e hx'
  exact T2.free b o1 z (I.base.free b o e n hx') (by simp)
 ·by_cases hb:b∈frs outer
  ·obtain ⟨_,ob,e',nf⟩:=x1.2.2.1.mem hb
   exact ⟨ob,e'⟩
  ·obtain ⟨o',z,_⟩:=oldB b o e hb
   exact ⟨o',x1.1 b o' z⟩
 ·obtain ⟨m1,e1⟩:=I.base.tbls b ps q
  obtain ⟨m2,e2⟩:=T.un.tbls b _ e1
  exact ⟨m1++m2,by rw [e2,Array.append_assoc]⟩
structure Exc (K:PySem.W.Frag) (mg:Str→Option Value) (x:Str) (C:Addr) (bm:List Value) (newId:String):Prop where
 bound:mg x=some (.ref C)
 obj:PySem.W.excIn K C bm newId=true
theorem Exc.own {x:Str} {C:Addr} {bm:List Value} {newId:String} {h:Heap} (e:Exc K mg x C bm newId) (X:K.In h):OwnCls x C bm newId mg h:=by
 refine ⟨e.bound,?_⟩
 have q:=e.obj
 unfold PySem.W.excIn at q
 split at q
 ·rename_i dd cd sl ho
  split at q
  ·rename_i C' bm' k0 k1 k2 k3 n k5 hm hs
   simp only [Bool.and_eq_true,beq_iff_eq,Bool.not_eq_true'] at q
   obtain ⟨⟨⟨⟨⟨rfl,rfl⟩,hdel⟩,ht⟩,hok⟩,hni⟩:=q
   obtain ⟨nm,bs,mro,ns,qn,hd,sn,sub,ab,col,del⟩:=cd
   dsimp only at hm hdel hok hni
   subst hm hdel
   obtain ⟨sll⟩:=sl
   simp only at hs
   subst hs
   exact ⟨bm',ns,nm,qn,bs,hd,sn,sub,ab,col,dd,k0,k1,k2,k3,k5,_,X _ _ ho,.of_isNs (PySem.W.isNs_of_in X hok),PySem.W.nsMap_none_of_in X hok hni,PySem.W.tail_of_in X ht⟩
  ·cases q
 ·cases q
noncomputable def KY (C:Addr) (E:XK) (ta:TA):TS:=fun _ σ H=>ta σ H fun vs H1=>vs.length≤sizeLine∧E (.ref C) none H1
theorem mW {x:Str} {C:Addr} {B newId initId:String} {bm:List Value} {np cpos pos:Pos} {e0:Expr} {es:List Expr} {ta:TA} (F:ExcBaseFacts B newId initId bm) (O:Exc K mg x C bm newId)
  (hg:Gl (cxE P w K mg base N qual scope f cdv A outer s H E) x) (ha:PA (cxE P w K mg base N qual scope f cdv A outer s H E) (e0::es) ta) (hdb:(x==("__debug__":Str))=false:=by decide)
  (he:starEach (e0::es) (cxE P w K mg base N qual scope f cdv A outer s H E).env=(false,eval e0 (cxE P w K mg base N qual scope f cdv A outer s H E).env)::starEach es (cxE P w K mg base N qual scope f cdv A outer s H E).env:=by rfl)
  (hpl:(backTo cpos (starEach es (cxE P w K mg base N qual scope f cdv A outer s H E).env)).any (·.1)=false:=by rfl):
  PS (cxE P w K mg base N qual scope f cdv A outer s H E) (.Raise (some (.Call (.Name x np) (e0::es) [] cpos)) none pos) (KY C E ta):=by
 intro pins s1 σ H1 D I h
 obtain ⟨tl,Nn,nm,q,bs,hdct,sn,sub,ab,col,dd,k0,k1,k2,k3,k5,mN,hC,hN,hni,T⟩:=(O.own I.mod.kin).obj
 have hcl:PySem.W.excIn K C bm newId=true:=O.obj
 refine wpAny_Raise_call_subT (C:=C) (nm:=nm) (q:=q) (N:=Nn) (bs:=bs) (bm:=tl) (hdct:=hdct) (sn:=sn) (sub:=sub) (ab:=ab) (col:=col) (dd:=dd) (k0:=k0) (k1:=k1) (k2:=k2) (k3:=k3) (k5:=k5)
  F (mN:=mN) (T.hasType F.hasBase) (I.ok.hd rfl) ?_ hni (jx I hg O.bound ⟨rfl,?_⟩ hdb)
 ·rw [he]
  show (false || (backTo cpos (starEach es (cxE P w K mg base N qual scope f cdv A outer s H E).env)).any (·.1))=false
  rw [hpl]
  rfl
 ·have hA:=ha cpos pins s1 σ H1 _ I h
  rw [he] at hA ⊢
  refine Calls.evalArgs_plain (thn hA fun us s2 ⟨vs,H2,I2,r2,z,hE⟩=>⟨rfl,by rw [←r2.length];exact z,I2.bk _ _ hC,hN.keeps I2.bk,T.keeps I2.bk,fun h' ea hm=>vR I2 hm hE⟩)
theorem okE {x:Str} {st:Stmt} {fd:FuncData} {ps:List Str} {k:Nat} {sp:Sp} (F:Fun K x qual st f fd) (S:aH N ps (aC st)) (len:∀vs H Q E,sp vs H Q E→vs.length=ps.length)
  (hbody:∀(cdv:Value) (A:Around) (outer:List Env) (s:Shared) (H:Hp) (vs:List V) (Q:VK) (E:XK),dM k (A.deeper (envOfC qual (aC st) s.heap.objs.size f cdv))→sp vs H Q E→
   ∃t,PSs (cxE P w K mg base N qual (aC st) f cdv A outer s H E) (iH st) t∧t {nx:=fun _ H'=>Q .non H',rt:=Q} (start N vs) H):aD P w K mg base (CXe P w) (k+1) f fd ps sp:=by
 obtain ⟨oc,od,kV,doc,pm,an,cdv,ct,osl,rfl,lk,hcd⟩:=F.ex
 exact Dk lk hcd S len fun A outer s H vs Q E hr hsp=>hbody cdv A outer s H vs Q E hr hsp
end
open PySem PySem.Spec PyProof.Rows L2
noncomputable abbrev TEx:=XK→TE
noncomputable abbrev TSx:=Ends→(St→XK)→St→Hp→Prop
section
variable {X:Cx} {e o:Expr} {es:List Expr} {pos apos p:Pos} {k:Nat} {f C:Addr} {fd:FuncData} {ps:List Str} {sp:Sp} {ta:TE} {t:TA} {m x:Str}
theorem noW {α:Type} {X:Cx} {pins:List (Addr × Obj)} {M:Model} {A:Around} {c:Sem α} {Q:α→Shared→Prop} {E:Value→Shared→Prop} {s:Shared} (h:wpAny M A c Q (fun _ _=>False) s):wpAny M A c Q E s:=
 wpAny_mono h (fun _ _ q=>q) fun _ _ z=>False.elim z
noncomputable def KZ (C:Addr) (m:Str) (sp:Sp) (ta:TE) (t:TA):TEx:=fun E=>Di C m sp [] E ta t
noncomputable def K3 (te:TEx):TSx:=fun D E σ H=>te (E σ) σ H fun _ H1=>D.nx σ H1
end
noncomputable def jC (K:PySem.W.Frag) (C R:Addr):Bool:=match K.lookup C with
 | some ⟨.type "type",_,.cls cd,sl⟩=>(match cd.mro,sl.toList with
  | .ref C'::bm,[_,_,_,_,some (.builtin _),_]=>C'==C && !cd.hasDel && bm.contains (.type "BaseException") && (Value.ref C::bm).contains (.ref R)
  | _,_=>false)
 | _=>false
theorem pZ {K:PySem.W.Frag} {h:Heap} {C R:Addr} (X:K.In h) (q:jC K C R=true):∃nm qn N bs bm hdct sn sub ab col dd k0 k1 k2 k3 k5 newId,
  h.get? C=some (excClassObj nm qn C N bs bm hdct sn sub ab col dd k0 k1 k2 k3 k5 newId)∧bm.contains (.type "BaseException")=true∧(Value.ref C::bm).contains (.ref R)=true:=by
 unfold jC at q
 split at q
 ·rename_i dd cd sl ho
  split at q
  ·rename_i C' bm k0 k1 k2 k3 n k5 hm hs
   simp only [Bool.and_eq_true,Bool.not_eq_true'] at q
   obtain ⟨⟨⟨q1,hdel⟩,hb⟩,hr⟩:=q
   have q1:=beq_iff_eq.mp q1
   subst q1
   obtain ⟨nm,bs,mro,ns,qn,hd,sn,sub,ab,col,del⟩:=cd
   dsimp only at hm hdel
   subst hm hdel
   obtain ⟨sll⟩:=sl
   simp only at hs
   subst hs
   exact ⟨nm,qn,ns,bs,bm,hd,sn,sub,ab,col,dd,k0,k1,k2,k3,k5,n,X _ _ ho,hb,hr⟩
  ·cases q
 ·cases q
theorem HW {M:Model} {A:Around} {E:Value→Shared→Prop} {K:PySem.W.Frag} {C R ea:Addr} {s:Shared} {oe:Obj} {Q:Bool→Shared→Prop} (X:K.In s.heap) (hc:jC K C R=true) (hr:jC K R R=true) (he:s.heap.get? ea=some oe)
  (hcls:oe.cls=.ref C) (hq:Q true s):wpAny M A (excMatches (.ref ea) (.ref R)) Q E s:=by
 obtain ⟨nm,qn,N,bs,bm,hdct,sn,sub,ab,col,dd,k0,k1,k2,k3,k5,newId,hC,hb,hCR⟩:=pZ X hc
 obtain ⟨nm',qn',N',bs',bm',hdct',sn',sub',ab',col',dd',k0',k1',k2',k3',k5',newId',hR,hb',hRR⟩:=pZ X hr
 have hcB:(Value.ref R::bm').contains (.type "BaseException")=true:=by rw [List.contains_cons,hb',Bool.or_true]
 have f:=tc_notTuple
 obtain ⟨hp,g,d,t,os⟩:=s
 unfold excMatches
 repeat (first | (with_reducible refine wpAny_loadPart_at he ?_;rw [hcls]) | with_reducible refine wpAny_loadPart_at hR ?_ | (with_reducible refine wpAny_isSubtype_exc hR ?_;rw [hcB]) | (with_reducible refine wpAny_isSubtype_exc hC ?_;rw [hCR]) | wp_step)
 exact hq
noncomputable abbrev pA (X:Cx) (ea:Addr):Cx:={X with A:=X.A.mark (some (.ref ea)),calm:=false,xe:=fun _ _=>False}
section
variable {X:Cx} {pins:List (Addr × Obj)} {σ:St} {H:Hp} {s:Shared}
theorem Inv.suite (I:Inv X pins σ H s) (ea:Addr):Inv (pA X ea) pins σ H s:=
 ⟨⟨I.ok.mod,I.ok.kind,I.ok.glob,I.ok.blt,I.ok.above,I.ok.inj,I.ok.has,I.ok.cab,fun z=>absurd (show false=true from z) Bool.false_ne_true,I.ok.frames,I.ok.stk,I.ok.exf,I.ok.bs,I.ok.bsz,I.ok.noex,I.ok.exfs,I.ok.funs,I.ok.frf⟩,I.os,I.bare,I.base,I.loc,I.cell,I.free,I.freeC,I.pin,I.hok,I.len⟩
theorem Inv.unsuite {ea:Addr} (hd:X.calm=true→X.A.handled=none) (I:Inv (pA X ea) pins σ H s):Inv X pins σ H s:=
 ⟨⟨I.ok.mod,I.ok.kind,I.ok.glob,I.ok.blt,I.ok.above,I.ok.inj,I.ok.has,I.ok.cab,hd,I.ok.frames,I.ok.stk,I.ok.exf,I.ok.bs,I.ok.bsz,I.ok.noex,I.ok.exfs,I.ok.funs,I.ok.frf⟩,I.os,I.bare,I.base,I.loc,I.cell,I.free,I.freeC,I.pin,I.hok,I.len⟩
end
open PySem PySem.Spec PyProof.Rows L2
theorem ur:bootBuiltins "enumerate"=some (.type "enumerate"):=by decide+kernel
noncomputable def Ite (K:PySem.W.Frag) (a:Addr):It:=
 ⟨fun i H=>∃xs x,SqL K H a xs∧xs[i]?=some x,fun i H v H'=>∃p x,H p=none∧v=.ref p∧(∀xs,SqL K H a xs→xs[i]?=some x)∧H'=upd H p (.tup [.int i,x]),fun i H=>∃xs,SqL K H a xs∧xs.length≤i⟩
theorem Bk {P:Program} {w:World} {K:PySem.W.Frag} {elts:List Expr} {k:Nat} {pos:Pos} (a e it:Addr) (hei:e≠it):
  Turn P w K (.Tuple elts k pos) (Ite K a) [e,it] e (fun i h=>(∃old,IsEnum h e it ((i:Nat):Int) old)∧h.IsListIter it a i) where
 mem:=by simp
 obj:=fun i h st b hb=>by
  obtain ⟨⟨old,he⟩,o,ho,c,d⟩:=st
  rcases List.mem_cons.mp hb with rfl | hb
  ·exact ⟨_,he,fun v z=>by
    have z':Data.fields _=Data.cell v:=z
    cases z'⟩
  ·have q:b=it:=by simpa using hb
   subst q
   exact ⟨o,ho,fun v z=>by rw [d] at z;cases z⟩
 keep:=fun i h h' st kk=>by
  obtain ⟨⟨old,he⟩,hit⟩:=st
  exact ⟨⟨old,kk e (by simp) _ he⟩,hit.at fun o q=>kk it (by simp) o q⟩
 item:=by
  intro X hP hw hK hc i pins s σ H E I hf st hg
  subst hP hw hK
  obtain ⟨⟨old,he⟩,hit⟩:=st
  obtain ⟨xs,x,hq,hx⟩:=hg
  obtain ⟨its,rv,p,hz⟩:=I.list hq
  obtain ⟨u,hu,ru⟩:=rv.get hx
  obtain ⟨e0,e1,e2,e3,e4,e5⟩:=hf e (by simp)
  obtain ⟨f0,f1,f2,f3,f4,f5⟩:=hf it (by simp)
  refine wpAny_pyNext_enum_item he hit p.isList (x:=u) (by simpa using hu) hei fun h1 ho hit1 hT hsz hk=>⟨_,rfl,?_⟩
  refine wpAny_letOwnedTupleGo_enum ho fun h2 he2 hs2=>?_
  have hs2:Heap.SameBut e h1 h2:=hs2
  have hn:H s.heap.objs.size=none:=I.fresh
  have old2:∀b o,b∉[e,it]→s.heap.get? b=some o→h2.get? b=some o:=fun b o hb q=>by
   have hbe:b≠e:=fun z=>hb (by simp [z])
   have hbi:b≠it:=fun z=>hb (by simp [z])
   exact (hs2.2 b hbe).trans (hk b o hbe hbi q)
  have helt:e < s.heap.objs.size:=Heap.lt_size he
  have hT2:h2.get? s.heap.objs.size=some {cls:=.type "tuple",data:=.seq #[.int i s.toks,u]}:=(hs2.2 _ (Nat.ne_of_gt helt)).trans hT
  have nch:∀b q,H b=some q→b∉[e,it]:=fun b q hb z=>by
   rcases List.mem_cons.mp z with rfl | z
   ·rw [e0] at hb;cases hb
   ·have z':b=it:=by simpa using z
    subst z'
    rw [f0] at hb;cases hb
  refine ⟨.ref s.heap.objs.size,upd H s.heap.objs.size (.tup [.int i,x]),?_,rfl,⟨s.heap.objs.size,x,hn,rfl,fun ys hy=>by rw [I.list_inj hy hq];exact hx,rfl⟩,⟨⟨u,?_⟩,hit1.at fun o q=>(hs2.2 it hei.symm).trans q⟩,fun b hb=>?_⟩
  ·show Inv X pins σ (upd H s.heap.objs.size (.tup [.int i,x])) {s with heap:=h2,gens:=s.gens,drawn:=s.drawn,toks:=s.toks+1}
   refine I.step (g':=s.gens) (d':=s.drawn) (t':=s.toks+1) (h':=h2) (ch:=[e,it]) (fun b hb=>?_) (fun b o _ _ hc q _=>old2 b o hc q) (fun b o _ _ hc q _=>⟨o.slots,old2 b o hc q⟩) (fun b o hc q n=>?_)
    (fun b o hc q=>⟨o,old2 b o hc q⟩) (fun b ys q=>?_) (fun b o v q=>?_) (fun b ps q=>⟨#[],?_⟩) (fun m hm=>?_) (fun b v q=>?_) I.bare
   ·rcases List.mem_cons.mp hb with rfl | hb
    ·exact ⟨e3,e1,e4,e5⟩
    ·have z':b=it:=by simpa using hb
     subst z'
     exact ⟨f3,f1,f4,f5⟩
   ·rw [ak (Nat.ne_of_lt (Heap.lt_size q))]
    exact n
   ·rw [ak (aA q hn)]
    exact q
   ·rw [ak (aA q hn)]
    exact q
   ·rw [ak (aA q hn),q]
    simp
   ·obtain ⟨o,es,ep,ho',r⟩:=hm
    refine ⟨o,es,ep,old2 _ o (fun z=>?_) ho',r⟩
    rcases List.mem_cons.mp z with z | z
    ·exact e1 z.symm
    ·exact f1 (by simpa using z:X.env.locals=it).symm
   ·by_cases hb:b=s.heap.objs.size
    ·subst hb
     rw [aj] at q
     cases q
     exact ⟨(by show 2≤sizeLine;decide),[.int i s.toks,u],.cons ⟨_,rfl⟩ (.cons ru .nil),_,hT2,rfl,_,rfl⟩
    ·rw [ak hb] at q
     refine (I.hok b v q).stay (fun c y hc z=>old2 c y ?_ z) (fun c z=>by rw [ak (aA z hn)];exact z) fun c ys z=>by rw [ak (aA z hn)];exact z
     rcases hc with rfl | hc
     ·exact nch _ _ q
     ·exact nch _ _ hc
  ·have:(((i+1:Nat):Nat):Int)=(i:Int)+1:=by omega
   rw [this]
   exact he2
  ·rcases List.mem_cons.mp hb with rfl | hb
   ·rw [ak (Nat.ne_of_lt helt)]
    exact e0
   ·have z':b=it:=by simpa using hb
    subst z'
    obtain ⟨_,z,_⟩:=hit
    rw [ak (Nat.ne_of_lt (Heap.lt_size z))]
    exact f0
 done:=by
  intro X hP hw hK hc i pins s σ H E I hf st hg
  subst hP hw hK
  obtain ⟨⟨old,he⟩,hit⟩:=st
  obtain ⟨xs,hq,hx⟩:=hg
  obtain ⟨its,rv,p,hz⟩:=I.list hq
  obtain ⟨f0,f1,f2,f3,f4,f5⟩:=hf it (by simp)
  have hl:=rv.length
  exact wpAny_pyNext_enum_end (I.ok.hd hc) he hit p.isList (by simp;omega) fun h' eb=>⟨rfl,I.turned (t':=s.toks) (fun b o hb e=>eb b o hb e) f0 f1 f3 f4 f5⟩
 self:=fun _ _ _ _ _ st h=>by
  obtain ⟨⟨old,he⟩,_⟩:=st
  exact wpAny_pyIter_enum he h
section
variable {X:Cx} {elts:List Expr} {k:Nat} {tpos:Pos}
noncomputable def Ny (K:PySem.W.Frag) (ta:TA):TI:=fun σ H R=>ta σ H fun vs H1=>∃a,vs=[.ref a]∧(∃xs,SqL K H1 a xs)∧R (Ite K a) H1
theorem zz {l:Expr} {ta:TA} {p pos:Pos} (hg:Gl X "enumerate") (hm:X.mg "enumerate"=none) (ha:PA X [l] ta) (hs:starEach [l] X.env=[(false,eval l X.env)]:=by rfl):PI X (.Tuple elts k tpos) (.Call (.Name "enumerate" p) [l] [] pos) (Ny X.K ta):=by
 intro pins s σ H R I h
 refine Call_ (lM I hg hm ur (PyProof.Rows.callWith_type1 (thn (ha pos pins s σ H _ I h) fun us s1 ⟨vs,H1,I1,r1,q1⟩=>?_) hs rfl))
 obtain ⟨a,e,⟨xs,hq⟩,q⟩:=q1
 subst e
 cases r1 with
 | cons r rr=>
  cases rr
  cases r
  obtain ⟨its,rv,p,hz⟩:=I1.list hq
  refine call_enumerate_list p.isList fun h' he hit hsz kk=>?_
  refine wpAny_pyIter_enum he ?_
  have ne:s1.heap.objs.size+1≠s1.heap.objs.size:=Nat.succ_ne_self _
  refine ⟨s1.heap.objs.size+1,[s1.heap.objs.size+1,s1.heap.objs.size],_,_,H1,rfl,I1.kept (t':=s1.toks) fun b o e=>kk b o e,Bk a _ _ ne,⟨⟨_,he⟩,hit⟩,fun b hb=>?_,q⟩
  rcases List.mem_cons.mp hb with rfl | hb
  ·exact I1.fpOk (Nat.le_succ _) (I1.hok.fresh (Nat.le_succ _))
  ·have z:b=s1.heap.objs.size:=by simpa using hb
   subst z
   exact I1.fpOk (Nat.le_refl _) (I1.hok.fresh (Nat.le_refl _))
end
section
variable {X:Cx} {K:PySem.W.Frag} (hK:X.K=K)
include hK
theorem DG:IxR X (Nu K):=by subst hK;exact bM
theorem mX:IxR X (Nv K):=by subst hK;exact aP
theorem mY {pos:Pos} {es:List Expr} {k:Nat} {t:TGs} {n:Nat} (hc:X.calm=true) (h:PGs X es t)
  (hn:(assignEach es X.env).length=n:=by rfl) (hst:(assignEach es X.env).findIdx? (·.1)=none:=by rfl):PG X (.Tuple es k pos) (Aq K n t):=by
 subst hK
 exact xP hc h hn hst
end
theorem zA {K:PySem.W.Frag} {a:Addr} {xs:List V} {cs:List (Option Nat)} {σ rest:L2.St} {tt:TT} {te:TE} {Q:VK} {H1:Hp} (hcs:fQ cs σ=none::none::rest) (ha:SqL K H1 a xs) (hl:xs.length < sizeLine) (p:Nat→V→Bool) (f:Nat→V→V)
  (test:∀(i:Nat) (x:V) (H2:Hp) (R:Bool→Hp→Prop),xs[i]?=some x→aB H1 H2→(∀H5,aB H2 H5→R (p i x) H5)→tt (some (.int i)::some x::rest) H2 R)
  (elt:∀(i:Nat) (x:V) (H2:Hp) (R:VK),xs[i]?=some x→p i x=true→aB H1 H2→(∀H5,aB H2 H5→R (f i x) H5)→te (some (.int i)::some x::rest) H2 R)
  (fin:∀(D:Addr) (H':Hp),H1 D=none→H' D=some (.lst ((xs.zipIdx.filter fun z=>p z.2 z.1).map fun z=>f z.2 z.1))→aB H1 H'→Q (.ref D) H'):
  ∀D,H1 D=none→∃W:Nat→Nat→List V→L2.St→Hp→Prop,(∃m,W 0 m [] (fQ cs σ) (upd H1 D (.lst [])))∧∀i m ys σ' H',W i m ys σ' H'→H' D=some (.lst ys)∧ys.length < sizeLine∧
   (((Ite K a).stop i H'∧Q (.ref D) H')∨((Ite K a).go i H'∧∀x H2,(Ite K a).yld i H' x H2→Aq K 2 (lE (cJ 0) (lE (cJ 1) CT)) x σ' H2 fun σ3 H3=>tt σ3 H3 fun b H4=>
    if b=true then te σ3 H4 fun y H5=>H5 D=some (.lst ys)∧∃m',m' < m∧W (i+1) m' (ys++[y]) σ3 (upd H5 D (.lst (ys++[y])))
    else ∃m',m' < m∧W (i+1) m' ys σ3 H4)):=by
 intro D hD
 have zl:xs.zipIdx.length=xs.length:=by simp
 refine ⟨fun i m ys σ' H'=>m=xs.length - i∧i≤xs.length∧ys=((xs.zipIdx.take i).filter fun z=>p z.2 z.1).map (fun z=>f z.2 z.1)∧(∃o o',σ'=o::o'::rest)∧aB H1 H'∧H' D=some (.lst ys),
  ⟨xs.length,by simp,Nat.zero_le _,by simp,⟨none,none,hcs⟩,fun b o e=>?_,aj⟩,?_⟩
 ·rw [ak (aA e hD)]
  exact e
 ·rintro i m ys σ' H' ⟨rfl,hi,rfl,⟨o,o',rfl⟩,sm,hHD⟩
  have hL:SqL K H' a xs:=sm.seq ha
  refine ⟨hHD,Nat.lt_of_le_of_lt ?_ hl,?_⟩
  ·rw [List.length_map]
   refine Nat.le_trans (List.length_filter_le _ _) ?_
   rw [List.length_take,zl]
   exact Nat.min_le_right _ _
  by_cases hlt:i < xs.length
  ·have ex:xs[i]?=some xs[i]:=List.getElem?_eq_getElem hlt
   refine .inr ⟨⟨xs,_,hL,ex⟩,fun x H2 y=>?_⟩
   obtain ⟨q,x',hq,rfl,hx',rfl⟩:=y
   have exx:=hx' xs hL
   have sq:aB H' (upd H' q (.tup [.int i,x'])):=fun b u e=>by rw [ak (aA e hq)];exact e
   refine ⟨q,_,rfl,SqT.of aj,rfl,⟨_,_,rfl,⟨_,_,rfl,rfl,?_⟩⟩⟩
   show tt (some (.int i)::some x'::rest) _ _
   refine test i x' _ _ exx (sm.trans sq) fun H4 s4=>?_
   have tk:xs.zipIdx.take (i+1)=xs.zipIdx.take i++[(x',i)]:=by
    rw [List.take_add_one,List.getElem?_zipIdx,exx]
    simp
   have hD4:=s4 _ _ (sq _ _ hHD)
   cases hp:p i x' with
   | true=>
    refine jR ?_
    refine elt i x' H4 _ exx hp ((sm.trans sq).trans s4) fun H5 s5=>⟨s5 _ _ hD4,xs.length - (i+1),by omega,rfl,hlt,?_,⟨_,_,rfl⟩,fun b ob e=>?_,aj⟩
    ·rw [tk,List.filter_append,List.map_append]
     simp [hp]
    ·rw [ak (aA e hD)]
     exact s5 _ _ (s4 _ _ (sq _ _ (sm _ _ e)))
   | false=>
    refine lQ ⟨xs.length - (i+1),by omega,rfl,hlt,?_,⟨_,_,rfl⟩,(sm.trans sq).trans s4,hD4⟩
    rw [tk,List.filter_append,List.map_append]
    simp [hp]
  ·have e:i=xs.length:=by omega
   subst e
   refine .inl ⟨⟨xs,hL,Nat.le_refl _⟩,fin D H' hD ?_ sm⟩
   rw [hHD,←zl,List.take_length]
end L3
namespace L2
open PySem PySem.Spec PyProof.Rows
section
variable {κ:Type} [DecidableEq κ]
noncomputable def bD (kvs:List (κ × V)) (k:κ):Option V:=(kvs.find? fun kv=>decide (kv.1=k)).map (·.2)
noncomputable def putK (kvs:List (κ × V)) (k:κ) (v:V):List (κ × V):=
 if (kvs.any fun kv=>decide (kv.1=k))=true then kvs.map (fun kv=>if kv.1=k then (kv.1,v) else kv) else kvs++[(k,v)]
theorem cz {p:κ × V} {r:List (κ × V)} {k:κ} (e:p.1=k):bD (p::r) k=some p.2:=by simp [bD,List.find?_cons,e]
theorem b7 {p:κ × V} {r:List (κ × V)} {k:κ} (e:¬p.1=k):bD (p::r) k=bD r k:=by simp [bD,List.find?_cons,e]
theorem du (k:κ):∀kvs:List (κ × V),(kvs.any fun kv=>decide (kv.1=k))=(bD kvs k).isSome
 | []=>rfl
 | p::r=>by
  rw [List.any_cons]
  by_cases e:p.1=k
  ·simp only [cz e,decide_eq_true e,Bool.true_or,Option.isSome_some]
  ·rw [b7 e,decide_eq_false e,Bool.false_or];exact du k r
theorem vU (k j:κ) (y:V):∀kvs:List (κ × V),bD (kvs.map fun kv=>if kv.1=k then (kv.1,y) else kv) j=(bD kvs j).map fun x=>if j=k then y else x
 | []=>rfl
 | p::r=>by
  have ih:=vU k j y r
  rw [List.map_cons]
  by_cases h:p.1=k
  ·rw [if_pos h]
   by_cases e:p.1=j
   ·rw [cz (p:=(p.1,y)) e,cz e,Option.map_some,if_pos (e.symm.trans h)]
   ·rw [b7 (p:=(p.1,y)) e,b7 e,ih]
  ·rw [if_neg h]
   by_cases e:p.1=j
   ·rw [cz (p:=p) e,cz e,Option.map_some,if_neg (fun z=>h (e.trans z))]
   ·rw [b7 (p:=p) e,b7 e,ih]
theorem sU (k j:κ) (y:V):∀kvs:List (κ × V),bD kvs k=none→bD (kvs++[(k,y)]) j=if j=k then some y else bD kvs j
 | [],_=>by
  by_cases e:k=j
  ·rw [if_pos e.symm];exact cz (p:=(k,y)) e
  ·rw [if_neg (fun z=>e z.symm)];exact b7 (p:=(k,y)) e
 | p::r,hn=>by
  rw [List.cons_append]
  have hk:¬p.1=k:=fun z=>by rw [cz z] at hn;cases hn
  rw [b7 hk] at hn
  have ih:=sU k j y r hn
  by_cases e:p.1=j
  ·rw [cz e,cz e,if_neg (fun z=>hk (e.trans z))]
  ·rw [b7 e,b7 e,ih]
theorem jU (kvs:List (κ × V)) (k j:κ) (y:V):bD (putK kvs k y) j=if j=k then some y else bD kvs j:=by
 unfold putK
 by_cases a:(kvs.any fun kv=>decide (kv.1=k))=true
 ·rw [if_pos a,vU]
  rw [du] at a
  by_cases e:j=k
  ·obtain ⟨x,hx⟩:=Option.isSome_iff_exists.mp a
   rw [if_pos e,e,hx,Option.map_some,if_pos rfl]
  ·rw [if_neg e]
   cases bD kvs j with
   | none=>rfl
   | some x=>rw [Option.map_some,if_neg e]
 ·rw [if_neg a]
  refine sU k j y kvs ?_
  rw [du] at a
  cases q:bD kvs k with
  | none=>rfl
  | some x=>rw [q] at a;exact (a rfl).elim
theorem iI (kvs:List (κ × V)) (k:κ) (v:V):(putK kvs k v).length≤kvs.length+1:=by
 unfold putK
 split
 ·rw [List.length_map];omega
 ·rw [List.length_append,List.length_cons,List.length_nil];omega
theorem jh {kvs:List (κ × V)} {k:κ} (v:V) (h:bD kvs k=none):putK kvs k v=kvs++[(k,v)]:=by
 unfold putK
 rw [du,h]
 exact if_neg (by decide)
theorem je.isSome_eq {o:Option V} {u:Option Value} (r:je o u):o.isSome=u.isSome:=by
 cases o with
 | none=>cases u with
  | none=>rfl
  | some _=>exact (show False from r).elim
 | some _=>cases u with
  | none=>exact (show False from r).elim
  | some _=>rfl
theorem je.getD {o:Option V} {u:Option Value} {d:V} {d':Value} (r:je o u) (rd:RelV d d'):RelV (o.getD d) (u.getD d'):=by
 cases o with
 | none=>cases u with
  | none=>exact rd
  | some _=>exact (show False from r).elim
 | some _=>cases u with
  | none=>exact (show False from r).elim
  | some _=>exact r
theorem KV.val {kvs:List (κ × V)} {vs:List (κ × Value)} (r:KV kvs vs) (k:κ):je (bD kvs k) (valueAt vs k):=by
 unfold KV at r
 induction r with
 | nil=>exact True.intro
 | @cons p q ps qs h t ih=>
  obtain ⟨h1,h2⟩:=h
  by_cases e:p.1=k
  ·have e':q.1=k:=h1.symm.trans e
   have b:valueAt (q::qs) k=some q.2:=by simp [valueAt,List.find?_cons,e']
   rw [cz e,b];exact h2
  ·have e':¬q.1=k:=fun z=>e (h1.trans z)
   have b:valueAt (q::qs) k=valueAt qs k:=by simp [valueAt,List.find?_cons,e']
   rw [b7 e,b];exact ih
theorem KV.any {kvs:List (κ × V)} {vs:List (κ × Value)} (r:KV kvs vs) (k:κ):(kvs.any fun kv=>decide (kv.1=k))=vs.any fun kv=>decide (kv.1=k):=by
 unfold KV at r
 induction r with
 | nil=>rfl
 | cons h t ih=>rw [List.any_cons,List.any_cons,ih,h.1]
theorem KV.repl {kvs:List (κ × V)} {vs:List (κ × Value)} (r:KV kvs vs) (k:κ) {y:V} {u:Value} (ry:RelV y u):
  KV (kvs.map fun kv=>if kv.1=k then (kv.1,y) else kv) (vs.map fun kv=>if kv.1=k then (kv.1,u) else kv):=by
 unfold KV at r ⊢
 induction r with
 | nil=>exact .nil
 | @cons p q ps qs h t ih=>
  rw [List.map_cons,List.map_cons]
  refine .cons ?_ ih
  obtain ⟨h1,h2⟩:=h
  by_cases e:p.1=k
  ·rw [if_pos e,if_pos (h1.symm.trans e)];exact ⟨h1,ry⟩
  ·rw [if_neg e,if_neg (fun z=>e (h1.trans z))];exact ⟨h1,h2⟩
theorem KV.put {kvs:List (κ × V)} {vs:List (κ × Value)} (r:KV kvs vs) (k:κ) {y:V} {u:Value} (ry:RelV y u):KV (putK kvs k y) (stored vs k u):=by
 unfold putK stored
 rw [r.any k]
 by_cases e:(vs.any fun kv=>decide (kv.1=k))=true
 ·rw [if_pos e,if_pos e];exact r.repl k ry
 ·rw [if_neg e,if_neg e];exact Paired.snoc r ⟨rfl,ry⟩
theorem KV.length {kvs:List (κ × V)} {vs:List (κ × Value)} (r:KV kvs vs):kvs.length=vs.length:=Paired.length r
end
theorem oX {P:Program} {w:World} {k:Key} {u:Value} (r:RelV (kV k) u):(bH P w).is k u=true:=by
 cases k with
 | inl i=>obtain ⟨t,e⟩:=(show ∃t,u=Value.int i t from r);subst e;exact vz P w i t
 | inr x=>obtain ⟨t,e⟩:=(show ∃t,u=Value.str x t from r);subst e;exact vA P w x t
theorem sV {P:Program} {w:World}:∀{ks:List Key} {us:List Value},Vals (ks.map kV) us→ItemsAre (bH P w) ks us
 | [],_,r=>by rw [List.map_nil] at r;cases r;exact .nil
 | k::ks,_,r=>by
  rw [List.map_cons] at r
  cases r with
  | cons h t=>exact .cons (oX h) (sV t)
noncomputable abbrev KT (H:Hp):List (List Key × V)→List (List Key × Addr × Value)→Prop:=Paired fun p q=>p.1=q.1∧H q.2.1=some (.tup (p.1.map kV))∧RelV p.2 q.2.2
theorem KT.val {H:Hp} {kvs:List (List Key × V)} {xs:List (List Key × Addr × Value)} (r:KT H kvs xs) (k:List Key):je (bD kvs k) ((atKey xs k).map (·.2)):=by
 induction r with
 | nil=>exact True.intro
 | @cons p q ps qs h t ih=>
  obtain ⟨h1,_,h2⟩:=h
  by_cases e:p.1=k
  ·have e':q.1=k:=h1.symm.trans e
   have b:atKey (q::qs) k=some q.2:=by simp [atKey,List.find?_cons,e']
   rw [cz e,b];exact h2
  ·have e':¬q.1=k:=fun z=>e (h1.trans z)
   have b:atKey (q::qs) k=atKey qs k:=by simp [atKey,List.find?_cons,e']
   rw [b7 e,b];exact ih
theorem KT.repl {H:Hp} {kvs:List (List Key × V)} {xs:List (List Key × Addr × Value)} (r:KT H kvs xs) (k:List Key) {y:V} {u:Value} (ry:RelV y u):
  KT H (kvs.map fun kv=>if kv.1=k then (kv.1,y) else kv) (xs.map (putAt k u)):=by
 induction r with
 | nil=>exact .nil
 | @cons p q ps qs h t ih=>
  rw [List.map_cons,List.map_cons]
  refine .cons ?_ ih
  obtain ⟨h1,h2,h3⟩:=h
  unfold putAt
  by_cases e:p.1=k
  ·rw [if_pos e,if_pos (h1.symm.trans e)];exact ⟨h1,h2,ry⟩
  ·rw [if_neg e,if_neg (fun z=>e (h1.trans z))];exact ⟨h1,h2,h3⟩
theorem KT.put {H:Hp} {kvs:List (List Key × V)} {xs:List (List Key × Addr × Value)} (r:KT H kvs xs) (k:List Key) {b:Addr} {y:V} {u:Value} (hb:H b=some (.tup (k.map kV))) (ry:RelV y u):
  KT H (putK kvs k y) (storedH xs k b u):=by
 have e:(kvs.any fun kv=>decide (kv.1=k))=(atKey xs k).isSome:=by
  rw [du,(r.val k).isSome_eq,Option.isSome_map]
 unfold putK storedH
 rw [e]
 by_cases q:(atKey xs k).isSome=true
 ·rw [if_pos q,if_pos q];exact r.repl k ry
 ·rw [if_neg q,if_neg q];exact Paired.snoc r ⟨rfl,hb,ry⟩
theorem KT.keeps {H H':Hp} {kvs:List (List Key × V)} {xs:List (List Key × Addr × Value)} (r:KT H kvs xs) (ht:∀b ys,H b=some (.tup ys)→H' b=some (.tup ys)):KT H' kvs xs:=
 Paired.mapP r fun _ _ z=>⟨z.1,ht _ _ z.2.1,z.2.2⟩
section
variable {P:Program} {w:World} {H:Hp} {h:Heap} {a:Addr}
theorem JW {u:HO} (ok:HOk P w H h) (e:Rd H a u):bB P w H h a u:=e.ok ok
theorem p6 {kvs:List (Key × V)} (ok:HOk P w H h) (e:Rd H a (.dK kvs)):kvs.length≤sizeLine∧(a==sysModules)=false∧∃vs,KV kvs vs∧h.DictOf (bH P w) a vs:=
 show bB P w H h a (.dK kvs) from JW ok e
theorem zB {kvs:List (Key × V)} (ok:HOk P w H h) (e:H a=some (.dK kvs)):kvs.length≤sizeLine∧(a==sysModules)=false∧∃vs,KV kvs vs∧h.DictOf (bH P w) a vs:=p6 ok (.inl e)
theorem n8 {ks:List Key} (ok:HOk P w H h) (e:H a=some (.tup (ks.map kV))):(tupleKind (bH P w)).is h ks a:=by
 obtain ⟨_,its,r,o,h1,h2,n,h3⟩:=(show bB P w H h a (.tup (ks.map kV)) from ok a _ e)
 exact ⟨o,its.toArray,n,h1,h2,h3,by simpa using sV r⟩
theorem p7 {kvs:List (List Key × V)} (ok:HOk P w H h) (e:Rd H a (.dT kvs)):kvs.length≤sizeLine∧(a==sysModules)=false∧
  ∃xs,KT H kvs xs∧h.DictOfH (tupleKind (bH P w)) a xs:=by
 obtain ⟨z,y,xs,r,o,es,ep,h1,h2,h3,h4,h5⟩:=(show bB P w H h a (.dT kvs) from JW ok e)
 refine ⟨z,y,xs,r,o,es,ep,h1,h2,h3,h4,fun x hx=>?_,h5⟩
 have all:∀{l:List (List Key × V)} {m:List (List Key × Addr × Value)},KT H l m→∀x∈m,(tupleKind (bH P w)).is h x.1 x.2.1:=by
  intro l m q
  induction q with
  | nil=>intro x hx;exact nomatch hx
  | @cons p q ps qs hq t ih=>
   intro x hx
   rcases List.mem_cons.mp hx with e | hx
   ·subst e
    exact n8 ok (by rw [←hq.1];exact hq.2.1)
   ·exact ih x hx
 exact all r x hx
theorem Nz {kvs:List (List Key × V)} (ok:HOk P w H h) (e:H a=some (.dT kvs)):kvs.length≤sizeLine∧(a==sysModules)=false∧
  ∃xs,KT H kvs xs∧h.DictOfH (tupleKind (bH P w)) a xs:=p7 ok (.inl e)
end
noncomputable def fX (H:Hp) (a:Addr) (y:V) (r:Option V):Prop:=
 (∃kvs k,Rd H a (.dK kvs)∧y=kV k∧r=bD kvs k)∨∃kvs k b,Rd H a (.dT kvs)∧y=.ref b∧H b=some (.tup (k.map kV))∧r=bD kvs k
noncomputable def p8 (H:Hp) (a:Addr) (y v:V) (H':Hp):Prop:=
 (∃kvs k,H a=some (.dK kvs)∧y=kV k∧kvs.length < sizeLine∧H'=upd H a (.dK (putK kvs k v)))∨
 ∃kvs k b,H a=some (.dT kvs)∧y=.ref b∧H b=some (.tup (k.map kV))∧kvs.length < sizeLine∧H'=upd H a (.dT (putK kvs k v))
theorem fX.k {H:Hp} {a:Addr} {kvs:List (Key × V)} {k:Key} (e:H a=some (.dK kvs)):fX H a (kV k) (bD kvs k):=.inl ⟨kvs,k,.inl e,rfl,rfl⟩
theorem fX.t {H:Hp} {a b:Addr} {kvs:List (List Key × V)} {k:List Key} (e:H a=some (.dT kvs)) (eb:H b=some (.tup (k.map kV))):fX H a (.ref b) (bD kvs k):=.inr ⟨kvs,k,b,.inl e,rfl,eb,rfl⟩
theorem p8.k {H:Hp} {a:Addr} {kvs:List (Key × V)} {k:Key} {v:V} (e:H a=some (.dK kvs)) (hl:kvs.length < sizeLine):p8 H a (kV k) v (upd H a (.dK (putK kvs k v))):=.inl ⟨kvs,k,e,rfl,hl,rfl⟩
theorem p8.t {H:Hp} {a b:Addr} {kvs:List (List Key × V)} {k:List Key} {v:V} (e:H a=some (.dT kvs)) (eb:H b=some (.tup (k.map kV))) (hl:kvs.length < sizeLine):
  p8 H a (.ref b) v (upd H a (.dT (putK kvs k v))):=.inr ⟨kvs,k,b,e,rfl,eb,hl,rfl⟩
section
variable {X:Cx} {pins:List (Addr × Obj)} {σ:St} {H:Hp} {s:Shared} {a:Addr} {y v:V} {u r:Value} {o:Option V} {A:Around} {E:Value→Shared→Prop}
theorem Inv.big (I:Inv X pins σ H s):sysModules < s.heap.objs.size:=by
 have h:mainGlobals < s.heap.objs.size:=(I.mod.glob.keeps I.bk).lt
 exact Nat.lt_trans (by decide) h
theorem Bm {Q:Value→Shared→Prop} (hu:A.units+1 < cLine) (I:Inv X pins σ H s) (g:fX H a y (some v)) (ry:RelV y u) (h:∀w' s',Inv X pins σ H s'→RelV v w'→Q w' s'):
  wpAny (model X.prog X.w) A (getItem (.ref a) u) Q E s:=by
 rcases g with ⟨kvs,k,e,ey,l⟩ | ⟨kvs,k,b,e,ey,eb,l⟩
 ·subst ey
  obtain ⟨z,hd,vs,rel,dd⟩:=p6 I.hok e
  obtain ⟨w',hw,rw'⟩:=je.some_of (v:=v) (o:=valueAt vs k) (by rw [l];exact rel.val k)
  exact wpAny_getItem_of (oX ry) dd.mapOf hw (h w' _ (I.tok _) rw')
 ·subst ey
  cases (show u=Value.ref b from ry)
  obtain ⟨z,hd,xs,rel,dd⟩:=p7 I.hok e
  obtain ⟨w',hw,rw'⟩:=je.some_of (v:=v) (o:=(atKey xs k).map (·.2)) (by rw [l];exact rel.val k)
  obtain ⟨p,hp,hp2⟩:=Option.map_eq_some_iff.mp hw
  refine wpAny_getItem_heap (tupleKind_room_in1 hu) (n8 I.hok eb) dd hp ?_
  rw [hp2]
  exact h w' _ (I.tok _) rw'
theorem PX {Q:Value→Shared→Prop} (hu:A.units+1 < cLine) (I:Inv X pins σ H s) (g:fX H a y o) (ry:RelV y u) (h:∀s',Inv X pins σ H s'→Q (.bool o.isSome) s'):
  wpAny (model X.prog X.w) A (compareOp .In u (.ref a)) Q E s:=by
 rcases g with ⟨kvs,k,e,ey,l⟩ | ⟨kvs,k,b,e,ey,eb,l⟩
 ·subst ey
  obtain ⟨z,hd,vs,rel,dd⟩:=p6 I.hok e
  refine wpAny_in_of (oX ry) hd dd.mapOf ?_
  rw [←(rel.val k).isSome_eq,←l]
  exact h _ (I.tok _)
 ·subst ey
  cases (show u=Value.ref b from ry)
  obtain ⟨z,hd,xs,rel,dd⟩:=p7 I.hok e
  refine wpAny_in_heap (tupleKind_room_in1 hu) (n8 I.hok eb) hd dd ?_
  have q:=(rel.val k).isSome_eq
  rw [Option.isSome_map] at q
  rw [←q,←l]
  exact h _ (I.tok _)
theorem HX {Q:Value→Shared→Prop} (hu:A.units+1 < cLine) (I:Inv X pins σ H s) (g:fX H a y o) (ry:RelV y u) (h:∀s',Inv X pins σ H s'→Q (.bool (!o.isSome)) s'):
  wpAny (model X.prog X.w) A (compareOp .NotIn u (.ref a)) Q E s:=by
 rcases g with ⟨kvs,k,e,ey,l⟩ | ⟨kvs,k,b,e,ey,eb,l⟩
 ·subst ey
  obtain ⟨z,hd,vs,rel,dd⟩:=p6 I.hok e
  refine wpAny_notIn_of (oX ry) hd dd.mapOf ?_
  rw [←(rel.val k).isSome_eq,←l]
  exact h _ (I.tok _)
 ·subst ey
  cases (show u=Value.ref b from ry)
  obtain ⟨z,hd,xs,rel,dd⟩:=p7 I.hok e
  refine wpAny_notIn_heap (tupleKind_room_in1 hu) (n8 I.hok eb) hd dd ?_
  have q:=(rel.val k).isSome_eq
  rw [Option.isSome_map] at q
  rw [←q,←l]
  exact h _ (I.tok _)
theorem pB {h':Heap} {t':Nat} {ob:HO} (I:Inv X pins σ H s) (mu:Mut (H a)) (hs:Heap.SameBut a s.heap h') (he:∃q,h'.get? a=some q) (new:bB X.prog X.w (upd H a ob) h' a ob):
  Inv X pins σ (upd H a ob) {s with heap:=h',toks:=t'}:=
 I.write (x:=a) (e:=a) mu (.inl rfl) (fun b q hb z=>(hs.2 b hb).trans z) he new
theorem yl {P:Program} {w:World} {H':Hp} {h':Heap} {kvs:List (Key × V)} {vs:List (Key × Value)} (z:kvs.length≤sizeLine) (hd:(a==sysModules)=false) (rel:KV kvs vs) (dd:h'.DictOf (bH P w) a vs):
  bB P w H' h' a (.dK kvs):=⟨z,hd,vs,rel,dd⟩
theorem Bo {H':Hp} {Q:Unit→Shared→Prop} (hu:A.units+1 < cLine) (I:Inv X pins σ H s) (g:p8 H a y v H') (ry:RelV y u) (rv:RelV v r) (h:∀s',Inv X pins σ H' s'→Q () s'):
  wpAny (model X.prog X.w) A (setItem (.ref a) u r) Q E s:=by
 rcases g with ⟨kvs,k,e,ey,l,eH⟩ | ⟨kvs,k,b,e,ey,eb,l,eH⟩
 ·subst ey eH
  obtain ⟨z,hd,vs,rel,dd⟩:=zB I.hok e
  have hz:vs.length≤sizeLine:=by rw [←rel.length];exact z
  have hl:(putK kvs k v).length≤sizeLine:=by have:=iI kvs k v;omega
  refine wpAny_setItem_pairs (hsz:=hz) (oX ry) dd fun h' dd' hs=>h _ ?_
  have he:∃q,h'.get? a=some q:=let ⟨q,_,_,hq,_⟩:=dd';⟨q,hq⟩
  exact pB I (by rw [e];exact True.intro) hs he (yl hl hd (rel.put k rv) dd')
 ·subst ey eH
  cases (show u=Value.ref b from ry)
  obtain ⟨z,hd,xs,rel,dd⟩:=Nz I.hok e
  have hz:xs.length≤sizeLine:=by rw [←Paired.length rel];exact z
  have hl:(putK kvs k v).length≤sizeLine:=by have:=iI kvs k v;omega
  refine wpAny_setItem_heap (hsz:=hz) (tupleKind_room_in1 hu) (n8 I.hok eb) dd fun h' dd' hs=>h _ ?_
  obtain ⟨q,es,ep,hq,h2,h3,h4,_,h5⟩:=dd'
  refine pB I (by rw [e];exact True.intro) hs ⟨q,hq⟩ ⟨hl,hd,_,(rel.put k eb rv).keeps fun c ys ec=>?_,q,es,ep,hq,h2,h3,h4,h5⟩
  rw [ak (cP ec e (fun z=>nomatch z))]
  exact ec
end
noncomputable def NB (i:Expr):Prop:=∀ov iv,subscripted i false ov iv=operate [ov,iv] (getItem ov iv)
theorem HY {prog:Program} {w:World} {A:Around} {E:Value→Shared→Prop} {s:Shared} {env:Env} {value slice:Expr} {pos:Pos} {T id:String} {Q:Value→Shared→Prop}
  (hl:typeLookup (.type T) "__getitem__"=pure (some (.builtin id))) (hs:NB slice)
  (h:wpAny (model prog w) A (eval value env) (fun o s₁=>wpAny (model prog w) A (eval slice env) (fun i s₂=>s₂.TypeIs o T∧wpAny (model prog w) A (getItem o i) Q E s₂) E s₁) E s):
  wpAny (model prog w) A (eval (.Subscript value slice pos) env) Q E s:=by
 refine Subscript_ (wpAny_mono h (fun o s₁ h₁=>wpAny_mono h₁ (fun i s₂ h₂=>?_) fun _ _ x=>x) fun _ _ x=>x)
 obtain ⟨hT,h₂⟩:=h₂
 unfold subscriptTail
 refine wpAny_bind ?_
 rw [getitemInPython_of_ne hT.not_modules]
 refine wpAny_bind (wpAny_specialOf hT hl ?_)
 have fin:wpAny (model prog w) A (subscripted slice false o i) (fun r s₃=>wpAny (model prog w) A (letTemporaryGo value o r >>=fun _=>pure r) Q E s₃) E s₂:=by
  rw [hs o i]
  exact wpAny_operating (wpAny_mono h₂ (fun r s₃ h₃=>wpAny_bind (wpAny_letTemporaryGo (wpAny_pure h₃))) fun _ _ x=>x)
 first
  | exact wpAny_pure (wpAny_bind fin)
  | exact wpAny_bind (wpAny_pure (wpAny_bind fin))
  | exact wpAny_bind fin
theorem vV {X:Cx} {pins:List (Addr × Obj)} {σ:St} {H:Hp} {s:Shared} {a:Addr} {y:V} {o:Option V} (I:Inv X pins σ H s) (g:fX H a y o):s.TypeIs (.ref a) "dict":=by
 rcases g with ⟨kvs,k,e,_,_⟩ | ⟨kvs,k,b,e,_,_,_⟩
 ·obtain ⟨_,_,vs,_,dd⟩:=p6 I.hok e
  exact dd.typeIs
 ·obtain ⟨_,_,xs,_,dd⟩:=p7 I.hok e
  exact dd.typeIs
noncomputable def NK (td ty:TE):TE:=fun σ H Q=>td σ H fun x H1=>ty σ H1 fun y H2=>∃a v,x=.ref a∧fX H2 a y (some v)∧Q v H2
noncomputable def P0 (ty td:TE):TE:=fun σ H Q=>ty σ H fun y H1=>td σ H1 fun x H2=>∃a o,x=.ref a∧fX H2 a y o∧Q (.bl o.isSome) H2
noncomputable def Ia (ty td:TE):TE:=fun σ H Q=>ty σ H fun y H1=>td σ H1 fun x H2=>∃a o,x=.ref a∧fX H2 a y o∧Q (.bl (!o.isSome)) H2
noncomputable def NP (td ty tv:TE):TS:=fun D σ H=>tv σ H fun v H1=>td σ H1 fun x H2=>ty σ H2 fun y H3=>∃a H4,x=.ref a∧p8 H3 a y v H4∧D.nx σ H4
section
variable {X:Cx} {o i e value:Expr} {pos pos' tpos:Pos} {td ty tv:TE}
theorem d8 (hu:X.A.units+1 < cLine) (ho:PE X o td) (hi:PE X i ty) (hs:NB i):PE X (.Subscript o i pos) (NK td ty):=by
 intro pins s σ H Q I h
 refine HY PySem.F.slot_dict_getitem.lookup hs (thn (ho pins s σ H _ I h) fun u s1 ⟨x,H1,I1,rx,q1⟩=>thn (hi pins s1 σ H1 _ I1 q1) fun iv s2 ⟨y,H2,I2,ry,a,v,ex,g,q2⟩=>?_)
 subst ex
 obtain rfl:u=Value.ref a:=rx
 exact ⟨vV I2 g,Bm hu I2 g ry fun w' s3 I3 rw'=>⟨v,H2,I3,rw',q2⟩⟩
theorem DK (hu:X.A.units+1 < cLine) (hi:PE X i ty) (ho:PE X o td):PC X .In i o (P0 ty td):=by
 intro pins s σ H Q I h
 refine thn (hi pins s σ H _ I h) fun iv s1 ⟨y,H1,I1,ry,q1⟩=>thn (ho pins s1 σ H1 _ I1 q1) fun u s2 ⟨x,H2,I2,rx,a,ov,ex,g,q2⟩=>?_
 subst ex
 obtain rfl:u=Value.ref a:=rx
 exact PX hu I2 g ry fun s3 I3=>⟨.bl ov.isSome,H2,I3,rfl,q2⟩
theorem kY (hu:X.A.units+1 < cLine) (hi:PE X i ty) (ho:PE X o td):PC X .NotIn i o (Ia ty td):=by
 intro pins s σ H Q I h
 refine thn (hi pins s σ H _ I h) fun iv s1 ⟨y,H1,I1,ry,q1⟩=>thn (ho pins s1 σ H1 _ I1 q1) fun u s2 ⟨x,H2,I2,rx,a,ov,ex,g,q2⟩=>?_
 subst ex
 obtain rfl:u=Value.ref a:=rx
 exact HX hu I2 g ry fun s3 I3=>⟨.bl (!ov.isSome),H2,I3,rfl,q2⟩
theorem pC (hu:X.A.units+1 < cLine) (ho:PE X o td) (hi:PE X i ty) (hv:PE X value tv) (hs:swapsWith value (some (.Subscript o i pos')) pos.line X.env=pure false):
  PS X (.Assign [.Subscript o i pos'] value pos) (NP td ty tv):=by
 intro pins s σ H D I h
 refine wpAny_Assign_Subscript (thn (hv pins s σ H _ I h) fun r s1 ⟨v,H1,I1,rv,q1⟩=>thn (ho pins s1 σ H1 _ I1 q1) fun u s2 ⟨x,H2,I2,rx,q2⟩=>thn (hi pins s2 σ H2 _ I2 q2) fun iv s3 ⟨y,H3,I3,ry,a,H4,ex,g,q3⟩=>?_) hs
 subst ex
 obtain rfl:u=Value.ref a:=rx
 exact Bo hu I3 g ry rv fun s4 I4=>⟨σ,H4,I4,q3⟩
end
theorem vW {P:Program} {w:World} {H:Hp} (h:Heap) (hb:sysModules < h.objs.size):bB P w H (h.push {cls:=.type "dict",data:=.dict #[]}) h.objs.size (.dK []):=
 ⟨Nat.zero_le _,beq_eq_false_iff_ne.mpr (Ne.symm (Nat.ne_of_lt hb)),[],.nil,Heap.DictOf.new h⟩
theorem DN {P:Program} {w:World} {H:Hp} (h:Heap) (hb:sysModules < h.objs.size):bB P w H (h.push {cls:=.type "dict",data:=.dict #[]}) h.objs.size (.dT []):=
 ⟨Nat.zero_le _,beq_eq_false_iff_ne.mpr (Ne.symm (Nat.ne_of_lt hb)),[],.nil,_,#[],0,Heap.get?_push_size _ rfl,⟨rfl,rfl,rfl⟩,rfl,rfl,List.nodup_nil⟩
noncomputable def K4:TE:=fun _ H Q=>∀p,H p=none→Q (.ref p) (upd H p (.dK []))
noncomputable def K5:TE:=fun _ H Q=>∀p,H p=none→Q (.ref p) (upd H p (.dT []))
section
variable {X:Cx} {pos:Pos}
theorem vX:PE X (.Dict [] [] pos) K4:=fun pins s σ H Q I h=>
 wpAny_Dict_empty ⟨.ref s.heap.objs.size,_,I.laid (a:=s.heap.objs.size) (o:=.dK []) (t':=s.toks) (fun _ _ q=>Heap.get?_push_of_some _ q) (Nat.le_refl _) (vW s.heap I.big),rfl,h _ (I.hok.fresh (Nat.le_refl _))⟩
theorem DP:PE X (.Dict [] [] pos) K5:=fun pins s σ H Q I h=>
 wpAny_Dict_empty ⟨.ref s.heap.objs.size,_,I.laid (a:=s.heap.objs.size) (o:=.dT []) (t':=s.toks) (fun _ _ q=>Heap.get?_push_of_some _ q) (Nat.le_refl _) (DN s.heap I.big),rfl,h _ (I.hok.fresh (Nat.le_refl _))⟩
end
noncomputable def ym:List (TE × TE)→St→Hp→(List (V × V)→Hp→Prop)→Prop
 | [],_,H,Q=>Q [] H
 | (tk,tv)::r,σ,H,Q=>tk σ H fun x H1=>tv σ H1 fun y H2=>ym r σ H2 fun ps H3=>Q ((x,y)::ps) H3
noncomputable abbrev VV:List (V × V)→List (Value × Value)→Prop:=Paired fun p q=>RelV p.1 q.1∧RelV p.2 q.2
noncomputable def PPs (X:Cx) (pos:Pos) (keys:List (Option Expr)) (values:List Expr) (trs:List (TE × TE)):Prop:=
 ∀(pins:List (Addr × Obj)) (s:Shared) (σ:St) (H:Hp) (Q:List (V × V)→Hp→Prop),Inv X pins σ H s→ym trs σ H Q→
  wpAny (model X.prog X.w) X.A (evalPairs (pairTrees keys values X.env pos)) (fun vs s'=>∃ps H',Inv X pins σ H' s'∧VV ps vs∧Q ps H') X.xe s
theorem zE {X:Cx} {pos:Pos}:PPs X pos [] [] []:=fun pins s σ H Q I h=>pairTrees_nil_walk ⟨[],H,I,.nil,h⟩
theorem vY {X:Cx} {pos:Pos} {k v:Expr} {ks:List (Option Expr)} {vs:List Expr} {tk tv:TE} {trs:List (TE × TE)} (hk:PE X k tk) (hv:PE X v tv) (hr:PPs X pos ks vs trs):
  PPs X pos (some k::ks) (v::vs) ((tk,tv)::trs):=fun pins s σ H Q I h=>
 pairTrees_cons_walk (thn (hk pins s σ H _ I h) fun u s1 ⟨x,H1,I1,rx,q1⟩=>thn (hv pins s1 σ H1 _ I1 q1) fun w2 s2 ⟨y,H2,I2,ry,q2⟩=>
  thn (hr pins s2 σ H2 _ I2 q2) fun ws s3 ⟨ps,H3,I3,rel,q3⟩=>⟨(x,y)::ps,H3,I3,.cons ⟨rx,ry⟩ rel,q3⟩)
noncomputable def lU (kvs more:List (Key × V)):List (Key × V):=more.foldl (fun acc kv=>putK acc kv.1 kv.2) kvs
theorem KV.merge:∀{more:List (Key × V)} {rs:List (Key × Value)} {kvs:List (Key × V)} {vs:List (Key × Value)},KV more rs→KV kvs vs→KV (lU kvs more) (merged vs rs):=by
 intro more rs kvs vs r
 unfold KV at r
 induction r generalizing kvs vs with
 | nil=>intro q;exact q
 | @cons p q ps qs h t ih=>
  intro r0
  have e:KV (putK kvs p.1 p.2) (stored vs q.1 q.2):=by
   have:=r0.put p.1 h.2
   rw [←h.1];exact this
  exact ih e
theorem lH:∀(more kvs:List (Key × V)),(lU kvs more).length≤kvs.length+more.length
 | [],kvs=>by show kvs.length≤kvs.length+0;omega
 | p::r,kvs=>by
  have h1:=lH r (putK kvs p.1 p.2)
  have h2:=iI kvs p.1 p.2
  show (lU (putK kvs p.1 p.2) r).length≤_
  rw [List.length_cons];omega
theorem qb {P:Program} {w:World}:∀{kvs:List (Key × V)} {ws:List (Value × Value)},VV (kvs.map fun kv=>(kV kv.1,kv.2)) ws→∃rs,Carries (bH P w) ws rs∧KV kvs rs
 | [],_,r=>by rw [List.map_nil] at r;cases r;exact ⟨[],True.intro,.nil⟩
 | p::kvs,_,r=>by
  rw [List.map_cons] at r
  cases r with
  | @cons a b as bs h t=>
   obtain ⟨rs,c,q⟩:=qb (P:=P) (w:=w) t
   obtain ⟨b1,b2⟩:=b
   exact ⟨(p.1,b2)::rs,⟨oX h.1,rfl,c⟩,.cons ⟨rfl,h.2⟩ q⟩
noncomputable def NQ (trs:List (TE × TE)):TE:=fun σ H Q=>∀p,H p=none→ym trs σ (upd H p (.dK [])) fun ps H2=>H2 p=some (.dK [])∧∃kvs:List (Key × V),ps=kvs.map (fun kv=>(kV kv.1,kv.2))∧kvs.length≤15∧Q (.ref p) (upd H2 p (.dK (lU [] kvs)))
theorem zF {X:Cx} {pos:Pos} {keys:List (Option Expr)} {values:List Expr} {trs:List (TE × TE)} (h:PPs X pos keys values trs) (hall:keys.all (·.isSome)=true) (hl:keys.length=values.length) (h0:keys≠[])
  (h15:keys.length≤15):PE X (.Dict keys values pos) (NQ trs):=by
 intro pins s σ H Q I q
 have hn:=I.hok.fresh (Nat.le_refl s.heap.objs.size)
 have I1:=I.laid (a:=s.heap.objs.size) (o:=.dK []) (h':=s.heap.push {cls:=.type "dict",data:=.dict #[]}) (t':=s.toks) (fun _ _ q=>Heap.get?_push_of_some _ q) (Nat.le_refl _) (vW s.heap I.big)
 refine wpAny_Dict_walk (knd:=bH X.prog X.w) hall hl h0 h15 (thn (h pins _ σ _ _ I1 (q _ hn)) fun ws s2 ⟨ps,H2,I2,rel,e,kvs,ep,lk,q2⟩=>?_)
 subst ep
 obtain ⟨rs,c,rk⟩:=qb (P:=X.prog) (w:=X.w) rel
 obtain ⟨z,hd,vs0,r0,dd⟩:=zB I2.hok e
 cases r0
 refine ⟨rs,c,dd,fun h' dd' hs=>⟨.ref s.heap.objs.size,_,?_,rfl,q2⟩⟩
 have hz:(lU [] kvs).length≤sizeLine:=by
  have h1:=lH kvs []
  rw [List.length_nil] at h1
  rw [sizeLine_eq];omega
 have he:∃q,h'.get? s.heap.objs.size=some q:=let ⟨q,_,_,hq,_⟩:=dd';⟨q,hq⟩
 exact pB I2 (by rw [e];exact True.intro) hs he (yl hz hd (rk.merge .nil) dd')
structure M1 (X:Cx) (o:Expr) (m:Str) (apos:Pos) (e:Expr) (cpos:Pos):Prop where
 base:attributeBase o m X.env (eval o X.env)=eval o X.env
 few:((backTo cpos (starEach [e] X.env)).all (fun x=>!x.1) && (backToKw cpos (keywordEach [] X.env)).all (fun x=>x.1.isSome)
  && decide (([e]:List Expr).length+([]:List Keyword).length+(if ([]:List Keyword).isEmpty then 0 else 1) < 30))=true
 line:(apos.endLine==cpos.line)=true
 trees:backTo cpos (starEach [e] X.env)=[(false,eval e X.env)]
structure M2 (X:Cx) (o:Expr) (m:Str) (apos:Pos) (e f:Expr) (cpos:Pos):Prop where
 base:attributeBase o m X.env (eval o X.env)=eval o X.env
 few:((backTo cpos (starEach [e,f] X.env)).all (fun x=>!x.1) && (backToKw cpos (keywordEach [] X.env)).all (fun x=>x.1.isSome)
  && decide (([e,f]:List Expr).length+([]:List Keyword).length+(if ([]:List Keyword).isEmpty then 0 else 1) < 30))=true
 line:(apos.endLine==cpos.line)=true
 trees:backTo cpos (starEach [e,f] X.env)=[(false,eval e X.env),(false,eval f X.env)]
noncomputable def IsD (H:Hp) (a:Addr):Prop:=(∃kvs,Rd H a (.dK kvs))∨∃kvs,Rd H a (.dT kvs)
theorem DQ {X:Cx} {pins:List (Addr × Obj)} {σ:St} {H:Hp} {s:Shared} {a:Addr} (I:Inv X pins σ H s) (d:IsD H a):
  s.TypeIs (.ref a) "dict"∧(∀b,Value.ref a=.ref b→∃ob,s.heap.get? b=some ob∧ob.dict=none)∧(a==sysModules)=false:=by
 rcases d with ⟨kvs,e⟩ | ⟨kvs,e⟩
 ·obtain ⟨_,hd,vs,_,dd⟩:=p6 I.hok e
  refine ⟨dd.typeIs,fun b q=>?_,hd⟩
  cases q
  obtain ⟨ob,_,_,h1,h2,_⟩:=dd
  exact ⟨ob,h1,h2.2.1⟩
 ·obtain ⟨_,hd,xs,_,dd⟩:=p7 I.hok e
  refine ⟨dd.typeIs,fun b q=>?_,hd⟩
  cases q
  obtain ⟨ob,_,_,h1,h2,_⟩:=dd
  exact ⟨ob,h1,h2.2.1⟩
section
variable {X:Cx} {pins:List (Addr × Obj)} {σ:St} {H:Hp} {s:Shared} {a:Addr} {y d:V} {u r:Value} {o:Option V} {A:Around} {E:Value→Shared→Prop}
theorem K6 {Q:Value→Shared→Prop} (hu:A.units+1 < cLine) (I:Inv X pins σ H s) (g:fX H a y o) (ry:RelV y u) (h:∀w' s',Inv X pins σ H s'→RelV (o.getD .non) w'→Q w' s'):
  wpAny (model X.prog X.w) A (call (.builtin "dict.get") [.ref a,u]) Q E s:=by
 rcases g with ⟨kvs,k,e,ey,l⟩ | ⟨kvs,k,b,e,ey,eb,l⟩
 ·subst ey
  obtain ⟨z,hd,vs,rel,dd⟩:=p6 I.hok e
  refine call_meetsIn PySem.F.slot_dict_get dd.typeIs PySem.F.entry_dict_get (PySem.F.args_dict_get_2 _ _) (meets_dict_get (bH X.prog X.w) a (oX ry) hd) ⟨_,dd.mapOf,h _ _ (I.tok _) ?_⟩
  rw [l]
  exact (rel.val k).getD rfl
 ·subst ey
  cases (show u=Value.ref b from ry)
  obtain ⟨z,hd,xs,rel,dd⟩:=p7 I.hok e
  refine call_meetsIn PySem.F.slot_dict_get dd.typeIs PySem.F.entry_dict_get (PySem.F.args_dict_get_2 _ _) (meetsH_dict_get (tupleKind (bH X.prog X.w)) a b hd) ⟨tupleKind_room_in1 hu,k,xs,n8 I.hok eb,dd,h _ _ (I.tok _) ?_⟩
  rw [l]
  exact (rel.val k).getD rfl
end
noncomputable def K7 (td ty:TE):TE:=fun σ H Q=>td σ H fun x H1=>∃a,x=.ref a∧IsD H1 a∧ty σ H1 fun y H2=>∃o,fX H2 a y o∧Q (o.getD .non) H2
section
variable {X:Cx} {o e f:Expr} {apos cpos:Pos} {td ty tx:TE}
theorem qd (hu:X.A.units+1 < cLine) (ho:PE X o td) (he:PE X e ty) (m:M1 X o "get" apos e cpos):PE X (.Call (.Attribute o "get" apos) [e] [] cpos) (K7 td ty):=by
 intro pins s σ H Q I h
 refine wpAny_Call_method m.base m.few m.line PySem.F.plainAttrs_dict PySem.F.slot_dict_get PySem.F.type_dict_get (thn (ho pins s σ H _ I h) fun u s1 ⟨x,H1,I1,rx,a,ex,d,q1⟩=>?_)
 subst ex
 obtain rfl:u=Value.ref a:=rx
 obtain ⟨t1,t2,_⟩:=DQ I1 d
 refine ⟨t1,t2,?_⟩
 rw [m.trees]
 refine Calls.callWith_builtin rfl (Calls.evalArgs_plain (Calls.spliced_cons (thn (he pins s1 σ H1 _ I1 q1) fun iv s2 ⟨y,H2,I2,ry,ov,g,q2⟩=>Calls.spliced_nil ?_)))
 exact K6 hu I2 g ry fun w' s3 I3 rw'=>⟨_,H2,I3,rw',q2⟩
end
open PySem PySem.Spec PyProof.Rows
section
variable {κ:Type} [DecidableEq κ]
theorem DW {kvs:List (κ × V)} {k:κ} (h:bD kvs k=none):¬k∈kvs.map (·.1):=by
 intro m
 obtain ⟨p,hp,e⟩:=List.mem_map.mp m
 have q:(kvs.any fun kv=>decide (kv.1=k))=true:=List.any_eq_true.mpr ⟨p,hp,decide_eq_true e⟩
 rw [du,h] at q
 exact absurd q (by simp)
theorem zG {kvs:List (κ × V)} {k:κ} {v:V} (h:bD kvs k=some v):k∈kvs.map (·.1):=by
 have q:(kvs.any fun kv=>decide (kv.1=k))=true:=by
  rw [du,h]
  all_goals rfl
 obtain ⟨p,hp,e⟩:=List.any_eq_true.mp q
 exact List.mem_map.mpr ⟨p,hp,of_decide_eq_true e⟩
theorem zH:∀{l:List κ} {k:κ},l.Nodup→¬k∈l→(l++[k]).Nodup
 | [],k,_,_=>by simp
 | a::r,k,h,hk=>by
  obtain ⟨h1,h2⟩:=List.nodup_cons.mp h
  show (a::(r++[k])).Nodup
  refine List.nodup_cons.mpr ⟨fun m=>?_,zH h2 fun m=>hk (List.mem_cons.mpr (Or.inr m))⟩
  rcases List.mem_append.mp m with q | q
  ·exact h1 q
  ·exact hk (List.mem_cons.mpr (Or.inl (List.mem_singleton.mp q).symm))
theorem Ib {kvs:List (κ × V)} {k:κ} (v:V) (hn:(kvs.map (·.1)).Nodup) (h:bD kvs k=none):((putK kvs k v).map (·.1)).Nodup:=by
 rw [jh v h,List.map_append]
 exact zH hn (DW h)
end
end L2
namespace L3
section
open PySem PySem.Spec PyProof.Rows
open PySem.Builtin PySem.Builtin.Getset_descriptor
structure Qa (K:PySem.W.Frag) (C:Addr):Prop where
 ga:PySem.W.findIn K (.ref C) "__getattribute__"=some (some (.builtin "BaseException.__getattribute__"))
 no:PySem.W.findIn K (.ref C) "__getattr__"=some none
 ha:PySem.W.findIn K (.ref C) "__class__"=some (some (.builtin "object.__class__"))
 hn:PySem.W.specialIn K (.builtin "object.__class__") "__get__"=some (some (.builtin "getset_descriptor.__get__"))
 htk:PySem.W.takesIn K (.builtin "object.__class__")=some true
 hm:PySem.W.mroIn K C (.type "object")=some true
 hb:PySem.W.mroIn K C (.type "BaseException")=some true
end
open PySem PySem.Spec PyProof.Rows L2
section
variable {X:Cx}
theorem NT {k:Nat} {A:Around} (r:dM k A):A.units+65 < cLine:=by have:=r.un;omega
noncomputable def Qc (K:PySem.W.Frag) (neg:Bool):R2:=fun x y H Q=>∃d ds,Dt K H x d∧Dt K H y (.list ds)∧SeqAt.shaped d=true∧PyData.canLayAll0 ds=true∧Q (.bl (if neg then !(ds.any fun z=>PyData.eqv z d) else ds.any fun z=>PyData.eqv z d)) H
theorem DX {A:Around} {ds:List PyData} {d:PyData} (sd:SeqAt.shaped d=true) (hu:A.units+65 < cLine):A.units+1+min (PyData.depthAll ds) d.depth < cLine:=by
 have h1:=SeqAt.depth_of_shaped sd
 have h2:min (PyData.depthAll ds) d.depth≤d.depth:=Nat.min_le_right _ _
 omega
theorem DY (hu:X.A.units+65 < cLine):OpR X (compareOp .In) (Qc X.K false):=by
 intro pins s σ H x y v u Q I rx ry h
 obtain ⟨d,ds,hd,he,sd,se,q⟩:=h
 obtain ⟨as,ra⟩:=jT I hd rx
 obtain ⟨bs,rb⟩:=jT I he ry
 exact SeqAt.in_list_reads rb ra se (SeqAt.canLay_of_shaped sd) (DX sd hu) ⟨.bl _,H,I,rfl,q⟩
end
end L3
namespace K1
open PySem L2 L3
theorem iw:bootBuiltins "len"=some (.builtin "len"):=by decide+kernel
theorem cW:bootBuiltins "isinstance"=some (.builtin "isinstance"):=by decide+kernel
theorem yo:bootBuiltins "all"=some (.builtin "all"):=by decide+kernel
theorem yp:bootBuiltins "int"=some (.type "int"):=by decide+kernel
theorem Ie:bootBuiltins "bool"=some (.type "bool"):=by decide+kernel
theorem K8:bootBuiltins "str"=some (.type "str"):=by decide+kernel
theorem jD:bootBuiltins "list"=some (.type "list"):=by decide+kernel
theorem vZ:bootBuiltins "tuple"=some (.type "tuple"):=by decide+kernel
theorem K9:bootBuiltins "set"=some (.type "set"):=by decide+kernel
structure Blt (mg:Str→Option Value):Prop where
 len:mg "len"=none
 range:mg "range"=none
 isinstance:mg "isinstance"=none
 all_:mg "all"=none
 int:mg "int"=none
 bool:mg "bool"=none
 str:mg "str"=none
 list:mg "list"=none
 tuple:mg "tuple"=none
 set_:mg "set"=none
 ValueError:mg "ValueError"=none
 enumerate:mg "enumerate"=none
 max:mg "max"=none
 min:mg "min"=none
 sum:mg "sum"=none
 any_:mg "any"=none
 dict:mg "dict"=none
 sorted:mg "sorted"=none
 zip:mg "zip"=none
structure Dn (K:PySem.W.Frag) (mg:Str→Option Value) (x:Str) (st:Stmt) (ps:List Str) (f:Addr) (fd:FuncData):Prop where
 fn:Fun K x x st f fd
 at_:mg x=some (.ref f)
 bd:Binds K fd ps []
structure Mn (K:PySem.W.Frag) (C:Addr) (m qual:Str) (st:Stmt) (ps:List Str) (f:Addr) (fd:FuncData):Prop where
 fn:Fun K m qual st f fd
 me:Meth K C m f
 bd:Binds K fd ps []
structure Inn (K:PySem.W.Frag) (C:Addr) (qual:Str) (st:Stmt) (ps:List Str) (f:Addr) (fd:FuncData):Prop where
 fn:Fun K "__init__" qual st f fd
 made:Mk K C f
 bd:Binds K fd ps []
noncomputable def Cst (mg:Str→Option Value) (x:Str) (i:Int):Prop:=∃t,mg x=some (.int i t)
theorem jV {X:Cx} {x:Str} {i:Int} {pos:Pos} (hg:Gl X x) (h:Cst X.mg x i) (hd:(x==("__debug__":Str))=false:=by decide):PE X (.Name x pos) (tC (.int i)):=by
 obtain ⟨t,e⟩:=h
 exact Hr hg e ⟨t,rfl⟩ hd
theorem oh {X:Cx} {x:Str} {T:String} {pos:Pos} (hg:Gl X x) (hm:X.mg x=none) (hv:bootBuiltins x=some (.type T)) (hn:x≠"__name__":=by decide) (hd:(x==("__debug__":Str))=false:=by decide):PE X (.Name x pos) (tC (.ty T)):=
 Ht (v:=.ty T) hg hm hv rfl hn hd
theorem mZ {wi:TI} {cs:List (Option Nat)} {te:TE} {σ rest:L2.St} {H H1:Hp} {Q:VK} {J:It} {xs:List L2.V} (hw:∀R:It→Hp→Prop,R J H1→wi σ H R) (hcs:fQ cs σ=none::rest) (wk:Wk J H1 xs) (hl:xs.length < sizeLine) (f:L2.V→L2.V)
  (elt:∀(i:Nat) (x:L2.V) (H2:Hp) (R:VK),xs[i]?=some x→aB H1 H2→(∀H5,aB H2 H5→R (f x) H5)→te (some x::rest) H2 R)
  (fin:∀(D:Addr) (H':Hp),H1 D=none→H' D=some (.lst (xs.map f))→aB H1 H'→Q (.ref D) H'):tLC wi cs (cJ 0) yj te σ H Q:=hw _ (KH hcs wk hl f elt fin)
theorem La {wi:TI} {cs:List (Option Nat)} {tt:TT} {te:TE} {σ rest:L2.St} {H H1:Hp} {Q:VK} {J:It} {xs:List L2.V} (hw:∀R:It→Hp→Prop,R J H1→wi σ H R) (hcs:fQ cs σ=none::rest) (wk:Wk J H1 xs) (hl:xs.length < sizeLine) (p:L2.V→Bool) (f:L2.V→L2.V)
  (test:∀(i:Nat) (x:L2.V) (H2:Hp) (R:Bool→Hp→Prop),xs[i]?=some x→aB H1 H2→(∀H5,aB H2 H5→R (p x) H5)→tt (some x::rest) H2 R)
  (elt:∀(i:Nat) (x:L2.V) (H2:Hp) (R:VK),xs[i]?=some x→p x=true→aB H1 H2→(∀H5,aB H2 H5→R (f x) H5)→te (some x::rest) H2 R)
  (fin:∀(D:Addr) (H':Hp),H1 D=none→H' D=some (.lst ((xs.filter p).map f))→aB H1 H'→Q (.ref D) H'):tLC wi cs (cJ 0) tt te σ H Q:=hw _ (Du hcs wk hl p f test elt fin)
theorem qe (K:PySem.W.Frag) (t:String):PySem.W.kitOne K (.type t) (.type t)=some true:=by
 unfold PySem.W.kitOne
 exact if_pos (by simp)
theorem Ea {X:Cx}:iY (CXe X.prog X.w) X E0:=by
 rintro pins σ H s e s' I ⟨_,_,_,_,_,_,_,z⟩
 exact z.elim
theorem cY {cl big:List (Str × Addr)} (h:∀p∈cl,big.lookup p.1=some p.2) (x:Str) (c:Addr) (e:cl.lookup x=some c):big.lookup x=some c:=by
 induction cl with
 | nil=>cases e
 | cons p r ih=>
  obtain ⟨y,d⟩:=p
  rw [List.lookup_cons] at e
  by_cases hb:(x==y)=true
  ·rw [hb] at e
   cases e
   have:=h (y,c) (List.mem_cons_self ..)
   rw [show x=y from eq_of_beq hb]
   exact this
  ·rw [Bool.not_eq_true] at hb
   rw [hb] at e
   exact ih (fun p hp=>h p (List.mem_cons_of_mem _ hp)) e
end K1
namespace M1
open PySem
noncomputable def wcs:Nat→Int→List Nat
 | 0,_=>[]
 | k+1,n=>(97+(n % 26).toNat)::wcs k (n / 26)
noncomputable def NZ (c:Int):Int:=c * 1099087573 % 10000000000037
noncomputable def JX (c:Int):Nat:=(1+NZ c % 7).toNat
noncomputable def JZ (c:Int):List Nat:=wcs (JX c) (NZ c / 7)
noncomputable def Nm (l:List Nat):Prop:=1≤l.length∧l.length≤8∧∀x∈l,97≤x∧x≤122
noncomputable def letters:List Nat:=[107,99,120,113,97,109,122,102,116,98,106,101]
noncomputable def hat (c:Int):Nat:=(c % ((JX c:Int)+1)).toNat
noncomputable def house (c:Int) (l:Nat):List Nat:=(JZ c).take (hat c)++l::(JZ c).drop (hat c)
structure Rd where
 a:Nat
 b:Nat
 t:Int
 m:Int
noncomputable def Eb (c:Int):Int:=c * 48271 % 2147483647
noncomputable def N5 (n:Nat) (c:Int):Int:=Eb c % n
noncomputable def Qd (n:Nat) (c:Int):Int:=(N5 n c+1+Eb c / 12 % ((n:Int) - 1)) % n
noncomputable def N6 (c:Int):Int:=if Eb c / 432 % 5=1 then 1+c % 10 ^ 9 else 1+Eb c / 144 % 3
noncomputable def N7 (l:Int) (c:Int):Int:=1+Eb c / 2160 % l
noncomputable def rd (n:Nat) (c:Int):Rd:=⟨(N5 n c).toNat,(Qd n c).toNat,N7 9 c,N6 c⟩
structure Rd.Ok (r:Rd) (n:Nat):Prop where
 a:r.a < n
 b:r.b < n
 ne:r.a≠r.b
 t:1≤r.t∧r.t≤9
 m:1≤r.m∧r.m≤1000000000
end M1
namespace K1
open PySem L2 L3 M1
section
variable {P:Program} {w:World} {K:PySem.W.Frag} {mg:Str→Option Value} {base:Heap}
noncomputable abbrev S (l:List Nat):Str:=⟨l.toArray⟩
theorem Ig {ns:List Int} {k:Int} (h0:0≤k) (h1:k < (ns.map V.int).length):atI (ns.map V.int) k=some (V.int (ns.getD k.toNat 0)):=by
 have h2:k.toNat < ns.length:=by rw [List.length_map] at h1;omega
 have e:(ns.map V.int)[k.toNat]?=some (V.int (ns.getD k.toNat 0)):=by
  rw [List.getElem?_map,List.getElem?_eq_getElem h2]
  simp [List.getD,h2]
 have:=cN e
 rwa [Int.toNat_of_nonneg h0] at this
noncomputable def Lb (K:PySem.W.Frag):Sp:=fun vs H Q _=>∃(a:Addr) (ns:List Int) (k:Int),vs=[.ref a,.int k]∧SqL K H a (ns.map V.int)∧0≤k∧Q (.int (ns.getD k.toNat 0)) H
theorem v9:(Str.ofString "abcdefghijklmnopqrstuvwxyz").cps.toList=(List.range 26).map (97+·):=by decide+kernel
theorem Ec {i:Int} (h0:0≤i) (h1:i < 26):atI (Str.ofString "abcdefghijklmnopqrstuvwxyz").cps.toList i=some (97+i.toNat):=by
 have e:(Str.ofString "abcdefghijklmnopqrstuvwxyz").cps.toList[i.toNat]?=some (97+i.toNat):=by
  rw [v9,List.getElem?_map,List.getElem?_range (by omega)]
  rfl
 have:=cN e
 rwa [Int.toNat_of_nonneg h0] at this
theorem N8 (a b:List Nat):S a++S b=S (a++b):=by
 show Str.append _ _=_
 simp [Str.append,S]
theorem zJ (a:List Nat):(S a).length=a.length:=by simp [S,Str.length]
noncomputable def txs (hs:List (List Nat)):List L2.V:=hs.map fun l=>V.str (S l)
theorem ut (hs:List (List Nat)):txs hs=(hs.map S).map V.str:=by simp [txs]
theorem zK (l:List Nat):signs (S l)=l.map fun c=>V.str (S [c]):=by simp [signs,S]
noncomputable def rdV (hs:List (List Nat)) (r:M1.Rd):List L2.V:=[.str (S (hs.getD r.a [])),.str (S (hs.getD r.b [])),.int r.t,.int r.m]
noncomputable def cT (H:Hp):List Addr→List (List L2.V)→Prop:=Paired fun r d=>H r=some (.tup d)
theorem cT.same {H H':Hp} (sm:aB H H') {rs ds} (h:cT H rs ds):cT H' rs ds:=Paired.mapP h fun _ _ e=>sm _ _ e
noncomputable def refs (rs:List Addr):List L2.V:=rs.map V.ref
theorem Paired.snoc {α β:Type} {F:α→β→Prop} {x:α} {y:β} (q:F x y):∀{l:List α} {m:List β},Paired F l m→Paired F (l++[x]) (m++[y])
 | _,_,.nil=>.cons q .nil
 | _,_,.cons r t=>.cons r (Paired.snoc q t)
theorem uv {hs:List (List Nat)} {k:Int} (h0:0≤k) (h1:k < hs.length):atI (txs hs) k=some (V.str (S (hs.getD k.toNat []))):=by
 have h2:k.toNat < hs.length:=by omega
 have e:(txs hs)[k.toNat]?=some (V.str (S (hs.getD k.toNat []))):=by
  unfold txs
  rw [List.getElem?_map,List.getElem?_eq_getElem h2]
  simp [List.getD,h2]
 have:=cN e
 rwa [Int.toNat_of_nonneg h0] at this
theorem m6 (hs:List (List Nat)):(txs hs).length=hs.length:=List.length_map ..
theorem aY {H H':Hp} {p:Addr} {o:HO} (hp:H p=none) (sm:aB H H'):aB H (upd H' p o):=fun b u e=>by
 rw [ak (aA e hp)]
 exact sm b u e
theorem cT.upd {H:Hp} {p:Addr} {o u:HO} {rs ds} (h:cT H rs ds) (e:H p=some u) (hu:∀d,u≠.tup d):cT (upd H p o) rs ds:=Paired.mapP h fun r d q=>by
 rw [ak]
 ·exact q
 ·rintro rfl
  rw [e] at q
  exact hu d (Option.some.inj q)
theorem g8 (rs:List Addr) (t:Addr):refs rs++[V.ref t]=refs (rs++[t]):=by simp [refs]
theorem aN (rs:List Addr):(refs rs).length=rs.length:=List.length_map ..
theorem cT.len {H rs ds} (h:cT H rs ds):rs.length=ds.length:=Paired.length h
theorem aF {H:Hp} {t:Addr} {o:HO} (ht:H t=none):aB H (upd H t o):=fun b u e=>by
 rw [ak (aA e ht)]
 exact e
theorem eY {b:Bool} {A B:Prop} (h:b=true) (q:A):if b=true then A else B:=by rw [if_pos h];exact q
theorem gw {b:Bool} {A B:Prop} (h:b=false) (q:B):if b=true then A else B:=by subst h;exact q
theorem qg {R:VK} {b:Bool} {H:Hp} (e:b=true) (h:R (.bl true) H):R (.bl b) H:=by rw [e];exact h
theorem qi (xs:List L2.V):xs.map (fun _=>V.bl true)=(List.replicate xs.length true).map V.bl:=by
 induction xs with
 | nil=>rfl
 | cons x r ih=>simp [List.replicate_succ,ih]
theorem qj (n:Nat):(List.replicate n true).all id=true:=by
 rw [List.all_eq_true]
 intro x hx
 exact (List.mem_replicate.mp hx).2
structure Kit (K:PySem.W.Frag):Prop where
 ib:PySem.W.kitOne K (.type "int") (.type "bool")=some false
noncomputable def uw:Sp:=fun vs H Q _=>∃i:Int,vs=[.int i]∧Q (.bl true) H
noncomputable def ql:Sp:=fun vs H Q _=>∃i a b:Int,vs=[.int i,.int a,.int b]∧a≤i∧i≤b∧Q (.bl true) H
noncomputable def ux:Sp:=fun vs H Q _=>∃(r:Addr) (xs:List L2.V) (n:Int),vs=[.ref r,.int n]∧H r=some (.tup xs)∧(xs.length:Int)=n∧Q (.bl true) H
theorem kZ (ys:List Str):(ys.map V.str).all lF=true:=by
 rw [List.all_eq_true]
 intro x hx
 obtain ⟨y,_,rfl⟩:=List.mem_map.mp hx
 rfl
theorem pD {ys:List Str} {x:Str} (h:x∈ys):inV (.str x) (ys.map V.str)=true:=by
 unfold inV
 rw [List.any_eq_true]
 exact ⟨.str x,List.mem_map.mpr ⟨x,h,rfl⟩,by show (x==x)=true;exact beq_self_eq_true x⟩
noncomputable def qm (K:PySem.W.Frag):Sp:=fun vs H Q _=>∃(a:Addr) (ys:List Str) (x y:Str),vs=[.ref a,.str x,.str y]∧SqL K H a (ys.map V.str)∧x∈ys∧y∈ys∧x≠y∧Q (.bl true) H
theorem sA:Str.ofString "a"=⟨#[97]⟩:=by decide+kernel
theorem sZ:Str.ofString "z"=⟨#[122]⟩:=by decide+kernel
noncomputable def yq:Sp:=fun vs H Q _=>∃l:List Nat,vs=[.str (S l)]∧Nm l∧∀H',aB H H'→Q (.bl true) H'
structure Ef (mg:Str→Option Value):Prop where
 MOST_HOUSES:Cst mg "MOST_HOUSES" 12
 MOST_ROADS:Cst mg "MOST_ROADS" 40
 MOST_SIGNS:Cst mg "MOST_SIGNS" 8
 MOST_TURNS:Cst mg "MOST_TURNS" 9
 MOST_ROOM:Cst mg "MOST_ROOM" 1000000000
theorem J0 {a b:List Nat} (h:S a=S b):a=b:=by
 have:=congrArg (fun x=>x.cps.toList) h
 simpa [S] using this
theorem Ih {hs:List (List Nat)} (h:hs.Nodup):∀i j,i < j→j < (hs.map S).length→(hs.map S).getD i Str.empty≠(hs.map S).getD j Str.empty:=by
 intro i j hij hj e
 rw [List.length_map] at hj
 have hi:i < hs.length:=by omega
 rw [List.getD,List.getD,List.getElem?_map,List.getElem?_map,List.getElem?_eq_getElem hi,List.getElem?_eq_getElem hj] at e
 have e2:=J0 (show S hs[i]=S hs[j] from e)
 exact List.pairwise_iff_getElem.mp h i j hi hj hij e2
structure Good (hs:List (List Nat)):Prop where
 nm:∀x∈hs,Nm x
 nd:hs.Nodup
 few:hs.length≤12
noncomputable def yr:Sp:=fun vs H Q _=>∃(a:Addr) (hs:List (List Nat)),vs=[.ref a]∧H a=some (.lst (txs hs))∧Good hs∧∀H',aB H H'→Q (.bl true) H'
theorem Paired.get {α β:Type} {F:α→β→Prop}:∀{l:List α} {m:List β} {i:Nat} {x:α},Paired F l m→l[i]?=some x→∃y,m[i]?=some y∧F x y
 | _,_,_,_,.nil,e=>by simp at e
 | _,_,0,_,.cons r _,e=>by simp at e;subst e;exact ⟨_,rfl,r⟩
 | _,_,i+1,x,.cons _ t,e=>by
  obtain ⟨y,h1,h2⟩:=Paired.get (i:=i) (x:=x) t (by simpa using e)
  exact ⟨y,by simpa using h1,h2⟩
structure bI (H:Hp) (hs:List (List Nat)) (rs:List Addr) (ds:List M1.Rd):Prop where
 tups:cT H rs (ds.map (rdV hs))
 ok:∀d∈ds,d.Ok hs.length
theorem bI.same {H H':Hp} {hs rs ds} (r:bI H hs rs ds) (sm:aB H H'):bI H' hs rs ds:=⟨r.tups.same sm,r.ok⟩
theorem bI.get {H:Hp} {hs rs ds} {i:Nat} {r:Addr} (q:bI H hs rs ds) (e:rs[i]?=some r):∃d,ds[i]?=some d∧d.Ok hs.length∧H r=some (.tup (rdV hs d)):=by
 obtain ⟨y,h1,h2⟩:=Paired.get q.tups e
 rw [List.getElem?_map] at h1
 obtain ⟨d,hd,rfl⟩:=Option.map_eq_some_iff.mp h1
 exact ⟨d,hd,q.ok d (List.mem_of_getElem? hd),h2⟩
theorem bI.len {H:Hp} {hs rs ds} (q:bI H hs rs ds):rs.length=ds.length:=by
 have:=q.tups.len
 rwa [List.length_map] at this
theorem eZ {hs:List (List Nat)} {a:Nat} (h:a < hs.length):S (hs.getD a [])∈hs.map S:=by
 refine List.mem_map.mpr ⟨hs.getD a [],?_,rfl⟩
 rw [List.getD,List.getElem?_eq_getElem h]
 exact List.getElem_mem h
theorem Oa {hs:List (List Nat)} {a b:Nat} (nd:hs.Nodup) (ha:a < hs.length) (hb:b < hs.length) (ne:a≠b):S (hs.getD a [])≠S (hs.getD b []):=by
 intro e
 have e2:=J0 e
 rw [List.getD,List.getD,List.getElem?_eq_getElem ha,List.getElem?_eq_getElem hb] at e2
 rcases Nat.lt_or_gt_of_ne ne with h | h
 ·exact List.pairwise_iff_getElem.mp nd a b ha hb h e2
 ·exact List.pairwise_iff_getElem.mp nd b a hb ha h e2.symm
noncomputable def yt (K:PySem.W.Frag):Sp:=fun vs H Q _=>∃(a r:Addr) (hs:List (List Nat)) (d:M1.Rd),vs=[.ref a,.ref r]∧SqL K H a (txs hs)∧hs.Nodup∧d.Ok hs.length∧H r=some (.tup (rdV hs d))∧Q (.bl true) H
noncomputable def yu (K:PySem.W.Frag):Sp:=fun vs H Q _=>∃(a b:Addr) (hs:List (List Nat)) (rs:List Addr) (ds:List M1.Rd),vs=[.ref a,.ref b]∧SqL K H a (txs hs)∧hs.Nodup∧H b=some (.lst (refs rs))∧bI H hs rs ds∧rs.length≤40∧∀H',aB H H'→Q (.bl true) H'
noncomputable def SameBut (x:Addr) (H H':Hp):Prop:=∀b o,b≠x→H b=some o→H' b=some o
noncomputable def Ob (a b:Addr):List (Str × L2.V):=[("kept_houses",.ref a),("kept_roads",.ref b)]
structure wg (K:PySem.W.Frag) (C:Addr):Prop where
 cl:Cls K C
 nh:jP K C "kept_houses"
 nr:jP K C "kept_roads"
noncomputable def yw (K:PySem.W.Frag) (C:Addr):Sp:=fun vs H Q _=>∃(x dx a b:Addr) (hs:List (List Nat)) (rs:List Addr) (ds:List M1.Rd),vs=[.ref x,.ref a,.ref b]∧H x=some (.ins C dx [])∧H a=some (.lst (txs hs))∧Good hs∧
 H b=some (.lst (refs rs))∧bI H hs rs ds∧rs.length≤40∧
 ∀(H':Hp) (a' b':Addr),SameBut x H H'→H' x=some (.ins C dx (Ob a' b'))→H' a'=some (.lst (txs hs))→H' b'=some (.lst (refs rs))→H a'=none→H b'=none→Q .non H'
structure iJ (C:Addr) (H:Hp) (x a' b':Addr) (xs ys:List L2.V):Prop where
 ins:∃dx,H x=some (.ins C dx (Ob a' b'))
 hou:H a'=some (.lst xs)
 roa:H b'=some (.lst ys)
theorem iJ.same {C:Addr} {H H':Hp} {x a' b':Addr} {xs ys:List L2.V} (n:iJ C H x a' b' xs ys) (sm:aB H H'):iJ C H' x a' b' xs ys:=
 let ⟨dx,h⟩:=n.ins
 ⟨⟨dx,sm _ _ h⟩,sm _ _ n.hou,sm _ _ n.roa⟩
noncomputable def lg (C:Addr):Sp:=fun vs H Q _=>∃(x a' b':Addr) (xs ys:List L2.V),vs=[.ref x]∧iJ C H x a' b' xs ys∧∀l,H l=none→Q (.ref l) (upd H l (.lst xs))
noncomputable def qp (C:Addr):Sp:=fun vs H Q _=>∃(x a' b':Addr) (xs ys:List L2.V),vs=[.ref x]∧iJ C H x a' b' xs ys∧∀l,H l=none→Q (.ref l) (upd H l (.lst ys))
noncomputable def uy (C R:Addr):Sp:=fun vs H Q E=>∃(x a' b':Addr) (xs ys:List L2.V) (k:Int),vs=[.ref x,.int k]∧iJ C H x a' b' xs ys∧(0≤k∧k < ys.length→∃v,atI ys k=some v∧Q v H)∧(¬(0≤k∧k < ys.length)→E (.ref R) none H)
noncomputable def hD (hs:List (List Nat)):List PyData:=(hs.map S).map PyData.str
theorem wj {l:List Nat} (h:Nm l):PyData.canLay0 (.str (S l))=true:=by
 simp only [PyData.canLay0,PyData.strOk,S]
 rw [Array.all_eq_true_iff_forall_mem]
 intro x hx
 have:=h.2.2 x (by simpa using hx)
 exact decide_eq_true (by omega)
theorem sW {d:PyData} {n:Nat} (h1:d.canLay0=true) (h2:d.depth≤n) (h3:n≤64):SeqAt.shaped d=true:=by
 unfold SeqAt.shaped
 rw [h1,decide_eq_true (Nat.le_trans h2 h3)]
 rfl
theorem sX {Hc H4:Hp} {x dx:Addr} {o u:HO} (hx:Hc x=none) (hd:Hc dx=none) (sb:SameBut x (upd (upd Hc dx o) x u) H4):aB Hc H4:=fun b v e=>by
 have n1:=aA e hx
 have n2:=aA e hd
 refine sb b v n1 ?_
 rw [ak n1,ak n2]
 exact e
noncomputable def zL (K:PySem.W.Frag):Sp:=fun vs H Q _=>∃(a:Addr) (ns:List Int),vs=[.ref a]∧SqL K H a (ns.map V.int)∧ns.length≤63∧∀H',Q (.bl true) H'
noncomputable def Eg (cd:ClassData) (sl:Array (Option Value)) (C R:Addr):Bool:=match cd.mro,sl.toList with
  | .ref C'::bm,[_,_,_,_,some (.builtin _),_]=>C'==C && !cd.hasDel && bm.contains (.type "BaseException") && (Value.ref C::bm).contains (.ref R)
  | _,_=>false
theorem Bp {K:PySem.W.Frag} {C R:Addr} {dd:Option Addr} {cd:ClassData} {sl:Array (Option Value)} (l:K.lookup C=some ⟨.type "type",dd,.cls cd,sl⟩) (h:Eg cd sl C R=true):jC K C R=true:=by
 unfold jC
 rw [l]
 exact h
theorem Ld (K:PySem.W.Frag):PySem.W.kitOne K (.type "int") (.type "bool")=some false:=by
 show (if (Value.type "int"==Value.type "bool")=true then some true else if PySem.W.kitMeta "bool"=true then (fastBuiltinMro "int").map (·.contains (.type "bool")) else none)=some false
 decide+kernel
theorem ne_int {i j:Int} (h:i≠j):decide (V.int i=V.int j)=false:=decide_eq_false fun z=>h (V.int.inj z)
end
open PySem L2 L3 M1
section
variable {P:Program} {w:World} {K:PySem.W.Frag} {mg:Str→Option Value} {base:Heap}
noncomputable def top (i:Nat):Stmt:=PySem.Challenge.pw_postroad_k33_whole_one_goal_in_time.main.body.getD i (.Pass ⟨0,0,0,0⟩)
end
open PySem L2 L3 M1
mutual
inductive Th (H:Hp):L2.V→PyData→Prop
 | non:Th H .non .none
 | bl (b:Bool):Th H (.bl b) (.bool b)
 | int (i:Int):Th H (.int i) (.int i)
 | str (x:Str) (z:x.length≤100) (ok:PyData.strOk x=true):Th H (.str x) (.str x)
 | lst {a:Addr} {xs:List L2.V} {ds:List PyData}:H a=some (.lst xs)→xs.length≤100→Ths H xs ds→Th H (.ref a) (.list ds)
 | tup {a:Addr} {xs:List L2.V} {ds:List PyData}:H a=some (.tup xs)→xs.length≤100→Ths H xs ds→Th H (.ref a) (.tuple ds)
inductive Ths (H:Hp):List L2.V→List PyData→Prop
 | nil:Ths H [] []
 | cons {v:L2.V} {d:PyData} {vs:List L2.V} {ds:List PyData}:Th H v d→Ths H vs ds→Ths H (v::vs) (d::ds)
end
mutual
theorem Th.same {H H':Hp} (sm:aB H H'):∀{v:L2.V} {d:PyData},Th H v d→Th H' v d
 | _,_,.non=>.non
 | _,_,.bl b=>.bl b
 | _,_,.int i=>.int i
 | _,_,.str x z ok=>.str x z ok
 | _,_,.lst h z t=>.lst (sm _ _ h) z (Ths.same sm t)
 | _,_,.tup h z t=>.tup (sm _ _ h) z (Ths.same sm t)
theorem Ths.same {H H':Hp} (sm:aB H H'):∀{vs:List L2.V} {ds:List PyData},Ths H vs ds→Ths H' vs ds
 | _,_,.nil=>.nil
 | _,_,.cons a b=>.cons (Th.same sm a) (Ths.same sm b)
end
mutual
theorem Th.dt {K:PySem.W.Frag} {H:Hp}:∀{v:L2.V} {d:PyData},Th H v d→Dt K H v d
 | _,_,.non=>.non
 | _,_,.bl b=>.bl b
 | _,_,.int i=>.int i
 | _,_,.str x z ok=>.str x
 | _,_,.lst h z t=>.lst (SqL.of h) (Ths.dt t)
 | _,_,.tup h z t=>.tup (SqT.of h) (Ths.dt t)
theorem Ths.dt {K:PySem.W.Frag} {H:Hp}:∀{vs:List L2.V} {ds:List PyData},Ths H vs ds→Dts K H vs ds
 | _,_,.nil=>.nil
 | _,_,.cons a b=>.cons (Th.dt a) (Ths.dt b)
end
mutual
theorem Th.can {H:Hp}:∀{v:L2.V} {d:PyData},Th H v d→d.canLay0=true
 | _,_,.non=>rfl
 | _,_,.bl b=>rfl
 | _,_,.int i=>rfl
 | _,_,.str x z ok=>ok
 | _,_,.lst h z t=>Ths.can t
 | _,_,.tup h z t=>Ths.can t
theorem Ths.can {H:Hp}:∀{vs:List L2.V} {ds:List PyData},Ths H vs ds→PyData.canLayAll0 ds=true
 | _,_,.nil=>rfl
 | _,_,.cons a b=>by
  simp only [PyData.canLayAll0,Bool.and_eq_true]
  exact ⟨Th.can a,Ths.can b⟩
end
noncomputable def inD (d:PyData) (ds:List PyData):Bool:=ds.any fun z=>PyData.eqv z d
noncomputable def dF (hs:List PyData) (a b:PyData):Bool:=inD a hs && inD b hs && !PyData.eqv a b
end K1
namespace L3
open PySem PySem.Spec PyProof.Rows L2
end L3
namespace K1
open PySem PySem.Spec PyProof.Rows L2 L3 M1
structure Pd where
 p:Hp→L2.V→Prop
 up:∀{H H':Hp} {v:L2.V},aB H H'→p H v→p H' v
noncomputable def sq (K:PySem.W.Frag) (xs:List L2.V):Pd:=⟨fun H v=>∃a,v=.ref a∧SqL K H a xs,fun sm ⟨a,e,h⟩=>⟨a,e,sm.seq h⟩⟩
section
variable {X:Cx} {e a b:Expr} {es:List Expr} {pos p2:Pos} {Γ:List (Option Pd)} {A B R:Pd}
variable {i j:Int}
noncomputable def cutD (xs:List PyData) (lo hi:Option Int):List PyData:=(xs.drop (HT.sIx xs.length 0 lo)).take (HT.sIx xs.length xs.length hi - HT.sIx xs.length 0 lo)
variable {st:List Stmt}
end
open PySem L2 L3 M1
noncomputable abbrev L (x:String):Str:=Str.ofString x
noncomputable def DR (a b:Str) (t m f:Int):List PyData:=
 ([.list [.str a,.str b,.int t,.int m],.tuple (cutD [.str a,.str b,.int t,.int m] none (some 3)),.tuple ([.str a,.str b,.int t,.int m]++[.int 1]),.none,.tuple [.str a,.str (L "noshow"),.int t,.int m],.tuple [.str a,.str a,.int 1,.int 1]]
  ++[.tuple [.str (L ""),.str b,.int 1,.int 1],.tuple [.str a,.str b,.int 0,.int m],.tuple [.str a,.str b,.int (10+f),.int m]]
  ++[.tuple [.str a,.str b,.bool true,.int 1],.tuple [.str a,.str b,.str (L "1"),.int 1],.tuple [.str a,.str b,.int t,.int 0],.str (L "road")]
  ++[.tuple [.str a,.str b,.int 1,.int (10 ^ (9:Int).toNat+1+f)],.tuple [.str a,.str b,.int 1,.int (-1 - f)]]
  ++[.tuple [.str a,.str b,.int 1,.bool true],.tuple [.str a,.str b,.int 1,.none],.tuple [.list [.str a],.str b,.int 1,.int 1]]
  ++[.tuple [.none,.str b,.int 1,.int 1],.tuple []])
noncomputable def dR (a b:Str) (t m c:Int):PyData:=(DR a b t m (c % 10 ^ (30:Int).toNat)).getD (c % 20).toNat .none
theorem Eh {hs:List (List Nat)} {y:Str} (h:y∉hs.map S):inD (.str y) (hD hs)=false:=by
 unfold inD
 rw [Bool.eq_false_iff]
 intro z
 obtain ⟨v,hv,e⟩:=List.any_eq_true.mp z
 obtain ⟨u,hu,rfl⟩:=List.mem_map.mp hv
 have e':(u==y)=true:=e
 exact h (eq_of_beq e'▸hu)
theorem Ei {H:Hp}:∀{hs:List (List Nat)},(∀x∈hs,Nm x)→Ths H (txs hs) (hD hs)
 | [],_=>.nil
 | l::hs,h=>.cons (.str (S l) (by rw [zJ];have:=(h l (List.mem_cons_self ..)).2.1;omega) (wj (h l (List.mem_cons_self ..)))) (Ei fun x hx=>h x (List.mem_cons_of_mem _ hx))
theorem Oc {H:Hp} {a:Addr} {hs:List (List Nat)} (G:Good hs) (h:H a=some (.lst (txs hs))):Th H (.ref a) (.list (hD hs)):=.lst h (by rw [m6];have:=G.few;omega) (Ei G.nm)
end K1
namespace M1
open PySem
noncomputable def hsz (c:Int):Nat:=(1+c % 8).toNat
noncomputable def hpl (c:Int):Nat:=(c / 8 % (1+c % 8)).toNat
noncomputable def hch (c:Int) (k j:Nat):Nat:=97+((c / 64+5 * (j:Int) * (j:Int)+2 * (k:Int) * (if j=hpl c then 1 else 0)) % 26).toNat
noncomputable def hnm (c:Int) (k:Nat):List Nat:=(List.range (hsz c)).map (hch c k)
noncomputable def gQ (c:Int) (m:Nat):List (List Nat):=(List.range m).map (hnm c)
theorem Ej (c:Int):1≤hsz c∧hsz c≤8:=by unfold hsz;omega
theorem Ii (c:Int):(1+c % 8)=(hsz c:Int):=by unfold hsz;omega
theorem Lf (c:Int):hpl c < hsz c:=by
 have h1:0 < 1+c % 8:=by omega
 have h2:=Int.emod_lt_of_pos (c / 8) h1
 have h3:=Int.emod_nonneg (c / 8) (by omega:1+c % 8≠0)
 unfold hpl hsz
 omega
theorem Ij (c:Int):c / 8 % (1+c % 8)=(hpl c:Int):=by
 have h3:=Int.emod_nonneg (c / 8) (by omega:1+c % 8≠0)
 unfold hpl
 omega
theorem Lg (c:Int) (k j:Nat):97≤hch c k j∧hch c k j≤122:=by unfold hch;omega
theorem Lh (c:Int) (k:Nat):Nm (hnm c k):=by
 have h:=Ej c
 refine ⟨by simp [hnm];omega,by simp [hnm];omega,fun x hx=>?_⟩
 obtain ⟨j,_,rfl⟩:=List.mem_map.mp hx
 exact Lg c k j
theorem Ik {c:Int} {k l:Nat} (hk:k < 13) (hl:l < 13) (e:hnm c k=hnm c l):k=l:=by
 have h:=Lf c
 have e2:(hnm c k)[hpl c]?=(hnm c l)[hpl c]?:=by rw [e]
 unfold hnm at e2
 rw [List.getElem?_map,List.getElem?_map,List.getElem?_range h] at e2
 have e3:hch c k (hpl c)=hch c l (hpl c):=by simpa using e2
 unfold hch at e3
 rw [if_pos rfl] at e3
 generalize c / 64+5 * (hpl c:Int) * (hpl c:Int)=z at e3
 omega
theorem uz {α:Type} {f:Nat→α} {m:Nat} (h:∀i j,i < m→j < m→f i=f j→i=j):((List.range m).map f).Nodup:=by
 refine List.pairwise_map.mpr ?_
 refine List.Pairwise.imp_of_mem ?_ (List.nodup_range (n:=m))
 intro a b ha hb hab e
 exact hab (h a b (List.mem_range.mp ha) (List.mem_range.mp hb) e)
theorem yx {c:Int} {m:Nat} (h:m≤12):(gQ c m).Nodup:=uz fun i j hi hj e=>Ik (by omega) (by omega) e
theorem jW (c:Int) (m:Nat):(gQ c m).length=m:=by simp [gQ]
structure Lt where
 a:Nat
 b:Nat
 t:Int
noncomputable def uA (c:Int):Int:=c * 982451653 % 10000000000037
noncomputable def m7 (n:Nat) (c:Int):Int:=uA c % n
noncomputable def lend (n:Nat) (c:Int):Int:=(m7 n c+1+uA c / n % ((n:Int) - 1)) % n
noncomputable def lt (n:Nat) (c base:Int):Lt:=⟨(m7 n c).toNat,(lend n c).toNat,base+uA c / 1000 % 31⟩
structure Lt.Ok (d:Lt) (n:Nat) (base:Int):Prop where
 a:d.a < n
 b:d.b < n
 ne:d.a≠d.b
 lo:base≤d.t
 hi:d.t≤base+30
theorem Od {n:Nat} (h:1 < n) (c base:Int):(lt n c base).Ok n base:=by
 have b1:0≤m7 n c:=Int.emod_nonneg _ (by omega)
 have b2:m7 n c < n:=Int.emod_lt_of_pos _ (by omega)
 have e1:0≤lend n c:=Int.emod_nonneg _ (by omega)
 have e2:lend n c < n:=Int.emod_lt_of_pos _ (by omega)
 have d1:0≤uA c / n % ((n:Int) - 1):=Int.emod_nonneg _ (by omega)
 have d2:uA c / n % ((n:Int) - 1) < (n:Int) - 1:=Int.emod_lt_of_pos _ (by omega)
 have ne:m7 n c≠lend n c:=by
  intro z
  have e3:lend n c=(m7 n c+1+uA c / n % ((n:Int) - 1)) % n:=rfl
  generalize uA c / n % ((n:Int) - 1)=x at d1 d2 e3
  by_cases hlt:m7 n c+1+x < n
  ·rw [Int.emod_eq_of_lt (by omega) hlt] at e3
   omega
  ·have h5:(m7 n c+1+x) % (n:Int)=(m7 n c+1+x - n) % (n:Int):=by rw [Int.sub_emod_right]
   rw [h5,Int.emod_eq_of_lt (by omega) (by omega)] at e3
   omega
 have t1:0≤uA c / 1000 % 31:=Int.emod_nonneg _ (by decide)
 have t2:uA c / 1000 % 31 < 31:=Int.emod_lt_of_pos _ (by decide)
 exact ⟨by show (m7 n c).toNat < n;omega,by show (lend n c).toNat < n;omega,by show (m7 n c).toNat≠(lend n c).toNat;omega,by show base≤base+_;omega,by show base+_≤base+30;omega⟩
end M1
namespace L3
open PySem PySem.Spec PyProof.Rows L2
noncomputable def Calm {α:Type}:Sem α→Prop
 | .pure _=>True
 | .raise _=>True
 | .unsupported _=>True
 | .finish _=>True
 | .register _ _=>True
 | .rule _ k=>Calm (k ())
 | .at _ k=>Calm (k ())
 | .load _ _ k=>∀o,Calm (k o)
 | .update _ _ f k=>(∀o,(f o).dict=o.dict)∧Calm (k ())
 | .alloc _ k=>∀a,Calm (k a)
 | .loadIfAlive _ k=>∀o,Calm (k o)
 | .point _ k=>Calm (k ())
 | .fresh k=>∀t,Calm (k t)
 | .ask k=>∀t,Calm (k t)
 | .handled _ k=>∀t,Calm (k t)
 | .stack k=>∀t,Calm (k t)
 | .thread k=>∀n,Calm (k n)
 | _=>False
noncomputable def cU (h h':Heap):Prop:=h.objs.size≤h'.objs.size∧∀e,e < h.objs.size→(h'.objs[e]?).map (·.dict)=(h.objs[e]?).map (·.dict)
theorem cU.refl (h:Heap):cU h h:=⟨Nat.le_refl _,fun _ _=>rfl⟩
theorem cU.trans {h h1 h2:Heap} (a:cU h h1) (b:cU h1 h2):cU h h2:=⟨Nat.le_trans a.1 b.1,fun e he=>(b.2 e (Nat.lt_of_lt_of_le he a.1)).trans (a.2 e he)⟩
theorem cU.push (h:Heap) (o:Obj):cU h (h.push o):=by
 obtain ⟨objs,l⟩:=h
 refine ⟨?_,fun e he=>?_⟩
 ·show objs.size≤(objs.push o).size
  simp
 ·show ((objs.push o)[e]?).map _=_
  rw [Array.getElem?_push_lt he]
  simp [he]
theorem cU.update (h:Heap) (a:Addr) {f:Obj→Obj} (hf:∀o,(f o).dict=o.dict):cU h (h.update a f):=by
 obtain ⟨objs,l⟩:=h
 refine ⟨?_,fun e he=>?_⟩
 ·show objs.size≤(objs.modify a f).size
  simp
 ·show ((objs.modify a f)[e]?).map _=_
  rw [Array.getElem?_modify]
  split
  ·cases objs[e]? with
   | none=>rfl
   | some o=>show some (f o).dict=_;rw [hf];rfl
  ·rfl
theorem cU.dict {h h':Heap} (s:cU h h') {e:Addr} {o o':Obj} (a:h.get? e=some o) (b:h'.get? e=some o'):o'.dict=o.dict:=by
 have h1:=(Heap.get?_some_iff.mp a).1
 have h2:=(Heap.get?_some_iff.mp b).1
 have:=s.2 e (Heap.lt_size a)
 rw [h1,h2] at this
 exact Option.some.inj this
theorem Il {α:Type} {M:Model} {Γ:PySem.Ctx} {Q:α→Pos→Shared→Prop} {E:Value→Pos→Shared→Prop} (t:Sem α) (hc:Calm t) (p:Pos) (s:Shared) (h:Sem.wp M Γ t Q E p s):
  Sem.wp M Γ t (fun a p' s'=>Q a p' s'∧cU s.heap s'.heap) (fun a p' s'=>E a p' s'∧cU s.heap s'.heap) p s:=by
 have key:∀(t:Sem α),Calm t→∀(p:Pos) (s:Shared) (h0:Heap),cU h0 s.heap→Sem.wp M Γ t Q E p s→Sem.wp M Γ t (fun a p' s'=>Q a p' s'∧cU h0 s'.heap) (fun a p' s'=>E a p' s'∧cU h0 s'.heap) p s:=by
  intro t
  induction t with
  | pure a=>exact fun _ p s h0 sd h=>⟨h,sd⟩
  | raise e=>exact fun _ p s h0 sd h=>⟨h,sd⟩
  | unsupported=>exact fun _ p s h0 sd h=>h
  | finish=>exact fun _ p s h0 sd h=>h
  | register=>exact fun _ p s h0 sd h=>h
  | rule _ k ih=>exact fun c p s h0 sd h=>ih () c p s h0 sd h
  | «at» _ k ih=>exact fun c p s h0 sd h=>ih () c _ s h0 sd h
  | load a _ k ih=>exact fun c p s h0 sd ⟨o,e,h⟩=>⟨o,e,ih o (c o) p s h0 sd h⟩
  | update a _ f k ih=>exact fun c p s h0 sd ⟨e,h⟩=>⟨e,ih () c.2 p _ h0 (sd.trans (cU.update _ _ c.1)) h⟩
  | alloc o k ih=>exact fun c p s h0 sd h=>ih _ (c _) p _ h0 (sd.trans (cU.push _ _)) h
  | loadIfAlive a k ih=>exact fun c p s h0 sd h=>ih _ (c _) p s h0 sd h
  | point _ k ih=>exact fun c p s h0 sd h=>ih () c p s h0 sd h
  | fresh k ih=>exact fun c p s h0 sd h=>ih _ (c _) p _ h0 sd h
  | ask k ih=>exact fun c p s h0 sd h=>ih _ (c _) p s h0 sd h
  | handled _ k ih=>exact fun c p s h0 sd h=>ih _ (c _) p s h0 sd h
  | stack k ih=>exact fun c p s h0 sd h=>ih _ (c _) p s h0 sd h
  | thread k ih=>exact fun c p s h0 sd h=>ih _ (c _) p s h0 sd h
  | choose=>exact fun c=>c.elim
  | os=>exact fun c=>c.elim
  | call=>exact fun c=>c.elim
  | newGen=>exact fun c=>c.elim
  | genState=>exact fun c=>c.elim
  | resume=>exact fun c=>c.elim
  | yield=>exact fun c=>c.elim
  | fork=>exact fun c=>c.elim
  | await=>exact fun c=>c.elim
 exact key t hc p s s.heap (cU.refl _) h
theorem m8 {α:Type} {M:Model} {A:Around} {Q:α→Shared→Prop} {E:Value→Shared→Prop} {t:Sem α} {s:Shared} (hc:Calm t) (h:wpAny M A t Q E s):wpAny M A t (fun a s'=>Q a s'∧cU s.heap s'.heap) (fun a s'=>E a s'∧cU s.heap s'.heap) s:=
 fun Γ p hΓ=>Il t hc p s (h Γ p hΓ)
theorem aQ {α β:Type} {t:Sem α} {f:α→Sem β} (h:Calm t) (hf:∀a,Calm (f a)):Calm (t >>=f):=by
 show Calm (t.bind f)
 induction t with
 | pure a=>exact hf a
 | raise e=>exact h
 | unsupported=>exact h
 | finish=>exact h
 | register=>exact h
 | rule _ k ih=>exact ih () h
 | «at» _ k ih=>exact ih () h
 | load a _ k ih=>exact fun o=>ih o (h o)
 | update a _ f k ih=>exact ⟨h.1,ih () h.2⟩
 | alloc o k ih=>exact fun a=>ih a (h a)
 | loadIfAlive a k ih=>exact fun a=>ih a (h a)
 | point _ k ih=>exact ih () h
 | fresh k ih=>exact fun a=>ih a (h a)
 | ask k ih=>exact fun a=>ih a (h a)
 | handled _ k ih=>exact fun a=>ih a (h a)
 | stack k ih=>exact fun a=>ih a (h a)
 | thread k ih=>exact fun a=>ih a (h a)
 | choose=>exact h.elim
 | os=>exact h.elim
 | call=>exact h.elim
 | newGen=>exact h.elim
 | genState=>exact h.elim
 | resume=>exact h.elim
 | yield=>exact h.elim
 | fork=>exact h.elim
 | await=>exact h.elim
theorem bA {α:Type} {a:α}:Calm (pure a:Sem α):=trivial
theorem dN {α:Type} {x:String}:Calm (unsupported x:Sem α):=trivial
theorem fu {α:Type} {c:Prop} [Decidable c] {a b:Sem α} (ha:Calm a) (hb:Calm b):Calm (if c then a else b):=by split <;> assumption
theorem ou {a:Addr}:Calm (load a):=fun _=>trivial
theorem rO {v:Value}:Calm (fieldsOf v):=by
 unfold fieldsOf
 cases v <;> first | exact dN | skip
 refine aQ ou fun o=>?_
 split <;> first | exact bA | exact dN
theorem jE {v:Value} {i:Nat}:Calm (field v i):=by
 unfold field
 refine aQ rO fun o=>?_
 split <;> first | exact bA | exact dN
theorem iZ {v:Value} {i:Nat} {x:Value}:Calm (setField v i x):=by
 unfold setField
 cases v <;> first | exact dN | skip
 refine aQ ou fun o=>?_
 split
 ·refine fu ⟨fun o=>?_,trivial⟩ dN
  obtain ⟨c,d,dt,sl⟩:=o
  cases dt <;> rfl
 ·exact dN
theorem iy {v:Value} {f:Option Addr}:Calm (setFlight v f):=by
 unfold setFlight
 refine aQ jE fun o=>fu iZ bA
theorem lV:Calm stack:=fun _=>trivial
theorem qt {ty:String} {vs:List Value}:Calm (newFields ty vs):=by
 have as:Calm (newObjAsIs (.type ty) (.fields vs.toArray)):=by
  unfold newObjAsIs
  exact aQ (fun _=>trivial) fun a=>bA
 unfold newFields newObj
 exact fu (c:=vs.toArray.size > sizeLine+2) (aQ dN fun _=>as) as
theorem yz {f:Addr} {b:Bool}:Calm (entryPlaceOf f b):=by
 unfold entryPlaceOf
 refine aQ lV fun o=>?_
 split <;> exact bA
theorem wu {env:Env} {outer:List Env}:Calm (behindIsImport env outer):=by
 unfold behindIsImport
 exact fu bA (fu bA (aQ jE fun _=>bA))
theorem Bq {env:Env} {b:Bool} {l:List Env}:Calm (keptBack env b l):=by
 unfold keptBack
 split
 ·refine fu bA (aQ ?_ fun _=>bA)
  exact aQ lV fun _=>bA
 ·exact bA
theorem qu:∀l:List Env,Calm (readyFrames l)
 | []=>trivial
 | env::outer=>by
  unfold readyFrames
  split
  ·exact aQ ou fun o=>fu bA (aQ wu fun _=>aQ Bq fun _=>aQ ⟨fun _=>rfl,trivial⟩ fun _=>qu outer)
  ·exact dN
theorem uB {env:Env}:Calm (PySem.frameOf env):=by
 unfold PySem.frameOf frameEnvs
 refine aQ (aQ lV fun _=>bA) fun l=>aQ ?_ fun o=>?_
 ·generalize List.dropWhile _ l=l'
  cases l' with
  | nil=>exact bA
  | cons a b=>exact aQ (qu _) fun _=>bA
 ·split <;> first | exact bA | exact dN
theorem sY {e:Value} {env:Env}:Calm (noteFrame e env):=by
 unfold noteFrame
 have last:∀(f:Addr) (head:Value),Calm (do
   let a ←PySem.frameOf env
   let b ←entryPlaceOf f (head !=Value.none)
   let c ←EntryCells.newEntry head a Value.none (rawInt f) Value.none b
   setField e 1 c):=fun f head=>aQ uB fun _=>aQ yz fun _=>aQ qt fun _=>iZ
 split
 ·exact aQ jE fun head=>fu (aQ jE fun _=>fu bA (aQ iZ fun _=>last _ _)) (last _ _)
 ·exact dN
theorem uC {e:Value} {env:Env}:Calm (leaving env e):=aQ sY fun _=>iy
noncomputable def uD (cC cR:ClassData) (sC:Array (Option Value)) (C:Addr) (newId:String):Bool:=
 (cC.mro==Value.ref C::cR.mro) && !cC.hasDel && (match sC.toList with | [_,_,_,_,some (.builtin n),_]=>n==newId | _=>false)
theorem Ek {K:PySem.W.Frag} {mg:Str→Option Value} {h:Heap} {y:Str} {C R:Addr} {bm:List Value} {newId:String} {dC dR:Option Addr} {cC cR:ClassData} {sC sR:Array (Option Value)} (X:K.In h) (O:Exc K mg y R bm newId)
  (lC:K.lookup C=some ⟨.type "type",dC,.cls cC,sC⟩) (lR:K.lookup R=some ⟨.type "type",dR,.cls cR,sR⟩) (ck:uD cC cR sC C newId=true):
  ∃nm q N bs tl sn sub ab col k0 k1 k2 k3 k5,h.get? C=some (excClassObj nm q C N bs tl cC.hasDict sn sub ab col dC k0 k1 k2 k3 k5 newId)∧OwnTail h bm tl:=by
 obtain ⟨tl,Nn,nm,q,bs,hdct,sn,sub,ab,col,dd,k0,k1,k2,k3,k5,mN,hR,hN,hni,T⟩:=(O.own X).obj
 have hR':=X _ _ lR
 have e1:=hR'.symm.trans hR
 have e2:=Option.some.inj e1
 have hm:cR.mro=Value.ref R::tl:=by
  have e3:(Data.cls cR)=_:=congrArg Obj.data e2
  injection e3 with e3
  rw [e3]
 unfold uD at ck
 simp only [Bool.and_eq_true,beq_iff_eq,Bool.not_eq_true'] at ck
 obtain ⟨⟨c1,c2⟩,c3⟩:=ck
 split at c3
 ·rename_i j0 j1 j2 j3 n j5 hs
  have c3:=beq_iff_eq.mp c3
  subst c3
  obtain ⟨nm',bs',mro',ns',qn',hd',sn',sub',ab',col',del'⟩:=cC
  dsimp only at c1 c2
  rw [hm] at c1
  subst c1 c2
  obtain ⟨sll⟩:=sC
  simp only at hs
  subst hs
  exact ⟨_,_,_,_,_,_,_,_,_,_,_,_,_,_,X _ _ lC,.own hR hN hni T⟩
 ·cases c3
section
variable {prog:Program} {w:World} {A:Around} {E:Value→Shared→Prop} {s:Shared} {K:PySem.W.Frag}
variable {nm q:Str} {C N fI:Addr} {bs bm tl:List Value} {hd:Bool} {sn:List Str} {sub:List Value} {ab:Bool} {col:Option Bool} {dC:Option Addr} {k0 k1 k2 k3 k5:Option Value} {B newId initId:String}
theorem Br (F:ExcBaseFacts B newId initId bm) {rest:List Value} {Q:Value→Shared→Prop} (T:OwnTail s.heap bm tl) (X:K.In s.heap) (hC:s.heap.get? C=some (excClassObj nm q C N bs tl hd sn sub ab col dC k0 k1 k2 k3 k5 newId))
  (hi:PySem.W.findIn K (.ref C) "__init__"=some (some (.ref fI))) (hf:PySem.W.typeIn K (.ref fI)=some (.type "function")) (hrest:rest.length≤sizeLine)
  (hq:∀h' e,s.heap.objs.size≤e→Heap.MadeExcOf s.heap h' e (.ref C) rest→wpAny (model prog w) (A.under (.builtin "type.__call__" ⟨.ref C::rest,[]⟩)) (call (.ref fI) (.ref e::rest)) (fun r s'=>r=.none∧Q (.ref e) s') E {s with heap:=h'}):
  wpAny (model prog w) A (call (.ref C) rest) Q E s:=by
 obtain ⟨h,g,d,t,os⟩:=s
 have f1:=tc_lookup
 have f2:=tc_bind (.ref C)
 have hT:(⟨h,g,d,t,os⟩:Shared).TypeIs (.ref C) "type":=⟨_,hC,rfl⟩
 refine wpAny_call (codeAny_of_tree (show wpAny _ _ (callAny (.ref C) _) _ _ _ from ?_))
 repeat (any_goals (first | assumption | with_reducible refine wpAny_loadPart_at hC ?_ | wp_step))
 refine ⟨rfl,codeAny_call_builtin_at (Code.quiet_builtin _ (by decide+kernel)) entry_typeCall (wpAny_check_type_call_sub hC ?_)⟩
 repeat (first | with_reducible refine wpAny_madeBy_exc hC ?_ | with_reducible refine wpAny_loadPart_at hC ?_ | wp_step)
 refine codeAny_call_builtin_code (Code.quiet_builtin _ F.quiet) (wpAny_check_new_subT F T hC (codeAny_exc_new_subT F T hC (show wpAny _ _ _ _ _ _ from ?_) hrest))
 have hget:((h.push {cls:=.type "tuple",data:=.seq rest.toArray}).push {cls:=.ref C,data:=.fields #[.ref h.objs.size,.none,.none,.none,.bool false,.none]}).get? (h.objs.size+1)=some {cls:=.ref C,data:=.fields #[.ref h.objs.size,.none,.none,.none,.bool false,.none]}:=by heap_get
 have mk:Heap.MadeExcOf h ((h.push {cls:=.type "tuple",data:=.seq rest.toArray}).push {cls:=.ref C,data:=.fields #[.ref h.objs.size,.none,.none,.none,.bool false,.none]}) (h.objs.size+1) (.ref C) rest:=
  ⟨fun b o hb=>Heap.get?_push_of_some _ (Heap.get?_push_of_some _ hb),Heap.get?_none_of_le (Nat.le_succ _),h.objs.size,hget,Heap.get?_none_of_le (Nat.le_refl _),Heap.get?_push_of_some _ (Heap.get?_push_at rfl rfl)⟩
 have hq2:=hq _ _ (Nat.le_succ _) mk
 have X2:=X.keeps mk.keeps
 have hC2:=mk.keeps _ _ hC
 have hcC:(Value.ref C::tl).contains (.ref C)=true:=by simp
 show wpAny _ _ _ _ _ ⟨(h.push {cls:=.type "tuple",data:=.seq rest.toArray}).push {cls:=.ref C,data:=.fields #[.ref h.objs.size,.none,.none,.none,.bool false,.none]},g,d,t,os⟩
 dsimp only
 generalize (h.push {cls:=.type "tuple",data:=.seq rest.toArray}).push {cls:=.ref C,data:=.fields #[.ref h.objs.size,.none,.none,.none,.bool false,.none]}=h2 at hget mk hq2 X2 hC2 ⊢
 generalize h.objs.size=a0 at hget mk hq2 hC2 ⊢
 unfold isInstance
 repeat (first | with_reducible refine wpAny_loadPart_at hget ?_ | (with_reducible refine wpAny_isSubtype_exc hC2 ?_;rw [hcC]) | wp_step)
 refine (PySem.W.looks_findIn X2 hi).here ?_
 refine wpAny_holding (wpAny_bind ((PySem.W.bind_fn X2 _ hf).here ?_))
 show wpAny _ _ (call (.ref fI) (.ref (a0+1)::rest) >>=fun r=>pure (some r)) _ _ _
 refine wpAny_bind (wpAny_mono hq2 (fun r s' hr=>?_) fun _ _ z=>z)
 obtain ⟨rfl,hQ⟩:=hr
 wp_walk
 exact hQ
theorem Bt (F:ExcBaseFacts B newId initId bm) {R:Result→Shared→Prop} {e t0:Addr} {od:Option Addr} {sl:Array (Option Value)} {rest:List Value} (T:OwnTail s.heap bm tl) (hC:s.heap.get? C=some (excClassObj nm q C N bs tl hd sn sub ab col dC k0 k1 k2 k3 k5 newId))
  (he:s.heap.get? e=some ⟨.ref C,od,.fields #[.ref t0,.none,.none,.none,.bool false,.none],sl⟩) (hrest:rest.length≤sizeLine)
  (hq:∀h' t,(∀b o,b≠e→s.heap.get? b=some o→h'.get? b=some o)→h'.get? e=some ⟨.ref C,od,.fields #[.ref t,.none,.none,.none,.bool false,.none],sl⟩→R (.ok (.ret .none)) {s with heap:=h'}):
  codeAny (model prog w) A (.call (.builtin initId) ⟨.ref e::rest,[]⟩) R s:=by
 obtain ⟨h,g,d,t,os⟩:=s
 refine codeAny_call_builtin F.init.plain F.initEntry (wpAny_check_init_subT F T hC he rfl ?_)
 dsimp only at he ⊢
 wp_walk
 have he1:(h.push {cls:=.type "tuple",data:=.seq rest.toArray}).get? e=_:=Heap.get?_push_of_some _ he
 refine hq _ h.objs.size (fun b o hb hbo=>?_) ?_
 ·show ((h.push _).update e _).get? b=some o
  rw [Heap.get?_update_other _ _ (Ne.symm hb)]
  exact Heap.get?_push_of_some _ hbo
 ·show ((h.push _).update e _).get? e=_
  rw [Heap.get?_update_self _ he1 rfl]
  rfl
theorem oY {h:Heap} (T:OwnTail h bm tl) (self:Value) (what:Str):refuseLoop self what tl=refuseLoop self what bm:=by
 induction T with
 | base=>rfl
 | own _ _ _ _ ih=>rw [refuseLoop_ref,ih]
theorem zM {M:Model} {d:Addr} {mA:Str→Option Value} {name:Str} {tk:Tok} {v:Value} {ns:List Str} {Q:Fin→Shared→Prop} (hn:s.heap.Ns1 d mA) (hw:PySem.Within mA ns) (hz:ns.length≤1000)
  (hq:∀h' tk',h'.Ns1 d (fun y=>if y=name then some v else mA y)→Heap.SameBut d s.heap h'→Q (.done (.ret .none)) {s with heap:=h',toks:=tk'}):
  wpAny M A (Builtin.ObjectAttr.storeInDict d (.str name tk) name v) Q E s:=by
 unfold Builtin.ObjectAttr.storeInDict Builtin.ObjectAttr.newKeyGuard
 refine wpAny_bind (wpAny_pure (wpAny_bind (wpAny_nsSet1 hn fun h' hn' hs=>?_)))
 obtain ⟨oD,esD,epD,hoD,hdD,hcD⟩:=hn'.count (PySem.Within.cons name v hw)
 refine wpAny_bind (wpAny_lookBehind hoD (by rw [hdD];exact pastItsLine_dict (Nat.le_trans hcD (by rw [List.length_cons,sizeLine_eq];omega))) ?_)
 exact wpAny_pure (hq _ _ hn' hs)
theorem Im {x:Addr} {name:Str} {v:Value} {sa owner:String} {vs:Array Value} {sl:Array (Option Value)} {Q:Unit→Shared→Prop} (X:K.In s.heap) (SF:StoreFacts B bm sa owner) (T:OwnTail s.heap bm tl) (hC:s.heap.get? C=some (excClassObj nm q C N bs tl hd sn sub ab col dC k0 k1 k2 k3 k5 newId))
  (hs:PySem.W.findIn K (.ref C) "__setattr__"=some (some (.builtin sa))) (hn:PySem.W.findIn K (.ref C) name=some none) (ho:PySem.W.subIn K (.ref C) (.type owner)=some true) (hx:s.heap.get? x=some ⟨.ref C,none,.fields vs,sl⟩) (hdc:hd=true)
  (hq:∀h' tk',h'.get? x=some ⟨.ref C,some s.heap.objs.size,.fields vs,sl⟩→h'.Ns1 s.heap.objs.size (fun y=>if y=name then some v else none)→(∀b o,b≠x→s.heap.get? b=some o→h'.get? b=some o)→Q () {s with heap:=h',toks:=tk'}):
  wpAny (model prog w) A (setAttr (.ref x) name v) Q E s:=by
 obtain ⟨h,g,d,t,os⟩:=s
 dsimp only at X T hC hx
 have ty:PySem.W.Looks (model prog w) h (typeOf (.ref x)) (.ref C):=(PySem.W.Looks.ld hx).andThen .now
 have ob:PySem.W.Looks (model prog w) h (isInstance (.ref x) (.type owner)) true:=ty.andThen (PySem.W.looks_subIn X ho)
 unfold setAttr callSpecial? specialOf
 have f3:=SF.slot.bind (.ref x)
 repeat (any_goals (first | assumption | with_reducible refine wpAny_loadPart_at hx ?_ | wp_step))
 refine (PySem.W.looks_findIn X hs).here (wpAny_holding (wpAny_bind (wpAny_of_eq f3 (wpAny_bind (wpAny_call (codeAny_call_builtin SF.slot.plain SF.entry (PySem.W.check_slot SF.kind SF.split ob (SF.args _ _ _) ?_)))))))
 have hpass:=SF.passes (.ref x)
 have hp2:refuseLoop (.ref x) "__setattr__" tl=pure ():=(oY T _ _).trans hpass
 unfold Builtin.«object.__setattr__»
 repeat (first | rw [refuse_eq] | (rw [refuseLoop_ref,hp2]) | with_reducible refine wpAny_loadPart_at hx ?_ | with_reducible refine wpAny_mroOf_exc hC ?_ | wp_step)
 refine (PySem.W.looks_findIn X hn).here (wpAny_bind (wpAny_pure ?_))
 show wpAny _ _ (Builtin.ObjectAttr.storeInOwnDict _ _ _ _ _ _) _ _ _
 unfold Builtin.ObjectAttr.storeInOwnDict
 refine wpAny_bind (wpAny_mono (Q:=fun _ s'=>s'=⟨h,g,d,t+1,os⟩) (E:=fun _ _=>False) ?_ (fun _ _ e1=>?_) (fun _ _ z=>z.elim))
 ·repeat (first | with_reducible refine wpAny_loadPart_at hx ?_ | with_reducible refine wpAny_loadPart_at hC ?_ | wp_step)
  exact rfl
 ·subst e1
  have hxs:x≠h.objs.size:=Nat.ne_of_lt (Heap.lt_size hx)
  have hx1:(h.push {cls:=.type "dict",data:=.dict #[]}).get? x=_:=Heap.get?_push_of_some _ hx
  refine wpAny_bind (wpAny_mono (Q:=fun r s'=>r=some h.objs.size∧s'=⟨(h.push {cls:=.type "dict",data:=.dict #[]}).update x fun o=>{o with dict:=some h.objs.size},g,d,t+1,os⟩) (E:=fun _ _=>False) ?_ (fun _ _ e1=>?_) (fun _ _ z=>z.elim))
  ·show wpAny _ _ (instanceDict x true) _ _ _
   subst hdc
   unfold instanceDict
   repeat (first | with_reducible refine wpAny_loadPart_at hx ?_ | with_reducible refine wpAny_loadPart_at hC ?_ | wp_step)
   exact ⟨rfl,rfl⟩
  ·obtain ⟨rfl,rfl⟩:=e1
   have hgx:((h.push {cls:=.type "dict",data:=.dict #[]}).update x fun o=>{o with dict:=some h.objs.size}).get? x=some ⟨.ref C,some h.objs.size,.fields vs,sl⟩:=by
    rw [Heap.get?_update_self _ hx1 rfl]
   have hgd:((h.push {cls:=.type "dict",data:=.dict #[]}).update x fun o=>{o with dict:=some h.objs.size}).get? h.objs.size=some {cls:=.type "dict",data:=.dict #[]}:=
    (Heap.get?_update_other _ _ hxs).trans (Heap.get?_push_at rfl rfl)
   have hnd:((h.push {cls:=.type "dict",data:=.dict #[]}).update x fun o=>{o with dict:=some h.objs.size}).Ns h.objs.size (fun _=>none):=⟨_,#[],_,hgd,rfl,fun e he=>absurd he (by simp),fun _=>rfl⟩
   refine zM (mA:=fun _=>none) (ns:=[]) (Heap.Ns1.of_empty hnd) PySem.Within.nil (by decide) fun h' tk' hn' sb=>?_
   refine wpAny_pure (wpAny_pure (hq h' tk' ?_ hn' fun b o hb hbo=>?_))
   ·exact (sb.2 x hxs).trans hgx
   ·refine (sb.2 b (Nat.ne_of_lt (Heap.lt_size hbo))).trans ((Heap.get?_update_other _ _ (Ne.symm hb)).trans (Heap.get?_push_of_some _ hbo))
theorem El {x dx:Addr} {name:Str} {v:Value} {sa owner:String} {vs:Array Value} {sl:Array (Option Value)} {mA:Str→Option Value} {ns:List Str} {Q:Unit→Shared→Prop} (X:K.In s.heap) (SF:StoreFacts B bm sa owner) (T:OwnTail s.heap bm tl) (hC:s.heap.get? C=some (excClassObj nm q C N bs tl hd sn sub ab col dC k0 k1 k2 k3 k5 newId))
  (hs:PySem.W.findIn K (.ref C) "__setattr__"=some (some (.builtin sa))) (hn:PySem.W.findIn K (.ref C) name=some none) (ho:PySem.W.subIn K (.ref C) (.type owner)=some true) (hx:s.heap.get? x=some ⟨.ref C,some dx,.fields vs,sl⟩) (hdc:hd=true) (hN:s.heap.Ns1 dx mA) (hw:PySem.Within mA ns) (hz:ns.length≤1000)
  (hq:∀h' tk',h'.Ns1 dx (fun y=>if y=name then some v else mA y)→Heap.SameBut dx s.heap h'→Q () {s with heap:=h',toks:=tk'}):
  wpAny (model prog w) A (setAttr (.ref x) name v) Q E s:=by
 obtain ⟨h,g,d,t,os⟩:=s
 dsimp only at X T hC hx hN
 have ty:PySem.W.Looks (model prog w) h (typeOf (.ref x)) (.ref C):=(PySem.W.Looks.ld hx).andThen .now
 have ob:PySem.W.Looks (model prog w) h (isInstance (.ref x) (.type owner)) true:=ty.andThen (PySem.W.looks_subIn X ho)
 unfold setAttr callSpecial? specialOf
 have f3:=SF.slot.bind (.ref x)
 repeat (any_goals (first | assumption | with_reducible refine wpAny_loadPart_at hx ?_ | wp_step))
 refine (PySem.W.looks_findIn X hs).here (wpAny_holding (wpAny_bind (wpAny_of_eq f3 (wpAny_bind (wpAny_call (codeAny_call_builtin SF.slot.plain SF.entry (PySem.W.check_slot SF.kind SF.split ob (SF.args _ _ _) ?_)))))))
 have hp2:refuseLoop (.ref x) "__setattr__" tl=pure ():=(oY T _ _).trans (SF.passes (.ref x))
 unfold Builtin.«object.__setattr__»
 repeat (first | rw [refuse_eq] | (rw [refuseLoop_ref,hp2]) | with_reducible refine wpAny_loadPart_at hx ?_ | with_reducible refine wpAny_mroOf_exc hC ?_ | wp_step)
 refine (PySem.W.looks_findIn X hn).here (wpAny_bind (wpAny_pure ?_))
 show wpAny _ _ (Builtin.ObjectAttr.storeInOwnDict _ _ _ _ _ _) _ _ _
 unfold Builtin.ObjectAttr.storeInOwnDict
 refine wpAny_bind (wpAny_mono (Q:=fun _ s'=>s'=⟨h,g,d,t+1,os⟩) (E:=fun _ _=>False) ?_ (fun _ _ e1=>?_) (fun _ _ z=>z.elim))
 ·repeat (first | with_reducible refine wpAny_loadPart_at hx ?_ | with_reducible refine wpAny_loadPart_at hC ?_ | wp_step)
  exact rfl
 ·subst e1
  refine wpAny_bind (wpAny_mono (Q:=fun r s'=>r=some dx∧s'=⟨h,g,d,t+1,os⟩) (E:=fun _ _=>False) ?_ (fun _ _ e1=>?_) (fun _ _ z=>z.elim))
  ·show wpAny _ _ (instanceDict x true) _ _ _
   subst hdc
   unfold instanceDict
   repeat (first | with_reducible refine wpAny_loadPart_at hx ?_ | with_reducible refine wpAny_loadPart_at hC ?_ | wp_step)
   exact ⟨rfl,rfl⟩
  ·obtain ⟨rfl,rfl⟩:=e1
   refine zM hN hw hz fun h' tk' hn' sb=>?_
   exact wpAny_pure (wpAny_pure (hq h' tk' hn' sb))
end
open PySem PySem.Spec PyProof.Rows L2
noncomputable def exU (e C:Addr):HO:=.ext fun h=>∃t sl,h.get? e=some ⟨.ref C,none,.fields #[.ref t,.none,.none,.none,.bool false,.none],sl⟩
noncomputable def exF (e C dx:Addr):HO:=.ext fun h=>∃t sl,h.get? e=some ⟨.ref C,some dx,.fields #[.ref t,.none,.none,.none,.bool false,.none],sl⟩
noncomputable def exD (e C dx:Addr):HO:=.ext fun h=>∃vs sl,h.get? e=some ⟨.ref C,some dx,.fields vs,sl⟩
noncomputable def xdO (d:Addr) (fs:List (Str × V)):HO:=.ext fun h=>fs.length≤100∧∃mA,h.Ns1 d mA∧(∀f,je (fs.lookup f) (mA f))∧PySem.Within mA (fs.map (·.1))
section
variable {P:Program} {w:World} {H:Hp} {h:Heap} {e C dx d:Addr}
theorem Em {t:Addr} {sl:Array (Option Value)} (q:h.get? e=some ⟨.ref C,none,.fields #[.ref t,.none,.none,.none,.bool false,.none],sl⟩):bB P w H h e (exU e C):=
 ⟨⟨t,sl,q⟩,⟨_,q⟩,fun _ _ ⟨t,sl,z⟩ k=>⟨t,sl,k _ z⟩⟩
theorem Li {t:Addr} {sl:Array (Option Value)} (q:h.get? e=some ⟨.ref C,some dx,.fields #[.ref t,.none,.none,.none,.bool false,.none],sl⟩):bB P w H h e (exF e C dx):=
 ⟨⟨t,sl,q⟩,⟨_,q⟩,fun _ _ ⟨t,sl,z⟩ k=>⟨t,sl,k _ z⟩⟩
theorem Lj {vs:Array Value} {sl:Array (Option Value)} (q:h.get? e=some ⟨.ref C,some dx,.fields vs,sl⟩):bB P w H h e (exD e C dx):=
 ⟨⟨vs,sl,q⟩,⟨_,q⟩,fun _ _ ⟨t,sl,z⟩ k=>⟨t,sl,k _ z⟩⟩
theorem En {fs:List (Str × V)} {mA:Str→Option Value} (z:fs.length≤100) (n:h.Ns1 d mA) (r:∀f,je (fs.lookup f) (mA f)) (wi:PySem.Within mA (fs.map (·.1))):bB P w H h d (xdO d fs):=by
 obtain ⟨o,q⟩:∃o,h.get? d=some o:=by obtain ⟨o,_,_,q,_⟩:=n.ns;exact ⟨o,q⟩
 exact ⟨⟨z,mA,n,r,wi⟩,⟨o,q⟩,fun _ _ ⟨z,mA,n,r,wi⟩ k=>⟨z,mA,n.at k,r,wi⟩⟩
end
section
variable {X:Cx} {pins:List (Addr × Obj)} {σ:L2.St} {H:Hp} {s:Shared}
theorem Inv.put2 {h':Heap} {t':Nat} {e d:Addr} {oe od:HO} {φ:Heap→Prop} (I:Inv X pins σ H s) (he:H e=some (.ext φ)) (hd:s.heap.objs.size≤d) (k:∀b o,b≠e→s.heap.get? b=some o→h'.get? b=some o) (hee:∃o,h'.get? e=some o)
  (n1:bB X.prog X.w (upd (upd H d od) e oe) h' e oe) (n2:bB X.prog X.w (upd (upd H d od) e oe) h' d od):Inv X pins σ (upd (upd H d od) e oe) {s with heap:=h',toks:=t'}:=by
 have hdn:H d=none:=I.hok.fresh hd
 have hgd:∀o,s.heap.get? d≠some o:=fun o z=>Nat.lt_irrefl _ (Nat.lt_of_lt_of_le (Heap.lt_size z) hd)
 have ne1:∀b,H b=none→b≠e:=fun b n z=>by rw [z,he] at n;cases n
 have old:∀{b:Addr} {u:HO},H b=some u→b≠e→upd (upd H d od) e oe b=some u:=fun {b u} q n=>by rw [ak n,ak (aA q hdn)];exact q
 have nx:∀{b:Addr} {u:HO},H b=some u→(∀ψ,u≠.ext ψ)→b≠e:=fun {b u} q n z=>by subst z;rw [he] at q;exact n φ (Option.some.inj q).symm
 refine I.un ⟨fun b o q n _ _=>k b o (ne1 b n) q,fun b o q n _ _=>⟨o.slots,k b o (ne1 b n) q⟩,fun b o q n _=>?_,fun b o q _=>?_,fun b xs q=>old q (nx q (by intro ψ z;cases z)),fun b o u q=>old q (nx q (by intro ψ z;cases z)),fun b ps q=>⟨#[],by rw [old q (nx q (by intro ψ z;cases z))];simp⟩⟩ fun b u q=>?_
 ·rw [ak (ne1 b n),ak (show b≠d from fun z=>hgd o (by rw [←z];exact q))]
  exact n
 ·by_cases hb:b=e
  ·subst hb;exact hee
  ·exact ⟨o,k b o hb q⟩
 ·by_cases hb:b=e
  ·subst hb;rw [aj] at q;cases q;exact n1
  ·rw [ak hb] at q
   by_cases hb2:b=d
   ·subst hb2;rw [aj] at q;cases q;exact n2
   ·rw [ak hb2] at q
    refine (I.hok b u q).stay (fun c v hc r=>k c v ?_ r) (fun c r=>old r (nx r (by intro ψ z;cases z))) fun c xs r=>old r (nx r (by intro ψ z;cases z))
    rcases hc with rfl | hc
    ·exact hb
    ·exact nx hc (by intro ψ z;cases z)
theorem Lk {H:Hp} {a:Addr} {o:HO} (h:H a=some o):upd H a o=H:=by
 funext b
 by_cases hb:b=a
 ·subst hb;rw [aj,h]
 ·rw [ak hb]
end
structure XC (K:PySem.W.Frag) (mg:Str→Option Value) (y:Str) (C R:Addr):Prop where
 base:Exc K mg y R [.type "ValueError",.type "Exception",.type "BaseException",.type "object"] "ValueError.__new__"
 lk:∃dC cC sC dR cR sR,K.lookup C=some ⟨.type "type",dC,.cls cC,sC⟩∧K.lookup R=some ⟨.type "type",dR,.cls cR,sR⟩∧uD cC cR sC C "ValueError.__new__"=true∧cC.hasDict=true
 sa:PySem.W.findIn K (.ref C) "__setattr__"=some (some (.builtin "object.__setattr__"))
 ob:PySem.W.subIn K (.ref C) (.type "object")=some true
 rd:PySem.W.readsIn K R (.type "type")=true
 fc:PySem.W.findCls K (.ref R) (.type "type") "__init__"=some (.val (.builtin "ValueError.__init__"))
 sg:PySem.W.specialIn K (.ref R) "__getattribute__"=some (some (.builtin "type.__getattribute__"))
 ec:Qa K C
 hd:PySem.W.hasDictIn K C=true
theorem XC.obj {K:PySem.W.Frag} {mg:Str→Option Value} {y:Str} {C R:Addr} {h:Heap} (x:XC K mg y C R) (X:K.In h):
  ∃nm q N bs tl sn sub ab col dC k0 k1 k2 k3 k5,h.get? C=some (excClassObj nm q C N bs tl true sn sub ab col dC k0 k1 k2 k3 k5 "ValueError.__new__")∧OwnTail h [.type "ValueError",.type "Exception",.type "BaseException",.type "object"] tl:=by
 obtain ⟨dC,cC,sC,dR,cR,sR,lC,lR,ck,hd⟩:=x.lk
 obtain ⟨nm,q,N,bs,tl,sn,sub,ab,col,k0,k1,k2,k3,k5,hC,T⟩:=Ek X x.base lC lR ck
 rw [hd] at hC
 exact ⟨nm,q,N,bs,tl,sn,sub,ab,col,dC,k0,k1,k2,k3,k5,hC,T⟩
section
variable {X:Cx} {o e value:Expr} {es:List Expr} {f y:Str} {pos pos' apos np:Pos} {ta tv:TE} {t:TA} {R:Addr}
noncomputable def tBI (K:PySem.W.Frag) (mg:Str→Option Value) (y:Str) (R:Addr) (t:TA):TE:=fun σ H Q=>t σ H fun vs H1=>∃e C rest,vs=.ref e::rest∧H1 e=some (exU e C)∧XC K mg y C R∧rest.length≤sizeLine∧Q .non H1
theorem Eo {pl:Sem Bool} (hg:Gl X y) (hm:X.mg y=some (.ref R)) (rd:PySem.W.readsIn X.K R (.type "type")=true) (fc:PySem.W.findCls X.K (.ref R) (.type "type") "__init__"=some (.val (.builtin "ValueError.__init__"))) (sg:PySem.W.specialIn X.K (.ref R) "__getattribute__"=some (some (.builtin "type.__getattribute__")))
  (ha:PA X (e::es) t) (hdb:(y==("__debug__":Str))=false:=by decide) (hst:starEach (e::es) X.env=(false,eval e X.env)::starEach es X.env:=by rfl) (hpl:(backTo pos (starEach es X.env)).any (·.1)=false:=by rfl)
  (ht:eval (.Call (.Attribute (.Name y np) "__init__" apos) (e::es) [] pos) X.env=(do
   let ov ←eval (.Name y np) X.env
   standAt apos.atName
   let (f,first) ←holding [ov] (getMethod ov "__init__" pl)
   callWith pos f first (backTo pos (starEach (e::es) X.env)) (backToKw pos (keywordEach [] X.env))):=by rfl):
  PE X (.Call (.Attribute (.Name y np) "__init__" apos) (e::es) [] pos) (tBI X.K X.mg y R t):=by
 intro pins s σ H Q I h
 refine PySem.W.methodCall_KW (pl:=pl) (jx I hg hm ?_ hdb) ht
 refine PySem.W.method_cls I.kIn sg (PySem.W.cls_value I.kIn rd fc (by decide+kernel) ?_)
 refine PyProof.Rows.callWith_builtin1 (thn (ha pos pins _ σ H _ (I.tok _) h) fun us s1 ⟨vs,H1,I1,r1,ex,C,rest,ev,hex,xc,hz,q⟩=>?_) hst hpl
 subst ev
 cases r1 with
 | cons ra rr=>
  cases ra
  obtain ⟨⟨t0,sl,he⟩,_,_⟩:=(show bB X.prog X.w H1 s1.heap ex (exU ex C) from I1.hok ex _ hex)
  obtain ⟨nm,q',N,bs,tl,sn,sub,ab,col,dC,k0,k1,k2,k3,k5,hC,T⟩:=xc.obj I1.kIn
  refine wpAny_call (Bt PySem.F.excBase_ValueError T hC he (by rw [←rr.length];exact hz) fun h' t1 kk he'=>?_)
  have I2:=I1.write (t':=s1.toks) (x:=ex) (e:=ex) (o:=exU ex C) (by rw [hex];exact trivial) (.inl rfl) (fun b u hb q=>kk b u hb q) ⟨_,he'⟩ (Em he')
  rw [Lk hex] at I2
  exact ⟨.non,H1,I2,rfl,q⟩
noncomputable def Oe (K:PySem.W.Frag) (mg:Str→Option Value) (y:Str) (R:Addr) (to tv:TE) (f:Str):TS:=fun D σ H=>tv σ H fun v H1=>to σ H1 fun x H2=>∃e C,x=.ref e∧XC K mg y C R∧PySem.W.findIn K (.ref C) f=some none∧
 ((H2 e=some (exU e C)∧∀dx,H2 dx=none→dx≠e→D.nx σ (upd (upd H2 dx (xdO dx [(f,v)])) e (exF e C dx)))∨
 ∃dx fs,H2 e=some (exF e C dx)∧H2 dx=some (xdO dx fs)∧fs.length < 100∧D.nx σ (upd H2 dx (xdO dx (jA f v fs))))
theorem zN (ha:PE X o ta) (hv:PE X value tv) (hs:swapsWith value (some (.Attribute o f pos')) pos.line X.env=pure false):PS X (.Assign [.Attribute o f pos'] value pos) (Oe X.K X.mg y R ta tv f):=by
 intro pins s σ H D I h
 refine plainObj_wpAny_Assign_Attribute (thn (hv pins s σ H _ I h) fun u s1 ⟨v,H1,I1,rv,q⟩=>thn (ha pins s1 σ H1 _ I1 q) fun ov s2 ⟨x,H2,I2,rx,e,C,ex,xc,hn,q2⟩=>?_) hs
 subst ex
 obtain rfl:ov=Value.ref e:=rx
 obtain ⟨nm,q',N,bs,tl,sn,sub,ab,col,dC,k0,k1,k2,k3,k5,hC,T⟩:=xc.obj I2.kIn
 rcases q2 with ⟨he,q2⟩ | ⟨dx,fs,he,hdx,hz,q2⟩
 ·obtain ⟨⟨t0,sl,hge⟩,_,_⟩:=(show bB X.prog X.w H2 s2.heap e (exU e C) from I2.hok e _ he)
  refine Im I2.kIn PySem.F.store_ValueError T hC xc.sa hn xc.ob hge rfl fun h' tk' hx' hN' kk=>?_
  have nde:s2.heap.objs.size≠e:=Nat.ne_of_gt (Heap.lt_size hge)
  refine ⟨σ,_,Inv.put2 I2 he (Nat.le_refl _) kk ⟨_,hx'⟩ (Li hx') (En (fs:=[(f,v)]) (show 1≤100 by decide) hN' (fun g=>?_) ?_),q2 _ (I2.hok.fresh (Nat.le_refl _)) nde⟩
  ·by_cases hg:g=f
   ·subst hg
    have hb:(g==g)=true:=beq_iff_eq.mpr rfl
    simp only [List.lookup,hb,if_pos]
    exact rv
   ·have hb:(g==f)=false:=beq_eq_false_iff_ne.mpr hg
    simp only [List.lookup,hb,if_neg hg]
    exact trivial
  ·exact PySem.Within.cons f u PySem.Within.nil
 ·obtain ⟨⟨t0,sl,hge⟩,_,_⟩:=(show bB X.prog X.w H2 s2.heap e (exF e C dx) from I2.hok e _ he)
  obtain ⟨⟨hz0,mA,hN,hrel,hwi⟩,⟨od,hod⟩,_⟩:=(show bB X.prog X.w H2 s2.heap dx (xdO dx fs) from I2.hok dx _ hdx)
  refine El I2.kIn PySem.F.store_ValueError T hC xc.sa hn xc.ob hge rfl hN hwi (by rw [List.length_map];omega) fun h' tk' hN' sb=>?_
  refine ⟨σ,_,I2.write (x:=dx) (e:=dx) (o:=xdO dx (jA f v fs)) (by rw [hdx];exact trivial) (.inl rfl) (fun b z hb q=>(sb.2 b hb).trans q) (by obtain ⟨o',_,_,q,_⟩:=hN'.ns;exact ⟨o',q⟩) (En ?_ hN' (fun g=>?_) ?_),q2⟩
  ·have:=jO f v fs;omega
  ·rw [jN]
   by_cases q:g=f
   ·rw [if_pos q,if_pos q];exact rv
   ·rw [if_neg q,if_neg q];exact hrel g
  ·intro g hg
   by_cases q:g=f
   ·rw [q];exact (jf f v fs).1
   ·exact (jf f v fs).2 g (hwi g fun z=>hg (by show (if g=f then some u else mA g)=none;rw [if_neg q];exact z))
end
section
variable {X:Cx} {k:Nat} {f C R:Addr} {fd:FuncData} {ps:List Str} {sp:Sp} {y:Str}
theorem Ep {pins:List (Addr × Obj)} {σ:L2.St} {H:Hp} {s:Shared} {us:List Value} {vs:List V} {Rr:Addr→Addr→Hp→Prop} (xc:XC X.K X.mg y C R) (hi:PySem.W.findIn X.K (.ref C) "__init__"=some (some (.ref f))) (hf:PySem.W.isFn X.K (.ref f)=true)
  (F:aD X.prog X.w X.K X.mg X.base CX0 k f fd ps sp) (hr:dM (k+1) X.A) (hb:Binds X.K fd ps []) (I:Inv X pins σ H s) (r:Vals vs us) (hz:vs.length≤sizeLine)
  (h:∀e,H e=none→sp (.ref e::vs) (upd H e (exU e C)) (fun v H2=>v=.non∧∃dx,H2 e=some (exF e C dx)∧Rr e dx H2) E0):
  wpAny (model X.prog X.w) X.A (call (.ref C) us) (fun u s'=>∃e dx H2,u=.ref e∧s.heap.get? e=none∧Inv X pins σ H2 s'∧H2 e=some (exF e C dx)∧Rr e dx H2) X.xe s:=by
 obtain ⟨nm,q',N,bs,tl,sn,sub,ab,col,dC,k0,k1,k2,k3,k5,hC,T⟩:=xc.obj I.kIn
 refine Br PySem.F.excBase_ValueError T I.kIn hC hi (beq_iff_eq.mp hf) (by rw [←r.length];exact hz) fun h' e hle mk=>?_
 obtain ⟨t,he,htn,ht⟩:=mk.there
 have I2:Inv X pins σ (upd H e (exU e C)) {s with heap:=h'}:=I.laid (a:=e) (o:=exU e C) (t':=s.toks) mk.keeps hle (Em he)
 have hq:=h e (I.hok.fresh hle)
 have r2:Vals (V.ref e::vs) (Value.ref e::us):=.cons rfl r
 have hl:(Value.ref e::us++[]).length=ps.length:=by
  have e1:=r2.length
  rw [F.len _ _ _ _ hq] at e1
  rw [List.append_nil]
  exact e1.symm
 have hb':=hb {s with heap:=h'} (Value.ref e::us) I2.kIn hl
 rw [List.append_nil] at hb'
 refine wpAny_call (codeAny_mono (F.run _ X.stack _ _ ⟨Value.ref e::us,[]⟩ (Value.ref e::us) _ _ E0 (hr.make C us []) (I2.env0.make C us []) hb' r2 hq) fun rr s' hq'=>?_)
 cases rr with
 | error x=>exact False.elim hq'
 | ok fl=>
  cases fl with
  | ret u=>
   obtain ⟨v,H',I3,rv,ev,dx,h3,h4⟩:=I2.after hq'
   subst ev
   exact ⟨rv,e,dx,H',rfl,mk.new,I3,h3,h4⟩
  | next=>exact False.elim hq'
  | brk=>exact False.elim hq'
  | cont=>exact False.elim hq'
end
section
variable {prog:Program} {w:World} {A:Around} {E:Value→Shared→Prop} {s:Shared} {env:Env} {K:PySem.W.Frag} {mg:Str→Option Value} {y:Str} {C R:Addr}
theorem Io {x:Sem Value} {Q:Flow→Shared→Prop} (xc:XC K mg y C R) (hh:A.handled=none)
  (h:wpAny (model prog w) A x (fun v s₁=>∃e dx t sl,v=.ref e∧K.In s₁.heap∧s₁.heap.get? e=some ⟨.ref C,some dx,.fields #[.ref t,.none,.none,.none,.bool false,.none],sl⟩∧E (.ref e) s₁) E s):
  wpAny (model prog w) A (raiseStmt env (some x) none) Q E s:=by
 unfold raiseStmt
 refine wpAny_bind (wpAny_mono h (fun v s₁ h₁=>?_) fun _ _ x=>x)
 obtain ⟨e,dx,t,sl,rfl,X,he,hE⟩:=h₁
 obtain ⟨nm,q',N,bs,tl,sn,sub,ab,col,dC,k0,k1,k2,k3,k5,hC,T⟩:=xc.obj X
 have hcB:(Value.ref C::tl).contains (.type "BaseException")=true:=by rw [List.contains_cons,T.hasType (b:=true) (by decide),Bool.or_true]
 obtain ⟨hp,g,d,tk,os⟩:=s₁
 repeat (first | with_reducible refine wpAny_loadPart_at he ?_ | with_reducible refine wpAny_loadPart_at hC ?_ | (with_reducible refine wpAny_isSubtype_exc hC ?_;rw [hcB]) | wp_step)
 exact wpAny_raiseNew_none hh hE
end
noncomputable def Link (h:Heap) (ea:Addr) (od:Option Addr):Prop:=∀dx,od=some dx→∃o,h.get? ea=some o∧o.dict=some dx
noncomputable def CXd (P:Program) (w:World):CXT:=fun fr H s E e s'=>∃(ea:Addr) (cls a0:Value) (H':Hp) (B:Heap) (od:Option Addr),e=.ref ea∧gJ P w fr H s ea cls a0 H' B s'∧Link s'.heap ea od∧E cls od H'
theorem J1 {P:Program} {w:World} {fr:List Env} {H:Hp} {s s':Shared} {E:XK} {e:Value} (h:CXe P w fr H s E e s'):CXd P w fr H s E e s':=by
 obtain ⟨ea,cls,a0,H',B,rfl,T,q⟩:=h
 exact ⟨ea,cls,a0,H',B,none,rfl,T,(by intro dx z;cases z),q⟩
noncomputable def del (H:Hp) (a:Addr):Hp:=fun b=>if b=a then none else H b
theorem Er {H:Hp} {a:Addr}:del H a a=none:=by unfold del;rw [if_pos rfl]
theorem jb {H:Hp} {a b:Addr} (h:b≠a):del H a b=H b:=by unfold del;rw [if_neg h]
section
variable {P:Program} {w:World} {K:PySem.W.Frag} {mg:Str→Option Value} {base:Heap} {N:List Str} {qual:Str} {scope:Scope} {f:Addr} {cdv:Value} {A:Around} {outer:List Env} {s:Shared} {H:Hp} {E:XK}
noncomputable abbrev cxD (P:Program) (w:World) (K:PySem.W.Frag) (mg:Str→Option Value) (base:Heap) (N:List Str) (qual:Str) (scope:Scope) (f:Addr) (cdv:Value) (A:Around) (outer:List Env) (s:Shared) (H:Hp) (E:XK):Cx:=
 lD (CXd P w) P w K mg base N qual scope f cdv A outer s H E
theorem toE {pins:List (Addr × Obj)} {σ:L2.St} {H1:Hp} {s1:Shared} (I:Inv (cxD P w K mg base N qual scope f cdv A outer s H E) pins σ H1 s1):Inv (cxE P w K mg base N qual scope f cdv A outer s H E) pins σ H1 s1:=I.wish _
theorem Qe {e:Value} {s':Shared} (h:(cxE P w K mg base N qual scope f cdv A outer s H E).xe e s'):(cxD P w K mg base N qual scope f cdv A outer s H E).xe e s':=
 wpAny_mono h (fun _ _ q=>J1 q) fun _ _ q=>J1 q
theorem qw:iY (CXe P w) (cxD P w K mg base N qual scope f cdv A outer s H E) E:=fun pins σ Hc sc e s' I h=>Qe (mV pins σ Hc sc e s' (toE I) h)
theorem uE {pins:List (Addr × Obj)} {σ:L2.St} {H1:Hp} {s1:Shared} {ea C dx:Addr} (I:Inv (cxD P w K mg base N qual scope f cdv A outer s H E) pins σ H1 s1)
  (hx:H1 ea=some (exF ea C dx)) (hold:s.heap.get? ea=none) (hE:E (.ref C) (some dx) (del H1 ea)):(cxD P w K mg base N qual scope f cdv A outer s H E).xe (.ref ea) s1:=by
 obtain ⟨⟨t,sl,hge⟩,_,_⟩:=(show bB P w H1 s1.heap ea (exF ea C dx) from I.hok ea _ hx)
 obtain ⟨S,hS⟩:∃S,S=frs (cxD P w K mg base N qual scope f cdv A outer s H E).stack:=⟨_,rfl⟩
 have hin:∀env∈(cxD P w K mg base N qual scope f cdv A outer s H E).stack,∀b,env.frame=some b→b∈ea::S:=fun env he b hb=>by
  rw [hS]
  exact List.mem_cons_of_mem _ (List.mem_filterMap.mpr ⟨env,he,hb⟩)
 have hnt:∀b o,H1 b=some o→b∉S:=fun b o e z=>by rw [hS] at z;rw [I.stkFree b z] at e;cases e
 have inB:∀b o,s1.heap.get? b=some o→b≠ea→b∉S→(PySem.W.hideAll s1.heap (ea::S)).get? b=some o:=fun b o e n m=>PySem.W.hideAll_get _ e fun z=>by
  rcases List.mem_cons.mp z with z | z
  ·exact n z
  ·exact m z
 have oldne:∀b o,s.heap.get? b=some o→b≠ea:=fun b o e z=>by rw [z,hold] at e;cases e
 have stk:∀b o,s.heap.get? b=some o→b∉frs outer→b∉S:=fun b o e hb=>by rw [hS];exact mU (toE I) e hb
 have notx:∀{b:Addr} {u:HO},H1 b=some u→(∀ψ,u≠.ext ψ)→b≠ea:=fun {b u} q n z=>by subst z;rw [hx] at q;exact n _ (Option.some.inj q).symm
 have hen:(PySem.W.hideAll s1.heap (ea::S)).get? ea=none:=PySem.W.hideAll_none _ (.head _)
 refine wpAny_mono (m8 uC (wpAny_leaving_firstW (base:=PySem.W.hideAll s1.heap (ea::S)) (a0:=.ref t) (Q:=fun _ s'=>∃h',s'={s1 with heap:=h'}∧Heap.LeftW (PySem.W.hideAll s1.heap (ea::S)) _ ea (.ref C) (.ref t) s1.heap h') (E:=fun _ _=>False)
  I.ok.frames (PySem.W.funFrames_hide I.stack hin) rfl hge (fun b o q=>PySem.W.of_hideAll _ q) hen rfl rfl rfl fun h' hL=>⟨h',rfl,hL⟩)) (fun _ s' ⟨⟨h',es,hL⟩,sd⟩=>?_) fun _ _ z=>z.1.elim
 subst es
 obtain ⟨k1,⟨_,_,k2⟩,k3,x4⟩:=hL
 have x1:Heap.FlyingW (PySem.W.hideAll s1.heap (ea::S)) outer ea (.ref C) (.ref t) h':=⟨k1,hen,k2,k3⟩
 refine ⟨ea,.ref C,.ref t,del H1 ea,_,some dx,rfl,⟨x1,I.os,I.bare,fun b ob e=>?_,⟨fun b o e n hb hx'=>?_,fun b o e n hb hx'=>?_,fun b o e n hx'=>?_,fun b o e hx'=>?_,fun b xs q=>?_,fun b o u q=>?_,fun b ps q=>?_⟩,fun b o e hb=>?_⟩,?_,hE⟩
 ·have hb:b≠ea:=fun z=>by rw [z,Er] at e;cases e
  rw [jb hb] at e
  refine (I.hok b ob e).stay (fun c u hc q=>?_) (fun c r=>by rw [jb (notx r (by intro ψ z;cases z))];exact r) fun c xs r=>by rw [jb (notx r (by intro ψ z;cases z))];exact r
  rcases hc with rfl | hc
  ·exact inB c u q hb (hnt c _ e)
  ·exact inB c u q (notx hc (by intro ψ z;cases z)) (hnt c _ hc)
 ·exact x1.1 b o (inB b o (I.base.keep b o e n hb hx') (oldne b o e) (stk b o e hb))
 ·obtain ⟨sl',z⟩:=I.base.slot b o e n hb hx'
  obtain ⟨_,ob,e',nf⟩:=I.funs.mem hb
  rw [z] at e'
  cases e'
  obtain ⟨sl2,z'⟩:=x4 b _ z nf
  exact ⟨sl2,z'⟩
 ·rw [jb (oldne b o e)]
  exact I.base.free b o e n hx'
 ·obtain ⟨o',z⟩:=I.base.there b o e hx'
  by_cases hb:b∈frs outer
  ·obtain ⟨_,ob,e',nf⟩:=I.funs.mem hb
   obtain ⟨sl',z'⟩:=x4 b _ e' nf
   exact ⟨_,z'⟩
  ·exact ⟨o',x1.1 b o' (inB b o' z (oldne b o e) (stk b o e hb))⟩
 ·have r:=I.base.tups b xs q
  rw [jb (notx r (by intro ψ z;cases z))]
  exact r
 ·have r:=I.base.frzs b o u q
  rw [jb (notx r (by intro ψ z;cases z))]
  exact r
 ·obtain ⟨m,r⟩:=I.base.tbls b ps q
  exact ⟨m,by rw [jb (notx r (by intro ψ z;cases z))];exact r⟩
 ·obtain ⟨o',z⟩:=I.base.there b o e (by simp [cxD,lD])
  refine ⟨o',inB b o' z (oldne b o e) (stk b o e hb),fun n=>?_⟩
  have z2:=I.base.keep b o e n hb (by simp [cxD,lD])
  rw [z] at z2
  exact Option.some.inj z2
 ·intro dx' ed
  cases ed
  obtain ⟨ob,hob,_⟩:=x1.there
  exact ⟨ob,hob,sd.dict hge hob⟩
noncomputable def Ip (C:Addr) (sp:Sp) (E:XK) (ta:TA):TS:=fun _ σ H=>ta σ H fun vs H1=>vs.length≤sizeLine∧∀e,H1 e=none→sp (.ref e::vs) (upd H1 e (exU e C)) (fun v H2=>v=.non∧∃dx,H2 e=some (exF e C dx)∧E (.ref C) (some dx) (del H2 e)) E0
theorem tu {x y:Str} {C R fI:Addr} {k:Nat} {fd:FuncData} {ps:List Str} {sp:Sp} {np cpos pos:Pos} {e0:Expr} {es:List Expr} {ta:TA} (xc:XC K mg y C R) (hm:mg x=some (.ref C)) (hkp:PySem.W.keepIn K (.ref C)=true) (hi:PySem.W.findIn K (.ref C) "__init__"=some (some (.ref fI))) (hf:PySem.W.isFn K (.ref fI)=true)
  (F:aD P w K mg base CX0 k fI fd ps sp) (hr:dM (k+1) (cxD P w K mg base N qual scope f cdv A outer s H E).A) (hb:Binds K fd ps [])
  (hg:Gl (cxD P w K mg base N qual scope f cdv A outer s H E) x) (ha:PA (cxD P w K mg base N qual scope f cdv A outer s H E) (e0::es) ta) (hdb:(x==("__debug__":Str))=false:=by decide)
  (he:starEach (e0::es) (cxD P w K mg base N qual scope f cdv A outer s H E).env=(false,eval e0 (cxD P w K mg base N qual scope f cdv A outer s H E).env)::starEach es (cxD P w K mg base N qual scope f cdv A outer s H E).env:=by rfl)
  (hpl:(backTo cpos (starEach es (cxD P w K mg base N qual scope f cdv A outer s H E).env)).any (·.1)=false:=by rfl):
  PS (cxD P w K mg base N qual scope f cdv A outer s H E) (.Raise (some (.Call (.Name x np) (e0::es) [] cpos)) none pos) (Ip C sp E ta):=by
 intro pins s1 σ H1 D I h
 rw [arm_exec_Raise]
 refine wpAny_bind (wpAny_standAt ?_)
 show wpAny _ _ (raiseStmt _ (some (do
  let v ←eval (.Call (.Name x np) (e0::es) [] cpos) (cxD P w K mg base N qual scope f cdv A outer s H E).env
  standAt pos
  pure v)) none) _ _ _
 refine Io xc (I.ok.hd rfl) (wpAny_bind (wpAny_Call_Name_kw (jx I hg hm ?_ hdb)))
 refine PySem.W.callWith_K (h₀:=base) I.ok.mod.kin hkp (thn (ha cpos pins s1 σ H1 _ I h) fun us s2 ⟨vs,H2,I2,r,hz,q⟩=>⟨I2.kIn,?_⟩) he hpl
 refine thn (Ep (X:=cxD P w K mg base N qual scope f cdv A outer s H E) (Rr:=fun e dx H2=>E (.ref C) (some dx) (del H2 e)) xc hi hf F hr hb I2 r hz q) fun u s3 ⟨e,dx,H3,eu,hnew,I3,h3,hE⟩=>?_
 subst eu
 obtain ⟨⟨t,sl,hge⟩,_,_⟩:=(show bB P w H3 s3.heap e (exF e C dx) from I3.hok e _ h3)
 refine wpAny_bind (wpAny_standAt (wpAny_pure ⟨e,dx,t,sl,rfl,I3.kIn,hge,uE I3 h3 ?_ hE⟩))
 cases q0:s.heap.get? e with
 | none=>rfl
 | some o=>
  obtain ⟨o',z⟩:=I2.base.there e o q0 (by simp [cxD,lD])
  rw [hnew] at z
  cases z
theorem okD {x:Str} {st:Stmt} {fd:FuncData} {ps:List Str} {k:Nat} {sp:Sp} (F:Fun K x qual st f fd) (S:aH N ps (aC st)) (len:∀vs H Q E,sp vs H Q E→vs.length=ps.length)
  (hbody:∀(cdv:Value) (A:Around) (outer:List Env) (s:Shared) (H:Hp) (vs:List V) (Q:VK) (E:XK),dM k (A.deeper (envOfC qual (aC st) s.heap.objs.size f cdv))→sp vs H Q E→
   ∃t,PSs (cxD P w K mg base N qual (aC st) f cdv A outer s H E) (iH st) t∧t {nx:=fun _ H'=>Q .non H',rt:=Q} (start N vs) H):aD P w K mg base (CXd P w) (k+1) f fd ps sp:=by
 obtain ⟨oc,od,kV,doc,pm,an,cdv,ct,osl,rfl,lk,hcd⟩:=F.ex
 exact Dk lk hcd S len fun A outer s H vs Q E hr hsp=>hbody cdv A outer s H vs Q E hr hsp
end
noncomputable def XPd (X:Cx) (pins:List (Addr × Obj)) (σ:L2.St) (E:XK) (e:Value) (s':Shared):Prop:=
 ∃(Hc:Hp) (sc:Shared) (ea:Addr) (cls a0:Value) (H':Hp) (B:Heap) (od:Option Addr),e=.ref ea∧Inv X pins σ Hc sc∧gJ X.prog X.w X.stack Hc sc ea cls a0 H' B s'∧Link s'.heap ea od∧E cls od H'
noncomputable def PEd (X:Cx) (e:Expr) (t:TEx):Prop:=
 ∀(pins:List (Addr × Obj)) (s:Shared) (σ:L2.St) (H:Hp) (Q:VK) (E:XK),Inv X pins σ H s→t E σ H Q→wpAny (model X.prog X.w) X.A (eval e X.env) (EP X pins σ Q) (XPd X pins σ E) s
noncomputable def PSd (X:Cx) (st:Stmt) (t:TSx):Prop:=
 ∀(pins:List (Addr × Obj)) (s:Shared) (σ:L2.St) (H:Hp) (D:Ends) (E:L2.St→XK),Inv X pins σ H s→t D E σ H→wpAny (model X.prog X.w) X.A (exec st X.env) (SP X pins D) (fun e s'=>∃σ',XPd X pins σ' (E σ') e s') s
section
variable {X:Cx} {e o:Expr} {es:List Expr} {pos apos p:Pos} {k:Nat} {f C:Addr} {fd:FuncData} {ps:List Str} {sp:Sp} {ta:TE} {t:TA} {m x:Str}
theorem Ir {pins:List (Addr × Obj)} {σ:L2.St} {H:Hp} {s:Shared} {Q:VK} {E:XK} {us:List Value} {vs:List V} (F:aD X.prog X.w X.K X.mg X.base (CXd X.prog X.w) k f fd ps sp) (hr:dM k X.A) (hb:Binds X.K fd ps [])
  (I:Inv X pins σ H s) (r:Vals vs us) (h:sp vs H Q E):wpAny (model X.prog X.w) X.A (call (.ref f) us) (EP X pins σ Q) (XPd X pins σ E) s:=by
 have hl:(us++[]).length=ps.length:=by rw [List.append_nil,←r.length];exact F.len _ _ _ _ h
 have hb':=hb s us I.kIn hl
 rw [List.append_nil] at hb'
 refine wpAny_call (codeAny_mono (F.run X.A X.stack s H ⟨us,[]⟩ us vs Q E hr I.env0 hb' r h) fun r s' hq=>?_)
 cases r with
 | error e=>
  obtain ⟨ea,cls,a0,H',B,od,rfl,T,lk,hE⟩:=hq
  exact ⟨H,s,ea,cls,a0,H',B,od,rfl,I,T,lk,hE⟩
 | ok fl=>
  cases fl with
  | ret u=>exact I.after hq
  | next=>exact False.elim hq
  | brk=>exact False.elim hq
  | cont=>exact False.elim hq
theorem Es {te:TEx} (he:PEd X e te) (hs:swapsWith e none pos.line X.env=pure false:=by rfl):PSd X (.Expr e pos) (K3 te):=by
 intro pins s σ H D E I h
 exact wpAny_Expr_any (wpAny_mono (he pins s σ H _ _ I h) (fun v s1 ⟨x,H1,I1,r1,q1⟩=>⟨σ,H1,I1,q1⟩) fun e s' q=>⟨σ,q⟩) I.quiet hs
end
section
variable {M:Model} {A:Around} {E:Value→Shared→Prop} {s:Shared} {B:Heap} {e L:Addr} {cls a0:Value} {Q:Unit→Shared→Prop} {env:Env} {outer l:List Env}
theorem Iu (hfr:A.frames=some (env::outer)) (hf:env.frame=some L) (hfl:Heap.FlyingW B (env::outer) e cls a0 s.heap) (hQ:∀h',Heap.HeldW B (env::outer) e cls a0 L h'→s.heap.UpToSlots h'→cU s.heap h'→Q () {s with heap:=h'}):wpAny M A (noteFrame (.ref e) env) Q E s:=
 wpAny_mono (m8 sY (wpAny_looks_onW (Q:=fun _ s'=>∃h',s'={s with heap:=h'}∧Heap.HeldW B (env::outer) e cls a0 L h'∧s.heap.UpToSlots h') (E:=fun _ _=>False) hfr hf hfl fun h' a b=>⟨h',rfl,a,b⟩)) (fun _ s' ⟨⟨h',es,a,b⟩,sd⟩=>by subst es;exact hQ h' a b sd) fun _ _ z=>z.1.elim
theorem Iv (hh:Heap.HeldW B l e cls a0 L s.heap) (hQ:∀h',Heap.FlyingW B l e cls a0 h'→s.heap.UpToSlots h'→cU s.heap h'→Q () {s with heap:=h'}):wpAny M A (setFlight (.ref e) none) Q E s:=
 wpAny_mono (m8 iy (wpAny_landsW (Q:=fun _ s'=>∃h',s'={s with heap:=h'}∧Heap.FlyingW B l e cls a0 h'∧s.heap.UpToSlots h') (E:=fun _ _=>False) hh fun h' a b=>⟨h',rfl,a,b⟩)) (fun _ s' ⟨⟨h',es,a,b⟩,sd⟩=>by subst es;exact hQ h' a b sd) fun _ _ z=>z.1.elim
theorem Iw (hh:Heap.FlyingW B l e cls a0 s.heap) (hQ:∀h',Heap.FlyingW B l e cls a0 h'→s.heap.UpToSlots h'→cU s.heap h'→Q () {s with heap:=h'}):wpAny M A (setFlight (.ref e) none) Q E s:=
 wpAny_mono (m8 iy (lands_againW (Q:=fun _ s'=>∃h',s'={s with heap:=h'}∧Heap.FlyingW B l e cls a0 h'∧s.heap.UpToSlots h') (E:=fun _ _=>False) hh fun h' a b=>⟨h',rfl,a,b⟩)) (fun _ s' ⟨⟨h',es,a,b⟩,sd⟩=>by subst es;exact hQ h' a b sd) fun _ _ z=>z.1.elim
end
end L3
namespace K1
open PySem L2 L3 M1
noncomputable def oA:Sp:=fun vs H Q _=>∃(c:Int) (m:Nat),vs=[.int c,.int m]∧m≤12∧∀(p:Addr) (H':Hp),H p=none→aB H H'→H' p=some (.lst (txs (gQ c m)))→Q (.ref p) H'
theorem uF {c:Int} {m:Nat} (h:m≤12):Good (gQ c m):=⟨fun x hx=>by
 obtain ⟨k,_,rfl⟩:=List.mem_map.mp hx
 exact Lh c k,yx h,by rw [jW];exact h⟩
noncomputable def Bu (c:Int) (k j:Nat):Int:=c / 64+5 * (0+(j:Int)) * (0+(j:Int))+2 * (0+(k:Int)) * (if decide (V.int (0+(j:Int))=V.int (c / 8 % (1+c % 8)))=true then 1 else 0)
theorem Og (c:Int) (k j:Nat):97+(Bu c k j % 26).toNat=hch c k j:=by
 unfold Bu hch
 rw [Ij c]
 by_cases h:j=hpl c
 ·subst h
  rw [if_pos rfl,if_pos (decide_eq_true (by rw [Int.zero_add])),Int.zero_add,Int.zero_add]
 ·rw [if_neg h,if_neg (by rw [decide_eq_false (fun z=>h (by have:=V.int.inj z;omega))];exact Bool.false_ne_true),Int.zero_add,Int.zero_add]
theorem jX {α:Type} (f:Nat→α) (n:Nat):(List.range (n+1)).map f=(List.range n).map f++[f n]:=by rw [List.range_succ,List.map_append];rfl
noncomputable def ltV (hs:List (List Nat)) (d:M1.Lt):List L2.V:=[.str (S (hs.getD d.a [])),.int d.t,.str (S (hs.getD d.b []))]
noncomputable def yC:Sp:=fun vs H Q _=>∃(c b:Int) (a:Addr) (hs:List (List Nat)),vs=[.int c,.ref a,.int b]∧H a=some (.lst (txs hs))∧2≤hs.length∧hs.length≤12∧∀r,H r=none→Q (.ref r) (upd H r (.tup (ltV hs (lt hs.length c b))))
section
variable {P:Program} {w:World} {K:PySem.W.Frag} {mg:Str→Option Value} {base:Heap}
noncomputable abbrev sAt:Stmt:=top 37
theorem Qf:aH ["_law_script","_law_k"] ["_law_script","_law_k"] (aC sAt):=⟨rfl,rfl,rfl,by decide+kernel,rfl,by decide+kernel,by decide+kernel⟩
theorem Oh {f:Addr} {fd:FuncData} (F:Fun K "_law_cell_at" "_law_cell_at" sAt f fd) (len:mg "len"=none):aD P w K mg base CX0 1 f fd ["_law_script","_law_k"] (Lb K):=by
 refine F.ok Qf (fun vs H Q E h=>?_) (fun cdv A outer s H vs Q E hr h=>?_)
 ·obtain ⟨a,ns,k,rfl,_⟩:=h
  rfl
 ·obtain ⟨a,ns,k,rfl,hS,h0,q⟩:=h
  refine ⟨_,ao (cI (bK vI (pv 1) (aV bN (by rfl) len PySem.boot_len (aa (pv 0) aq)) (bG _)) (az (aU (aK bM (pv 0) (pv 1) (fun _ _=>rfl)))) bw) (az (aU au)),?_⟩
  refine ⟨_,rfl,_,rfl,a,_,rfl,.inl hS,_,_,rfl,rfl,_,rfl,?_⟩
  refine PL (fun h=>?_) (fun h=>?_)
  ·have h1:=of_decide_eq_true h
   exact ⟨_,rfl,_,rfl,a,_,k,_,rfl,rfl,hS,Ig h0 h1,q⟩
  ·have h1:¬k < ((ns.map V.int).length:Int):=fun z=>h (decide_eq_true z)
   rw [List.length_map] at h1
   have e:ns.getD k.toNat 0=0:=by
    rw [List.getD,List.getElem?_eq_none (by omega)]
    rfl
   rw [e] at q
   exact q
noncomputable abbrev jY:Stmt:=top 38
noncomputable abbrev Et:List Str:=["_law_cell","_law_many","_law_letters","_law_size","_law_at","_law_names","_law_k","_law_name","_law_j","_law_place"]
theorem cX:aH Et ["_law_cell","_law_many"] (aC jY):=⟨rfl,rfl,rfl,by decide+kernel,rfl,by decide+kernel,by decide+kernel⟩
theorem yD {f:Addr} {fd:FuncData} (F:Fun K "_law_houses" "_law_houses" jY f fd) (B:Blt mg):aD P w K mg base CX0 1 f fd ["_law_cell","_law_many"] oA:=by
 refine F.ok cX (fun vs H Q E h=>?_) (fun cdv A outer s H vs Q E hr h=>?_)
 ·obtain ⟨c,m,rfl,_⟩:=h
  rfl
 ·obtain ⟨c,m,rfl,hm,q⟩:=h
  refine ⟨_,(ao (aL (i:=2) cX.nd rfl (Or.inl rfl) ik)
   (ao (aL (i:=3) cX.nd rfl (Or.inl rfl) (aM cu au (aM cM (pv 0) au)))
   (ao (aL (i:=4) cX.nd rfl (Or.inl rfl) (aM cM (aM gh (pv 0) au) (pv 3)))
   (ao (aL (i:=5) cX.nd rfl (Or.inl rfl) (iW aq))
   (ao (dI PassesOwn.never rfl (rZ rfl B.range (aa (pv 1) aq)) (aJ (i:=6) cX.nd rfl (Or.inl rfl))
    (ao (aL (i:=7) cX.nd rfl (Or.inl rfl) ik)
   (ao (dI PassesOwn.never rfl (rZ rfl B.range (aa (pv 3) aq)) (aJ (i:=8) cX.nd rfl (Or.inl rfl))
    (ao (aL (i:=9) cX.nd rfl (Or.inl rfl) (aM cu (aM cu (aM gh (pv 0) au) (aM nT (aM nT au (pv 8)) (pv 8))) (aM nT (aM nT au (pv 6)) (dB sE (by rfl) B.int yp (aa (c7 mC (pv 8) (pv 4) (bG _)) aq)))))
   (az (aL (i:=7) cX.nd rfl (Or.inl rfl) (aM xV (pv 7) (aK Ky (pv 2) (aM cM (pv 9) au) (fun _ _=>rfl)))))))
   (az (cg (lG PySem.F.plainAttrs_list PySem.F.slot_list_append PySem.F.type_list_append cG (pv 5) (aa (pv 7) aq)))))))
   (az (aU (pv 5)))))))),?_⟩
  have z1:=Ej c
  have z2:=Ii c
  refine ⟨_,rfl,_,_,rfl,rfl,(by show (0:Int) < 8;decide),_,_,rfl,rfl,?_⟩
  refine ⟨_,rfl,_,_,rfl,rfl,⟨by decide,by decide⟩,_,rfl,_,_,rfl,rfl,(by show (0:Int) < 1+c % 8;omega),?_⟩
  refine ⟨Nat.zero_le _,fun p np=>⟨_,rfl,_,rfl,(by omega),(by omega),?_⟩⟩
  refine su (lo:=0) (n:=m) (fun k σ H2=>H2=upd H p (.lst (txs (gQ c k)))∧∃a1 a2 a3 a4,σ=[some (.int c),some (.int m),some (.str (Str.ofString "abcdefghijklmnopqrstuvwxyz")),some (.int (1+c % 8)),some (.int (c / 8 % (1+c % 8))),some (.ref p),a1,a2,a3,a4]) ⟨rfl,none,none,none,none,rfl⟩ ?_ ?_
  ·rintro k σ H2 hk ⟨rfl,a1,a2,a3,a4,rfl⟩
   refine ⟨_,rfl,_,rfl,(by omega),(by omega),?_⟩
   refine su (lo:=0) (n:=hsz c) (fun j σ H3=>H3=upd H p (.lst (txs (gQ c k)))∧∃b1 b2,σ=[some (.int c),some (.int m),some (.str (Str.ofString "abcdefghijklmnopqrstuvwxyz")),some (.int (1+c % 8)),some (.int (c / 8 % (1+c % 8))),some (.ref p),some (.int (0+(k:Int))),some (.str (S ((List.range j).map (hch c k)))),b1,b2]) ⟨rfl,a3,a4,rfl⟩ ?_ ?_
   ·rintro j σ H3 hj ⟨rfl,b1,b2,rfl⟩
    refine ⟨_,rfl,_,_,rfl,rfl,⟨by decide,by decide⟩,_,rfl,_,_,rfl,rfl,.inl ⟨by decide,by decide⟩,_,rfl,_,_,rfl,rfl,.inr ⟨by show -(2 ^ 64) < 0+(j:Int);omega,by show 0+(j:Int) < 2 ^ 64;omega⟩,_,_,rfl,rfl,_,rfl,_,_,rfl,rfl,.inl ⟨by decide,by decide⟩,_,rfl,_,rfl,rfl,.inr ⟨_,rfl,_,_,rfl,rfl,.inl ⟨by show -(2 ^ 64) < 2 * (0+(k:Int));omega,by show 2 * (0+(k:Int)) < 2 ^ 64;omega⟩,_,_,rfl,rfl,?_⟩⟩
    have k1:0≤Bu c k j % 26:=Int.emod_nonneg _ (by decide)
    have k2:Bu c k j % 26 < 26:=Int.emod_lt_of_pos _ (by decide)
    have l1:(⟨#[97+(Bu c k j % 26).toNat]⟩:Str).length=1:=rfl
    refine ⟨_,rfl,_,rfl,_,rfl,_,_,rfl,rfl,(by show (0:Int) < 26;decide),_,_,_,rfl,rfl,(by decide+kernel),Ec k1 k2,_,_,rfl,rfl,?_,rfl,some (.int (0+(j:Int))),some (.int (Bu c k j)),?_⟩
    ·rw [zJ,List.length_map,List.length_range]
     show j+1≤sizeLine
     exact Nat.le_of_lt (aG (by omega))
    ·rw [jX,←N8,←Og]
     rfl
   ·rintro σ H3 ⟨rfl,b1,b2,rfl⟩
    refine ⟨_,rfl,.inl ⟨rfl,_,SqL.of aj⟩,_,rfl,p,_,_,rfl,rfl,aj,aG (by rw [m6,jW];omega),?_,_,_,_,_,rfl⟩
    rw [t7]
    unfold gQ
    rw [jX]
    unfold txs
    rw [List.map_append]
    rfl
  ·rintro σ H2 ⟨rfl,a1,a2,a3,a4,rfl⟩
   exact ⟨_,rfl,q p _ np (aF np) aj⟩
noncomputable abbrev ww:Stmt:=top 40
noncomputable abbrev Oi:List Str:=["_law_cell","_law_names","_law_base","_law_n","_law_many","_law_first","_law_last"]
theorem qx:aH Oi ["_law_cell","_law_names","_law_base"] (aC ww):=⟨rfl,rfl,rfl,by decide+kernel,rfl,by decide+kernel,by decide+kernel⟩
theorem Iz {f:Addr} {fd:FuncData} (F:Fun K "_law_letter" "_law_letter" ww f fd) (B:Blt mg):aD P w K mg base CX0 1 f fd ["_law_cell","_law_names","_law_base"] yC:=by
 refine F.ok qx (fun vs H Q E h=>?_) (fun cdv A outer s H vs Q E hr h=>?_)
 ·obtain ⟨c,b,a,hs,rfl,_⟩:=h
  rfl
 ·obtain ⟨c,b,a,hs,rfl,ha,h2,h12,q⟩:=h
  refine ⟨_,(ao (aL (i:=3) qx.nd rfl (Or.inl rfl) (aM cM (aM nT (pv 0) au) au))
   (ao (aL (i:=4) qx.nd rfl (Or.inl rfl) (aV bN (by rfl) B.len iw (aa (pv 1) aq)))
   (ao (aL (i:=5) qx.nd rfl (Or.inl rfl) (aM cM (pv 3) (pv 4)))
   (ao (aL (i:=6) qx.nd rfl (Or.inl rfl) (aM cM (aM cu (aM cu (pv 5) au) (aM cM (aM gh (pv 3) (pv 4)) (aM ue (pv 4) au))) (pv 4)))
   (az (aU (iu (aa (aK bM (pv 1) (pv 5) (fun _ _=>rfl)) (aa (aM cu (pv 2) (aM cM (aM gh (pv 3) au) au)) (aa (aK bM (pv 1) (pv 6) (fun _ _=>rfl)) aq)))))))))),?_⟩
  have hl:=m6 hs
  have b1:0≤m7 hs.length c:=Int.emod_nonneg _ (by omega)
  have b2:m7 hs.length c < hs.length:=Int.emod_lt_of_pos _ (by omega)
  have e1:0≤lend hs.length c:=Int.emod_nonneg _ (by omega)
  have e2:lend hs.length c < hs.length:=Int.emod_lt_of_pos _ (by omega)
  refine ⟨_,rfl,_,_,rfl,rfl,.inr ⟨by decide,by decide⟩,_,_,rfl,rfl,(by show (0:Int) < 10000000000037;decide),?_⟩
  refine ⟨_,rfl,a,_,rfl,.inl (SqL.of ha),?_⟩
  rw [hl]
  refine ⟨_,rfl,_,rfl,_,_,rfl,rfl,(by show (0:Int) < (hs.length:Int);omega),?_⟩
  refine ⟨_,rfl,_,_,rfl,rfl,_,rfl,_,rfl,_,_,rfl,rfl,⟨by show (0:Int) < (hs.length:Int);omega,by show (hs.length:Int) < 1073741824;omega⟩,_,rfl,_,_,rfl,rfl,_,_,rfl,rfl,(by show (0:Int) < (hs.length:Int) - 1;omega),_,_,rfl,rfl,_,rfl,_,_,rfl,rfl,(by show (0:Int) < (hs.length:Int);omega),?_⟩
  refine ⟨_,rfl,_,rfl,a,_,_,_,rfl,rfl,SqL.of ha,uv (k:=m7 hs.length c) b1 b2,_,rfl,_,rfl,_,_,rfl,rfl,⟨by decide,by decide⟩,_,_,rfl,rfl,(by show (0:Int) < 31;decide),_,_,rfl,rfl,_,rfl,_,rfl,a,_,_,_,rfl,rfl,SqL.of ha,uv (k:=lend hs.length c) e1 e2,(by show 3≤sizeLine;decide),q⟩
end
open PySem L2 L3 M1
section
variable {P:Program} {w:World} {K:PySem.W.Frag} {mg:Str→Option Value} {base:Heap}
noncomputable abbrev qy:Stmt:=top 8
noncomputable abbrev m9:Stmt:=top 9
noncomputable abbrev qz:Stmt:=top 10
noncomputable abbrev jF:Stmt:=top 11
noncomputable abbrev wz:Stmt:=top 25
noncomputable abbrev wA:Stmt:=top 26
noncomputable abbrev wB:Stmt:=top 27
noncomputable abbrev wC:Stmt:=top 28
theorem IK:aH ["thing"] ["thing"] (aC qy):=⟨rfl,rfl,rfl,by decide+kernel,rfl,by decide+kernel,by decide+kernel⟩
theorem Eu {f:Addr} {fd:FuncData} (F:Fun K "is_whole" "is_whole" qy f fd) (B:Blt mg) (KT:Kit K):aD P w K mg base CX0 1 f fd ["thing"] uw:=by
 refine F.ok IK (fun vs H Q E h=>?_) (fun cdv A outer s H vs Q E hr h=>?_)
 ·obtain ⟨i,rfl,_⟩:=h
  rfl
 ·obtain ⟨i,rfl,q⟩:=h
  refine ⟨_,(az (aU (gH (aV jg (by rfl) B.isinstance cW (aa (pv 0) (aa (oh (by rfl) B.int yp) aq))) (jy (Kg (aV jg (by rfl) B.isinstance cW (aa (pv 0) (aa (oh (by rfl) B.bool Ie) aq)))))))),?_⟩
  refine ⟨_,rfl,_,_,_,_,_,rfl,⟨rfl,.int _,qe _ _⟩,_,rfl,jR ?_⟩
  exact ⟨_,rfl,_,_,_,_,_,rfl,⟨rfl,.int _,KT.ib⟩,_,rfl,q⟩
theorem Ew:aH ["thing","least","greatest"] ["thing","least","greatest"] (aC m9):=⟨rfl,rfl,rfl,by decide+kernel,rfl,by decide+kernel,by decide+kernel⟩
theorem Bv {f fW:Addr} {fd fdW:FuncData} (F:Fun K "is_whole_within" "is_whole_within" m9 f fd) (iz:Dn K mg "is_whole" qy ["thing"] fW fdW)
  (lW:aD P w K mg base CX0 1 fW fdW ["thing"] uw):aD P w K mg base CX0 2 f fd ["thing","least","greatest"] ql:=by
 refine F.ok Ew (fun vs H Q E h=>?_) (fun cdv A outer s H vs Q E hr h=>?_)
 ·obtain ⟨i,a,b,rfl,_⟩:=h
  rfl
 ·obtain ⟨i,a,b,rfl,h1,h2,q⟩:=h
  refine ⟨_,(az (aU (gH (bc lW (hr.mono (by decide)) (by rfl) iz.at_ iz.fn.kp iz.bd .nil bh (aa (pv 0) aq)) (jy (vJ mD mD (pv 1) (pv 0) (pv 2)))))),?_⟩
  refine ⟨_,rfl,_,rfl,_,rfl,jR ?_⟩
  exact ⟨_,rfl,_,rfl,_,_,rfl,rfl,_,rfl,eY (decide_eq_true h1) ⟨_,rfl,_,_,rfl,rfl,qg (decide_eq_true h2) q⟩⟩
theorem IV:aH ["thing","length"] ["thing","length"] (aC qz):=⟨rfl,rfl,rfl,by decide+kernel,rfl,by decide+kernel,by decide+kernel⟩
theorem Ex {f:Addr} {fd:FuncData} (F:Fun K "is_tuple_of" "is_tuple_of" qz f fd) (B:Blt mg):aD P w K mg base CX0 1 f fd ["thing","length"] ux:=by
 refine F.ok IV (fun vs H Q E h=>?_) (fun cdv A outer s H vs Q E hr h=>?_)
 ·obtain ⟨r,xs,n,rfl,_⟩:=h
  rfl
 ·obtain ⟨r,xs,n,rfl,h1,h2,q⟩:=h
  refine ⟨_,(az (aU (gH (aV jg (by rfl) B.isinstance cW (aa (pv 0) (aa (oh (by rfl) B.tuple vZ) aq))) (jy (c7 mC (aV bN (by rfl) B.len iw (aa (pv 0) aq)) (pv 1) (bG _)))))),?_⟩
  refine ⟨_,rfl,_,_,_,_,_,rfl,⟨rfl,.tup h1,qe _ _⟩,_,rfl,jR ?_⟩
  exact ⟨_,rfl,r,_,rfl,.inr (SqT.of h1),_,rfl,rfl,qg (decide_eq_true (congrArg V.int h2)) q⟩
theorem wD:aH ["houses","one","other"] ["houses","one","other"] (aC jF):=⟨rfl,rfl,rfl,by decide+kernel,rfl,by decide+kernel,by decide+kernel⟩
theorem Bw {f:Addr} {fd:FuncData} (F:Fun K "are_unlike_houses" "are_unlike_houses" jF f fd):aD P w K mg base CX0 1 f fd ["houses","one","other"] (qm K):=by
 refine F.ok wD (fun vs H Q E h=>?_) (fun cdv A outer s H vs Q E hr h=>?_)
 ·obtain ⟨a,ys,x,y,rfl,_⟩:=h
  rfl
 ·obtain ⟨a,ys,x,y,rfl,hS,hx,hy,ne,q⟩:=h
  refine ⟨_,(az (aU (gH (c7 nW (pv 1) (pv 0) (by rfl)) (gH (c7 nW (pv 2) (pv 0) (by rfl)) (jy (c7 sy (pv 1) (pv 2) (bG _))))))),?_⟩
  refine ⟨_,rfl,_,rfl,a,_,rfl,.inl hS,rfl,kZ ys,_,rfl,eY (pD hx) ?_⟩
  refine ⟨_,rfl,_,rfl,a,_,rfl,.inl hS,rfl,kZ ys,_,rfl,eY (pD hy) ?_⟩
  refine ⟨_,rfl,_,rfl,rfl,qg ?_ q⟩
  rw [decide_eq_false (fun z=>ne (V.str.inj z))]
  rfl
theorem Ln:aH ["thing"] ["thing"] (aC wz):=⟨rfl,rfl,rfl,by decide+kernel,rfl,by decide+kernel,by decide+kernel⟩
theorem IW {f:Addr} {fd:FuncData} (F:Fun K "is_name" "is_name" wz f fd) (B:Blt mg) (Cn:Ef mg):aD P w K mg base CX0 1 f fd ["thing"] yq:=by
 refine F.ok Ln (fun vs H Q E h=>?_) (fun cdv A outer s H vs Q E hr h=>?_)
 ·obtain ⟨l,rfl,_⟩:=h
  rfl
 ·obtain ⟨l,rfl,hN,q⟩:=h
  refine ⟨_,(ao (cI (PW.pt (zj (iV (iU (aV jg (by rfl) B.isinstance cW (aa (pv 0) (aa (oh (by rfl) B.str K8) aq))))) (ud (iV (mF mD mD au (aV uo (by rfl) B.len iw (aa (pv 0) aq)) (jV (by rfl) Cn.MOST_SIGNS)))))) (az (aU jK)) bw)
   (az (aU (aV (pY rfl) (by rfl) B.all_ yo (aa (mR (N':=["sign"]) (cs:=[none]) rfl (KN (pv 0)) rfl (by decide+kernel) rfl (by decide+kernel) (cY (fun p hp=>absurd hp (List.not_mem_nil))) rfl
    (.own .nil)
    (fun C s3 H3 fp pn=>⟨(aJ (i:=0) (by show (["sign"]:List Str).Nodup;decide+kernel) rfl (.inl rfl)),d7,(vJ sS sS ik (pv 0) ik)⟩)) aq))))),?_⟩
  have hl:=zJ l
  have hz:(S l).length≤sizeLine:=Nat.le_of_lt (aG (by rw [hl];have:=hN.2.1;omega))
  have h1:(1:Int)≤((S l).length:Int):=by have:=hN.1;omega
  have h8:((S l).length:Int)≤8:=by have:=hN.2.1;omega
  refine ⟨_,rfl,_,_,_,_,_,rfl,⟨rfl,.str _,qe _ _⟩,_,rfl,lQ ?_⟩
  refine ⟨_,rfl,_,rfl,hz,_,_,rfl,rfl,_,rfl,eY (decide_eq_true h1) ⟨_,_,rfl,rfl,_,rfl,Dr h8 ?_⟩⟩
  dsimp only [zp,Hv,zm,tCB,mG]
  refine mZ (J:=Its (S l)) (H1:=H) (xs:=signs (S l)) (rest:=[]) (fun R h=>⟨_,rfl,_,rfl,h⟩) rfl (KJ _) (aG ?_) (fun _=>.bl true) (fun i x H2 R ex sm hR=>?_) (fun D H' h1 h2 h3=>?_)
  ·rw [zK,List.length_map]
   have:=hN.2.1
   omega
  ·rw [zK] at ex
   obtain ⟨k,hk,rfl⟩:=List.mem_map.mp (List.mem_of_getElem? ex)
   have hk2:=hN.2.2 k hk
   have e1:(!decide ((S [k]).cps.toList < (Str.ofString "a").cps.toList))=true:=by
    rw [sA]
    exact (Dw k 97).trans (decide_eq_true hk2.1)
   have e2:(!decide ((Str.ofString "z").cps.toList < (S [k]).cps.toList))=true:=by
    rw [sZ]
    exact (Dw 122 k).trans (decide_eq_true hk2.2)
   exact ⟨_,rfl,_,_,rfl,rfl,_,rfl,eY e1 ⟨_,_,rfl,rfl,qg e2 (hR H2 (aB.refl _))⟩⟩
  ·exact ⟨D,List.replicate (signs (S l)).length true,rfl,SqL.of (by rw [h2,qi]),qg (qj _) (q H' h3)⟩
theorem Lp:aH ["things"] ["things"] (aC wA):=⟨rfl,rfl,rfl,by decide+kernel,rfl,by decide+kernel,by decide+kernel⟩
theorem Ja {f fN:Addr} {fd fdN:FuncData} (F:Fun K "are_houses" "are_houses" wA f fd) (B:Blt mg) (Cn:Ef mg) (ji:Dn K mg "is_name" wz ["thing"] fN fdN) (oE:aD P w K mg base CX0 1 fN fdN ["thing"] yq):
  aD P w K mg base CX0 2 f fd ["things"] yr:=by
 refine F.ok Lp (fun vs H Q E h=>?_) (fun cdv A outer s H vs Q E hr h=>?_)
 ·obtain ⟨a,hs,rfl,_⟩:=h
  rfl
 ·obtain ⟨a,hs,rfl,ha,hG,q⟩:=h
  refine ⟨_,(ao (cI (PW.pt (zj (iV (iU (aV jg (by rfl) B.isinstance cW (aa (pv 0) (aa (oh (by rfl) B.list jD) aq))))) (ud (bK JS (aV bN (by rfl) B.len iw (aa (pv 0) aq)) (jV (by rfl) Cn.MOST_HOUSES) (bG _))))) (az (aU jK)) bw)
   (az (aU (gH (aV (pY rfl) (by rfl) B.all_ yo (aa (mR (N':=["thing"]) (cs:=[none]) rfl (bC (pv 0)) rfl (by decide+kernel) rfl (by decide+kernel) (cY (fun p hp=>absurd hp (List.not_mem_nil))) rfl
    (.own .nil)
    (fun C s3 H3 fp pn=>⟨(aJ (i:=0) (by show (["thing"]:List Str).Nodup;decide+kernel) rfl (.inl rfl)),d7,(bc oE (hr.mono (by decide)) (by rfl) ji.at_ ji.fn.kp ji.bd .nil bh (aa (pv 0) aq))⟩)) aq)) (jy (c7 mC (aV rN (by rfl) B.len iw (aa (dB (Dy rfl) (by rfl) B.set_ K9 (aa (pv 0) aq)) aq)) (aV bN (by rfl) B.len iw (aa (pv 0) aq)) (bG _))))))),?_⟩
  have hl:=m6 hs
  have hf:=hG.few
  refine ⟨_,rfl,_,_,_,_,_,rfl,⟨rfl,.lst ha,qe _ _⟩,_,rfl,lQ ?_⟩
  refine ⟨_,rfl,a,_,rfl,.inl (SqL.of ha),_,_,rfl,rfl,_,rfl,gw (decide_eq_false (by omega)) ?_⟩
  dsimp only [zp,Hv,zm,tCB,mG]
  refine mZ (J:=Itl K a) (H1:=H) (xs:=txs hs) (rest:=[]) (fun R h=>⟨_,rfl,a,rfl,⟨_,SqL.of ha⟩,h⟩) rfl (dD (SqL.of ha)) (aG (by omega)) (fun _=>.bl true) (fun i x H2 R ex sm hR=>?_) (fun D H' h1 h2 h3=>?_)
  ·obtain ⟨l,hl',rfl⟩:=List.mem_map.mp (List.mem_of_getElem? ex)
   exact ⟨_,rfl,l,rfl,hG.nm l hl',fun H' sm'=>hR H' sm'⟩
  ·refine ⟨D,List.replicate (txs hs).length true,rfl,SqL.of (by rw [h2,qi]),_,rfl,eY (qj _) ?_⟩
   have ha':=h3 _ _ ha
   refine ⟨_,rfl,a,hs.map S,rfl,SqL.of (by rw [ha',ut]),(by rw [List.length_map];omega),fun p hp=>?_⟩
   have s2:aB H' (upd H' p (HS P w p (nZ (fun i=>(hs.map S).getD i Str.empty) (hs.map S).length))):=aF hp
   refine ⟨p,_,rfl,aj,_,rfl,a,_,rfl,.inl (SqL.of (s2 _ _ ha')),rfl,qg (decide_eq_true ?_) (q _ (h3.trans s2))⟩
   rw [vQ _ _ (Ih hG.nd),List.length_map,hl]
theorem Lq:aH ["houses","thing"] ["houses","thing"] (aC wB):=⟨rfl,rfl,rfl,by decide+kernel,rfl,by decide+kernel,by decide+kernel⟩
theorem Jb {f f1 f2 f3:Addr} {fd fd1 fd2 fd3:FuncData} (F:Fun K "is_road" "is_road" wB f fd) (Cn:Ef mg)
  (dO:Dn K mg "is_tuple_of" qz ["thing","length"] f1 fd1) (jc:aD P w K mg base CX0 1 f1 fd1 ["thing","length"] ux)
  (aO:Dn K mg "are_unlike_houses" jF ["houses","one","other"] f2 fd2) (bU:aD P w K mg base CX0 1 f2 fd2 ["houses","one","other"] (qm K))
  (bx:Dn K mg "is_whole_within" m9 ["thing","least","greatest"] f3 fd3) (dh:aD P w K mg base CX0 2 f3 fd3 ["thing","least","greatest"] ql):
  aD P w K mg base CX0 3 f fd ["houses","thing"] (yt K):=by
 refine F.ok Lq (fun vs H Q E h=>?_) (fun cdv A outer s H vs Q E hr h=>?_)
 ·obtain ⟨a,r,hs,d,rfl,_⟩:=h
  rfl
 ·obtain ⟨a,r,hs,d,rfl,hS,nd,ok,hr',q⟩:=h
  refine ⟨_,(az (aU (gH (bc jc (hr.mono (by decide)) (by rfl) dO.at_ dO.fn.kp dO.bd .nil bh (aa (pv 1) (aa au aq))) (gH (bc bU (hr.mono (by decide)) (by rfl) aO.at_ aO.fn.kp aO.bd .nil bh (aa (pv 0) (aa (aK aP (pv 1) au (fun _ _=>rfl)) (aa (aK aP (pv 1) au (fun _ _=>rfl)) aq)))) (gH (bc dh (hr.mono (by decide)) (by rfl) bx.at_ bx.fn.kp bx.bd .nil bh (aa (aK aP (pv 1) au (fun _ _=>rfl)) (aa au (aa (jV (by rfl) Cn.MOST_TURNS) aq)))) (jy (bc dh (hr.mono (by decide)) (by rfl) bx.at_ bx.fn.kp bx.bd .nil bh (aa (aK aP (pv 1) au (fun _ _=>rfl)) (aa au (aa (jV (by rfl) Cn.MOST_ROOM) aq)))))))))),?_⟩
  have hS':SqL K H a ((hs.map S).map V.str):=by rw [←ut];exact hS
  refine ⟨_,rfl,r,_,_,rfl,hr',rfl,_,rfl,jR ?_⟩
  refine ⟨_,rfl,_,rfl,r,_,_,_,rfl,rfl,SqT.of hr',rfl,_,rfl,r,_,_,_,rfl,rfl,SqT.of hr',rfl,a,hs.map S,_,_,rfl,hS',eZ ok.a,eZ ok.b,Oa nd ok.a ok.b ok.ne,_,rfl,jR ?_⟩
  refine ⟨_,rfl,r,_,_,_,rfl,rfl,SqT.of hr',rfl,_,_,_,rfl,ok.t.1,ok.t.2,_,rfl,jR ?_⟩
  exact ⟨_,rfl,r,_,_,_,rfl,rfl,SqT.of hr',rfl,_,_,_,rfl,ok.m.1,ok.m.2,q⟩
theorem Lr:aH ["houses","things"] ["houses","things"] (aC wC):=⟨rfl,rfl,rfl,by decide+kernel,rfl,by decide+kernel,by decide+kernel⟩
theorem Jc {f fN:Addr} {fd fdN:FuncData} (F:Fun K "are_roads" "are_roads" wC f fd) (B:Blt mg) (Cn:Ef mg) (jj:Dn K mg "is_road" wB ["houses","thing"] fN fdN) (oF:aD P w K mg base CX0 3 fN fdN ["houses","thing"] (yt K)):
  aD P w K mg base CX0 4 f fd ["houses","things"] (yu K):=by
 refine F.ok Lr (fun vs H Q E h=>?_) (fun cdv A outer s H vs Q E hr h=>?_)
 ·obtain ⟨a,b,hs,rs,ds,rfl,_⟩:=h
  rfl
 ·obtain ⟨a,b,hs,rs,ds,rfl,ha,nd,hb,hR,few,q⟩:=h
  refine ⟨_,(ao (cI (PW.pt (zj (iV (iU (aV jg (by rfl) B.isinstance cW (aa (pv 1) (aa (oh (by rfl) B.list jD) aq))))) (ud (bK JS (aV bN (by rfl) B.len iw (aa (pv 1) aq)) (jV (by rfl) Cn.MOST_ROADS) (bG _))))) (az (aU jK)) bw)
   (az (aU (aV (pY rfl) (by rfl) B.all_ yo (aa (mR (N':=["thing","houses"]) (cs:=[none,some 0]) rfl (bC (pv 1)) rfl (by decide+kernel) rfl (by decide+kernel) (cY (List.forall_mem_cons.mpr ⟨rfl,(fun p hp=>absurd hp (List.not_mem_nil))⟩)) rfl
    (.own (.cap rfl (.inl rfl) (.inl rfl) rfl .nil))
    (fun C s3 H3 fp pn=>⟨(aJ (i:=0) (by show (["thing","houses"]:List Str).Nodup;decide+kernel) rfl (.inl rfl)),d7,(bc oF (hr.mono (by decide)) (by rfl) jj.at_ jj.fn.kp jj.bd .nil bh (aa (pv 1) (aa (pv 0) aq)))⟩)) aq))))),?_⟩
  have hl:=aN rs
  refine ⟨_,rfl,_,_,_,_,_,rfl,⟨rfl,.lst hb,qe _ _⟩,_,rfl,lQ ?_⟩
  refine ⟨_,rfl,b,_,rfl,.inl (SqL.of hb),_,_,rfl,rfl,_,rfl,gw (decide_eq_false (by omega)) ?_⟩
  dsimp only [zp,Hv,zm,tCB,mG]
  refine mZ (J:=Itl K b) (H1:=H) (xs:=refs rs) (rest:=[some (.ref a)]) (fun R h=>⟨_,rfl,b,rfl,⟨_,SqL.of hb⟩,h⟩) rfl (dD (SqL.of hb)) (aG (by omega)) (fun _=>.bl true) (fun i x H2 R ex sm hr2=>?_) (fun D H' h1 h2 h3=>?_)
  ·unfold refs at ex
   rw [List.getElem?_map] at ex
   obtain ⟨r,er,rfl⟩:=Option.map_eq_some_iff.mp ex
   obtain ⟨d,_,ok,hd⟩:=hR.get er
   exact ⟨_,rfl,_,rfl,a,r,hs,d,rfl,sm.seq ha,nd,ok,sm _ _ hd,hr2 H2 (aB.refl _)⟩
  ·exact ⟨D,List.replicate (refs rs).length true,rfl,SqL.of (by rw [h2,qi]),qg (qj _) (q H' h3)⟩
noncomputable abbrev wF:Stmt:=inClass (top 31) 0
noncomputable abbrev jk:Stmt:=inClass (top 31) 1
noncomputable abbrev nj:Stmt:=inClass (top 31) 2
theorem Ls:aH ["self","houses","roads"] ["self","houses","roads"] (aC wF):=⟨rfl,rfl,rfl,by decide+kernel,rfl,by decide+kernel,by decide+kernel⟩
theorem Jd {C f fH fR:Addr} {fd fdH fdR:FuncData} (F:Fun K "__init__" "Net.__init__" wF f fd) (B:Blt mg) (NC:wg K C)
  (fB:Dn K mg "are_houses" wA ["things"] fH fdH) (jG:aD P w K mg base CX0 2 fH fdH ["things"] yr)
  (gA:Dn K mg "are_roads" wC ["houses","things"] fR fdR) (jZ:aD P w K mg base CX0 4 fR fdR ["houses","things"] (yu K)):
  aD P w K mg base CX0 5 f fd ["self","houses","roads"] (yw K C):=by
 refine F.ok Ls (fun vs H Q E h=>?_) (fun cdv A outer s H vs Q E hr h=>?_)
 ·obtain ⟨x,dx,a,b,hs,rs,ds,rfl,_⟩:=h
  rfl
 ·obtain ⟨x,dx,a,b,hs,rs,ds,rfl,hx,ha,hG,hb,hR,few,q⟩:=h
  refine ⟨_,(ao (cI (iV (iU (bc jG (hr.mono (by decide)) (by rfl) fB.at_ fB.fn.kp fB.bd .nil bh (aa (pv 1) aq)))) (az pQ) bw)
   (ao (cI (iV (iU (bc jZ (hr.mono (by decide)) (by rfl) gA.at_ gA.fn.kp gA.bd .nil bh (aa (pv 1) (aa (pv 2) aq))))) (az pQ) bw)
   (ao (lO (pv 0) (dB eX (by rfl) B.list jD (aa (pv 1) aq)) rfl)
   (az (lO (pv 0) (dB eX (by rfl) B.list jD (aa (pv 2) aq)) rfl))))),?_⟩
  refine ⟨_,rfl,a,hs,rfl,ha,hG,fun H1 s1=>⟨_,rfl,lQ ?_⟩⟩
  refine ⟨_,rfl,_,rfl,a,b,hs,rs,ds,rfl,SqL.of (s1 _ _ ha),hG.nd,s1 _ _ hb,hR.same s1,few,fun H2 s2=>⟨_,rfl,lQ ?_⟩⟩
  have s12:=s1.trans s2
  refine ⟨_,rfl,a,_,rfl,.inl (SqL.of (s12 _ _ ha)),fun a' ha'=>?_⟩
  have s3:aB H2 (upd H2 a' (.lst (txs hs))):=aF ha'
  have s13:=s12.trans s3
  have nx:x≠a':=aA (s12 _ _ hx) ha'
  refine ⟨_,rfl,x,C,dx,_,rfl,s13 _ _ hx,NC.cl,NC.nh,(by decide),?_⟩
  have hbx:b≠x:=fun e=>by rw [e,hx] at hb;cases hb
  have hb4:upd (upd H2 a' (.lst (txs hs))) x (.ins C dx (jA "kept_houses" (.ref a') [])) b=some (.lst (refs rs)):=by
   rw [ak hbx]
   exact s13 _ _ hb
  refine ⟨_,rfl,b,_,rfl,.inl (SqL.of hb4),fun b' hb'=>?_⟩
  have nx2:b'≠x:=fun e=>by rw [e,aj] at hb';cases hb'
  have nb:b'≠a':=fun e=>by rw [e,ak nx.symm,aj] at hb';cases hb'
  refine ⟨_,rfl,x,C,dx,_,rfl,(by rw [ak nx2.symm,aj]),NC.cl,NC.nr,(by show 1 < 1000;decide),?_⟩
  refine q _ a' b' (fun c o hc hH=>?_) (by rw [aj];rfl) ?_ ?_ ?_ ?_
  ·rw [ak hc]
   have:c≠b':=fun e=>by
    rw [←e,ak hc,s13 _ _ hH] at hb'
    cases hb'
   rw [ak this,ak hc]
   exact s13 _ _ hH
  ·rw [ak nx.symm,ak nb.symm,ak nx.symm,aj]
  ·rw [ak nx2,aj]
  ·exact s12.free ha'
  ·rw [ak nx2,ak nb] at hb'
   exact s12.free hb'
theorem Bx:aH ["self"] ["self"] (aC jk):=⟨rfl,rfl,rfl,by decide+kernel,rfl,by decide+kernel,by decide+kernel⟩
theorem Ey:aH ["self"] ["self"] (aC nj):=⟨rfl,rfl,rfl,by decide+kernel,rfl,by decide+kernel,by decide+kernel⟩
theorem yE {C f:Addr} {fd:FuncData} (F:Fun K "houses" "Net.houses" jk f fd) (B:Blt mg) (NC:wg K C):aD P w K mg base CX0 1 f fd ["self"] (lg C):=by
 refine F.ok Bx (fun vs H Q E h=>?_) (fun cdv A outer s H vs Q E hr h=>?_)
 ·obtain ⟨x,a',b',xs,ys,rfl,_⟩:=h
  rfl
 ·obtain ⟨x,a',b',xs,ys,rfl,n,q⟩:=h
  obtain ⟨dx,hx⟩:=n.ins
  refine ⟨_,(az (aU (dB eX (by rfl) B.list jD (aa (bV (pv 0) (by rfl)) aq)))),?_⟩
  exact ⟨_,rfl,x,C,dx,_,_,rfl,hx,NC.cl,NC.nh,rfl,a',_,rfl,.inl (SqL.of n.hou),q⟩
theorem By {C f:Addr} {fd:FuncData} (F:Fun K "roads" "Net.roads" nj f fd) (B:Blt mg) (NC:wg K C):aD P w K mg base CX0 1 f fd ["self"] (qp C):=by
 refine F.ok Ey (fun vs H Q E h=>?_) (fun cdv A outer s H vs Q E hr h=>?_)
 ·obtain ⟨x,a',b',xs,ys,rfl,_⟩:=h
  rfl
 ·obtain ⟨x,a',b',xs,ys,rfl,n,q⟩:=h
  obtain ⟨dx,hx⟩:=n.ins
  refine ⟨_,(az (aU (dB eX (by rfl) B.list jD (aa (bV (pv 0) (by rfl)) aq)))),?_⟩
  exact ⟨_,rfl,x,C,dx,_,_,rfl,hx,NC.cl,NC.nr,rfl,b',_,rfl,.inl (SqL.of n.roa),q⟩
end
open PySem L2 L3 M1
theorem Je {wi:TI} {cs:List (Option Nat)} {te:TE} {σ rest:L2.St} {H H1:Hp} {Q:VK} {J:It} {xs:List L2.V} (hw:∀R:It→Hp→Prop,R J H1→wi σ H R) (hcs:fQ cs σ=none::rest) (wk:Wk J H1 xs) (hl:xs.length < sizeLine) (f:L2.V→List L2.V)
  (elt:∀(i:Nat) (x:L2.V) (H2:Hp) (R:VK),xs[i]?=some x→aB H1 H2→(∀r H5,aB H2 H5→H5 r=some (.tup (f x))→R (.ref r) H5)→te (some x::rest) H2 R)
  (fin:∀(D:Addr) (H':Hp) (rs:List Addr),H1 D=none→H' D=some (.lst (refs rs))→cT H' rs (xs.map f)→aB H1 H'→Q (.ref D) H'):tLC wi cs (cJ 0) yj te σ H Q:=by
 refine hw _ fun D hD=>?_
 refine ⟨fun i m ys σ' H'=>m=xs.length - i∧i≤xs.length∧(∃rs,ys=refs rs∧cT H' rs ((xs.take i).map f))∧(∃o,σ'=o::rest)∧aB H1 H'∧H' D=some (.lst ys),⟨xs.length,by simp,Nat.zero_le _,⟨[],rfl,.nil⟩,⟨none,hcs⟩,fun b o e=>?_,aj⟩,?_⟩
 ·rw [ak (aA e hD)]
  exact e
 ·rintro i m ys σ' H' ⟨rfl,hi,⟨rs,rfl,tp⟩,⟨o,rfl⟩,sm,hHD⟩
  obtain ⟨w1,w2,w3⟩:=wk H' sm
  have ln:=tp.len
  rw [List.length_map,List.length_take,Nat.min_eq_left hi] at ln
  refine ⟨hHD,Nat.lt_of_le_of_lt (by rw [aN];omega) hl,?_⟩
  by_cases hlt:i < xs.length
  ·refine .inr ⟨w2 i hlt,fun x H2 y=>?_⟩
   obtain ⟨rfl,ex⟩:=w3 i x H2 hlt y
   have tk:xs.take (i+1)=xs.take i++[x]:=by rw [List.take_add_one,ex];rfl
   show te (some x::rest) H2 _
   refine elt i x H2 _ ex sm fun r H5 s5 hr=>⟨s5 _ _ hHD,xs.length - (i+1),by omega,rfl,hlt,⟨rs++[r],g8 rs r,?_⟩,⟨_,rfl⟩,fun b ob e=>?_,aj⟩
   ·rw [tk,List.map_append]
    exact cT.upd (Paired.snoc (F:=fun r d=>H5 r=some (.tup d)) hr (tp.same s5)) (s5 _ _ hHD) (by intro d z;cases z)
   ·rw [ak (aA e hD)]
    exact s5 _ _ (sm _ _ e)
  ·have e:i=xs.length:=by omega
   subst e
   rw [List.take_length] at tp
   exact .inl ⟨w1,fin D H' rs hD hHD tp sm⟩
theorem wG {K:PySem.W.Frag} {wi:TI} {cs:List (Option Nat)} {te:TE} {σ rest:L2.St} {H Hs:Hp} {Q:VK} {xs:List L2.V} (hw:∀R:It→Hp→Prop,(∀p,Hs p=none→R (Itl K p) (upd Hs p (.lst xs)))→wi σ H R) (hcs:fQ cs σ=none::rest) (hl:xs.length < sizeLine) (f:L2.V→List L2.V)
  (elt:∀(i:Nat) (x:L2.V) (H2:Hp) (R:VK),xs[i]?=some x→aB Hs H2→(∀r H5,aB H2 H5→H5 r=some (.tup (f x))→R (.ref r) H5)→te (some x::rest) H2 R)
  (fin:∀(D:Addr) (H':Hp) (rs:List Addr),H' D=some (.lst (refs rs))→cT H' rs (xs.map f)→aB Hs H'→Q (.ref D) H'):tLC wi cs (cJ 0) yj te σ H Q:=
 hw _ fun p hp=>Je (wi:=fun _ _ R=>R (Itl K p) (upd Hs p (.lst xs))) (H:=Hs) (fun R h=>h) hcs (dD (SqL.of aj)) hl f (fun i x H2 R ex sm k=>elt i x H2 R ex ((aF hp).trans sm) k) fun D H' rs _ h2 h3 h4=>fin D H' rs h2 h3 ((aF hp).trans h4)
theorem Jf (x y:Str):PyData.eqv (.str x) (.str y)=decide (x=y):=by
 by_cases h:x=y
 ·subst h;rw [decide_eq_true rfl];simp [PyData.eqv]
 ·rw [decide_eq_false h];simp [PyData.eqv,h]
theorem Jg {hs:List (List Nat)} {k:Nat} (h:k < hs.length):inD (.str (S (hs.getD k []))) (hD hs)=true:=by
 unfold inD hD
 rw [List.any_eq_true]
 have hm:hs.getD k []∈hs:=by rw [List.getD,List.getElem?_eq_getElem h];exact List.getElem_mem h
 exact ⟨_,List.mem_map.mpr ⟨_,List.mem_map.mpr ⟨_,hm,rfl⟩,rfl⟩,by rw [Jf];exact decide_eq_true rfl⟩
theorem uG {wi:TI} {cs:List (Option Nat)} {te:TE} {σ rest:L2.St} {H H1:Hp} {Q:VK} {J:It} {xs:List L2.V} (hw:∀R:It→Hp→Prop,R J H1→wi σ H R) (hcs:fQ cs σ=none::rest) (wk:Wk J H1 xs) (hl:xs.length < sizeLine) (f:Nat→L2.V)
  (elt:∀(i:Nat) (x:L2.V) (H2:Hp) (R:VK),xs[i]?=some x→aB H1 H2→(∀H5,aB H2 H5→R (f i) H5)→te (some x::rest) H2 R)
  (fin:∀(D:Addr) (H':Hp),H1 D=none→H' D=some (.lst ((List.range xs.length).map f))→aB H1 H'→Q (.ref D) H'):tLC wi cs (cJ 0) yj te σ H Q:=by
 refine hw _ fun D hD=>?_
 refine ⟨fun i m ys σ' H'=>m=xs.length - i∧i≤xs.length∧ys=(List.range i).map f∧(∃o,σ'=o::rest)∧aB H1 H'∧H' D=some (.lst ys),⟨xs.length,by simp,Nat.zero_le _,rfl,⟨none,by rw [hcs]⟩,fun b o e=>?_,aj⟩,?_⟩
 ·rw [ak (aA e hD)]
  exact e
 ·rintro i m ys σ' H' ⟨rfl,hi,rfl,⟨o,rfl⟩,sm,hHD⟩
  obtain ⟨w1,w2,w3⟩:=wk H' sm
  refine ⟨hHD,Nat.lt_of_le_of_lt (by rw [List.length_map,List.length_range];omega) hl,?_⟩
  by_cases hlt:i < xs.length
  ·refine .inr ⟨w2 i hlt,fun x H2 y=>?_⟩
   obtain ⟨rfl,ex⟩:=w3 i x H2 hlt y
   show te (some x::rest) H2 _
   refine elt i x H2 _ ex sm fun H5 s5=>⟨s5 _ _ hHD,xs.length - (i+1),by omega,rfl,hlt,?_,⟨_,rfl⟩,fun b ob e=>?_,aj⟩
   ·rw [List.range_succ,List.map_append]
    rfl
   ·rw [ak (aA e hD)]
    exact s5 _ _ (sm _ _ e)
  ·have e:i=xs.length:=by omega
   subst e
   exact .inl ⟨w1,fin D H' hD hHD sm⟩
end K1
namespace L3
open PySem PySem.Spec PyProof.Rows L2
noncomputable def stepV {α:Type} (xs:List α) (lo hi:Option Int) (st:Int):List α:=
 (sliceRange (sliceBounds lo hi (some st) xs.length).1 (sliceBounds lo hi (some st) xs.length).2.1 (sliceBounds lo hi (some st) xs.length).2.2).filterMap (xs[·]?)
theorem oG {xs:List V} {us:List Value} (h:Vals xs us):∀is:List Nat,Vals (is.filterMap (xs[·]?)) (is.filterMap (us[·]?))
 | []=>.nil
 | i::r=>by
  cases e:xs[i]? with
  | none=>
   rw [List.filterMap_cons_none e,List.filterMap_cons_none (h.none_of e)]
   exact oG h r
  | some x=>
   obtain ⟨u,e2,ru⟩:=h.get e
   rw [List.filterMap_cons_some e,List.filterMap_cons_some e2]
   exact .cons ru (oG h r)
theorem tD {α β:Type} (f:α→β) (xs:List α) (lo hi:Option Int) (st:Int):stepV (xs.map f) lo hi st=(stepV xs lo hi st).map f:=by
 unfold stepV
 rw [List.length_map,List.map_filterMap]
 congr 1
 funext i
 exact List.getElem?_map
theorem tE {α:Type} (xs:List α) (lo hi:Nat):(stepV xs (some (lo:Int)) (some (hi:Int)) 2).length≤(hi - lo+1) / 2:=by
 unfold stepV
 refine Nat.le_trans (List.length_filterMap_le _ _) ?_
 unfold sliceRange
 rw [List.length_map,List.length_range]
 have e1:(sliceBounds (some (lo:Int)) (some (hi:Int)) (some 2) xs.length).1=max 0 (min (lo:Int) xs.length):=by
  have h0:¬((lo:Int) < 0):=by omega
  simp [sliceBounds,h0]
 have e2:(sliceBounds (some (lo:Int)) (some (hi:Int)) (some 2) xs.length).2.1=max 0 (min (hi:Int) xs.length):=by
  have h0:¬((hi:Int) < 0):=by omega
  simp [sliceBounds,h0]
 have e3:(sliceBounds (some (lo:Int)) (some (hi:Int)) (some 2) xs.length).2.2=2:=rfl
 rw [e1,e2,e3]
 rw [if_pos (by decide)]
 split <;> omega
section
variable {X:Cx} {e:Expr} {te:TE} {pos p2:Pos} {lo hi:Option Expr} {tl th:TO}
noncomputable def Qg (K:PySem.W.Frag) (te:TE) (tl th:TO) (tk:TE):TE:=fun σ H Q=>te σ H fun x H1=>tl σ H1 fun l H2=>th σ H2 fun u H3=>tk σ H3 fun k H4=>∃a xs i,x=.ref a∧k=.int i∧i≠0∧SqL K H4 a xs∧
 ∀p,H4 p=none→Q (.ref p) (upd H4 p (.lst (stepV xs l u i)))
theorem tG {st:Expr} {tk:TE} (he:PE X e te) (hl:PO X lo tl) (hu:PO X hi th) (hk:PE X st tk):PE X (.Subscript e (.Slice lo hi (some st) p2) pos) (Qg X.K te tl th tk):=by
 intro pins s σ H Q I h
 refine Subscript_ (thn (he pins s σ H _ I h) fun v s1 ⟨x,H1,I1,r1,q1⟩=>?_)
 refine wpAny_Slice (thn (hl pins s1 σ H1 _ I1 q1) fun vl s2 ⟨l,H2,I2,pl',q2⟩=>thn (hu pins s2 σ H2 _ I2 q2) fun vu s3 ⟨u,H3,I3,pu,q3⟩=>?_)
 rw [evalPart_some]
 refine thn (hk pins s3 σ H3 _ I3 q3) fun kv s4 ⟨k,H4,I4,r4,q4⟩=>?_
 obtain ⟨a,xs,i,rfl,rfl,hi0,hx,q⟩:=q4
 cases r1
 obtain ⟨t,rfl⟩:=r4
 have I5:Inv X pins σ H4 {s4 with heap:=s4.heap.push {cls:=.type "slice",data:=.fields #[vl,vu,.int i t]}}:=I4.kept (t':=s4.toks) fun b ob q=>Heap.get?_push_of_some _ q
 obtain ⟨its,r,pl,hz⟩:=I5.list hx
 have hlen:=r.length
 have hg:wpAny (model X.prog X.w) X.A (getItem (.ref a) (.ref s4.heap.objs.size)) (EP X pins σ Q) X.xe {s4 with heap:=s4.heap.push {cls:=.type "slice",data:=.fields #[vl,vu,.int i t]}}:=by
  refine wpAny_getItem_list_slice pl.isList (Heap.IsSliceOf.new ..) pl' pu (.int i t) (by intro z;exact hi0 (Option.some.inj z)) ?_ (by rw [List.size_toArray] <;> omega)
  have ep:slicePick its.toArray l u (some i)=(stepV its l u i).toArray:=by
   unfold slicePick stepV
   rw [List.size_toArray]
   simp only [List.getElem?_toArray]
  have rs:Vals (stepV xs l u i) (stepV its l u i):=by
   unfold stepV
   rw [hlen]
   exact oG r _
  have hz2:(stepV xs l u i).length≤sizeLine:=by
   have:=slicePick_size_le its.toArray l u (some i)
   rw [ep,List.size_toArray,List.size_toArray] at this
   rw [rs.length]
   omega
  rw [ep]
  refine ⟨.ref _,_,I5.laid (t':=s4.toks) (o:=.lst (stepV xs l u i)) (fun b ob q=>Heap.get?_push_of_some _ q) (Nat.le_refl _) ?_,rfl,q _ (I5.hok.fresh (Nat.le_refl _))⟩
  exact ⟨hz2,_,0,rs,Heap.get?_push_size _ rfl⟩
 show wpAny (model X.prog X.w) X.A (subscriptTail e (.Slice lo hi (some st) p2) (.ref a) (.ref s4.heap.objs.size)) (EP X pins σ Q) X.xe {s4 with heap:=s4.heap.push {cls:=.type "slice",data:=.fields #[vl,vu,.int i t]}}
 exact tail_any (ops:=[.ref a,.ref s4.heap.objs.size]) pl.isList.typeIs slot_list_getitem.lookup hg (by with_unfolding_all rfl)
theorem iK (is:List Int):∀j,preSum (fun i=>is.getD i 0) j=(is.take j).sum
 | 0=>rfl
 | j+1=>by
  show preSum _ j+is.getD j 0=_
  rw [iK is j,List.take_add_one,List.sum_append]
  congr 1
  rw [List.getD]
  cases is[j]? with
  | none=>rfl
  | some x=>show x=x+0;omega
theorem Lw:bootBuiltins "sum"=some (.builtin "sum"):=by decide+kernel
theorem J2:bootBuiltins "min"=some (.builtin "min"):=by decide+kernel
theorem J3:bootBuiltins "max"=some (.builtin "max"):=by decide+kernel
theorem Ez (hc:X.calm=true):eU X (.builtin "sum") (fun xs H Q=>∃(p:Addr) (is:List Int),xs=[.ref p]∧SqL X.K H p (is.map V.int)∧(∀x∈is,0≤x)∧is.sum < 2 ^ 63∧Q (.int is.sum) H):=by
 intro pins s σ H xs us Q I r h
 obtain ⟨p,is,rfl,hq,h0,hm,q⟩:=h
 obtain ⟨u,rfl,ru⟩:=vals1 r
 cases ru
 obtain ⟨its,rv,pl,hz⟩:=I.list hq
 have hlen:is.length=its.length:=by have:=rv.length;rwa [List.length_map] at this
 obtain ⟨o,n,eo,_⟩:=id pl
 have hne:p≠s.heap.objs.size:=Nat.ne_of_lt (Heap.lt_size eo)
 have hh:X.A.in1.handled=none:=I.ok.hd hc
 have psum:∀(l:List Int),(∀x∈l,0≤x)→0≤l.sum:=fun l=>by
  induction l with
  | nil=>intro _;exact Int.le_refl _
  | cons a r ih=>
   intro h
   rw [List.sum_cons]
   have:=h a (.head _)
   have:=ih fun x hx=>h x (.tail _ hx)
   omega
 have tot:∀j,0≤(is.take j).sum∧(is.take j).sum≤is.sum:=fun j=>by
  have e:is.sum=(is.take j).sum+(is.drop j).sum:=by rw [←List.sum_append,List.take_append_drop]
  have:=psum (is.take j) fun x hx=>h0 x (List.mem_of_mem_take hx)
  have:=psum (is.drop j) fun x hx=>h0 x (List.mem_of_mem_drop hx)
  omega
 refine call_sum_walk (wpAny_pyIter_list pl.isList ?_)
 refine ⟨s.heap.objs.size,[s.heap.objs.size,p],[s.heap.objs.size],its.toArray.size,_,_,fun i=>is.getD i 0,rfl,Walks.list hh _ p hne its.toArray,⟨⟨_,Heap.get?_push_size _ rfl,rfl,rfl⟩,pl.isList.push _⟩,?_,?_,?_,fun h' tk t' k=>?_⟩
 ·intro b hb
  have l1:p < s.heap.objs.size:=Heap.lt_size eo
  have l2:(s.heap.push ({cls:=.type "list_iterator",data:=.fields #[Value.ref p,rawInt 0]}:Obj)).objs.size=s.heap.objs.size+1:=by simp [Heap.push]
  simp only [List.mem_cons,List.not_mem_nil,or_false] at hb
  have l3:b < s.heap.objs.size+1:=by
   rcases hb with h | h <;> rw [h]
   ·exact Nat.lt_succ_self _
   ·exact Nat.lt_succ_of_lt l1
  refine Nat.lt_of_lt_of_eq l3 ?_
  simp [Heap.push]
 ·intro i v hP
  have hP':its[i]?=some v:=by simpa using hP
  have hi:i < its.length:=(List.getElem?_eq_some_iff.mp hP').1
  have hb:(is.map V.int)[i]?=some (V.int (is.getD i 0)):=by
   rw [List.getElem?_map,List.getElem?_eq_getElem (by omega:i < is.length)]
   simp [List.getD,hlen▸hi]
  obtain ⟨u',e',r'⟩:=rv.get hb
  rw [hP'] at e'
  cases e'
  exact r'
 ·intro j hj
  rw [List.size_toArray,←hlen] at hj
  have t1:=tot j
  have t2:=tot (j+1)
  have e1:=iK is j
  have e2:=iK is (j+1)
  have e3:preSum (fun i=>is.getD i 0) (j+1)=preSum (fun i=>is.getD i 0) j+is.getD j 0:=rfl
  have h1:0≤is.getD j 0:=by
   rw [List.getD,List.getElem?_eq_getElem hj]
   exact h0 _ (List.getElem_mem hj)
  refine ⟨⟨?_,?_⟩,?_,?_⟩
  ·show -(2 ^ 63)≤is.getD j 0
   omega
  ·show is.getD j 0 < 2 ^ 63
   omega
  ·rw [e2]
   omega
  ·rw [e2]
   omega
 ·have e:preSum (fun i=>is.getD i 0) its.toArray.size=is.sum:=by rw [iK,List.size_toArray,←hlen,List.take_length]
  rw [e]
  exact ⟨.int is.sum,H,I.kept fun b ob z=>k b ob (by simpa using Nat.ne_of_lt (Heap.lt_size z)) (Heap.get?_push_of_some _ z),⟨_,rfl⟩,q⟩
end
end L3
namespace K1
open PySem L2 L3 M1
theorem Lx {wi:TI} {cs:List (Option Nat)} {tt:TT} {te:TE} {σ rest:L2.St} {H H1:Hp} {Q:VK} {J:It} {xs:List L2.V} (hw:∀R:It→Hp→Prop,R J H1→wi σ H R) (hcs:fQ cs σ=none::rest) (wk:Wk J H1 xs) (hl:xs.length < sizeLine) (p:Nat→Bool) (f:Nat→L2.V)
  (test:∀(i:Nat) (x:L2.V) (H2:Hp) (R:Bool→Hp→Prop),xs[i]?=some x→aB H1 H2→(∀H5,aB H2 H5→R (p i) H5)→tt (some x::rest) H2 R)
  (elt:∀(i:Nat) (x:L2.V) (H2:Hp) (R:VK),xs[i]?=some x→p i=true→aB H1 H2→(∀H5,aB H2 H5→R (f i) H5)→te (some x::rest) H2 R)
  (fin:∀(D:Addr) (H':Hp),H1 D=none→H' D=some (.lst (((List.range xs.length).filter p).map f))→aB H1 H'→Q (.ref D) H'):tLC wi cs (cJ 0) tt te σ H Q:=by
 refine hw _ fun D hD=>?_
 refine ⟨fun i m ys σ' H'=>m=xs.length - i∧i≤xs.length∧ys=((List.range i).filter p).map f∧(∃o,σ'=o::rest)∧aB H1 H'∧H' D=some (.lst ys),⟨xs.length,by simp,Nat.zero_le _,rfl,⟨none,by rw [hcs]⟩,fun b o e=>?_,aj⟩,?_⟩
 ·rw [ak (aA e hD)]
  exact e
 ·rintro i m ys σ' H' ⟨rfl,hi,rfl,⟨o,rfl⟩,sm,hHD⟩
  obtain ⟨w1,w2,w3⟩:=wk H' sm
  refine ⟨hHD,Nat.lt_of_le_of_lt ?_ hl,?_⟩
  ·rw [List.length_map]
   refine Nat.le_trans (List.length_filter_le _ _) ?_
   rw [List.length_range]
   exact hi
  by_cases hlt:i < xs.length
  ·refine .inr ⟨w2 i hlt,fun x H2 y=>?_⟩
   obtain ⟨rfl,ex⟩:=w3 i x H2 hlt y
   show tt (some x::rest) H2 _
   refine test i x H2 _ ex sm fun H4 s4=>?_
   cases hp:p i with
   | true=>
    refine jR ?_
    refine elt i x H4 _ ex hp (sm.trans s4) fun H5 s5=>⟨s5 _ _ (s4 _ _ hHD),xs.length - (i+1),by omega,rfl,hlt,?_,⟨_,rfl⟩,fun b ob e=>?_,aj⟩
    ·rw [List.range_succ,List.filter_append,List.map_append]
     simp [hp]
    ·rw [ak (aA e hD)]
     exact s5 _ _ (s4 _ _ (sm _ _ e))
   | false=>
    refine lQ ⟨xs.length - (i+1),by omega,rfl,hlt,?_,⟨_,rfl⟩,sm.trans s4,s4 _ _ hHD⟩
    rw [List.range_succ,List.filter_append,List.map_append]
    simp [hp]
  ·have e:i=xs.length:=by omega
   subst e
   exact .inl ⟨w1,fin D H' hD hHD sm⟩
theorem gO {α:Type} {l:List α} {i:Nat} {x d:α} (e:l[i]?=some x):l.getD i d=x:=by rw [List.getD,e];rfl
theorem range_getD {α β:Type} (g:α→β) (d0:α) (ls:List α):((List.range ls.length).map fun i=>g (ls.getD i d0))=ls.map g:=by
 apply List.ext_getElem
 ·simp
 ·intro i h1 h2
  simp only [List.length_map,List.length_range] at h1
  simp [List.getD,h1]
structure Step where
 left:Int
 by_:Option Int
 house:Str
 due:Int
noncomputable def byV:Option Int→L2.V
 | none=>.non
 | some i=>.int i
noncomputable def stV (s:Step):List L2.V:=[.int s.left,byV s.by_,.str s.house,.int s.due]
noncomputable def uH (n g st:Addr):List (Str × L2.V):=[("net",.ref n),("goals",.ref g),("steps",.ref st)]
noncomputable def aZ (H:Hp) (l:Addr) (ss:List Step):Prop:=∃ts,H l=some (.lst (refs ts))∧cT H ts (ss.map stV)
structure WalkAt (C:Addr) (H:Hp) (x n g st:Addr) (gs:List Str) (ls:List Addr) (sss:List (List Step)):Prop where
 ins:∃dx,H x=some (.ins C dx (uH n g st))
 goals:H g=some (.lst (gs.map V.str))
 steps:H st=some (.lst (refs ls))
 each:Paired (aZ H) ls sss
structure lJ (K:PySem.W.Frag) (C:Addr):Prop where
 cl:Cls K C
 nn:PySem.W.findIn K (.ref C) "net"=some none
 ng:PySem.W.findIn K (.ref C) "goals"=some none
 ns:PySem.W.findIn K (.ref C) "steps"=some none
noncomputable def yF (C:Addr):Sp:=fun vs H Q _=>∃(x n g st:Addr) (gs:List Str) (ls:List Addr) (sss:List (List Step)) (k:Nat) (y:Str),vs=[.ref x,.int k]∧WalkAt C H x n g st gs ls sss∧gs[k]?=some y∧Q (.str y) H
noncomputable def pF (C:Addr):Sp:=fun vs H Q _=>∃(x n g st:Addr) (gs:List Str) (ls:List Addr) (sss:List (List Step)) (k:Nat) (ss:List Step) (s:Step),vs=[.ref x,.int k]∧WalkAt C H x n g st gs ls sss∧sss[k]?=some (ss++[s])∧Q (.str s.house) H
noncomputable def nu (C:Addr):Sp:=fun vs H Q _=>∃(x n g st:Addr) (gs:List Str) (ls:List Addr) (sss:List (List Step)) (k:Nat) (ss:List Step) (s:Step),vs=[.ref x,.int k]∧WalkAt C H x n g st gs ls sss∧sss[k]?=some (ss++[s])∧Q (.int s.due) H
theorem tH {xs:List L2.V} {v:L2.V}:L2.atI (xs++[v]) (-1)=some v:=by
 unfold L2.atI L2.ixN
 rw [List.length_append,if_neg (by decide),if_pos (by show -((xs.length+1:Nat):Int)≤-1;omega)]
 show (xs++[v])[((-1:Int)+((xs.length+1:Nat):Int)).toNat]?=_
 have e:((-1:Int)+((xs.length+1:Nat):Int)).toNat=xs.length:=by omega
 rw [e]
 simp
section
variable {P:Program} {w:World} {K:PySem.W.Frag} {mg:Str→Option Value} {base:Heap}
noncomputable abbrev oH:Stmt:=inClass (top 13) 4
theorem Jh:aH ["self","number"] ["self","number"] (aC oH):=⟨rfl,rfl,rfl,by decide+kernel,rfl,by decide+kernel,by decide+kernel⟩
theorem zO {C:Addr} {H:Hp} {x n g st:Addr} {gs:List Str} {ls:List Addr} {sss:List (List Step)} {k:Nat} {ss:List Step} {s:Step} (W:WalkAt C H x n g st gs ls sss) (e:sss[k]?=some (ss++[s])):
  ∃l ts t,ls[k]?=some l∧H l=some (.lst (refs (ts++[t])))∧H t=some (.tup (stV s)):=by
 have ln:=Paired.length W.each
 obtain ⟨hk,_⟩:=List.getElem?_eq_some_iff.mp e
 obtain ⟨l,el⟩:∃l,ls[k]?=some l:=⟨_,List.getElem?_eq_getElem (by omega)⟩
 obtain ⟨ss',es,ts,hl,tp⟩:=Paired.get W.each el
 rw [e] at es
 cases es
 have lt:=tp.len
 rw [List.length_map,List.length_append] at lt
 simp only [List.length_cons,List.length_nil] at lt
 obtain ⟨t,et⟩:∃t,ts[ss.length]?=some t:=⟨_,List.getElem?_eq_getElem (by omega)⟩
 obtain ⟨d,ed,hd⟩:=Paired.get tp et
 rw [List.map_append,List.getElem?_append_right (by rw [List.length_map];omega),List.length_map,Nat.sub_self] at ed
 cases ed
 refine ⟨l,ts.take ss.length,t,el,?_,hd⟩
 have e2:ts=ts.take ss.length++[t]:=by
  have this:=(List.take_append_drop ss.length ts).symm
  have hd2:ts.drop ss.length=[t]:=by
   rw [List.drop_eq_getElem_cons (by omega:ss.length < ts.length)]
   rw [List.getElem?_eq_getElem (by omega:ss.length < ts.length)] at et
   cases et
   rw [List.drop_eq_nil_of_le (by omega)]
  rw [hd2] at this
  exact this
 rw [←e2]
 exact hl
theorem EY {C f:Addr} {fd:FuncData} (F:Fun K "last_house" "Walk.last_house" oH f fd) (WC:lJ K C):aD P w K mg base CX0 1 f fd ["self","number"] (pF C):=by
 refine F.ok Jh (fun vs H Q E h=>?_) (fun cdv A outer s H vs Q E hr h=>?_)
 ·obtain ⟨x,n,g,st,gs,ls,sss,k,ss,s',rfl,_⟩:=h
  rfl
 ·obtain ⟨x,n,g,st,gs,ls,sss,k,ss,s',rfl,W,es,q⟩:=h
  obtain ⟨dx,hx⟩:=W.ins
  obtain ⟨l,ts,t,el,hl,ht⟩:=zO W es
  refine ⟨_,(az (aU (aK aP (aK bM (aK bM (bV (pv 0) (by rfl)) (pv 1) (fun _ _=>rfl)) (vH pU au) (fun _ _=>rfl)) au (fun _ _=>rfl)))),?_⟩
  have h1:L2.atI (refs (ts++[t])) (-1)=some (.ref t):=by unfold refs;rw [List.map_append];exact tH
  exact ⟨_,rfl,x,C,dx,_,_,rfl,hx,WC.cl,WC.ns,rfl,_,rfl,st,_,_,_,rfl,rfl,SqL.of W.steps,cN (by unfold refs;rw [List.getElem?_map,el];rfl),_,rfl,l,_,_,_,rfl,rfl,SqL.of hl,h1,t,_,_,_,rfl,rfl,SqT.of ht,rfl,q⟩
noncomputable abbrev lX:Stmt:=inClass (top 13) 5
theorem Ji:aH ["self","number"] ["self","number"] (aC lX):=⟨rfl,rfl,rfl,by decide+kernel,rfl,by decide+kernel,by decide+kernel⟩
theorem Fb {C f:Addr} {fd:FuncData} (F:Fun K "last_turn" "Walk.last_turn" lX f fd) (WC:lJ K C):aD P w K mg base CX0 1 f fd ["self","number"] (nu C):=by
 refine F.ok Ji (fun vs H Q E h=>?_) (fun cdv A outer s H vs Q E hr h=>?_)
 ·obtain ⟨x,n,g,st,gs,ls,sss,k,ss,s',rfl,_⟩:=h
  rfl
 ·obtain ⟨x,n,g,st,gs,ls,sss,k,ss,s',rfl,W,es,q⟩:=h
  obtain ⟨dx,hx⟩:=W.ins
  obtain ⟨l,ts,t,el,hl,ht⟩:=zO W es
  refine ⟨_,(az (aU (aK aP (aK bM (aK bM (bV (pv 0) (by rfl)) (pv 1) (fun _ _=>rfl)) (vH pU au) (fun _ _=>rfl)) au (fun _ _=>rfl)))),?_⟩
  have h1:L2.atI (refs (ts++[t])) (-1)=some (.ref t):=by unfold refs;rw [List.map_append];exact tH
  exact ⟨_,rfl,x,C,dx,_,_,rfl,hx,WC.cl,WC.ns,rfl,_,rfl,st,_,_,_,rfl,rfl,SqL.of W.steps,cN (by unfold refs;rw [List.getElem?_map,el];rfl),_,rfl,l,_,_,_,rfl,rfl,SqL.of hl,h1,t,_,_,_,rfl,rfl,SqT.of ht,rfl,q⟩
noncomputable def zP (s:Step) (g:Str):L2.V:=if s.house=g then .int s.due else .non
noncomputable def uI (C:Addr):Sp:=fun vs H Q _=>∃(x n g st:Addr) (gs:List Str) (ls:List Addr) (sss:List (List Step)) (k:Nat) (ss:List Step) (s:Step) (y:Str),vs=[.ref x,.int k]∧WalkAt C H x n g st gs ls sss∧sss[k]?=some (ss++[s])∧gs[k]?=some y∧Q (zP s y) H
noncomputable abbrev qC:Stmt:=inClass (top 13) 6
theorem Jj:aH ["self","number"] ["self","number"] (aC qC):=⟨rfl,rfl,rfl,by decide+kernel,rfl,by decide+kernel,by decide+kernel⟩
theorem Fd {C f f1 f2:Addr} {fd fd1 fd2:FuncData} (F:Fun K "home_turn" "Walk.home_turn" qC f fd) (WC:lJ K C)
  (bz:Mn K C "last_house" "Walk.last_house" oH ["self","number"] f1 fd1) (fD:aD P w K mg base CX0 1 f1 fd1 ["self","number"] (pF C))
  (aR:Mn K C "last_turn" "Walk.last_turn" lX ["self","number"] f2 fd2) (cH:aD P w K mg base CX0 1 f2 fd2 ["self","number"] (nu C)):aD P w K mg base CX0 2 f fd ["self","number"] (uI C):=by
 have di:=WC.cl
 refine F.ok Jj (fun vs H Q E h=>?_) (fun cdv A outer s H vs Q E hr h=>?_)
 ·obtain ⟨x,n,g,st,gs,ls,sss,k,ss,s',y,rfl,_⟩:=h
  rfl
 ·obtain ⟨x,n,g,st,gs,ls,sss,k,ss,s',y,rfl,W,es,ey,q⟩:=h
  obtain ⟨dx,hx⟩:=W.ins
  refine ⟨_,(ao (cI (bK sy (bL (pv 0) di bz.me fD (hr.mono (by decide)) bz.bd .nil bh (aa (pv 1) aq)) (aK bM (bV (pv 0) (by rfl)) (pv 1) (fun _ _=>rfl)) (bG _)) (az (aU jw)) bw)
   (az (aU (bL (pv 0) di aR.me cH (hr.mono (by decide)) aR.bd .nil bh (aa (pv 1) aq))))),?_⟩
  have ag:L2.atI (gs.map V.str) (k:Int)=some (.str y):=cN (by rw [List.getElem?_map,ey];rfl)
  refine ⟨_,rfl,x,dx,_,rfl,hx,rfl,_,rfl,x,n,g,st,gs,ls,sss,k,ss,s',rfl,W,es,?_⟩
  refine ⟨_,rfl,x,C,dx,_,_,rfl,hx,WC.cl,WC.ng,rfl,_,rfl,g,_,_,_,rfl,rfl,SqL.of W.goals,ag,rfl,_,rfl,?_⟩
  unfold zP at q
  by_cases he:s'.house=y
  ·rw [if_pos he] at q
   exact gw (by rw [he];simp) ⟨_,rfl,x,dx,_,rfl,hx,rfl,_,rfl,x,n,g,st,gs,ls,sss,k,ss,s',rfl,W,es,q⟩
  ·rw [if_neg he] at q
   exact eY (by simp [he]) q
noncomputable def ltT (d:Str × Int × Str):List L2.V:=[.str d.1,.int d.2.1,.str d.2.2]
noncomputable def eG (d:Str × Int × Str):List Step:=[⟨d.2.1,none,d.1,d.2.1⟩]
noncomputable def Fe (C:Addr):Sp:=fun vs H Q _=>∃(x dx n lp:Addr) (rs:List Addr) (ds:List (Str × Int × Str)),vs=[.ref x,.ref n,.ref lp]∧H x=some (.ins C dx [])∧H lp=some (.lst (refs rs))∧cT H rs (ds.map ltT)∧rs.length≤100∧
 ∀(H':Hp) (g st:Addr) (lls:List Addr),SameBut x H H'→WalkAt C H' x n g st (ds.map fun d=>d.2.2) lls (ds.map eG)→H g=none→H st=none→lls.Nodup→(∀l∈lls,H l=none∧l≠st∧l≠g)→g≠st→Q .non H'
noncomputable abbrev Ff:Stmt:=inClass (top 13) 0
noncomputable def yG (C:Addr):Sp:=fun vs H Q _=>∃(x dx n g st r:Addr) (gs:List Str) (ls:List Addr) (d:Str × Int × Str),vs=[.ref x,.ref r]∧H x=some (.ins C dx (uH n g st))∧H g=some (.lst (gs.map V.str))∧H st=some (.lst (refs ls))∧g≠st∧H r=some (.tup (ltT d))∧gs.length≤100∧ls.length≤100∧
 ∀(H':Hp) (l t:Addr),(∀b o,b≠g→b≠st→H b=some o→H' b=some o)→H' g=some (.lst ((gs++[d.2.2]).map V.str))→H' st=some (.lst (refs (ls++[l])))→H l=none→H t=none→H' l=some (.lst [.ref t])→H' t=some (.tup (stV ⟨d.2.1,none,d.1,d.2.1⟩))→Q .non H'
noncomputable abbrev wH:Stmt:=inClass (top 13) 1
theorem Ly:aH ["self","letter"] ["self","letter"] (aC wH):=⟨rfl,rfl,rfl,by decide+kernel,rfl,by decide+kernel,by decide+kernel⟩
theorem Jk {C f:Addr} {fd:FuncData} (F:Fun K "take_in" "Walk.take_in" wH f fd) (WC:lJ K C):aD P w K mg base CX0 1 f fd ["self","letter"] (yG C):=by
 refine F.ok Ly (fun vs H Q E h=>?_) (fun cdv A outer s H vs Q E hr h=>?_)
 ·obtain ⟨x,dx,n,g,st,r,gs,ls,d,rfl,_⟩:=h
  rfl
 ·obtain ⟨x,dx,n,g,st,r,gs,ls,d,rfl,hx,hg,hst,ngs,hd,fg,fl,q⟩:=h
  refine ⟨_,(ao (cg (lG PySem.F.plainAttrs_list PySem.F.slot_list_append PySem.F.type_list_append cG (bV (pv 0) (by rfl)) (aa (aK aP (pv 1) au (fun _ _=>rfl)) aq)))
   (az (cg (lG PySem.F.plainAttrs_list PySem.F.slot_list_append PySem.F.type_list_append cG (bV (pv 0) (by rfl)) (aa (iW (aa (iu (aa (aK aP (pv 1) au (fun _ _=>rfl)) (aa jw (aa (aK aP (pv 1) au (fun _ _=>rfl)) (aa (aK aP (pv 1) au (fun _ _=>rfl)) aq))))) aq)) aq))))),?_⟩
  have ngx:x≠g:=cP hx hg (by intro z;cases z)
  have nsx:x≠st:=cP hx hst (by intro z;cases z)
  have ngr:r≠g:=cP hd hg (by intro z;cases z)
  have nsr:r≠st:=cP hd hst (by intro z;cases z)
  refine ⟨_,rfl,x,C,dx,_,_,rfl,hx,WC.cl,WC.ng,rfl,.inl ⟨rfl,_,SqL.of hg⟩,_,rfl,r,_,_,_,rfl,rfl,SqT.of hd,rfl,g,_,_,rfl,rfl,hg,aG (by rw [List.length_map];omega),?_⟩
  have hx1:upd H g (.lst (gs.map V.str++[V.str d.2.2])) x=_:=(ak ngx).trans hx
  have hs1:upd H g (.lst (gs.map V.str++[V.str d.2.2])) st=_:=(ak ngs.symm).trans hst
  have hd1:upd H g (.lst (gs.map V.str++[V.str d.2.2])) r=_:=(ak ngr).trans hd
  refine ⟨_,rfl,x,C,dx,_,_,rfl,hx1,WC.cl,WC.ns,rfl,.inl ⟨rfl,_,SqL.of hs1⟩,?_⟩
  refine ⟨_,rfl,r,_,_,_,rfl,rfl,SqT.of hd1,rfl,_,rfl,r,_,_,_,rfl,rfl,SqT.of hd1,rfl,_,rfl,r,_,_,_,rfl,rfl,SqT.of hd1,rfl,(by show 4≤sizeLine;decide),fun t nt=>⟨(by show 1≤sizeLine;decide),fun l nl=>?_⟩⟩
  have fr1:∀{b},upd H g (.lst (gs.map V.str++[V.str d.2.2])) b=none→H b=none∧b≠g:=fun {b} e=>by
   have nb:b≠g:=fun z=>by rw [z,aj] at e;cases e
   rw [ak nb] at e
   exact ⟨e,nb⟩
  have nlt:l≠t:=fun z=>by rw [z,aj] at nl;cases nl
  have nl1:=nl
  rw [ak nlt] at nl1
  have hs2:=(aF (o:=.lst [.ref t]) nl) _ _ ((aF (o:=.tup (stV ⟨d.2.1,none,d.1,d.2.1⟩)) nt) _ _ hs1)
  have nst:t≠st:=fun z=>by rw [z,hs1] at nt;cases nt
  have nsl:l≠st:=fun z=>by rw [z,hs1] at nl1;cases nl1
  refine ⟨st,_,_,rfl,rfl,hs2,aG (by rw [aN];omega),?_⟩
  refine q _ l t (fun b o h1 h2 e=>?_) ?_ ?_ (fr1 nl1).1 (fr1 nt).1 ?_ ?_
  ·have e1:upd H g (.lst (gs.map V.str++[V.str d.2.2])) b=some o:=by rw [ak h1];exact e
   rw [ak h2]
   exact (aF nl) _ _ ((aF nt) _ _ e1)
  ·rw [ak ngs,ak (fr1 nl1).2.symm,ak (fr1 nt).2.symm,aj,List.map_append]
   rfl
  ·rw [aj,g8]
  ·rw [ak nsl,aj]
  ·rw [ak nst,ak nlt.symm,aj]
   rfl
theorem J4:aH ["self","net","letters","letter"] ["self","net","letters"] (aC Ff):=⟨rfl,rfl,rfl,by decide+kernel,rfl,by decide+kernel,by decide+kernel⟩
theorem Lz {C f f1:Addr} {fd fd1:FuncData} (F:Fun K "__init__" "Walk.__init__" Ff f fd) (WC:lJ K C) (fG:Mn K C "take_in" "Walk.take_in" wH ["self","letter"] f1 fd1) (qD:aD P w K mg base CX0 1 f1 fd1 ["self","letter"] (yG C)):aD P w K mg base CX0 2 f fd ["self","net","letters"] (Fe C):=by
 have di:=WC.cl
 refine F.ok J4 (fun vs H Q E h=>?_) (fun cdv A outer s H vs Q E hr h=>?_)
 ·obtain ⟨x,dx,n,lp,rs,ds,rfl,_⟩:=h
  rfl
 ·obtain ⟨x,dx,n,lp,rs,ds,rfl,hx,hlp,tp,few,q⟩:=h
  refine ⟨_,(ao (lO (pv 0) (pv 1) rfl)
   (ao (lO (pv 0) (iW aq) rfl)
   (ao (lO (pv 0) (iW aq) rfl)
   (az (dI PassesOwn.never rfl (bC (pv 2)) (aJ (i:=3) J4.nd rfl (Or.inl rfl))
    (az (cg (bL (pv 0) di fG.me qD (hr.mono (by decide)) fG.bd .nil bh (aa (pv 3) aq))))))))),?_⟩
  refine ⟨_,rfl,_,rfl,x,C,dx,_,rfl,hx,WC.cl,WC.nn,(by show 0 < 1000;decide),?_⟩
  have nlp:lp≠x:=cP hlp hx (by intro z;cases z)
  refine ⟨(by show 0≤sizeLine;decide),fun g ng=>?_⟩
  have ngx:g≠x:=fun z=>by rw [z,aj] at ng;cases ng
  have ng0:=ng
  rw [ak ngx] at ng0
  refine ⟨_,rfl,x,C,dx,_,rfl,(by rw [ak ngx.symm,aj]),WC.cl,WC.ng,(by show 1 < 1000;decide),(by show 0≤sizeLine;decide),fun st nst=>?_⟩
  have nsx:st≠x:=fun z=>by rw [z,aj] at nst;cases nst
  rw [ak nsx] at nst
  have nsg:st≠g:=fun z=>by rw [z,aj] at nst;cases nst
  rw [ak nsg,ak nsx] at nst
  refine ⟨_,rfl,x,C,dx,_,rfl,(by rw [ak nsx.symm,aj]),WC.cl,WC.ns,(by show 2 < 1000;decide),?_⟩
  refine ⟨_,rfl,lp,rfl,⟨_,SqL.of (xs:=refs rs) ?_⟩,?_⟩
  ·rw [ak nlp,ak (aA hlp nst),ak nlp,ak (aA hlp ng0),ak nlp]
   exact hlp
  have lrs:=aN rs
  have ldr:rs.length=ds.length:=by have:=Paired.length tp;rw [List.length_map] at this;exact this
  refine dJ (K:=K) (a:=lp) (xs:=refs rs) (fun j σ Hj=>∃v3 lls,σ=[some (.ref x),some (.ref n),some (.ref lp),v3]∧(∀b o,b≠x→H b=some o→Hj b=some o)∧Hj x=some (.ins C dx (uH n g st))∧Hj g=some (.lst (((ds.take j).map fun d=>d.2.2).map V.str))∧Hj st=some (.lst (refs lls))∧Paired (aZ Hj) lls ((ds.take j).map eG)∧lls.Nodup∧(∀l∈lls,H l=none∧l≠st∧l≠g))
   ⟨none,[],rfl,fun b o nb e=>?_,aj,?_,?_,.nil,List.nodup_nil,fun l hl=>absurd hl List.not_mem_nil⟩ (fun j σ Hj _ ⟨_,_,_,h,_⟩=>SqL.of (h _ _ nlp hlp)) ?_ ?_
  ·rw [ak nb,ak (aA e nst),ak nb,ak (aA e ng0),ak nb]
   exact e
  ·rw [ak ngx,ak nsg.symm,ak ngx,aj]
   rfl
  ·rw [ak nsx,aj]
   rfl
  ·rintro j z σ Hj ez ⟨v3,lls,rfl,sj,hxj,hgj,hsj,ej,nd,fr⟩
   unfold refs at ez
   rw [List.getElem?_map] at ez
   obtain ⟨r,er,rfl⟩:=Option.map_eq_some_iff.mp ez
   obtain ⟨y,ey,hy⟩:=Paired.get tp er
   rw [List.getElem?_map] at ey
   obtain ⟨d,ed,rfl⟩:=Option.map_eq_some_iff.mp ey
   have ldj:=(List.getElem?_eq_some_iff.mp ed).1
   have ll:=Paired.length ej
   rw [List.length_map,List.length_take] at ll
   have tk:ds.take (j+1)=ds.take j++[d]:=by
    rw [List.take_add_one,ed]
    rfl
   refine ⟨_,rfl,x,dx,_,rfl,hxj,rfl,_,rfl,x,dx,n,g,st,r,_,lls,d,rfl,hxj,hgj,hsj,nsg.symm,sj _ _ (cP hy hx (by intro z;cases z)) hy,(by rw [List.length_map,List.length_take];omega),(by omega),?_⟩
   intro H' l t sb hg' hs' nl nt hl' ht'
   have ngj:∀{o},Hj l=some o→False:=fun {o} e=>by rw [nl] at e;cases e
   have free:∀{b},Hj b=none→H b=none:=fun {b} e=>by
    by_cases hb:b=x
    ·rw [hb,hxj] at e;cases e
    ·cases e2:H b with
     | none=>rfl
     | some o=>rw [sj _ _ hb e2] at e;cases e
   refine ⟨_,lls++[l],rfl,fun b o nb e=>?_,sb _ _ ngx.symm nsx.symm hxj,?_,hs',?_,?_,?_⟩
   ·exact sb _ _ (fun z=>by rw [z,ng0] at e;cases e) (fun z=>by rw [z,nst] at e;cases e) (sj _ _ nb e)
   ·rw [hg',tk]
    simp only [List.map_append,List.map_cons,List.map_nil]
   ·rw [tk,List.map_append]
    refine Paired.snoc ⟨[t],hl',.cons ht' .nil⟩ ?_
    have go:∀{ms:List Addr} {tss:List (List Step)},Paired (aZ Hj) ms tss→(∀l∈ms,l≠st∧l≠g)→Paired (aZ H') ms tss:=fun {ms tss} p=>by
     induction p with
     | nil=>exact fun _=>.nil
     | cons r t ih=>
      refine fun h=>.cons ?_ (ih fun l hl=>h l (.tail _ hl))
      obtain ⟨ts,h1,h2⟩:=r
      refine ⟨ts,sb _ _ (h _ (.head _)).2 (h _ (.head _)).1 h1,Paired.mapP h2 fun a b e=>sb _ _ (cP e hgj (by intro z;cases z)) (cP e hsj (by intro z;cases z)) e⟩
    exact go ej fun l hl=>(fr l hl).2
   ·rw [List.nodup_append]
    refine ⟨nd,List.nodup_cons.mpr ⟨List.not_mem_nil,List.nodup_nil⟩,fun a ha b hb=>?_⟩
    rw [List.mem_singleton] at hb
    subst hb
    rintro rfl
    obtain ⟨i,hi,e⟩:=List.getElem_of_mem ha
    obtain ⟨_,_,ts,h1,_⟩:=Paired.get ej (List.getElem?_eq_some_iff.mpr ⟨hi,e⟩)
    exact ngj h1
   ·intro l2 hl2
    rw [List.mem_append,List.mem_singleton] at hl2
    rcases hl2 with h | rfl
    ·exact fr _ h
    ·exact ⟨free nl,fun z=>(by rw [z] at nl;rw [nl] at hsj;cases hsj),fun z=>(by rw [z] at nl;rw [nl] at hgj;cases hgj)⟩
  ·rintro σ Hj ⟨v3,lls,rfl,sj,hxj,hgj,hsj,ej,nd,fr⟩
   rw [lrs,ldr,List.take_length] at hgj ej
   exact q Hj g st lls (fun b o nb e=>sj b o nb e) ⟨⟨dx,hxj⟩,hgj,hsj,ej⟩ ng0 nst nd fr nsg.symm
end
open PySem L2 L3 M1
section
variable {P:Program} {w:World} {K:PySem.W.Frag} {mg:Str→Option Value} {base:Heap}
noncomputable abbrev j4:Stmt:=inClass (top 31) 3
theorem zQ:aH ["self","number"] ["self","number"] (aC j4):=⟨rfl,rfl,rfl,by decide+kernel,rfl,by decide+kernel,by decide+kernel⟩
theorem Fg {C R f:Addr} {fd:FuncData} {Bc newId initId:String} {bm:List Value} (F:Fun K "road" "Net.road" j4 f fd) (B:Blt mg) (NC:wg K C) (oJ:ExcBaseFacts Bc newId initId bm) (ie:Exc K mg "NoRoad" R bm newId):
  aD P w K mg base (CXe P w) 1 f fd ["self","number"] (uy C R):=by
 refine okE F zQ (fun vs H Q E h=>?_) (fun cdv A outer s H vs Q E hr h=>?_)
 ·obtain ⟨x,a',b',xs,ys,k,rfl,_⟩:=h
  rfl
 ·obtain ⟨x,a',b',xs,ys,k,rfl,n,q,qE⟩:=h
  obtain ⟨dx,hx⟩:=n.ins
  refine ⟨_,(ao (cI (iV (mF mD vI au (pv 1) (aV bN (by rfl) B.len iw (aa (bV (pv 0) (by rfl)) aq)))) (az (mW oJ ie rfl (aa ik aq))) bw)
   (az (aU (aK bM (bV (pv 0) (by rfl)) (pv 1) (fun _ _=>rfl))))),?_⟩
  refine ⟨_,rfl,_,_,rfl,rfl,_,rfl,?_⟩
  by_cases h0:0≤k
  ·refine eY (decide_eq_true h0) ⟨_,rfl,x,C,dx,_,_,rfl,hx,NC.cl,NC.nr,rfl,b',_,rfl,.inl (SqL.of n.roa),_,_,rfl,rfl,_,rfl,?_⟩
   by_cases h1:k < ys.length
   ·obtain ⟨v,hv,qv⟩:=q ⟨h0,h1⟩
    refine Dr h1 ?_
    exact ⟨_,rfl,x,C,dx,_,_,rfl,hx,NC.cl,NC.nr,rfl,_,rfl,b',_,_,_,rfl,rfl,SqL.of n.roa,hv,qv⟩
   ·refine eY (by rw [decide_eq_false h1];rfl) ?_
    exact ⟨by show 1≤sizeLine;decide,qE fun z=>h1 z.2⟩
  ·refine gw (decide_eq_false h0) ⟨_,rfl,?_⟩
   exact jR ⟨by show 1≤sizeLine;decide,qE fun z=>h0 z.1⟩
end
end K1
namespace L3
open PySem PySem.Spec PyProof.Rows L2 PySem.W
noncomputable def fY {α:Type} (lt:Nat→Nat→Bool):KasT α→α
 | .ret a=>a
 | .ask i j k=>fY lt (k (lt i j))
noncomputable def kB {α:Type} (n:Nat) (P:α→Prop):KasT α→Prop
 | .ret a=>P a
 | .ask i j k=>i < n∧j < n∧∀b,kB n P (k b)
theorem lq {α β:Type} {n:Nat} {P:α→Prop} {R:β→Prop} {f:α→KasT β} (hf:∀a,P a→kB n R (f a)):∀t:KasT α,kB n P t→kB n R (t.bind f)
 | .ret a,h=>hf a h
 | .ask i j k,h=>⟨h.1,h.2.1,fun b=>lq hf (k b) (h.2.2 b)⟩
theorem j6 {α:Type} {n:Nat} {P:α→Prop} {c:Prop} [Decidable c] {s t:KasT α} (h1:c→kB n P s) (h2:¬c→kB n P t):kB n P (if c then s else t):=by
 by_cases h:c
 ·rw [if_pos h];exact h1 h
 ·rw [if_neg h];exact h2 h
theorem zR {α:Type} {cmp:Nat→Nat→(Bool→Shared→Prop)→Shared→Prop} {lt:Nat→Nat→Bool} {n:Nat} {P:α→Prop} {Q:α→Shared→Prop} {s:Shared} (hc:∀i j C,i < n→j < n→C (lt i j) s→cmp i j C s):
  ∀t:KasT α,kB n P t→(P (fY lt t)→Q (fY lt t) s)→t.kasWp cmp Q s
 | .ret a,p,h=>h p
 | .ask i j k,p,h=>hc i j _ p.1 p.2.1 (zR hc (k (lt i j)) (p.2.2 _) h)
theorem nA {α:Type} {lt:Nat→Nat→Bool} {n:Nat} {P:α→Prop}:∀t:KasT α,kB n P t→P (fY lt t)
 | .ret _,p=>p
 | .ask i j k,p=>nA (k (lt i j)) (p.2.2 _)
noncomputable def AB (n:Nat) (p:Array Nat):Prop:=p.Perm (List.toArray (List.range n))
theorem AB.lt {n:Nat} {p:Array Nat} (h:AB n p) {x:Nat} (hx:x∈p):x < n:=by
 have:=h.mem_iff.mp hx
 have:x∈List.range n:=by simpa using this
 exact List.mem_range.mp this
theorem AB.list {n:Nat} {p:Array Nat} (h:AB n p):p.toList.Perm (List.range n):=by
 have:=Array.perm_iff_toList_perm.mp h
 simpa using this
theorem AB.at {n:Nat} {p:Array Nat} (h:AB n p) (h0:0 < n) (k:Nat):p.getD k 0 < n:=by
 by_cases hk:k < p.size
 ·have e:p.getD k 0=p[k]:=by simp [Array.getD,hk]
  rw [e]
  exact h.lt (Array.getElem_mem hk)
 ·have e:p.getD k 0=0:=by simp [Array.getD,hk]
  rw [e]
  exact h0
theorem AB.perm {n:Nat} {p q:Array Nat} (h:AB n p) (e:q.Perm p):AB n q:=Array.Perm.trans e h
theorem AB.rev {n:Nat} {p:Array Nat} (h:AB n p) (i j:Nat):AB n (kas_rev p i j):=h.perm (mirror_perm ..)
theorem AB.bub {n:Nat} {p:Array Nat} (h:AB n p) (i j:Nat):AB n (bubble p i j):=h.perm (bubble_perm ..)
section
variable {n:Nat}
theorem Fi {p:Array Nat} (h0:0 < n) (h:AB n p):∀f k,kB n (fun _=>True) (kas_asc p f k)
 | 0,_=>trivial
 | f+1,k=>⟨h.at h0 _,h.at h0 _,fun b=>j6 (fun _=>trivial) fun _=>Fi h0 h f (k+1)⟩
theorem uJ (h0:0 < n):∀(f:Nat) (p:Array Nat) (k q:Nat),AB n p→kB n (fun r=>AB n r.1) (kas_desc f p k q)
 | 0,p,k,q,h=>h
 | f+1,p,k,q,h=>⟨h.at h0 _,h.at h0 _,fun b=>j6 (fun _=>j6 (fun _=>uJ h0 f _ _ _ (h.rev _ _)) fun _=>uJ h0 f _ _ _ h)
   fun _=>⟨h.at h0 _,h.at h0 _,fun b=>j6 (fun _=>h) fun _=>uJ h0 f _ _ _ h⟩⟩
theorem zT {p:Array Nat} (h0:0 < n) (h:AB n p) (k m:Nat):kB n (fun r=>AB n r.2) (kas_tail3 k m p):=by
 unfold kas_tail3
 refine lq (P:=fun _=>True) (fun a _=>?_) _ (Fi h0 (h.rev _ _) _ _)
 exact h.rev _ _
theorem qF {p:Array Nat} (h0:0 < n) (h:AB n p) (k m:Nat):kB n (fun r=>AB n r.2) (kas_descPart k m p):=
 lq (fun r hr=>j6 (fun _=>zT h0 (AB.rev hr _ _) _ _) fun _=>zT h0 hr _ _) _ (uJ h0 _ _ _ _ h)
theorem Jl {p:Array Nat} (h0:0 < n) (h:AB n p) (m:Nat):kB n (fun r=>AB n r.2) (kas_count m p):=by
 unfold kas_count
 refine lq (P:=fun _=>True) (fun k _=>?_) _ (Fi h0 h _ _)
 refine j6 (fun _=>h) fun _=>j6 (fun _=>⟨h.at h0 _,h.at h0 _,fun b=>j6 (fun _=>h) fun _=>qF h0 (h.rev _ _) _ _⟩) fun _=>qF h0 h _ _
theorem uK {p:Array Nat} (h0:0 < n) (h:AB n p) (k:Nat):∀f l r,kB n (fun _=>True) (kas_place p k f l r)
 | 0,_,_=>trivial
 | f+1,l,r=>j6 (fun _=>trivial) fun _=>⟨h.at h0 _,h.at h0 _,fun b=>j6 (fun _=>uK h0 h k f _ _) fun _=>uK h0 h k f _ _⟩
theorem Fj (h0:0 < n):∀(f:Nat) (p:Array Nat) (k:Nat),AB n p→kB n (AB n) (kas_bin f p k)
 | 0,p,k,h=>h
 | f+1,p,k,h=>lq (fun l _=>Fj h0 f _ _ (h.bub _ _)) _ (uK h0 h k _ _ _)
theorem yH (h0:0 < n):kB n (AB n) (kas_sort n):=by
 have hr:AB n (List.toArray (List.range n)):=Array.Perm.refl _
 unfold kas_sort
 refine lq (P:=fun r=>AB n r.2) (fun r h2=>?_) _ (Jl h0 hr n)
 exact j6 (fun _=>Fj h0 _ _ _ h2) fun _=>h2
end
noncomputable def lK (lt:Nat→Nat→Bool) (n:Nat):List Nat:=if n < 2 then List.range n else (fY lt (kas_sort n)).toList
noncomputable def gK {α:Type} (d:α) (lt:Nat→Nat→Bool) (xs:List α):List α:=(lK lt xs.length).map fun i=>xs.getD i d
theorem qG {lt:Nat→Nat→Bool} {n i:Nat} (h:i∈lK lt n):i < n:=by
 unfold lK at h
 split at h
 ·exact List.mem_range.mp h
 ·rename_i h2
  exact AB.lt (nA (lt:=lt) (kas_sort n) (yH (by omega))) (by simpa using h)
theorem qH (lt:Nat→Nat→Bool) (n:Nat):(lK lt n).Perm (List.range n):=by
 unfold lK
 split
 ·exact List.Perm.refl _
 ·exact AB.list (nA (lt:=lt) (kas_sort n) (yH (by omega)))
theorem tK {α:Type} (d:α) (lt:Nat→Nat→Bool) (xs:List α):(gK d lt xs).Perm xs:=by
 have e:xs=(List.range xs.length).map fun i=>xs.getD i d:=by
  apply List.ext_getElem
  ·simp
  ·intro i h1 h2
   simp [List.getD,h1]
 have p:=(qH lt xs.length).map fun i=>xs.getD i d
 rw [←e] at p
 exact p
theorem qI {α:Type} (d:α) (lt:Nat→Nat→Bool) (xs:List α):(gK d lt xs).length=xs.length:=(tK d lt xs).length_eq
theorem oK {lt:Nat→Nat→Bool} {xs:List V} {us:List Value} (h:Vals xs us):Vals (gK .non lt xs) (gK .none lt us):=by
 unfold gK
 rw [h.length]
 have:∀is:List Nat,(∀i∈is,i < xs.length)→Vals (is.map fun i=>xs.getD i .non) (is.map fun i=>us.getD i .none):=fun is=>by
  induction is with
  | nil=>intro _;exact .nil
  | cons i r ih=>
   intro hi
   refine .cons ?_ (ih fun j hj=>hi j (.tail _ hj))
   have hlt:i < xs.length:=hi i (.head _)
   have e1:xs[i]?=some xs[i]:=List.getElem?_eq_getElem hlt
   obtain ⟨u,e2,ru⟩:=h.get e1
   show RelV (xs[i]?.getD .non) (us[i]?.getD .none)
   rw [e1,e2]
   exact ru
 exact this _ fun i hi=>by rw [h.length];exact qG hi
theorem Fl {α:Type} (d:α) (lt:Nat→Nat→Bool) {xs:List α} (h:xs.length < 2):gK d lt xs=xs:=by
 unfold gK lK
 rw [if_pos h]
 apply List.ext_getElem
 ·simp
 ·intro i h1 h2
  simp [List.getD,h2]
noncomputable def wI (a:Addr) (h h':Heap):Prop:=∀b o,b≠a→h.get? b=some o→h'.get? b=some o
section
variable {prog:Program} {w:World} {A:Around} {E:Value→Shared→Prop} {s:Shared} {vs:List Value} {κ:SortKind} {lt:Nat→Nat→Bool}
theorem zU {a:Addr} {e:Nat} {R:PySem.Fin→Shared→Prop} (ho:s.heap.get? a=some (seqObj "list" vs.toArray e)) (h64:vs.length < 64)
  (hk:2≤vs.length→∀s1:Shared,wI a s.heap s1.heap→∀Q:SortKind→Shared→Prop,Q κ s1→wpAny (model prog w) A (keyKind' vs.toArray) Q (fun _ _=>False) s1)
  (hl:2≤vs.length→∀s1:Shared,wI a s.heap s1.heap→∀i j C,i < vs.length→j < vs.length→C (lt i j) s1→kas_ask prog w A κ vs i j C s1)
  (h:∀h' c,wI a s.heap h'→h'.get? a=some (seqObj "list" (List.toArray (gK Value.none lt vs)) c)→R (.done (.ret .none)) {s with heap:=h'}):
  wpAny (model prog w) A (Builtin.«list.sort» ⟨[.ref a],[]⟩) R E s:=by
 have emptied:=get?_update_seq ho fun _=>(#[]:Array Value)
 obtain ⟨e1,ho1⟩:∃k,(s.heap.update a (Obj.mapSeq fun _=>(#[]:Array Value))).get? a=some (seqObj "list" #[] k):=⟨_,emptied⟩
 have x1:wI a s.heap (s.heap.update a (Obj.mapSeq fun _=>(#[]:Array Value))):=fun b o hb q=>(Heap.get?_update_ne _ _ _ _ hb).trans q
 have big:∀k,k < 64→k≤sizeLine:=fun k hk=>by rw [sizeLine_eq];omega
 rw [list_sort_plain]
 refine wpAny_bind (listItems_at ho rfl (wpAny_bind (listUpdate_at ho rfl ?_ (by rw [List.size_toArray];exact big _ h64) (Nat.zero_le _))))
 refine wpAny_bind (seqEpoch_at ho1 rfl (wpAny_bind (wpAny_newTuple ?_ (big _ h64))))
 refine wpAny_bind (wpAny_newList (wpAny_holding ?_) (Nat.zero_le _))
 dsimp only
 generalize hH:((s.heap.update a (Obj.mapSeq fun _=>(#[]:Array Value))).push (seqObj "tuple" vs.toArray 0)).push (seqObj "list" #[] 0)=H2
 have ho2:H2.get? a=some (seqObj "list" #[] e1):=by
  rw [←hH]
  exact Heap.get?_push_of_some _ (Heap.get?_push_of_some _ ho1)
 have x2:wI a s.heap H2:=fun b o hb q=>by
  rw [←hH]
  exact Heap.get?_push_of_some _ (Heap.get?_push_of_some _ (x1 b o hb q))
 have tail:∀(x:Unit × SortSt) (out:List Value),(arrOf x.2).map (·.2)=out.toArray→failedOf x.2=none→out.length < 64→out=gK Value.none lt vs→
   wpAny (model prog w) A (do
    let now ←seqEpoch a
    Builtin.List.listUpdate (.ref a) fun _=>(arrOf x.2).map (·.2)
    match failedOf x.2 with
    | some er=>do
     rule "list.sort.comparison-raised"
     throw er
     if (now !=e1)=true then do
      rule "list.sort.modified"
      raiseErrorWords "ValueError" "list modified during sort"
      ret Value.none
     else ret Value.none
    | _=>
     if (now !=e1)=true then do
      rule "list.sort.modified"
      raiseErrorWords "ValueError" "list modified during sort"
      ret Value.none
     else ret Value.none) R E {s with heap:=H2}:=fun x out e2 e3 l64 eo=>by
  refine wpAny_bind (seqEpoch_at ho2 rfl (wpAny_bind (listUpdate_at ho2 rfl ?_ (Nat.zero_le _) ?_)))
  ·rw [e3]
   dsimp only
   rw [if_neg (by simp)]
   obtain ⟨c,hc⟩:∃c,(H2.update a (Obj.mapSeq fun _=>(arrOf x.2).map (·.2))).get? a=some (seqObj "list" ((arrOf x.2).map (·.2)) c):=⟨_,get?_update_seq ho2 fun _=>(arrOf x.2).map (·.2)⟩
   refine wpAny_pure (h _ c (fun b o hb q=>(Heap.get?_update_ne _ _ _ _ hb).trans (x2 b o hb q)) ?_)
   rw [hc,e2,eo]
  ·rw [e2,List.size_toArray]
   have:=big _ l64
   omega
 by_cases h2:(vs.toArray.size < 2)
 ·rw [if_pos h2,if_pos h2]
  have h2':vs.length < 2:=by rw [List.size_toArray] at h2;exact h2
  refine wpAny_bind (wpAny_pure (wpAny_bind (wpAny_pure ?_)));refine tail ((),SortSt.mk' general' (vs.toArray.zip vs.toArray) #[] 7 none) vs ?_ rfl h64 (Fl _ _ h2').symm
  show (vs.toArray.zip vs.toArray).map (·.2)=vs.toArray
  apply Array.toList_inj.mp
  simp only [Array.toList_map,Array.toList_zip]
  exact List.map_snd_zip (Nat.le_refl _)
 ·rw [if_neg h2,if_neg h2]
  have h2':2≤vs.length:=by rw [List.size_toArray] at h2;omega
  refine wpAny_bind (wpAny_mono (hk h2' {s with heap:=H2} x2 (fun κ' s'=>κ'=κ∧s'={s with heap:=H2}) ⟨rfl,rfl⟩) ?_ fun _ _ x=>x.elim)
  rintro κ' s' ⟨rfl,rfl⟩
  refine wpAny_bind (wpAny_mono (kat_run (κ:=κ') (Q:=fun st s'=>s'={s with heap:=H2}∧(arrOf st).map (·.2)=List.toArray (gK Value.none lt vs)∧failedOf st=none∧(gK Value.none lt vs).length=vs.length)
   (G:=fun p s'=>s'={s with heap:=H2}∧p=fY lt (kas_sort vs.length)) rfl h2' h64 (fun p st s' a1 a2 a3 a4=>?_) (zR (fun i j C hi hj hC=>hl h2' _ x2 i j C hi hj hC) _ (yH (by omega)) fun _=>⟨rfl,rfl⟩)) ?_ fun _ _ x=>x)
  ·obtain ⟨b1,b2⟩:=a4
   have e:gK Value.none lt vs=p.toList.map fun i=>vs.getD i Value.none:=by
    unfold gK lK
    rw [if_neg (by omega),b2]
   refine ⟨b1,?_,a3,?_⟩
   ·rw [e]
    exact kat_snds rfl a2
   ·rw [e,List.length_map,Array.length_toList,a1]
  ·rintro ⟨⟨⟩,st⟩ s' ⟨rfl,b2,b3,b4⟩
   exact tail ((),st) _ b2 b3 (by omega) rfl
end
open PySem PySem.Spec PyProof.Rows L2 PySem.W
noncomputable def nC (h h':Heap):Prop:=∀b o,h.get? b=some o→h'.get? b=some o
section
variable {prog:Program} {w:World} {A:Around} {E:Value→Shared→Prop} {s:Shared} {vs:List Value} {κ:SortKind} {lt:Nat→Nat→Bool}
theorem tL {l:Addr} {Q:Value→Shared→Prop} (hl:s.heap.IsList l vs.toArray) (h64:vs.length < 64)
  (hk:2≤vs.length→∀s1:Shared,nC s.heap s1.heap→∀Q:SortKind→Shared→Prop,Q κ s1→wpAny (model prog w) A.in1.in1 (keyKind' vs.toArray) Q (fun _ _=>False) s1)
  (ha:2≤vs.length→∀s1:Shared,nC s.heap s1.heap→∀i j C,i < vs.length→j < vs.length→C (lt i j) s1→kas_ask prog w A.in1.in1 κ vs i j C s1)
  (h:∀D h' c,s.heap.objs.size≤D→nC s.heap h'→h'.get? D=some (seqObj "list" (List.toArray (gK Value.none lt vs)) c)→Q (.ref D) {s with heap:=h'}):
  wpAny (model prog w) A (call (.builtin "sorted") ([.ref l]:List Value)) Q E s:=by
 have big:vs.length≤sizeLine:=by rw [sizeLine_eq];omega
 refine Calls.call_function_entry kind_sorted plain_sorted entry_sorted (args_sorted1 (.ref l)) ?_;unfold Builtin.«sorted»
 refine wpAny_bind (m:=checkCount "sorted" 1 1 _) (wpAny_pure (wpAny_bind (collect_list hl ?_ big)))
 refine wpAny_bind (wpAny_newList ?_ big)
 generalize hG:(s.heap.push (seqObj "list" #[] 0)).update s.heap.objs.size (Obj.mapSeq (·++vs.toArray))=G
 have gs:G.objs.size=s.heap.objs.size+1:=by rw [←hG,Heap.size_update,size_push']
 have x1:nC s.heap G:=fun b o q=>by
  have hb:=Nat.ne_of_lt (Heap.lt_size q)
  rw [←hG,Heap.get?_update_ne _ _ _ _ hb]
  exact Heap.get?_push_of_some _ q
 show wpAny _ _ _ _ _ {s with heap:=G.push (seqObj "list" vs.toArray 0)}
 have hD:(G.push (seqObj "list" vs.toArray 0)).get? G.objs.size=some (seqObj "list" vs.toArray 0):=Heap.get?_push_size _ rfl
 have x2:nC s.heap (G.push (seqObj "list" vs.toArray 0)):=fun b o q=>Heap.get?_push_of_some _ (x1 b o q)
 have x3:∀h',wI G.objs.size (G.push (seqObj "list" vs.toArray 0)) h'→nC s.heap h':=fun h' x b o q=>x b o (Nat.ne_of_lt (by rw [gs];exact Nat.lt_succ_of_lt (Heap.lt_size q))) (x2 b o q)
 refine wpAny_bind (wpAny_holding (wpAny_call_entry slot_list_sort ⟨_,hD,rfl⟩ entry_list_sort ?_ (args_list_sort _)))
 refine zU (s:={s with heap:=G.push (seqObj "list" vs.toArray 0)}) (κ:=κ) (lt:=lt) hD h64 (fun h2 s1 x=>hk h2 s1 (x3 _ x)) (fun h2 s1 x=>ha h2 s1 (x3 _ x)) fun h' c x hc=>?_
 exact ⟨_,rfl,wpAny_pure ⟨_,rfl,h _ h' c (by rw [gs];exact Nat.le_succ _) (x3 _ x) hc⟩⟩
end
noncomputable def lexLt:List Key→List Key→Bool
 | .inl a::r,.inl b::q=>if a=b then lexLt r q else decide (a < b)
 | .inr a::r,.inr b::q=>if a=b then lexLt r q else decide (a.cps.toList < b.cps.toList)
 | _,_=>false
noncomputable def kSh:List Key→List Bool:=List.map fun k=>match k with
 | .inl _=>true
 | .inr _=>false
theorem Fo (a b:Int):PyData.eqv (.int a) (.int b)=decide (a=b):=by
 by_cases h:a=b
 ·subst h;rw [decide_eq_true rfl];simp [PyData.eqv]
 ·rw [decide_eq_false h];simp [PyData.eqv,h]
theorem wJ (x y:Str):PyData.eqv (.str x) (.str y)=decide (x=y):=by
 by_cases h:x=y
 ·subst h;rw [decide_eq_true rfl];simp [PyData.eqv]
 ·rw [decide_eq_false h];simp [PyData.eqv,h]
section
variable {prog:Program} {w:World} {A:Around} {E:Value→Shared→Prop} {s:Shared}
theorem qJ {Q:Bool→Shared→Prop}:∀(d e:List Key) (us ws:List Value) (i:Nat),Vals (d.map kV) us→Vals (e.map kV) ws→kSh d=kSh e→Q (lexLt d e) s→KatLex prog w A true false Q (us.zip ws) i s
 | [],e,us,ws,i,v1,v2,hs,h=>by
  cases v1
  have e0:e=[]:=by
   cases e with
   | nil=>rfl
   | cons _ _=>cases hs
  subst e0
  exact kat_nil h
 | .inl a::r,[],_,_,_,_,_,hs,_=>by cases hs
 | .inr a::r,[],_,_,_,_,_,hs,_=>by cases hs
 | .inl a::r,.inr b::q,_,_,_,_,_,hs,_=>by simp [kSh] at hs
 | .inr a::r,.inl b::q,_,_,_,_,_,hs,_=>by simp [kSh] at hs
 | .inl a::r,.inl b::q,_,_,i,.cons r1 t1,.cons r2 t2,hs,h=>by
  obtain ⟨t,rfl⟩:=r1
  obtain ⟨u,rfl⟩:=r2
  have hs':kSh r=kSh q:=by simpa [kSh] using hs
  unfold lexLt at h
  refine kat_cons (keq_flat (d:=.int a) (e:=.int b) (fun _=>.int a t) (fun _=>.int b u) prog w _ _ ?_)
  rw [Fo]
  by_cases e:a=b
  ·rw [if_pos e] at h
   rw [decide_eq_true e]
   exact kat_yes (qJ r q _ _ _ t1 t2 hs' h)
  ·rw [if_neg e] at h
   rw [decide_eq_false e]
   refine kat_no ?_
   cases i with
   | zero=>exact oneLt_int h
   | succ i=>exact kat_one _ _ (lt_int h)
 | .inr a::r,.inr b::q,_,_,i,.cons r1 t1,.cons r2 t2,hs,h=>by
  obtain ⟨t,rfl⟩:=r1
  obtain ⟨u,rfl⟩:=r2
  have hs':kSh r=kSh q:=by simpa [kSh] using hs
  unfold lexLt at h
  refine kat_cons (keq_flat (d:=.str a) (e:=.str b) (fun _=>.str a t) (fun _=>.str b u) prog w _ _ ?_)
  rw [wJ]
  by_cases e:a=b
  ·rw [if_pos e] at h
   rw [decide_eq_true e]
   exact kat_yes (qJ r q _ _ _ t1 t2 hs' h)
  ·rw [if_neg e] at h
   rw [decide_eq_false e]
   refine kat_no ?_
   cases i with
   | zero=>exact oneLt_str h
   | succ i=>exact kat_one _ _ (lt_str h)
end
noncomputable def ltK (ds:List (List Key)) (i j:Nat):Bool:=lexLt (ds.getD i []) (ds.getD j [])
theorem tM:∀{ts:List Addr} {us:List Value},Vals (ts.map V.ref) us→us=ts.map Value.ref
 | [],_,.nil=>rfl
 | t::ts,_,.cons r q=>by
  cases r
  rw [tM q]
  rfl
noncomputable def isI:Key→Bool
 | .inl _=>true
 | .inr _=>false
noncomputable def tyK (b:Bool):Value:=if b=true then .type "int" else .type "str"
theorem Fp {P:Program} {w:World} {H:Hp} {h h1:Heap} (ok:HOk P w H h) (x:nC h h1) {b:Bool}:∀{ts:List Addr} {ds:List (List Key)},Paired (fun r d=>H r=some (.tup (d.map kV))) ts ds→(∀d∈ds,∃r,kSh d=b::r)→
  ∃fs,KatTups h1 (ts.map Value.ref) fs∧fs.length=ts.length∧∀v∈fs,∃k:Key,isI k=b∧RelV (kV k) v
 | [],[],_,_=>⟨[],KatTups.nil,rfl,fun _ h=>absurd h List.not_mem_nil⟩
 | t::ts,d::ds,.cons r q,hd=>by
  obtain ⟨fs,k1,k2,k3⟩:=Fp ok x q fun d' h'=>hd d' (.tail _ h')
  obtain ⟨sr,hs⟩:=hd d (.head _)
  obtain ⟨_,its,rv,o,ho,hc,n,hdat⟩:=ok t _ r
  cases d with
  | nil=>cases hs
  | cons k d=>
   cases rv with
   | cons rk rr=>
    rename_i f fr
    refine ⟨f::fs,KatTups.cons (x _ _ ho) hc hdat (by simp) k1,by simp [k2],fun v hv=>?_⟩
    rcases List.mem_cons.mp hv with rfl | hv2
    ·refine ⟨k,?_,rk⟩
     have:kSh (k::d)=isI k::kSh d:=by cases k <;> rfl
     rw [this] at hs
     exact (List.cons.inj hs).1
    ·exact k3 v hv2
 | [],d::ds,h,_=>nomatch h
 | t::ts,[],h,_=>nomatch h
section
variable {X:Cx}
theorem oM:bootBuiltins "sorted"=some (.builtin "sorted"):=by decide+kernel
theorem uL:eU X (.builtin "sorted") (fun xs H Q=>∃(p:Addr) (ts:List Addr) (ds:List (List Key)) (b:Bool) (sh:List Bool),xs=[.ref p]∧SqL X.K H p (ts.map V.ref)∧Paired (fun r d=>H r=some (.tup (d.map kV))) ts ds∧ts.length < 64∧(∀d∈ds,kSh d=b::sh)∧
  ∀l,H l=none→Q (.ref l) (upd H l (.lst (gK .non (ltK ds) (ts.map V.ref))))):=by
 intro pins s σ H xs us Q I r h
 obtain ⟨p,ts,ds,b,sh,rfl,hq,tp,h64,hsh,q⟩:=h
 obtain ⟨u,rfl,ru⟩:=vals1 r
 cases ru
 obtain ⟨its,rv,pl,hz⟩:=I.list hq
 have hlen:=rv.length
 rw [List.length_map] at hlen
 obtain rfl:=tM rv
 have dlen:ts.length=ds.length:=Paired.length tp
 have at_:∀i,i < ts.length→∃d its,(ts.map Value.ref).getD i Value.none=.ref ts[i]!∧ds.getD i []=d∧kSh d=b::sh∧Vals (d.map kV) its∧IsTup s.heap ts[i]! its.toArray:=fun i hi=>by
  have e1:ts[i]?=some ts[i]:=List.getElem?_eq_getElem hi
  have e2:ds[i]?=some ds[i]:=List.getElem?_eq_getElem (by omega)
  have e3:ts[i]! =ts[i]:=by simp [hi]
  have hp:H ts[i]=some (.tup (ds[i].map kV)):=by
   have:∀{l:List Addr} {m:List (List Key)} {k:Nat} {x:Addr} {y:List Key},Paired (fun r d=>H r=some (.tup (d.map kV))) l m→l[k]?=some x→m[k]?=some y→H x=some (.tup (y.map kV)):=fun {l m k x y} P=>by
    induction P generalizing k with
    | nil=>intro h;simp at h
    | cons a t ih=>
     cases k with
     | zero=>intro h1 h2;simp at h1 h2;subst h1;subst h2;exact a
     | succ k=>intro h1 h2;simp at h1 h2;exact ih h1 h2
   exact this tp e1 e2
  obtain ⟨_,its,v1,t1⟩:=I.hok _ _ hp
  refine ⟨ds[i],its,?_,?_,hsh _ (List.getElem_mem _),v1,?_⟩
  ·rw [List.getD,List.getElem?_map,e1,e3];rfl
  ·rw [List.getD,e2];rfl
  ·rw [e3];exact t1
 refine tL (κ:=tuples' true) (lt:=ltK ds) pl.isList (by rw [List.length_map];exact h64) (fun h2 s1 x Q' hQ=>?_) (fun h2 s1 x i j C hi hj hC=>?_) fun D h' c hle x hc=>?_
 ·obtain ⟨fs,k1,k2,k3⟩:=Fp I.hok x tp fun d hd=>⟨sh,hsh d hd⟩
  rw [List.length_map] at h2
  refine kat_kind (T:=tyK b) k1 (by omega) (fun v hv=>?_) (by cases b <;> decide+kernel) ?_
  ·obtain ⟨k,ek,rk⟩:=k3 v hv
   subst ek
   cases k with
   | inl i=>obtain ⟨t,rfl⟩:=rk;exact Looks.of_pure rfl
   | inr i=>obtain ⟨t,rfl⟩:=rk;exact Looks.of_pure rfl
  ·have e:(tyK b !=Value.type "tuple")=true:=by cases b <;> decide+kernel
   rw [e]
   exact hQ
 ·rw [List.length_map] at hi hj
  obtain ⟨d,its,a1,a2,a3,a4,o,ho,_,n,hdat⟩:=at_ i hi
  obtain ⟨d',its',b1,b2,b3,b4,o',ho',_,n',hdat'⟩:=at_ j hj
  unfold kas_ask
  rw [a1,b1]
  have l1:=a4.length
  have l2:=b4.length
  rw [List.length_map] at l1 l2
  have l3:d.length=d'.length:=by
   have e:=congrArg List.length (a3.trans b3.symm)
   simpa [kSh] using e
  refine kat_lt (b:=true) (x _ _ ho) hdat (x _ _ ho') hdat' ?_
  rw [decide_eq_false (by rw [List.size_toArray,List.size_toArray];omega)]
  refine qJ d d' its its' 0 a4 b4 (a3.trans b3.symm) ?_
  have:ltK ds i j=lexLt d d':=by unfold ltK;rw [a2,b2]
  rw [←this]
  exact hC
 ·refine ⟨.ref D,_,I.laid (a:=D) (o:=.lst (gK .non (ltK ds) (ts.map V.ref))) (t':=s.toks) (fun b o q=>x b o q) hle ?_,rfl,q D (I.hok.fresh hle)⟩
  refine ⟨?_,_,c,oK rv,hc⟩
  rw [qI,List.length_map,sizeLine_eq]
  omega
end
open PySem PySem.Spec PyProof.Rows L2
noncomputable def DEs (h:Heap) (d:Addr) (es:Array DictEntry) (ep:Nat):Prop:=∃o,h.get? d=some o∧o.ExactDict∧o.data=.dict es ep
section
variable {X:Cx} {pins:List (Addr × Obj)} {σ:L2.St} {H:Hp} {s:Shared} {a:Addr} {u u':HO}
theorem Fq (I:Inv X pins σ H s) (ha:H a=some u) (n1:∀xs,u≠.tup xs) (n2:∀y,u≠.own y) (new:bB X.prog X.w (upd H a u') s.heap a u') (f1:∀xs,X.H₀ a≠some (.tup xs)) (f2:∀o v,X.H₀ a≠some (.frz o v)) (f3:∀ps,X.H₀ a≠some (.tbl ps)):Inv X pins σ (upd H a u') s:=by
 have other:∀{b:Addr},H b=none→upd H a u' b=none:=fun {b} e=>by
  rw [ak (fun z=>by rw [z,ha] at e;cases e)]
  exact e
 refine ⟨I.ok,I.os,I.bare,⟨I.base.keep,I.base.slot,fun b o e n hx=>other (I.base.free b o e n hx),I.base.there,fun b xs e=>?_,fun b o v e=>?_,fun b ps e=>?_⟩,I.loc,I.cell,other I.free,fun x c e=>other (I.freeC x c e),fun p hp=>?_,fun b o e=>?_,I.len⟩
 ·rw [ak (fun z=>by rw [z] at e;exact f1 xs e)];exact I.base.tups b xs e
 ·rw [ak (fun z=>by rw [z] at e;exact f2 o v e)];exact I.base.frzs b o v e
 ·rw [ak (fun z=>by rw [z] at e;exact f3 ps e)];exact I.base.tbls b ps e
 ·obtain ⟨h1,h2,h3,h4,h5⟩:=I.pin p hp
  exact ⟨h1,other h2,h3,h4,h5⟩
 ·by_cases hb:b=a
  ·subst hb
   rw [aj] at e
   cases e
   exact new
  ·rw [ak hb] at e
   refine (I.hok b o e).stay (fun c v _ q=>q) (fun c q=>?_) fun c xs q=>?_
   ·rw [ak (fun z=>by rw [z,ha] at q;exact n2 _ (Option.some.inj q))];exact q
   ·rw [ak (fun z=>by rw [z,ha] at q;exact n1 _ (Option.some.inj q))];exact q
end
open PySem PySem.Spec PyProof.Rows L2
section
variable {prog:Program} {w:World} {A:Around} {E:Value→Shared→Prop} {s:Shared} {it d:Addr} {i ep:Nat} {es:Array DictEntry}
theorem Ft {Q:Option Value→Shared→Prop} (hit:s.heap.IsKeyIter it d i es.size ep) (hd:DEs s.heap d es ep) (hi:i < es.size)
  (hQ:∀h',h'.IsKeyIter it d (i+1) es.size ep→Heap.SameBut it s.heap h'→Q (some es[i].key) {s with heap:=h'}):wpAny (model prog w) A (pyNext (.ref it)) Q E s:=by
 obtain ⟨oi,hoi,hci,hdi⟩:=id hit
 obtain ⟨o,ho,_,hdat⟩:=hd
 have T0:=hit.typeIs
 have noNone:¬((Value.ref d==Value.none)=true):=Bool.false_ne_true
 have own:Builtin.Dict_items.ownsTuple "dict_keyiterator"=false:=by decide
 unfold pyNext
 refine wpAny_bind (wpAny_attempt (wpAny_callSpecial?_slot (name:=Str.ofString "__next__") T0 F.slot_dict_keyiterator_next (wpAny_call_entry F.slot_dict_keyiterator_next T0 F.entry_dict_keyiterator_next ?_ (F.args_dict_keyiterator_next_1 _))))
 refine wpAny_bind (wpAny_pure (wpAny_bind (wpAny_bind ?_)))
 first
 | refine wpAny_bind (wpAny_typeNameOfWhole_keyiter T0 (wpAny_pure (wpAny_bind (wpAny_fieldsOf hoi hdi ?_))))
 | refine wpAny_bind (wpAny_typeNameOf_keyiter T0 (wpAny_pure (wpAny_bind (wpAny_fieldsOf hoi hdi ?_))))
 simp only [own,Bool.false_eq_true,if_false];change wpAny _ _ (ite ((Value.ref d==Value.none)=true) _ _) _ _ s
 rw [if_neg noNone]
 refine wpAny_bind (wpAny_pure (wpAny_bind (wpAny_dictEntries ho hdat ?_)))
 rw [if_neg (by simp)]
 refine wpAny_bind (wpAny_pure (wpAny_bind (wpAny_dictEpoch ho hdat ?_)))
 rw [if_neg (by simp)]
 refine wpAny_pure ?_
 simp only [show ¬((i:Int) < 0) from by omega,if_false,Int.toNat_natCast,Array.getElem?_eq_getElem hi]
 refine wpAny_bind ?_
 first
 | refine wpAny_bind (wpAny_typeNameOfWhole_keyiter T0 (wpAny_pure (wpAny_bind (wpAny_isOneOf_keyiter T0 ?_))))
 | refine wpAny_bind (wpAny_typeNameOf_keyiter T0 (wpAny_pure (wpAny_bind (wpAny_isOneOf_keyiter T0 ?_))))
 change wpAny _ _ (setField (.ref it) 1 (rawInt ((i:Int)+1)) >>=_) _ _ s
 refine wpAny_bind (wpAny_setField hoi hdi (by simp) ?_)
 have next:(s.heap.update it (Obj.mapFields (·.setIfInBounds 1 (rawInt ((i:Int)+1))))).IsKeyIter it d (i+1) es.size ep:=
  ⟨_,Heap.get?_update_self _ hoi (Obj.isFreed_of_fields (Obj.data_mapFields hdi _)),(Obj.cls_mapFields ..).trans hci,by simp [Obj.data_mapFields hdi,rawInt]⟩
 refine wpAny_bind (wpAny_holding (wpAny_bind (wpAny_isOneOf_keyiter (s:={s with heap:=s.heap.update it (Obj.mapFields (·.setIfInBounds 1 (rawInt ((i:Int)+1))))}) next.typeIs ?_)))
 exact wpAny_pure (wpAny_pure ⟨_,rfl,wpAny_pure (hQ _ next (Heap.SameBut.update ..))⟩)
theorem zV {Q:Option Value→Shared→Prop} (hh:A.handled=none) (hit:s.heap.IsKeyIter it d i es.size ep) (hd:DEs s.heap d es ep) (hi:es.size≤i)
  (hQ:∀h',Heap.ExtBut it s.heap h'→Q none {s with heap:=h'}):
  wpAny (model prog w) A (pyNext (Value.ref it)) Q E s:=by
 obtain ⟨oi,hoi,hci,hdi⟩:=id hit
 obtain ⟨o,ho,_,hdat⟩:=hd
 have T0:=hit.typeIs
 have noNone:¬((Value.ref d==Value.none)=true):=Bool.false_ne_true
 have own:Builtin.Dict_items.ownsTuple "dict_keyiterator"=false:=by decide
 unfold pyNext
 refine wpAny_bind (wpAny_attempt (wpAny_callSpecial?_slot (name:=Str.ofString "__next__") T0 F.slot_dict_keyiterator_next (wpAny_call_entry F.slot_dict_keyiterator_next T0 F.entry_dict_keyiterator_next ?_ (F.args_dict_keyiterator_next_1 _))))
 refine wpAny_bind (wpAny_pure (wpAny_bind (wpAny_bind ?_)))
 first
 | refine wpAny_bind (wpAny_typeNameOfWhole_keyiter T0 (wpAny_pure (wpAny_bind (wpAny_fieldsOf hoi hdi ?_))))
 | refine wpAny_bind (wpAny_typeNameOf_keyiter T0 (wpAny_pure (wpAny_bind (wpAny_fieldsOf hoi hdi ?_))))
 simp only [own,Bool.false_eq_true,if_false];change wpAny _ _ (ite ((Value.ref d==Value.none)=true) _ _) _ _ s
 rw [if_neg noNone]
 refine wpAny_bind (wpAny_pure (wpAny_bind (wpAny_dictEntries ho hdat ?_)))
 rw [if_neg (by simp)]
 refine wpAny_bind (wpAny_pure (wpAny_bind (wpAny_dictEpoch ho hdat ?_)))
 rw [if_neg (by simp)]
 refine wpAny_pure ?_
 simp only [show ¬((i:Int) < 0) from by omega,if_false,Int.toNat_natCast,Array.getElem?_eq_none hi]
 refine wpAny_bind ?_
 first
 | refine wpAny_bind (wpAny_typeNameOfWhole_keyiter T0 (wpAny_pure ?_))
 | refine wpAny_bind (wpAny_typeNameOf_keyiter T0 (wpAny_pure ?_))
 change wpAny _ _ (setField (.ref it) 0 Value.none >>=_) _ _ s;refine wpAny_bind (wpAny_setField hoi hdi (by simp) ?_)
 change wpAny _ _ (newExc (.type "StopIteration") [] >>=_) _ _ _;refine wpAny_bind ?_
 simp only [newExc,newTuple];refine wpAny_bind (wpAny_newObj_type ?_ (by size_fits))
 refine wpAny_bind (m:=firstArgMember _ _) (wpAny_of_eq (a:=Value.none) (by first | rfl | (simp only [firstArgMember];rfl)) (wpAny_newObj_type ?_ (by size_fits)))
 have hin:A.in1.handled=none:=hh
 simp only [raiseNew];refine wpAny_bind (wpAny_handled ?_)
 rw [hin];refine wpAny_bind (wpAny_pure (wpAny_throw ?_))
 refine wpAny_bind (wpAny_isInstance (b:=true) (T:="StopIteration") ⟨_,Heap.get?_push_size _ rfl,rfl⟩ isSubtype_stop ?_)
 exact wpAny_pure (hQ _ (Heap.ExtBut.push (Heap.ExtBut.push (Heap.SameBut.extBut (Heap.SameBut.update ..)) _) _))
theorem zW {Q:Value→Shared→Prop} (hs:(d==sysModules)=false) (hd:DEs s.heap d es ep)
  (hQ:Q (.ref s.heap.objs.size) {s with heap:=s.heap.push {cls:=.type "dict_keyiterator",data:=.fields #[.ref d,.int 0 0,.int es.size 0,.int ep 0]}}):wpAny (model prog w) A (pyIter (.ref d)) Q E s:=by
 obtain ⟨o,ho,hx,hdat⟩:=hd
 have T0:s.TypeIs (.ref d) "dict":=⟨o,ho,hx.1⟩
 refine wpAny_pyIter_slot T0 F.slot_dict_iter (wpAny_call_entry F.slot_dict_iter T0 F.entry_dict_iter ?_ (F.args_dict_iter_1 _))
 unfold Builtin.«dict.__iter__» Builtin.Dict.dictSlotNone;refine wpAny_bind (wpAny_bind (wpAny_notOrdered_dict T0 ?_))
 change wpAny _ _ (pure (Value.ref d)) _ _ s;refine wpAny_pure ?_
 change wpAny _ _ (Builtin.Dict.showsAll d >>=_) _ _ s;unfold Builtin.Dict.showsAll
 rw [if_neg (by rw [hs];exact Bool.false_ne_true)]
 refine wpAny_bind (wpAny_pure (wpAny_bind (wpAny_dictEntries ho hdat (wpAny_bind (wpAny_dictEpoch ho hdat ?_)))))
 refine wpAny_bind (wpAny_newObj_type ?_)
 refine wpAny_pure ⟨_,rfl,"dict_keyiterator",_,⟨_,Heap.get?_push_size _ rfl,rfl⟩,F.slot_dict_keyiterator_next.lookup,?_⟩
 simpa [rawInt] using hQ
end
open PySem PySem.Spec PyProof.Rows L2
section
variable {X:Cx} {o e f:Expr} {td ty tx:TE} {apos cpos:Pos}
noncomputable def LC (td ty tx:TE):TE:=fun σ H Q=>td σ H fun x H1=>∃a,x=.ref a∧IsD H1 a∧ty σ H1 fun y H2=>tx σ H2 fun z H3=>∃kvs k,y=kV k∧H3 a=some (.dK kvs)∧kvs.length < sizeLine∧
 (∀v,bD kvs k=some v→Q v H3)∧(bD kvs k=none→Q z (upd H3 a (.dK (putK kvs k z))))
theorem Fv (ho:PE X o td) (he:PE X e ty) (hf:PE X f tx) (m:M2 X o "setdefault" apos e f cpos):PE X (.Call (.Attribute o "setdefault" apos) [e,f] [] cpos) (LC td ty tx):=by
 intro pins s σ H Q I h
 refine wpAny_Call_method m.base m.few m.line PySem.F.plainAttrs_dict PySem.F.slot_dict_setdefault PySem.F.type_dict_setdefault (thn (ho pins s σ H _ I h) fun u s1 ⟨x,H1,I1,rx,a,ex,d,q1⟩=>?_)
 subst ex
 obtain rfl:u=Value.ref a:=rx
 obtain ⟨t1,t2,_⟩:=DQ I1 d
 refine ⟨t1,t2,?_⟩
 rw [m.trees]
 refine Calls.callWith_builtin rfl (Calls.evalArgs_plain (Calls.spliced_cons (thn (he pins s1 σ H1 _ I1 q1) fun iv s2 ⟨y,H2,I2,ry,q2⟩=>Calls.spliced_cons (thn (hf pins s2 σ H2 _ I2 q2) fun fv s3 ⟨z,H3,I3,rz,kvs,k,ey,ea,lk,q,q'⟩=>Calls.spliced_nil ?_))))
 subst ey
 obtain ⟨zl,hs,vs,rel,dd⟩:=zB I3.hok ea
 have hz:vs.length≤sizeLine:=by rw [←rel.length];exact zl
 have r0:=rel.val k
 refine call_meetsIn PySem.F.slot_dict_setdefault dd.typeIs PySem.F.entry_dict_setdefault (PySem.F.args_dict_setdefault_3 _ _ _) (kt_meets_setdefault (bH X.prog X.w) a (oX ry) hs fv) ⟨vs,dd,hz,fun v hv=>?_,fun hn h' dd' hsb=>?_⟩
 ·rw [hv] at r0
  cases ev:bD kvs k with
  | none=>rw [ev] at r0;exact r0.elim
  | some v1=>
   rw [ev] at r0
   exact ⟨v1,H3,I3.tok _,r0,q v1 ev⟩
 ·have v0:bD kvs k=none:=by
   rw [hn] at r0
   cases ev:bD kvs k with
   | none=>rfl
   | some v=>rw [ev] at r0;exact r0.elim
  have hl:(putK kvs k z).length≤sizeLine:=by have:=iI kvs k z;omega
  have he2:∃q,h'.get? a=some q:=let ⟨q,_,_,hq,_⟩:=dd';⟨q,hq⟩
  exact ⟨z,_,pB (ob:=.dK (putK kvs k z)) I3 (by rw [ea];exact True.intro) hsb he2 (yl hl hs (rel.put k rz) dd'),rz,q' v0⟩
end
open PySem PySem.Spec PyProof.Rows L2 PySem.W
section
variable {prog:Program} {w:World} {A:Around} {E:Value→Shared→Prop} {s:Shared} {d:Addr} {ep:Nat} {es:Array DictEntry}
theorem DEs.lt {h:Heap} (x:DEs h d es ep):d < h.objs.size:=let ⟨_,ho,_⟩:=x;Heap.lt_size ho
theorem DEs.at' {h h':Heap} (x:DEs h d es ep) (k:∀o,h.get? d=some o→h'.get? d=some o):DEs h' d es ep:=let ⟨o,ho,r⟩:=x;⟨o,k o ho,r⟩
theorem yI (hh:A.handled=none) (I:Addr) (hne:d≠I):Walks prog w A I [I,d] [I] es.size (fun i v=>∃e,es[i]?=some e∧v=e.key) (fun i h=>h.IsKeyIter I d i es.size ep∧DEs h d es ep) where
 sub:=fun b hb=>by simp at hb;simp [hb]
 frame:=fun _ _ _ st hk=>⟨st.1.at fun o e=>hk I (by simp) o e,st.2.at' fun o e=>hk d (by simp) o e⟩
 item:=fun i s Q E hi st hQ=>by
  refine Ft st.1 st.2 hi fun h' st' sb=>hQ _ h' s.toks ⟨es[i],by simp [hi],rfl⟩ ⟨st',st.2.at' fun o e=>(sb.2 d hne).trans e⟩ fun b o hb e=>(sb.2 b (fun z=>hb (by simp [z]))).trans e
 done:=fun s Q E st hQ=>zV hh st.1 st.2 (Nat.le_refl _) fun h' eb=>hQ h' s.toks fun b o hb e=>eb b o (fun z=>hb (by simp [z])) e
 self:=fun _ _ _ _ st hQ=>wpAny_pyIter_keyiter st.1 hQ
theorem Fw (lo:(d==sysModules)=false):KdlSrc prog w "dict" d d es.size (fun i v=>∃e,es[i]?=some e∧v=e.key) (fun h=>DEs h d es ep) where
 type:=fun _ hm=>let ⟨o,ho,hx,_⟩:=hm;⟨o,ho,hx.1⟩
 there:=fun _ hm=>⟨hm.lt,hm.lt⟩
 keep:=fun _ _ hm hk=>hm.at' fun o e=>hk d (.inl rfl) o e
 notList:=by decide
 notTuple:=by decide
 hint:=fun _ _ _ _ hm hq=>kdl_hint_dict (let ⟨o,ho,hx,_⟩:=hm;⟨o,ho,hx.1⟩) hq
 iter:=fun _ s hh hm=>⟨_,_,(fun _ _ hq=>zW lo hm hq),yI hh _ (Nat.ne_of_lt hm.lt),⟨⟨_,Heap.get?_push_size _ rfl,rfl,rfl⟩,hm.at' fun o e=>Heap.get?_push_of_some _ e⟩⟩
theorem yJ {vs:List Value} {κ:SortKind} {lt:Nat→Nat→Bool} {Q:Value→Shared→Prop} (lo:(d==sysModules)=false) (hh:A.handled=none) (hm:DEs s.heap d es ep) (hv:vs=es.toList.map (·.key)) (h64:vs.length < 64)
  (hk:2≤vs.length→∀s1:Shared,nC s.heap s1.heap→∀Q:SortKind→Shared→Prop,Q κ s1→wpAny (model prog w) A.in1.in1 (keyKind' vs.toArray) Q (fun _ _=>False) s1)
  (ha:2≤vs.length→∀s1:Shared,nC s.heap s1.heap→∀i j C,i < vs.length→j < vs.length→C (lt i j) s1→kas_ask prog w A.in1.in1 κ vs i j C s1)
  (h:∀h1 D h' t c,nC s.heap h1→h1.objs.size≤D→nC h1 h'→h'.get? D=some (seqObj "list" (List.toArray (gK Value.none lt vs)) c)→Q (.ref D) {s with heap:=h',toks:=t}):
  wpAny (model prog w) A (call (.builtin "sorted") ([.ref d]:List Value)) Q E s:=by
 have big:vs.length≤sizeLine:=by rw [sizeLine_eq];omega
 have hes:es.size=vs.length:=by rw [hv,List.length_map,Array.length_toList]
 refine Calls.call_function_entry kind_sorted plain_sorted entry_sorted (args_sorted1 (.ref d)) ?_;unfold Builtin.«sorted»
 refine wpAny_bind (m:=checkCount "sorted" 1 1 _) (wpAny_pure ?_)
 refine wpAny_bind (kdu_collect (A:=A.in1) (Fw (ep:=ep) (es:=es) lo) hh hm (by rw [hes];exact big) fun h1 tk acc x1 hacc=>?_)
 have ea:acc.toList=vs:=by
  apply List.ext_getElem?
  intro j
  rw [hv,List.getElem?_map]
  by_cases hj:j < es.size
  ·have hja:j < acc.size:=by rw [hacc.1];exact hj
   obtain ⟨e,e1,e2⟩:=hacc.2 j acc[j] (by simp [hja])
   rw [Array.getElem?_toList,Array.getElem?_toList,e1,Array.getElem?_eq_getElem hja]
   exact congrArg some e2
  ·rw [Array.getElem?_toList,Array.getElem?_toList,Array.getElem?_eq_none (by rw [hacc.1];omega),Array.getElem?_eq_none (by omega)]
   rfl
 rw [ea]
 refine wpAny_bind (wpAny_newList ?_ big)
 have hD:(h1.push (seqObj "list" vs.toArray 0)).get? h1.objs.size=some (seqObj "list" vs.toArray 0):=Heap.get?_push_size _ rfl
 have x2:nC s.heap (h1.push (seqObj "list" vs.toArray 0)):=fun b o q=>Heap.get?_push_of_some _ (x1 b o q)
 have x3:∀h',wI h1.objs.size (h1.push (seqObj "list" vs.toArray 0)) h'→nC s.heap h':=fun h' x b o q=>x b o (Nat.ne_of_lt (Heap.lt_size (x1 b o q))) (x2 b o q)
 have x4:∀h',wI h1.objs.size (h1.push (seqObj "list" vs.toArray 0)) h'→nC h1 h':=fun h' x b o q=>x b o (Nat.ne_of_lt (Heap.lt_size q)) (Heap.get?_push_of_some _ q)
 refine wpAny_bind (wpAny_holding (wpAny_call_entry slot_list_sort ⟨_,hD,rfl⟩ entry_list_sort ?_ (args_list_sort _)))
 refine zU (s:={s with heap:=h1.push (seqObj "list" vs.toArray 0),toks:=tk}) (κ:=κ) (lt:=lt) hD h64 (fun h2 s1 x=>hk h2 s1 (x3 _ x)) (fun h2 s1 x=>ha h2 s1 (x3 _ x)) fun h' c x hc=>?_
 exact ⟨_,rfl,wpAny_pure ⟨_,rfl,h h1 _ h' _ c x1 (Nat.le_refl _) (x4 _ x) hc⟩⟩
end
open PySem PySem.Spec PyProof.Rows L2 PySem.W
end L3
namespace K1
open PySem L2 L3 M1
noncomputable abbrev Kt:=Int × Nat
noncomputable def rd0:M1.Rd:=⟨0,0,0,0⟩
noncomputable def Fx (hs:List (List Nat)) (ds:List M1.Rd) (r:Nat):Str:=S (hs.getD (ds.getD r rd0).a [])
noncomputable def j7 (hs:List (List Nat)) (ds:List M1.Rd) (r:Nat):Str:=S (hs.getD (ds.getD r rd0).b [])
noncomputable def rTn (ds:List M1.Rd) (r:Nat):Int:=(ds.getD r rd0).t
noncomputable def rRm (ds:List M1.Rd) (r:Nat):Int:=(ds.getD r rd0).m
noncomputable def stepK (hs:List (List Nat)) (ds:List M1.Rd) (k:Kt):Step:=⟨k.1,some k.2,j7 hs ds k.2,k.1+rTn ds k.2⟩
noncomputable def iM (st:Step) (ns:List Nat) (sss:List (List Step)):List (List Step):=sss.mapIdx fun i ss=>if i∈ns then ss++[st] else ss
theorem oN (st:Step) (ns:List Nat) (sss:List (List Step)):(iM st ns sss).length=sss.length:=by
 unfold iM
 rw [List.length_mapIdx]
theorem jl (st:Step) (ns:List Nat) (sss:List (List Step)) (i:Nat):(iM st ns sss)[i]?=(sss[i]?).map fun ss=>if i∈ns then ss++[st] else ss:=by
 unfold iM
 rw [List.getElem?_mapIdx]
theorem BJ (st:Step) (sss:List (List Step)):iM st [] sss=sss:=by
 apply List.ext_getElem?
 intro i
 rw [jl]
 simp
theorem yK (st:Step) {ns:List Nat} {n:Nat} (h:n∉ns) {sss:List (List Step)} {ss:List Step} (e:sss[n]?=some ss):iM st (ns++[n]) sss=(iM st ns sss).set n (ss++[st]):=by
 apply List.ext_getElem?
 intro i
 rw [jl,List.getElem?_set,jl,oN]
 by_cases hi:n=i
 ·subst hi
  have hl:=(List.getElem?_eq_some_iff.mp e).1
  rw [if_pos rfl,if_pos hl,e]
  simp
 ·rw [if_neg hi]
  have:(i∈ns++[n])↔i∈ns:=by
   rw [List.mem_append,List.mem_singleton]
   exact ⟨fun z=>z.elim id fun w=>absurd w.symm hi,.inl⟩
  simp only [this]
noncomputable def mask (H:Hp) (ts:List Addr):Hp:=fun b=>if b∈ts then none else H b
theorem gR {H:Hp} {ts:List Addr} {b:Addr} {o:HO} (e:H b=some o) (n:b∉ts):mask H ts b=some o:=by
 unfold mask
 rw [if_neg n]
 exact e
theorem Jm {H:Hp} {ts:List Addr} {b:Addr} (h:b∈ts):mask H ts b=none:=if_pos h
theorem BK (H:Hp) (ts:List Addr):aB (mask H ts) H:=fun b o e=>by
 unfold mask at e
 split at e
 ·cases e
 ·exact e
noncomputable def fU (H:Hp) (a:Addr) (b:Kt × List Nat):Prop:=∃c,H a=some (.tup [.int b.1.1,.int b.1.2,.ref c])∧H c=some (.tup (b.2.map fun n:Nat=>V.int n))
theorem fU.same {H H':Hp} {a:Addr} {b:Kt × List Nat} (h:fU H a b) (sm:aB H H'):fU H' a b:=let ⟨c,h1,h2⟩:=h;⟨c,sm _ _ h1,sm _ _ h2⟩
structure jL (C:Addr) (H:Hp) (x n g st:Addr) (gs:List Str) (ls:List Addr):Prop where
 ins:∃dx,H x=some (.ins C dx (uH n g st))
 goals:H g=some (.lst (gs.map V.str))
 steps:H st=some (.lst (refs ls))
theorem jL.same {C:Addr} {H H':Hp} {x n g st:Addr} {gs:List Str} {ls:List Addr} (h:jL C H x n g st gs ls) (sm:aB H H'):jL C H' x n g st gs ls:=
 let ⟨dx,e⟩:=h.ins;⟨⟨dx,sm _ _ e⟩,sm _ _ h.goals,sm _ _ h.steps⟩
theorem jL.at_ {C:Addr} {H:Hp} {x n g st:Addr} {gs:List Str} {ls:List Addr} {sss:List (List Step)} (h:jL C H x n g st gs ls) (e:Paired (aZ H) ls sss):WalkAt C H x n g st gs ls sss:=⟨h.ins,h.goals,h.steps,e⟩
theorem aZ.same {H H':Hp} {l:Addr} {ss:List Step} (h:aZ H l ss) (sm:aB H H'):aZ H' l ss:=let ⟨ts,a,b⟩:=h;⟨ts,sm _ _ a,b.same sm⟩
theorem tO {H H':Hp} {ls:List Addr} {sss:List (List Step)} (h:Paired (aZ H) ls sss) (sm:aB H H'):Paired (aZ H') ls sss:=Paired.mapP h fun _ _ e=>e.same sm
theorem WalkAt.same {C:Addr} {H H':Hp} {x n g st:Addr} {gs:List Str} {ls:List Addr} {sss:List (List Step)} (h:WalkAt C H x n g st gs ls sss) (sm:aB H H'):WalkAt C H' x n g st gs ls sss:=
 let ⟨dx,e⟩:=h.ins;⟨⟨dx,sm _ _ e⟩,sm _ _ h.goals,sm _ _ h.steps,tO h.each sm⟩
theorem wK {H H':Hp} {l:Addr} {ss':List Step} (new:aZ H' l ss') (old:∀l' ss,l'≠l→aZ H l' ss→aZ H' l' ss):∀{ls:List Addr} {sss:List (List Step)} {n:Nat},Paired (aZ H) ls sss→ls.Nodup→ls[n]?=some l→Paired (aZ H') ls (sss.set n ss')
 | _,_,n,.nil,_,e=>by simp at e
 | a::ls,s0::sss,0,.cons r t,nd,e=>by
  simp only [List.getElem?_cons_zero,Option.some.injEq] at e
  subst e
  rw [List.nodup_cons] at nd
  refine .cons new ?_
  have:∀{ms:List Addr} {tss:List (List Step)},Paired (aZ H) ms tss→a∉ms→Paired (aZ H') ms tss:=fun {ms tss} p=>by
   induction p with
   | nil=>exact fun _=>.nil
   | cons r t ih=>exact fun h=>.cons (old _ _ (fun z=>h (by rw [z];exact .head _)) r) (ih fun z=>h (.tail _ z))
  exact this t nd.1
 | a::ls,s0::sss,n+1,.cons r t,nd,e=>by
  rw [List.nodup_cons] at nd
  have e':ls[n]?=some l:=by simpa using e
  exact .cons (old _ _ (fun z=>nd.1 (by rw [z];exact List.mem_of_getElem? e')) r) (wK new old t nd.2 e')
section
variable {P:Program} {w:World} {K:PySem.W.Frag} {mg:Str→Option Value} {base:Heap}
noncomputable def pG (C:Addr):Sp:=fun vs H Q _=>∃(x a' b':Addr) (xs ys:List L2.V) (k:Int) (v:L2.V),vs=[.ref x,.int k]∧iJ C H x a' b' xs ys∧0≤k∧k < ys.length∧L2.atI ys k=some v∧Q v H
theorem Fy {C f:Addr} {fd:FuncData} (F:Fun K "road" "Net.road" j4 f fd) (B:Blt mg) (NC:wg K C):aD P w K mg base CX0 1 f fd ["self","number"] (pG C):=by
 refine F.ok zQ (fun vs H Q E h=>?_) (fun cdv A outer s H vs Q E hr h=>?_)
 ·obtain ⟨x,a',b',xs,ys,k,v,rfl,_⟩:=h
  rfl
 ·obtain ⟨x,a',b',xs,ys,k,v,rfl,n,h0,h1,hv,q⟩:=h
  obtain ⟨dx,hx⟩:=n.ins
  refine ⟨_,(ao (cI (iV (mF mD vI au (pv 1) (aV bN (by rfl) B.len iw (aa (bV (pv 0) (by rfl)) aq)))) (az pQ) bw)
   (az (aU (aK bM (bV (pv 0) (by rfl)) (pv 1) (fun _ _=>rfl))))),?_⟩
  refine ⟨_,rfl,_,_,rfl,rfl,_,rfl,?_⟩
  refine eY (decide_eq_true h0) ⟨_,rfl,x,C,dx,_,_,rfl,hx,NC.cl,NC.nr,rfl,b',_,rfl,.inl (SqL.of n.roa),_,_,rfl,rfl,_,rfl,?_⟩
  refine Dr h1 ?_
  exact ⟨_,rfl,x,C,dx,_,_,rfl,hx,NC.cl,NC.nr,rfl,_,rfl,b',_,_,_,rfl,rfl,SqL.of n.roa,hv,q⟩
noncomputable def yL (C CN:Addr):Sp:=fun vs H Q _=>∃(Hb:Hp) (x n g st a' b' bg:Addr) (gs:List Str) (ls rs:List Addr) (sss:List (List Step)) (hs:List (List Nat)) (ds:List M1.Rd) (b:Kt × List Nat),vs=[.ref x,.ref bg]∧aB Hb H∧jL C Hb x n g st gs ls∧Paired (aZ H) ls sss∧ls.Nodup∧(∀l∈ls,Hb l=none)∧
 iJ CN Hb n a' b' (txs hs) (refs rs)∧bI Hb hs rs ds∧fU Hb bg b∧b.1.2 < ds.length∧b.2.Nodup∧(∀i∈b.2,i < sss.length)∧(∀ss∈sss,ss.length≤100)∧
 ∀H',aB Hb H'→Paired (aZ H') ls (iM (stepK hs ds b.1) b.2 sss)→Q .non H'
noncomputable abbrev wL:Stmt:=inClass (top 13) 2
theorem yM:aH ["self","bag","road","number"] ["self","bag"] (aC wL):=⟨rfl,rfl,rfl,by decide+kernel,rfl,by decide+kernel,by decide+kernel⟩
theorem Jo {C CN f f1:Addr} {fd fd1:FuncData} (F:Fun K "send" "Walk.send" wL f fd) (WC:lJ K C) (bR:Cls K CN) (bT:Mn K CN "road" "Net.road" j4 ["self","number"] f1 fd1) (eN:aD P w K mg base CX0 1 f1 fd1 ["self","number"] (pG CN)):
  aD P w K mg base CX0 2 f fd ["self","bag"] (yL C CN):=by
 refine F.ok yM (fun vs H Q E h=>?_) (fun cdv A outer s H vs Q E hr h=>?_)
 ·obtain ⟨Hb,x,n,g,st,a',b',bg,gs,ls,rs,sss,hs,ds,b,rfl,_⟩:=h
  rfl
 ·obtain ⟨Hb,x,n,g,st,a',b',bg,gs,ls,rs,sss,hs,ds,b,rfl,sb,W,each,nd,fr,N,R,hbg,hr2,ndb,hlt,few,q⟩:=h
  obtain ⟨dx,hx⟩:=W.ins
  obtain ⟨dn,hn⟩:=N.ins
  obtain ⟨c,hb1,hb2⟩:=hbg
  have rl:=R.len
  refine ⟨_,(ao (aL (i:=2) yM.nd rfl (Or.inl rfl) (bL (bV (pv 0) (by rfl)) bR bT.me eN (hr.mono (by decide)) bT.bd .nil bh (aa (aK aP (pv 1) au (fun _ _=>rfl)) aq)))
   (az (dI PassesOwn.never rfl (CV (aK aP (pv 1) au (fun _ _=>rfl))) (aJ (i:=3) yM.nd rfl (Or.inl rfl))
    (az (cg (lG PySem.F.plainAttrs_list PySem.F.slot_list_append PySem.F.type_list_append cG (aK bM (bV (pv 0) (by rfl)) (pv 3) (fun _ _=>rfl)) (aa (iu (aa (aK aP (pv 1) au (fun _ _=>rfl)) (aa (aK aP (pv 1) au (fun _ _=>rfl)) (aa (aK aP (pv 2) au (fun _ _=>rfl)) (aa (aM cu (aK aP (pv 1) au (fun _ _=>rfl)) (aK aP (pv 2) au (fun _ _=>rfl))) aq))))) aq))))))),?_⟩
  obtain ⟨r,er⟩:∃r,rs[b.1.2]?=some r:=⟨_,List.getElem?_eq_getElem (by omega)⟩
  obtain ⟨d,ed,_,hd⟩:=R.get er
  have e0:ds.getD b.1.2 rd0=d:=gO ed
  refine ⟨_,rfl,x,C,dx,_,_,rfl,sb _ _ hx,WC.cl,WC.nn,rfl,n,dn,_,rfl,sb _ _ hn,rfl,_,rfl,bg,_,_,_,rfl,rfl,SqT.of (sb _ _ hb1),rfl,n,a',b',_,_,_,_,rfl,N.same sb,(by omega),(by have:=aN rs;omega),(cN (by unfold refs;rw [List.getElem?_map,er];rfl)),?_⟩
  refine ⟨_,rfl,bg,_,_,_,rfl,rfl,SqT.of (sb _ _ hb1),rfl,c,rfl,?_⟩
  refine ⟨⟨_,SqT.of (sb _ _ hb2)⟩,?_⟩
  have eV:rdV hs d=[.str (Fx hs ds b.1.2),.str (j7 hs ds b.1.2),.int (rTn ds b.1.2),.int (rRm ds b.1.2)]:=by
   unfold rdV Fx j7 rTn rRm
   rw [e0]
  rw [eV] at hd
  refine zq (K:=K) (a:=c) (xs:=b.2.map fun n:Nat=>V.int n) (fun j σ Hj=>∃v3,σ=[some (.ref x),some (.ref bg),some (.ref r),v3]∧aB Hb Hj∧Paired (aZ Hj) ls (iM (stepK hs ds b.1) (b.2.take j) sss))
   ⟨none,rfl,sb,by rw [List.take_zero,BJ];exact each⟩ (fun j σ Hj _ ⟨_,_,h,_⟩=>SqT.of (h _ _ hb2)) ?_ ?_
  ·rintro j z σ Hj ez ⟨v3,rfl,sj,ej⟩
   rw [List.getElem?_map] at ez
   obtain ⟨i,ei,rfl⟩:=Option.map_eq_some_iff.mp ez
   have hi:=hlt i (List.mem_of_getElem? ei)
   obtain ⟨ss,es⟩:∃ss,sss[i]?=some ss:=⟨_,List.getElem?_eq_getElem hi⟩
   have ni:i∉b.2.take j:=fun z=>by
    have hj:=(List.getElem?_eq_some_iff.mp ei).1
    have e2:=List.take_append_drop j b.2
    rw [List.drop_eq_getElem_cons hj] at e2
    rw [←e2,List.nodup_append] at ndb
    have e3:b.2[j]=i:=by
     rw [List.getElem?_eq_getElem hj] at ei
     exact Option.some.inj ei
    exact ndb.2.2 i z i (by rw [e3];exact .head _) rfl
   have ga:(iM (stepK hs ds b.1) (b.2.take j) sss)[i]?=some ss:=by rw [jl,es];simp [ni]
   have ln:=Paired.length ej
   obtain ⟨l,el⟩:∃l,ls[i]?=some l:=⟨_,List.getElem?_eq_getElem (by rw [oN] at ln;omega)⟩
   obtain ⟨ss2,es2,ts,hl,tp⟩:=Paired.get ej el
   rw [ga] at es2
   cases es2
   have hb1j:=SqT.of (K:=K) (sj _ _ hb1)
   have hdj:=SqT.of (K:=K) (sj _ _ hd)
   have tl:=tp.len
   rw [List.length_map] at tl
   have fs:=few ss (List.mem_of_getElem? es)
   have fl:(refs ts).length < sizeLine:=aG (by rw [aN];omega)
   refine ⟨_,rfl,x,C,dx,_,_,rfl,sj _ _ hx,WC.cl,WC.ns,rfl,_,rfl,st,_,_,_,rfl,rfl,SqL.of (sj _ _ W.steps),(show L2.atI (refs ls) (i:Int)=some (.ref l) from cN (by unfold refs;rw [List.getElem?_map,el];rfl)),.inl ⟨rfl,_,SqL.of hl⟩,?_⟩
   refine ⟨_,rfl,bg,_,_,_,rfl,rfl,hb1j,rfl,_,rfl,bg,_,_,_,rfl,rfl,hb1j,rfl,_,rfl,r,_,_,_,rfl,rfl,hdj,rfl,_,rfl,bg,_,_,_,rfl,rfl,hb1j,rfl,_,rfl,r,_,_,_,rfl,rfl,hdj,rfl,_,_,rfl,rfl,(by show 4≤sizeLine;decide),fun t nt=>?_⟩
   have sjt:=aF (o:=.tup [V.int b.1.1,V.int b.1.2,V.str (j7 hs ds b.1.2),V.int (b.1.1+rTn ds b.1.2)]) nt
   have hl2:=sjt _ _ hl
   refine ⟨l,_,_,rfl,rfl,hl2,fl,_,rfl,?_,?_⟩
   ·exact aY (fr l (List.mem_of_getElem? el)) (sj.trans sjt)
   ·have tk:b.2.take (j+1)=b.2.take j++[i]:=by
     rw [List.take_add_one,ei]
     rfl
    rw [tk,yK _ ni es]
    refine wK ?_ (fun l' ss' nl h=>?_) ej nd el
    ·refine ⟨ts++[t],by rw [aj];unfold refs;rw [List.map_append];rfl,?_⟩
     rw [List.map_append]
     refine Paired.snoc ?_ ((tp.same sjt).upd hl2 (by intro d z;cases z))
     show upd _ l _ t=some (.tup (stV (stepK hs ds b.1)))
     rw [ak (aA hl nt).symm,aj]
     rfl
    ·obtain ⟨ts',h1,h2⟩:=h
     exact ⟨ts',by rw [ak nl];exact sjt _ _ h1,(h2.same sjt).upd hl2 (by intro d z;cases z)⟩
  ·rintro σ Hj ⟨v3,rfl,sj,ej⟩
   refine q Hj sj ?_
   rw [List.length_map,List.take_length] at ej
   exact ej
end
open PySem L2 L3 M1
section
variable {P:Program} {w:World} {K:PySem.W.Frag} {mg:Str→Option Value} {base:Heap}
noncomputable abbrev wM:Stmt:=inClass (top 13) 3
theorem LK:aH ["self","number"] ["self","number"] (aC wM):=⟨rfl,rfl,rfl,by decide+kernel,rfl,by decide+kernel,by decide+kernel⟩
theorem Jp {C f:Addr} {fd:FuncData} (F:Fun K "goal" "Walk.goal" wM f fd) (WC:lJ K C):aD P w K mg base CX0 1 f fd ["self","number"] (yF C):=by
 refine F.ok LK (fun vs H Q E h=>?_) (fun cdv A outer s H vs Q E hr h=>?_)
 ·obtain ⟨x,n,g,st,gs,ls,sss,k,y,rfl,_⟩:=h
  rfl
 ·obtain ⟨x,n,g,st,gs,ls,sss,k,y,rfl,W,ey,q⟩:=h
  obtain ⟨dx,hx⟩:=W.ins
  refine ⟨_,(az (aU (aK bM (bV (pv 0) (by rfl)) (pv 1) (fun _ _=>rfl)))),?_⟩
  exact ⟨_,rfl,x,C,dx,_,_,rfl,hx,WC.cl,WC.ng,rfl,_,rfl,g,_,_,_,rfl,rfl,SqL.of W.goals,cN (by rw [List.getElem?_map,ey];rfl),q⟩
end
open PySem L2 L3 M1
end K1
namespace M1
noncomputable def jM (c:Int):Int:=c * 1099087573 % 10000000000037
noncomputable def nF (n:Nat) (c:Int):Int:=jM c % n
noncomputable def mend (n:Nat) (c:Int):Int:=(nF n c+1+jM c / n % ((n:Int) - 1)) % n
noncomputable def nG (c:Int):Int:=if jM c / 27000 % 5=0 then 1+jM c / 135000 % 10 ^ 9 else 1+jM c / 9000 % 3
noncomputable def mrd (n:Nat) (c:Int):Rd:=⟨(nF n c).toNat,(mend n c).toNat,1+jM c / 1000 % 9,nG c⟩
theorem LQ {n:Nat} (h:1 < n) (c:Int):(mrd n c).Ok n:=by
 have b1:0≤nF n c:=Int.emod_nonneg _ (by omega)
 have b2:nF n c < n:=Int.emod_lt_of_pos _ (by omega)
 have e1:0≤mend n c:=Int.emod_nonneg _ (by omega)
 have e2:mend n c < n:=Int.emod_lt_of_pos _ (by omega)
 have d1:0≤jM c / n % ((n:Int) - 1):=Int.emod_nonneg _ (by omega)
 have d2:jM c / n % ((n:Int) - 1) < (n:Int) - 1:=Int.emod_lt_of_pos _ (by omega)
 have ne:nF n c≠mend n c:=by
  intro z
  have e3:mend n c=(nF n c+1+jM c / n % ((n:Int) - 1)) % n:=rfl
  generalize jM c / n % ((n:Int) - 1)=x at d1 d2 e3
  by_cases hlt:nF n c+1+x < n
  ·rw [Int.emod_eq_of_lt (by omega) hlt] at e3
   omega
  ·have h5:(nF n c+1+x) % (n:Int)=(nF n c+1+x - n) % (n:Int):=by rw [Int.sub_emod_right]
   rw [h5,Int.emod_eq_of_lt (by omega) (by omega)] at e3
   omega
 have t1:0≤jM c / 1000 % 9:=Int.emod_nonneg _ (by decide)
 have t2:jM c / 1000 % 9 < 9:=Int.emod_lt_of_pos _ (by decide)
 have m:1≤nG c∧nG c≤1000000000:=by
  unfold nG
  split
  ·have p9:(10:Int) ^ 9=1000000000:=by decide
   rw [p9]
   omega
  ·omega
 exact ⟨by show (nF n c).toNat < n;omega,by show (mend n c).toNat < n;omega,by show (nF n c).toNat≠(mend n c).toNat;omega,by show 1≤1+_∧1+_≤9;omega,m⟩
end M1
namespace K1
open PySem L2 L3 M1
noncomputable def Fz:Sp:=fun vs H Q _=>∃(c:Int) (a:Addr) (hs:List (List Nat)),vs=[.int c,.ref a]∧H a=some (.lst (txs hs))∧2≤hs.length∧hs.length≤12∧∀r,H r=none→Q (.ref r) (upd H r (.tup (rdV hs (mrd hs.length c))))
theorem zX {t:TS} {D:Ends} {σ:L2.St} {H:Hp} (P:Ends→Prop) (h1:P D) (h2:∀D',P D'→t D' σ H):t D σ H:=h2 D h1
section
variable {P:Program} {w:World} {K:PySem.W.Frag} {mg:Str→Option Value} {base:Heap}
noncomputable abbrev FJ:Stmt:=top 39
noncomputable abbrev Qh:List Str:=["_law_cell","_law_names","_law_n","_law_many","_law_first","_law_last","_law_room"]
theorem qK:aH Qh ["_law_cell","_law_names"] (aC FJ):=⟨rfl,rfl,rfl,by decide+kernel,rfl,by decide+kernel,by decide+kernel⟩
theorem LR {f:Addr} {fd:FuncData} (F:Fun K "_law_road" "_law_road" FJ f fd) (B:Blt mg):aD P w K mg base CX0 1 f fd ["_law_cell","_law_names"] Fz:=by
 refine F.ok qK (fun vs H Q E h=>?_) (fun cdv A outer s H vs Q E hr h=>?_)
 ·obtain ⟨c,a,hs,rfl,_⟩:=h
  rfl
 ·obtain ⟨c,a,hs,rfl,ha,h2,h12,q⟩:=h
  refine ⟨_,(ao (aL (i:=2) qK.nd rfl (Or.inl rfl) (aM cM (aM nT (pv 0) au) au))
   (ao (aL (i:=3) qK.nd rfl (Or.inl rfl) (aV bN (by rfl) B.len iw (aa (pv 1) aq)))
   (ao (aL (i:=4) qK.nd rfl (Or.inl rfl) (aM cM (pv 2) (pv 3)))
   (ao (aL (i:=5) qK.nd rfl (Or.inl rfl) (aM cM (aM cu (aM cu (pv 4) au) (aM cM (aM gh (pv 2) (pv 3)) (aM ue (pv 3) au))) (pv 3)))
   (ao (aL (i:=6) qK.nd rfl (Or.inl rfl) (aM cu au (aM cM (aM gh (pv 2) au) au)))
   (ao (cI (bK mC (aM cM (aM gh (pv 2) au) au) au (bG _)) (az (aL (i:=6) qK.nd rfl (Or.inl rfl) (aM cu au (aM cM (aM gh (pv 2) au) (aM Dc au au))))) bw)
   (az (aU (iu (aa (aK bM (pv 1) (pv 4) (fun _ _=>rfl)) (aa (aK bM (pv 1) (pv 5) (fun _ _=>rfl)) (aa (aM cu au (aM cM (aM gh (pv 2) au) au)) (aa (pv 6) aq))))))))))))),?_⟩
  have hl:=m6 hs
  have b1:0≤nF hs.length c:=Int.emod_nonneg _ (by omega)
  have b2:nF hs.length c < hs.length:=Int.emod_lt_of_pos _ (by omega)
  have e1:0≤mend hs.length c:=Int.emod_nonneg _ (by omega)
  have e2:mend hs.length c < hs.length:=Int.emod_lt_of_pos _ (by omega)
  refine ⟨_,rfl,_,_,rfl,rfl,.inr ⟨by decide,by decide⟩,_,_,rfl,rfl,(by show (0:Int) < 10000000000037;decide),?_⟩
  refine ⟨_,rfl,a,_,rfl,.inl (SqL.of ha),?_⟩
  rw [hl]
  refine ⟨_,rfl,_,rfl,_,_,rfl,rfl,(by show (0:Int) < (hs.length:Int);omega),?_⟩
  refine ⟨_,rfl,_,_,rfl,rfl,_,rfl,_,rfl,_,_,rfl,rfl,⟨by show (0:Int) < (hs.length:Int);omega,by show (hs.length:Int) < 1073741824;omega⟩,_,rfl,_,_,rfl,rfl,_,_,rfl,rfl,(by show (0:Int) < (hs.length:Int) - 1;omega),_,_,rfl,rfl,_,rfl,_,_,rfl,rfl,(by show (0:Int) < (hs.length:Int);omega),?_⟩
  refine ⟨_,rfl,_,_,rfl,rfl,⟨by decide,by decide⟩,_,_,rfl,rfl,(by show (0:Int) < 3;decide),_,_,rfl,rfl,?_⟩
  dsimp only [cJ,xO]
  refine zX (t:=Kh _ _ _) (fun D'=>D'.nx [some (.int c),some (.ref a),some (.int (jM c)),some (.int hs.length),some (.int (nF hs.length c)),some (.int (mend hs.length c)),some (.int (nG c))] H) ?_ fun D' rest=>?_
  ·refine ⟨_,rfl,_,rfl,a,_,_,_,rfl,rfl,SqL.of ha,uv b1 b2,_,rfl,_,rfl,a,_,_,_,rfl,rfl,SqL.of ha,uv e1 e2,_,rfl,_,_,rfl,rfl,⟨by decide,by decide⟩,_,_,rfl,rfl,(by show (0:Int) < 9;decide),_,_,rfl,rfl,_,rfl,(by show 4≤sizeLine;decide),q⟩
  ·refine ⟨_,rfl,_,_,rfl,rfl,⟨by decide,by decide⟩,_,_,rfl,rfl,(by show (0:Int) < 5;decide),rfl,_,rfl,?_⟩
   by_cases h5:jM c / 27000 % 5=0
   ·refine eY (by show decide (V.int (jM c / 27000 % 5)=V.int 0)=true;rw [h5];decide) ?_
    refine ⟨_,rfl,_,_,rfl,rfl,⟨by decide,by decide⟩,_,_,rfl,rfl,⟨by decide,by decide,by decide⟩,_,_,rfl,rfl,(by show (0:Int) < 10 ^ (9:Int).toNat;decide),_,_,rfl,rfl,?_⟩
    have e6:nG c=1+jM c / 135000 % 10 ^ (9:Int).toNat:=by unfold nG;rw [if_pos h5];rfl
    rw [e6] at rest
    exact rest
   ·refine gw (by show decide (V.int (jM c / 27000 % 5)=V.int 0)=false;exact decide_eq_false fun z=>h5 (V.int.inj z)) ?_
    have e6:nG c=1+jM c / 9000 % 3:=by unfold nG;rw [if_neg h5]
    rw [e6] at rest
    exact rest
end
open PySem L2 L3 M1
theorem uf (i j:Int):decide (V.int i=V.int j)=decide (i=j):=by
 by_cases h:i=j
 ·rw [decide_eq_true h,decide_eq_true (congrArg V.int h)]
 ·rw [decide_eq_false h,decide_eq_false fun z=>h (V.int.inj z)]
noncomputable def oO:Sp:=fun vs H Q _=>∃(a:Addr) (hs:List PyData) (v u:L2.V) (d e:PyData),vs=[.ref a,v,u]∧Th H (.ref a) (.list hs)∧Th H v d∧Th H u e∧d.depth≤60∧e.depth≤60∧Q (.bl (dF hs d e)) H
section
variable {P:Program} {w:World} {K:PySem.W.Frag} {mg:Str→Option Value} {base:Heap}
theorem yN {f:Addr} {fd:FuncData} (F:Fun K "are_unlike_houses" "are_unlike_houses" jF f fd):aD P w K mg base CX0 1 f fd ["houses","one","other"] oO:=by
 refine F.ok wD (fun vs H Q E h=>?_) (fun cdv A outer s H vs Q E hr h=>?_)
 ·obtain ⟨a,hs,v,u,d,e,rfl,_⟩:=h
  rfl
 ·obtain ⟨a,hs,v,u,d,e,rfl,ha,hv,hu,dd,de,q⟩:=h
  refine ⟨_,(az (aU (gH (c7 (DY (NT hr)) (pv 1) (pv 0) (by rfl)) (gH (c7 (DY (NT hr)) (pv 2) (pv 0) (by rfl)) (jy (c7 (KQ hr.units) (pv 1) (pv 2) (bG _))))))),?_⟩
  have can:PyData.canLayAll0 hs=true:=ha.can
  have sd:SeqAt.shaped d=true:=sW hv.can dd (by decide)
  have se:SeqAt.shaped e=true:=sW hu.can de (by decide)
  have q:Q (.bl (inD d hs && inD e hs && !PyData.eqv d e)) H:=q
  refine ⟨_,rfl,_,rfl,d,hs,hv.dt,ha.dt,sd,can,_,rfl,?_⟩
  show if inD d hs=true then _ else _
  cases h1:inD d hs with
  | false=>
   rw [h1] at q
   exact lQ q
  | true=>
   rw [h1] at q
   refine jR ⟨_,rfl,_,rfl,e,hs,hu.dt,ha.dt,se,can,_,rfl,?_⟩
   show if inD e hs=true then _ else _
   cases h2:inD e hs with
   | false=>
    rw [h2] at q
    exact lQ q
   | true=>
    rw [h2] at q
    exact jR ⟨_,rfl,_,rfl,d,e,hv.dt,hu.dt,sd,se,q⟩
end
open PySem L2 L3 M1
theorem qL {ys:List Str} {x:Str} (h:x∉ys):inV (.str x) (ys.map V.str)=false:=by
 unfold inV
 rw [Bool.eq_false_iff]
 intro z
 obtain ⟨v,hv,e⟩:=List.any_eq_true.mp z
 obtain ⟨y,hy,rfl⟩:=List.mem_map.mp hv
 have e':(y==x)=true:=e
 exact h (eq_of_beq e'▸hy)
theorem gj {α:Type} {l:List α} {i:Nat} {d x:α} (h:l[i]?=some x):l.getD i d=x:=by rw [List.getD,h];rfl
noncomputable def uM (C R:Addr):Sp:=fun vs H Q E=>∃(x a' b':Addr) (hs:List (List Nat)) (zs:List L2.V) (h:Str),vs=[.ref x,.str h]∧iJ C H x a' b' (txs hs) zs∧(h∈hs.map S→Q .non H)∧(h∉hs.map S→E (.ref R) none H)
section
variable {P:Program} {w:World} {K:PySem.W.Frag} {mg:Str→Option Value} {base:Heap}
noncomputable abbrev tQ:Stmt:=inClass (top 31) 7
theorem Ma:aH ["self","house"] ["self","house"] (aC tQ):=⟨rfl,rfl,rfl,by decide+kernel,rfl,by decide+kernel,by decide+kernel⟩
theorem Jq {C R f:Addr} {fd:FuncData} {Bc newId initId:String} {bm:List Value} (F:Fun K "need_house" "Net.need_house" tQ f fd) (NC:wg K C) (lY:ExcBaseFacts Bc newId initId bm) (fZ:Exc K mg "NoHouse" R bm newId):
  aD P w K mg base (CXe P w) 1 f fd ["self","house"] (uM C R):=by
 refine okE F Ma (fun vs H Q E h=>?_) (fun cdv A outer s H vs Q E hr h=>?_)
 ·obtain ⟨x,a',b',hs,zs,h',rfl,_⟩:=h
  rfl
 ·obtain ⟨x,a',b',hs,zs,h',rfl,n,q,qE⟩:=h
  obtain ⟨dx,hx⟩:=n.ins
  refine ⟨_,(az (cI (bK mL (pv 1) (bV (pv 0) (by rfl)) (by rfl)) (az (mW lY fZ rfl (aa ik aq))) bw)),?_⟩
  have hl:SqL K H a' ((hs.map S).map V.str):=by rw [←ut];exact SqL.of n.hou
  refine ⟨_,rfl,_,rfl,x,C,dx,_,_,rfl,hx,NC.cl,NC.nh,rfl,a',_,rfl,.inl hl,rfl,kZ _,_,rfl,?_⟩
  by_cases hm:h'∈hs.map S
  ·exact gw (by rw [pD hm];rfl) (q hm)
  ·exact eY (by rw [qL hm];rfl) ⟨by show 1≤sizeLine;decide,qE hm⟩
end
open PySem L2 L3 M1
theorem BL {α β:Type} (xs:List α) (q:Nat→Bool) (g:Nat→β):(xs.zipIdx.filter fun z=>q z.2).map (fun z=>g z.2)=((List.range xs.length).filter q).map g:=by
 have e:xs.zipIdx.map (·.2)=List.range xs.length:=by rw [List.zipIdx_map_snd,List.range_eq_range']
 rw [←e,List.filter_map,List.map_map]
 rfl
noncomputable def d0:M1.Rd:=⟨0,0,0,0⟩
noncomputable def uN (hs:List (List Nat)) (ds:List M1.Rd) (prj:M1.Rd→Nat) (h:Str):List Nat:=(List.range ds.length).filter fun i=>decide (V.str (S (hs.getD (prj (ds.getD i d0)) []))=V.str h)
noncomputable def touch (hs:List (List Nat)) (ds:List M1.Rd) (prj:M1.Rd→Nat) (h:Str):List Int:=(uN hs ds prj h).map fun i:Nat=>(i:Int)
theorem BP (hs:List (List Nat)) (ds:List M1.Rd) (prj:M1.Rd→Nat) (h:Str):(touch hs ds prj h).length≤ds.length:=by
 unfold touch uN
 rw [List.length_map]
 exact Nat.le_trans (List.length_filter_le _ _) (by rw [List.length_range];exact Nat.le_refl _)
noncomputable def zY (C R:Addr) (prj:M1.Rd→Nat):Sp:=fun vs H Q E=>∃(x a' b':Addr) (hs:List (List Nat)) (rs:List Addr) (ds:List M1.Rd) (h:Str),vs=[.ref x,.str h]∧iJ C H x a' b' (txs hs) (refs rs)∧bI H hs rs ds∧rs.length≤40∧
 (h∈hs.map S→∀(p:Addr) (H':Hp),H p=none→aB H H'→H' p=some (.lst ((touch hs ds prj h).map V.int))→Q (.ref p) H')∧(h∉hs.map S→E (.ref R) none H)
section
variable {P:Program} {w:World} {K:PySem.W.Frag} {mg:Str→Option Value} {base:Heap}
noncomputable abbrev BR:Stmt:=inClass (top 31) 4
theorem Oj:aH ["self","house"] ["self","house"] (aC BR):=⟨rfl,rfl,rfl,by decide+kernel,rfl,by decide+kernel,by decide+kernel⟩
theorem Mf {C R f fn:Addr} {fd fdn:FuncData} (F:Fun K "out_of" "Net.out_of" BR f fd) (B:Blt mg) (NC:wg K C)
  (aX:Mn K C "need_house" "Net.need_house" tQ ["self","house"] fn fdn) (bJ:aD P w K mg base (CXe P w) 1 fn fdn ["self","house"] (uM C R)):
  aD P w K mg base (CXe P w) 2 f fd ["self","house"] (zY C R (·.a)):=by
 have bR:=NC.cl
 refine okE F Oj (fun vs H Q E h=>?_) (fun cdv A outer s H vs Q E hr h=>?_)
 ·obtain ⟨x,a',b',hs,rs,ds,h',rfl,_⟩:=h
  rfl
 ·obtain ⟨x,a',b',hs,rs,ds,h',rfl,n,hR,few,q,qE⟩:=h
  obtain ⟨dx,hx⟩:=n.ins
  refine ⟨_,(ao (cg (bL (pv 0) bR aX.me bJ (hr.mono (by decide)) aX.bd .nil mV (aa (pv 1) aq)))
   (az (aU (mR (N':=["number","road","house"]) (cs:=[none,none,some 1]) rfl (zz rfl B.enumerate (aa (bV (pv 0) (by rfl)) aq)) rfl (by decide+kernel) rfl (by decide+kernel) (cY (List.forall_mem_cons.mpr ⟨rfl,(fun p hp=>absurd hp (List.not_mem_nil))⟩)) rfl
    (.own (.own (.cap rfl (.inl rfl) (.inl rfl) rfl .nil)))
    (fun C s3 H3 fp pn=>⟨(mY (K:=K) (n:=2) rfl rfl (bQ (aJ (i:=0) (by show (["number","road","house"]:List Str).Nodup;decide+kernel) rfl (.inl rfl)) (bQ (aJ (i:=1) (by show (["number","road","house"]:List Str).Nodup;decide+kernel) rfl (.inl rfl)) jz))),(kW (bK mC (aK (mX (K:=K) rfl) (pv 1) au (fun _ _=>rfl)) (pv 2) (bG _))),(pv 0)⟩))))),?_⟩
  have hl:=aN rs
  have hdl:=hR.len
  refine ⟨_,rfl,x,dx,_,rfl,hx,rfl,_,rfl,x,a',b',hs,_,h',rfl,n,fun hm=>?_,qE⟩
  refine ⟨_,rfl,x,C,dx,_,_,rfl,hx,NC.cl,NC.nr,rfl,b',rfl,⟨_,SqL.of n.roa⟩,?_⟩
  refine zA (rest:=[some (.str h')]) rfl (SqL.of n.roa) (aG (by omega)) (fun i _=>decide (V.str (S (hs.getD (ds.getD i d0).a []))=V.str h')) (fun i _=>.int i) (fun i v H2 R ev sm hR2=>?_) (fun i v H2 R ev _ sm hR2=>⟨_,rfl,hR2 H2 (aB.refl _)⟩) (fun D H' h1 h2 h3=>q hm D H' h1 h3 ?_)
  ·unfold refs at ev
   rw [List.getElem?_map] at ev
   obtain ⟨r,er,rfl⟩:=Option.map_eq_some_iff.mp ev
   obtain ⟨d,ed,ok,hd⟩:=hR.get er
   have e0:ds.getD i d0=d:=gj ed
   rw [e0] at hR2
   exact ⟨_,rfl,r,_,_,_,rfl,rfl,SqT.of (sm _ _ hd),rfl,_,rfl,rfl,_,rfl,hR2 H2 (aB.refl _)⟩
  ·rw [h2,BL (refs rs) (fun i=>decide (V.str (S (hs.getD (ds.getD i d0).a []))=V.str h')) (fun i=>V.int i),hl,hdl]
   unfold touch
   rw [List.map_map]
   rfl
end
open PySem L2 L3 M1
noncomputable abbrev DTs:=List (List Key × L2.V)
noncomputable def pk (h g:Str):List Key:=[.inr h,.inr g]
noncomputable def nH (n t:Addr):List (Str × L2.V):=[("net",.ref n),("told",.ref t)]
structure f9 (C CN:Addr) (H:Hp) (x n t a' b':Addr) (xs ys:List L2.V) (kvs:DTs):Prop where
 ins:∃dx,H x=some (.ins C dx (nH n t))
 net:iJ CN H n a' b' xs ys
 told:H t=some (.dT kvs)
theorem f9.same {C CN:Addr} {H H':Hp} {x n t a' b':Addr} {xs ys:List L2.V} {kvs:DTs} (W:f9 C CN H x n t a' b' xs ys kvs) (sm:aB H H'):f9 C CN H' x n t a' b' xs ys kvs:=
 let ⟨dx,h⟩:=W.ins
 ⟨⟨dx,sm _ _ h⟩,W.net.same sm,sm _ _ W.told⟩
structure oZ (K:PySem.W.Frag) (C:Addr):Prop where
 cl:Cls K C
 nn:PySem.W.findIn K (.ref C) "net"=some none
 nt:PySem.W.findIn K (.ref C) "told"=some none
noncomputable def Mg (C:Addr):Sp:=fun vs H Q _=>∃(x dx:Addr) (v:L2.V),vs=[.ref x,v]∧H x=some (.ins C dx [])∧∀t,H t=none→Q .non (upd (upd H t (.dT [])) x (.ins C dx [("net",v),("told",.ref t)]))
noncomputable def Jr (C CN NH:Addr):Sp:=fun vs H Q E=>∃(x n t a' b':Addr) (hs:List (List Nat)) (ys:List L2.V) (kvs:DTs) (v u:L2.V) (d e:PyData),vs=[.ref x,v,u]∧f9 C CN H x n t a' b' (txs hs) ys kvs∧Good hs∧Th H v d∧Th H u e∧d.depth≤60∧e.depth≤60∧
 (dF (hD hs) d e=true→∀H',aB H H'→Q .non H')∧(dF (hD hs) d e=false→∀H',aB H H'→E (.ref NH) none H')
noncomputable def Mh (C CN NH NR:Addr):Sp:=fun vs H Q E=>∃(x n t a' b':Addr) (hs:List (List Nat)) (rs:List Addr) (ds:List M1.Rd) (kvs:DTs) (h g:Str) (i:Int),vs=[.ref x,.str h,.str g,.int i]∧f9 C CN H x n t a' b' (txs hs) (refs rs) kvs∧Good hs∧bI H hs rs ds∧rs.length≤40∧
 Th H (.str h) (.str h)∧Th H (.str g) (.str g)∧kvs.length < sizeLine∧
 (dF (hD hs) (.str h) (.str g)=true→i∈touch hs ds (·.a) h→∀H',aB H H'→Q .non (upd H' t (.dT (putK kvs (pk h g) (.int i)))))∧
 (dF (hD hs) (.str h) (.str g)=false→∀H',aB H H'→E (.ref NH) none H')∧
 (dF (hD hs) (.str h) (.str g)=true→i∉touch hs ds (·.a) h→∀H',aB H H'→E (.ref NR) none H')
theorem BV (ys:List Int):(ys.map V.int).all lF=true:=by
 rw [List.all_eq_true]
 intro x hx
 obtain ⟨y,_,rfl⟩:=List.mem_map.mp hx
 rfl
theorem Js {ys:List Int} {x:Int} (h:x∈ys):inV (.int x) (ys.map V.int)=true:=by
 unfold inV
 rw [List.any_eq_true]
 exact ⟨.int x,List.mem_map.mpr ⟨x,h,rfl⟩,by show (x==x)=true;exact beq_self_eq_true x⟩
theorem yO {ys:List Int} {x:Int} (h:x∉ys):inV (.int x) (ys.map V.int)=false:=by
 unfold inV
 rw [Bool.eq_false_iff]
 intro z
 obtain ⟨v,hv,e⟩:=List.any_eq_true.mp z
 obtain ⟨y,hy,rfl⟩:=List.mem_map.mp hv
 have e':(y==x)=true:=e
 exact h (eq_of_beq e'▸hy)
theorem yP {hs:List (List Nat)} {h g:Str} (c:dF (hD hs) (.str h) (.str g)=true):h∈hs.map S∧g∈hs.map S:=by
 unfold dF at c
 simp only [Bool.and_eq_true] at c
 exact ⟨Classical.byContradiction fun n=>by rw [Eh n] at c;exact Bool.false_ne_true c.1.1,Classical.byContradiction fun n=>by rw [Eh n] at c;exact Bool.false_ne_true c.1.2⟩
section
variable {P:Program} {w:World} {K:PySem.W.Frag} {mg:Str→Option Value} {base:Heap}
noncomputable abbrev sWI:Stmt:=inClass (top 33) 0
theorem Qi:aH ["self","net"] ["self","net"] (aC sWI):=⟨rfl,rfl,rfl,by decide+kernel,rfl,by decide+kernel,by decide+kernel⟩
theorem Ol {C f:Addr} {fd:FuncData} (F:Fun K "__init__" "Ways.__init__" sWI f fd) (WC:oZ K C):aD P w K mg base CX0 1 f fd ["self","net"] (Mg C):=by
 refine F.ok Qi (fun vs H Q E h=>?_) (fun cdv A outer s H vs Q E hr h=>?_)
 ·obtain ⟨x,dx,v,rfl,_⟩:=h
  rfl
 ·obtain ⟨x,dx,v,rfl,hx,q⟩:=h
  refine ⟨_,(ao (lO (pv 0) (pv 1) rfl)
   (az (lO (pv 0) DP rfl))),?_⟩
  refine ⟨_,rfl,_,rfl,x,C,dx,_,rfl,hx,WC.cl,WC.nn,(by show 0 < 1000;decide),?_⟩
  intro t nt
  have ntx:t≠x:=fun e=>by rw [e,aj] at nt;cases nt
  rw [ak ntx] at nt
  refine ⟨_,rfl,x,C,dx,_,rfl,(by rw [ak (Ne.symm ntx)];exact aj),WC.cl,WC.nt,(by show 1 < 1000;decide),?_⟩
  have e1:upd (upd (upd H x (.ins C dx [("net",v)])) t (.dT [])) x (.ins C dx [("net",v),("told",.ref t)])=upd (upd H t (.dT [])) x (.ins C dx [("net",v),("told",.ref t)]):=by
   funext b
   by_cases hb:b=x
   ·rw [hb,aj,aj]
   ·rw [ak hb,ak hb]
    by_cases hc:b=t
    ·rw [hc,aj,aj]
    ·rw [ak hc,ak hc,ak hb]
  show Q .non (upd (upd (upd H x (.ins C dx [("net",v)])) t (.dT [])) x (.ins C dx [("net",v),("told",.ref t)]))
  rw [e1]
  exact q t nt
noncomputable abbrev sNP:Stmt:=inClass (top 33) 6
theorem Qj:aH ["self","house","goal"] ["self","house","goal"] (aC sNP):=⟨rfl,rfl,rfl,by decide+kernel,rfl,by decide+kernel,by decide+kernel⟩
theorem Om {C CN NH f f1 f2:Addr} {fd fd1 fd2:FuncData} {Bc newId initId:String} {bm:List Value} (F:Fun K "need_pair" "Ways.need_pair" sNP f fd) (WC:oZ K C) (bR:Cls K CN) (lY:ExcBaseFacts Bc newId initId bm) (fZ:Exc K mg "NoHouse" NH bm newId)
  (bO:Mn K CN "houses" "Net.houses" jk ["self"] f1 fd1) (cO:aD P w K mg base CX0 1 f1 fd1 ["self"] (lg CN))
  (aO:Dn K mg "are_unlike_houses" jF ["houses","one","other"] f2 fd2) (bU:aD P w K mg base CX0 1 f2 fd2 ["houses","one","other"] oO):
  aD P w K mg base (CXe P w) 2 f fd ["self","house","goal"] (Jr C CN NH):=by
 refine okE F Qj (fun vs H Q E h=>?_) (fun cdv A outer s H vs Q E hr h=>?_)
 ·obtain ⟨x,n,t,a',b',hs,ys,kvs,v,u,d,e,rfl,_⟩:=h
  rfl
 ·obtain ⟨x,n,t,a',b',hs,ys,kvs,v,u,d,e,rfl,W,G,hv,hu,dd,de,q,qE⟩:=h
  obtain ⟨dx,hx⟩:=W.ins
  refine ⟨_,(az (cI (iV (iU (bc bU (hr.mono (by decide)) (by rfl) aO.at_ aO.fn.kp aO.bd .nil bh (aa (mH (bV (pv 0) (by rfl)) bR bO.me cO (hr.mono (by decide)) bO.bd .nil bh) (aa (pv 1) (aa (pv 2) aq)))))) (az (mW lY fZ rfl (aa ik aq))) bw)),?_⟩
  obtain ⟨dn,hn⟩:=W.net.ins
  refine ⟨_,rfl,x,C,dx,_,_,rfl,hx,WC.cl,WC.nn,rfl,n,dn,_,rfl,hn,rfl,n,a',b',_,_,rfl,W.net,fun l nl=>?_⟩
  have sl:=aF (o:=.lst (txs hs)) nl
  refine ⟨_,rfl,_,rfl,l,hD hs,v,u,d,e,rfl,Oc G aj,hv.same sl,hu.same sl,dd,de,_,rfl,?_⟩
  cases hc:dF (hD hs) d e with
  | true=>exact q hc _ sl
  | false=>exact ⟨by show 1≤sizeLine;decide,qE hc _ sl⟩
noncomputable abbrev sSW:Stmt:=inClass (top 33) 1
theorem Qk:aH ["self","house","goal","road"] ["self","house","goal","road"] (aC sSW):=⟨rfl,rfl,rfl,by decide+kernel,rfl,by decide+kernel,by decide+kernel⟩
theorem Oo {C CN NH NR f f1 f2:Addr} {fd fd1 fd2:FuncData} {Bc newId initId:String} {bm:List Value} (F:Fun K "set_way" "Ways.set_way" sSW f fd) (WC:oZ K C) (bR:Cls K CN) (oJ:ExcBaseFacts Bc newId initId bm) (ie:Exc K mg "NoRoad" NR bm newId)
  (cA:Mn K CN "out_of" "Net.out_of" BR ["self","house"] f1 fd1) (dG:aD P w K mg base (CXe P w) 2 f1 fd1 ["self","house"] (zY CN NH (·.a)))
  (bF:Mn K C "need_pair" "Ways.need_pair" sNP ["self","house","goal"] f2 fd2) (bY:aD P w K mg base (CXe P w) 2 f2 fd2 ["self","house","goal"] (Jr C CN NH)):
  aD P w K mg base (CXe P w) 3 f fd ["self","house","goal","road"] (Mh C CN NH NR):=by
 have d9:=WC.cl
 refine okE F Qk (fun vs H Q E h=>?_) (fun cdv A outer s H vs Q E hr h=>?_)
 ·obtain ⟨x,n,t,a',b',hs,rs,ds,kvs,h',g',i,rfl,_⟩:=h
  rfl
 ·obtain ⟨x,n,t,a',b',hs,rs,ds,kvs,h',g',i,rfl,W,G,hR,few,hv,hu,few2,q,qE,qR⟩:=h
  obtain ⟨dx,hx⟩:=W.ins
  obtain ⟨dn,hn⟩:=W.net.ins
  refine ⟨_,(ao (cg (bL (pv 0) d9 bF.me bY (hr.mono (by decide)) bF.bd .nil mV (aa (pv 1) (aa (pv 2) aq))))
   (ao (cI (bK mL (pv 3) (bL (bV (pv 0) (by rfl)) bR cA.me dG (hr.mono (by decide)) cA.bd .nil mV (aa (pv 1) aq)) (by rfl)) (az (mW oJ ie rfl (aa ik aq))) bw)
   (az (pC (cQ hr) (bV (pv 0) (by rfl)) (iu (aa (pv 1) (aa (pv 2) aq))) (pv 3) rfl)))),?_⟩
  refine ⟨_,rfl,x,dx,_,rfl,hx,rfl,_,rfl,_,rfl,x,n,t,a',b',hs,_,kvs,.str h',.str g',.str h',.str g',rfl,W,G,hv,hu,(by show 0≤60;decide),(by show 0≤60;decide),fun hc H1 s1=>?_,qE⟩
  have hm:=yP hc
  refine ⟨_,rfl,_,rfl,x,C,dx,_,_,rfl,s1 _ _ hx,WC.cl,WC.nn,rfl,n,dn,_,rfl,s1 _ _ hn,rfl,_,rfl,n,a',b',hs,rs,ds,h',rfl,W.net.same s1,hR.same s1,few,fun _ p H2 np s2 hp=>?_,fun hno=>absurd hm.1 hno⟩
  have s12:=s1.trans s2
  refine ⟨p,_,rfl,.inl (SqL.of hp),rfl,BV _,_,rfl,?_⟩
  by_cases hi:i∈touch hs ds (·.a) h'
  ·refine gw (by rw [Js hi];rfl) ?_
   refine ⟨_,rfl,_,rfl,x,C,dx,_,_,rfl,s12 _ _ hx,WC.cl,WC.nt,rfl,_,rfl,_,rfl,(by show 2≤sizeLine;decide),fun r nr=>?_⟩
   have s3:=aF (o:=.tup [V.str h',V.str g']) nr
   exact ⟨t,_,rfl,p8.t (k:=pk h' g') ((s12.trans s3) _ _ W.told) aj few2,q hc hi _ (s12.trans s3)⟩
  ·refine eY (by rw [yO hi];rfl) ⟨by show 1≤sizeLine;decide,qR hc hi _ s12⟩
end
open PySem L2 L3 M1
noncomputable def Jt (C:Addr):Sp:=fun vs H Q _=>∃(e s:Addr) (v:L2.V) (zs:List L2.V),vs=[.ref e,v,.ref s]∧H e=some (exU e C)∧H s=some (.lst zs)∧∀(dx l:Addr) (H':Hp),H dx=none→H l=none→dx≠l→(∀b o,H b=some o→b≠e→H' b=some o)→H' e=some (exF e C dx)→
 H' dx=some (xdO dx [("reason",v),("seen",.ref l)])→H' l=some (.lst zs)→Q .non H'
inductive Out where
 | ok (tk:List Nat)
 | no (why:Str) (sn:List Str)
noncomputable def dw (kvs:DTs) (h g:Str):Option Nat:=match bD kvs (pk h g) with | some (.int k)=>some k.toNat | _=>none
noncomputable def cF (hs:List (List Nat)) (ds:List M1.Rd) (k:Nat):Str:=S (hs.getD (ds.getD k d0).b [])
noncomputable def j8 (kvs:DTs) (hs:List (List Nat)) (ds:List M1.Rd) (g:Str):Nat→Str→List Str→List Nat→Out
 | 0,_,_,tk=>.ok tk
 | n+1,h,sn,tk=>if h=g then .ok tk else match dw kvs h g with
  | none=>.no "none" sn
  | some k=>if cF hs ds k∈sn then .no "round" (sn++[cF hs ds k]) else j8 kvs hs ds g n (cF hs ds k) (sn++[cF hs ds k]) (tk++[k])
structure TabOk (kvs:DTs) (m:Nat):Prop where
 val:∀k v,bD kvs k=some v→∃i:Nat,v=.int (i:Int)∧i < m
theorem TabOk.get {kvs:DTs} {m:Nat} (t:TabOk kvs m) (h g:Str):(bD kvs (pk h g)=none∧dw kvs h g=none)∨∃i:Nat,bD kvs (pk h g)=some (.int (i:Int))∧dw kvs h g=some i∧i < m:=by
 cases e:bD kvs (pk h g) with
 | none=>exact .inl ⟨rfl,by unfold dw;rw [e]⟩
 | some v=>
  obtain ⟨i,rfl,hi⟩:=t.val _ _ e
  exact .inr ⟨i,rfl,by unfold dw;rw [e];simp,hi⟩
noncomputable def nats (tk:List Nat):List L2.V:=tk.map fun k:Nat=>V.int (k:Int)
noncomputable def ph (sn:List Str):List L2.V:=sn.map V.str
noncomputable def Mi (NW:Addr) (o:Out) (H:Hp) (Q:VK) (E:XK):Prop:=match o with
 | .ok tk=>∀l H',H l=none→aB H H'→H' l=some (.lst (nats tk))→Q (.ref l) H'
 | .no why sn=>∀dx l H',H dx=none→H l=none→dx≠l→aB H H'→H' dx=some (xdO dx [("reason",.str why),("seen",.ref l)])→H' l=some (.lst (ph sn))→E (.ref NW) (some dx) H'
noncomputable def Mj (C CN NH NW:Addr):Sp:=fun vs H Q E=>∃(x n t a' b':Addr) (hs:List (List Nat)) (rs:List Addr) (ds:List M1.Rd) (kvs:DTs) (h g:Str),vs=[.ref x,.str h,.str g]∧f9 C CN H x n t a' b' (txs hs) (refs rs) kvs∧Good hs∧bI H hs rs ds∧TabOk kvs ds.length∧
 (h∈hs.map S→g∈hs.map S→Mi NW (j8 kvs hs ds g 13 h [h] []) H Q E)∧(h∉hs.map S∨g∉hs.map S→E (.ref NH) none H)
theorem bZ {α:Type} [DecidableEq α]:∀{sn L:List α},sn.Nodup→(∀y∈sn,y∈L)→sn.length≤L.length
 | [],_,_,_=>Nat.zero_le _
 | x::r,L,nd,h=>by
  have hx:=h x (.head _)
  have ih:=bZ (sn:=r) (L:=L.erase x) (List.nodup_cons.mp nd).2 (fun y hy=>(List.mem_erase_of_ne (show y≠x from fun e=>(List.nodup_cons.mp nd).1 (by rw [←e];exact hy))).mpr (h y (.tail _ hy)))
  rw [List.length_erase_of_mem hx] at ih
  have:=List.length_pos_of_mem hx
  rw [List.length_cons]
  omega
theorem iB {α:Type} {l:List α} {x:α} (nd:l.Nodup) (h:x∉l):(l++[x]).Nodup:=by
 rw [List.nodup_append]
 exact ⟨nd,List.nodup_cons.mpr ⟨List.not_mem_nil,List.nodup_nil⟩,fun a ha b hb e=>h (by rw [←List.mem_singleton.mp hb,←e];exact ha)⟩
theorem getD_mem' {α:Type} {l:List α} {i:Nat} {d:α} (h:i < l.length):l.getD i d∈l:=by
 rw [List.getD,List.getElem?_eq_getElem h]
 exact List.getElem_mem h
theorem vM (sn:List Str) (c:Str):L2.atI (ph (sn++[c])) (-1)=some (.str c):=by
 unfold ph
 rw [List.map_append]
 generalize sn.map V.str=zs
 unfold L2.atI L2.ixN
 rw [List.length_append,if_neg (by decide),if_pos (by show -((zs.length+1:Nat):Int)≤-1;omega)]
 show (zs++[V.str c])[((-1:Int)+((zs.length+1:Nat):Int)).toNat]?=_
 have e:((-1:Int)+((zs.length+1:Nat):Int)).toNat=zs.length:=by omega
 rw [e]
 simp
theorem none_of {H H1:Hp} {a:Addr} (sm:aB H H1) (h:H1 a=none):H a=none:=by
 cases e:H a with
 | none=>rfl
 | some o=>rw [sm _ _ e] at h;cases h
theorem J5 {NW p:Addr} {why:Str} {sn:List Str} {H H1:Hp} {Q:VK} {E:XK} {e:Addr} (q:Mi NW (.no why sn) H Q E) (sm:aB H H1) (h4:H1 p=some (.lst (ph sn))) (ne:H1 e=none):
  Jt NW (V.ref e::[.str why,.ref p]) (upd H1 e (exU e NW)) (fun v H2=>v=.non∧∃dx,H2 e=some (exF e NW dx)∧E (.ref NW) (some dx) (del H2 e)) E0:=by
 refine ⟨e,p,.str why,ph sn,rfl,aj,aF ne _ _ h4,fun dx l H' nd nl ndl keep he hdx hl=>⟨rfl,dx,he,?_⟩⟩
 have nde:dx≠e:=fun z=>by rw [z,aj] at nd;cases nd
 have nle:l≠e:=fun z=>by rw [z,aj] at nl;cases nl
 rw [ak nde] at nd
 rw [ak nle] at nl
 refine q dx l (del H' e) (none_of sm nd) (none_of sm nl) ndl (fun b o hb=>?_) ?_ ?_
 ·have hb1:=sm _ _ hb
  have hbe:b≠e:=fun z=>by rw [z,ne] at hb1;cases hb1
  rw [jb hbe]
  exact keep b o (by rw [ak hbe];exact hb1) hbe
 ·rw [jb nde];exact hdx
 ·rw [jb nle];exact hl
end K1
namespace L3
open PySem PySem.Spec PyProof.Rows L2
end L3
namespace K1
open PySem L2 L3 M1
noncomputable abbrev Row:=Str × Str × Int
noncomputable def r0:Row:=(Str.empty,Str.empty,0)
noncomputable def Ml (C CN NH:Addr):Sp:=fun vs H Q E=>∃(x n t a' b':Addr) (hs:List (List Nat)) (ys:List L2.V) (kvs:DTs) (h g:Str),vs=[.ref x,.str h,.str g]∧f9 C CN H x n t a' b' (txs hs) ys kvs∧Good hs∧Th H (.str h) (.str h)∧Th H (.str g) (.str g)∧
 (dF (hD hs) (.str h) (.str g)=true→∀H',aB H H'→Q ((bD kvs (pk h g)).getD .non) H')∧(dF (hD hs) (.str h) (.str g)=false→∀H',aB H H'→E (.ref NH) none H')
section
variable {P:Program} {w:World} {K:PySem.W.Frag} {mg:Str→Option Value} {base:Heap}
noncomputable abbrev sWy:Stmt:=inClass (top 33) 3
theorem Ql:aH ["self","house","goal"] ["self","house","goal"] (aC sWy):=⟨rfl,rfl,rfl,by decide+kernel,rfl,by decide+kernel,by decide+kernel⟩
theorem Oq {C CN NH f f2:Addr} {fd fd2:FuncData} (F:Fun K "way" "Ways.way" sWy f fd) (WC:oZ K C)
  (bF:Mn K C "need_pair" "Ways.need_pair" sNP ["self","house","goal"] f2 fd2) (bY:aD P w K mg base (CXe P w) 2 f2 fd2 ["self","house","goal"] (Jr C CN NH)):
  aD P w K mg base (CXe P w) 3 f fd ["self","house","goal"] (Ml C CN NH):=by
 have d9:=WC.cl
 refine okE F Ql (fun vs H Q E h=>?_) (fun cdv A outer s H vs Q E hr h=>?_)
 ·obtain ⟨x,n,t,a',b',hs,ys,kvs,h',g',rfl,_⟩:=h
  rfl
 ·obtain ⟨x,n,t,a',b',hs,ys,kvs,h',g',rfl,W,G,hv,hu,q,qE⟩:=h
  obtain ⟨dx,hx⟩:=W.ins
  refine ⟨_,(ao (cg (bL (pv 0) d9 bF.me bY (hr.mono (by decide)) bF.bd .nil mV (aa (pv 1) (aa (pv 2) aq))))
   (az (aU (qd (cQ hr) (bV (pv 0) (by rfl)) (iu (aa (pv 1) (aa (pv 2) aq))) ⟨rfl,rfl,rfl,rfl⟩)))),?_⟩
  refine ⟨_,rfl,x,dx,_,rfl,hx,rfl,_,rfl,_,rfl,x,n,t,a',b',hs,_,kvs,.str h',.str g',.str h',.str g',rfl,W,G,hv,hu,(by show 0≤60;decide),(by show 0≤60;decide),fun hc H1 s1=>?_,qE⟩
  refine ⟨_,rfl,x,C,dx,_,_,rfl,s1 _ _ hx,WC.cl,WC.nt,rfl,t,rfl,.inr ⟨_,.inl (s1 _ _ W.told)⟩,_,rfl,_,rfl,(by show 2≤sizeLine;decide),fun r nr=>?_⟩
  have s3:=aF (o:=.tup [V.str h',V.str g']) nr
  exact ⟨_,fX.t (k:=pk h' g') (s3 _ _ (s1 _ _ W.told)) aj,q hc _ (s1.trans s3)⟩
end
end K1
namespace M4
variable {κ:Type} [DecidableEq κ]
structure Ed (κ:Type) where
 a:κ
 b:κ
 t:Int
inductive Path (rs:List (Ed κ)) (s:κ):κ→Int→Prop
 | nil:Path rs s s 0
 | snoc {v:Int} (e:Ed κ):Path rs s e.a v→e∈rs→Path rs s e.b (v+e.t)
theorem Path.cons {rs:List (Ed κ)} (e:Ed κ) (he:e∈rs) {g:κ} {w:Int} (p:Path rs e.b g w):Path rs e.a g (e.t+w):=by
 induction p with
 | nil=>
  have:=Path.snoc e (Path.nil (rs:=rs) (s:=e.a)) he
  rwa [Int.zero_add,←Int.add_zero e.t] at this
 | snoc f _ hf ih=>
  rw [←Int.add_assoc]
  exact Path.snoc f ih hf
theorem Path.first {rs:List (Ed κ)} {s g:κ} {w:Int} (p:Path rs s g w):(s=g∧w=0)∨∃e∈rs,∃u,e.a=s∧Path rs e.b g u∧w=e.t+u:=by
 induction p with
 | nil=>exact .inl ⟨rfl,rfl⟩
 | @snoc v f _ hf ih=>
  refine .inr ?_
  rcases ih with ⟨rfl,rfl⟩ | ⟨e,he,u,e1,p,rfl⟩
  ·exact ⟨f,hf,0,rfl,.nil,by omega⟩
  ·exact ⟨e,he,u+f.t,e1,.snoc f p hf,by omega⟩
theorem Path.nonneg {rs:List (Ed κ)} (hp:∀e∈rs,1≤e.t) {s g:κ} {w:Int} (p:Path rs s g w):0≤w:=by
 induction p with
 | nil=>exact Int.le_refl _
 | snoc e _ he ih=>have:=hp e he;omega
structure Least (rs:List (Ed κ)) (s:κ) (d:κ→Option Int):Prop where
 path:∀k v,d k=some v→Path rs s k v
 least:∀k w,Path rs s k w→∃v,d k=some v∧v≤w
structure Mid (rs:List (Ed κ)) (s:κ) (ns:List κ) (d:κ→Option Int):Prop where
 start:d s=some 0
 path:∀k v,d k=some v→Path rs s k v
 few:∀k v,d k=some v→v < 9 * (ns.countP fun k=>(d k).isSome)
noncomputable def ok (d:κ→Option Int) (e:Ed κ):Prop:=∀v,d e.a=some v→∃u,d e.b=some u∧u≤v+e.t
theorem Mid.done {rs:List (Ed κ)} {s:κ} {ns:List κ} {d:κ→Option Int} (m:Mid rs s ns d) (h:∀e∈rs,ok d e):Least rs s d:=by
 refine ⟨m.path,fun k w p=>?_⟩
 induction p with
 | nil=>exact ⟨0,m.start,Int.le_refl _⟩
 | snoc e _ he ih=>
  obtain ⟨v,h1,h2⟩:=ih
  obtain ⟨u,h3,h4⟩:=h e he v h1
  exact ⟨u,h3,by omega⟩
noncomputable def put (d:κ→Option Int) (b:κ) (v:Int):κ→Option Int:=fun k=>if k=b then some v else d k
theorem count_le {p q:κ→Bool} (h:∀k,p k=true→q k=true):∀ns:List κ,ns.countP p≤ns.countP q
 | []=>by simp
 | k::r=>by
  have ih:=count_le h r
  simp only [List.countP_cons]
  have:=h k
  split <;> split <;> simp_all <;> omega
theorem count_lt {p q:κ→Bool} (h:∀k,p k=true→q k=true) {b:κ} (h1:p b=false) (h2:q b=true):∀{ns:List κ},b∈ns→ns.countP p < ns.countP q
 | [],z=>by simp at z
 | k::r,z=>by
  simp only [List.countP_cons]
  by_cases e:k=b
  ·subst e
   have:=count_le h r
   simp [h1,h2]
   omega
  ·have ih:=count_lt h h1 h2 (ns:=r) (by rcases List.mem_cons.mp z with z | z;exact absurd z.symm e;exact z)
   have:=h k
   split <;> split <;> simp_all <;> omega
theorem FN {f g:κ→Nat} (h:∀k,f k≤g k):∀ns:List κ,(ns.map f).sum≤(ns.map g).sum
 | []=>by simp
 | k::r=>by
  have:=FN h r
  have:=h k
  simp only [List.map_cons,List.sum_cons]
  omega
theorem FP {f g:κ→Nat} (h:∀k,f k≤g k) {b:κ} (h1:f b < g b):∀{ns:List κ},b∈ns→(ns.map f).sum < (ns.map g).sum
 | [],z=>by simp at z
 | k::r,z=>by
  simp only [List.map_cons,List.sum_cons]
  by_cases e:k=b
  ·subst e
   have:=FN h r
   omega
  ·have ih:=FP h h1 (ns:=r) (by rcases List.mem_cons.mp z with z | z;exact absurd z.symm e;exact z)
   have:=h k
   omega
noncomputable def val (n:Nat):Option Int→Nat
 | none=>n
 | some v=>v.toNat
noncomputable def mu (ns:List κ) (d:κ→Option Int):Nat:=(ns.map fun k=>val (9 * ns.length) (d k)).sum
theorem Mid.put {rs:List (Ed κ)} {s:κ} {ns:List κ} {d:κ→Option Int} (m:Mid rs s ns d) (hp:∀e∈rs,1≤e.t∧e.t≤9) {e:Ed κ} (he:e∈rs) (hb:e.b∈ns) {v:Int} (ha:d e.a=some v) (hs:∀u,d e.b=some u→v+e.t < u):
  Mid rs s ns (put d e.b (v+e.t))∧mu ns (M4.put d e.b (v+e.t)) < mu ns d:=by
 have hv:0≤v:=(m.path _ _ ha).nonneg fun e he=>(hp e he).1
 have ht:=hp e he
 have pth:∀k w,M4.put d e.b (v+e.t) k=some w→Path rs s k w:=fun k w h=>by
  unfold M4.put at h
  split at h
  ·rename_i q
   cases h
   rw [q]
   exact .snoc e (m.path _ _ ha) he
  ·exact m.path k w h
 have hm:∀k,(d k).isSome=true→(M4.put d e.b (v+e.t) k).isSome=true:=fun k h=>by
  unfold M4.put
  split
  ·rfl
  ·exact h
 have few:∀k w,M4.put d e.b (v+e.t) k=some w→w < 9 * (ns.countP fun k=>(M4.put d e.b (v+e.t) k).isSome):=fun k w h=>by
  have hle:=count_le hm ns
  by_cases q:k=e.b
  ·have h':w=v+e.t:=by
    unfold M4.put at h
    rw [if_pos q] at h
    exact (Option.some.inj h).symm
   have hva:=m.few _ _ ha
   cases hd:d e.b with
   | some u=>
    have:=hs u hd
    have:=m.few _ _ hd
    omega
   | none=>
    have hlt:ns.countP (fun k=>(d k).isSome) < ns.countP fun k=>(M4.put d e.b (v+e.t) k).isSome:=count_lt hm (b:=e.b) (by rw [hd];rfl) (by unfold M4.put;rw [if_pos rfl];rfl) hb
    omega
  ·have h':d k=some w:=by
    unfold M4.put at h
    rwa [if_neg q] at h
   have:=m.few k w h'
   omega
 refine ⟨⟨?_,pth,few⟩,?_⟩
 ·unfold M4.put
  split
  ·rename_i q
   rw [←q] at hs
   have:=hs 0 m.start
   omega
  ·exact m.start
 ·have hc:ns.countP (fun k=>(M4.put d e.b (v+e.t) k).isSome)≤ns.length:=List.countP_le_length
  have hn:=few e.b (v+e.t) (by unfold M4.put;rw [if_pos rfl])
  have lt:val (9 * ns.length) (M4.put d e.b (v+e.t) e.b) < val (9 * ns.length) (d e.b):=by
   have e1:M4.put d e.b (v+e.t) e.b=some (v+e.t):=by unfold M4.put;rw [if_pos rfl]
   have hz:((v+e.t).toNat:Int)=v+e.t:=Int.toNat_of_nonneg (by omega)
   rw [e1]
   cases hd:d e.b with
   | some u=>
    have:=hs u hd
    show (v+e.t).toNat < u.toNat
    omega
   | none=>
    show (v+e.t).toNat < 9 * ns.length
    omega
  refine FP (fun k=>?_) (b:=e.b) lt hb
  by_cases q:k=e.b
  ·subst q
   exact Nat.le_of_lt lt
  ·have e2:M4.put d e.b (v+e.t) k=d k:=by unfold M4.put;rw [if_neg q]
   rw [e2]
   exact Nat.le_refl _
theorem Mid.begin {rs:List (Ed κ)} {s:κ} {ns:List κ} (hs:s∈ns):Mid rs s ns (fun k=>if k=s then some 0 else none):=by
 refine ⟨by simp,fun k v h=>?_,fun k v h=>?_⟩
 ·split at h
  ·rename_i q
   cases h
   rw [q]
   exact .nil
  ·cases h
 ·split at h
  ·cases h
   have:0 < ns.countP fun k=>((if k=s then some (0:Int) else none).isSome):=List.countP_pos_iff.mpr ⟨s,hs,by simp⟩
   omega
  ·cases h
structure Fars (rs:List (Ed κ)) (f:κ→Option Int) (g:κ):Prop where
 path:∀k v,f k=some v→Path rs k g v
 least:∀k w,Path rs k g w→∃v,f k=some v∧v≤w
section
variable {rs:List (Ed κ)} {f:κ→Option Int} {g:κ} (F:Fars rs f g) (hp:∀e∈rs,1≤e.t)
include F
theorem Fars.back {e:Ed κ} (he:e∈rs) {u:Int} (h:f e.b=some u):∃v,f e.a=some v∧v≤u+e.t:=by
 obtain ⟨v,h1,h2⟩:=F.least _ _ (Path.cons e he (F.path _ _ h))
 exact ⟨v,h1,by omega⟩
include hp in
theorem Fars.goal:f g=some 0:=by
 obtain ⟨v,h1,h2⟩:=F.least g 0 .nil
 have:=(F.path _ _ h1).nonneg hp
 rw [h1]
 congr 1
 omega
include hp in
theorem Fars.other {k:κ} {v:Int} (hk:k≠g) (h:f k=some v):1≤v∧∃e∈rs,∃u,e.a=k∧f e.b=some u∧v=u+e.t:=by
 rcases (F.path _ _ h).first with ⟨e,_⟩ | ⟨e,he,u,rfl,p,rfl⟩
 ·exact absurd e hk
 ·have h1:=p.nonneg hp
  have h2:=hp e he
  obtain ⟨u',h3,h4⟩:=F.least _ _ p
  obtain ⟨v',h5,h6⟩:=F.back he h3
  rw [h] at h5
  cases h5
  exact ⟨by omega,e,he,u',rfl,h3,by omega⟩
end
theorem Path.min {rs:List (Ed κ)} (hp:∀e∈rs,1≤e.t) {s g:κ}:∀(n:Nat) (w:Int),w.toNat=n→Path rs s g w→∃v,Path rs s g v∧(∀u,Path rs s g u→v≤u):=by
 intro n
 induction n using Nat.strongRecOn with
 | _ n ih=>
  intro w hw p
  by_cases h:∃u,Path rs s g u∧u < w
  ·obtain ⟨u,pu,hu⟩:=h
   have h1:=pu.nonneg hp
   exact ih u.toNat (by omega) u rfl pu
  ·refine ⟨w,p,fun u pu=>?_⟩
   by_cases q:w≤u
   ·exact q
   ·exact absurd ⟨u,pu,by omega⟩ h
open Classical in
noncomputable def dist (rs:List (Ed κ)) (s g:κ):Option Int:=if h:∃v,Path rs s g v∧∀u,Path rs s g u→v≤u then some (Classical.choose h) else none
theorem dist_of {rs:List (Ed κ)} {s:κ} {d:κ→Option Int} (L:Least rs s d) (g:κ):d g=dist rs s g:=by
 unfold dist
 cases hd:d g with
 | some v=>
  have p:=L.path g v hd
  have mn:∀u,Path rs s g u→v≤u:=fun u pu=>by
   obtain ⟨v',h1,h2⟩:=L.least g u pu
   rw [hd] at h1
   cases h1
   exact h2
  have h:∃v,Path rs s g v∧∀u,Path rs s g u→v≤u:=⟨v,p,mn⟩
  rw [dif_pos h]
  have c:=Classical.choose_spec h
  congr 1
  have a:=mn _ c.1
  have b:=c.2 _ p
  omega
 | none=>
  have h:¬∃v,Path rs s g v∧∀u,Path rs s g u→v≤u:=fun ⟨v,p,_⟩=>by
   obtain ⟨v',h1,_⟩:=L.least g v p
   rw [hd] at h1
   cases h1
  rw [dif_neg h]
theorem fars {rs:List (Ed κ)} (hp:∀e∈rs,1≤e.t) (g:κ):Fars rs (fun k=>dist rs k g) g:=by
 refine ⟨fun k v h=>?_,fun k w p=>?_⟩
 ·unfold dist at h
  split at h
  ·rename_i q
   cases h
   exact (Classical.choose_spec q).1
  ·cases h
 ·have q:=p.min hp _ _ rfl
  show ∃v,dist rs k g=some v∧v≤w
  unfold dist
  rw [dif_pos q]
  exact ⟨_,rfl,(Classical.choose_spec q).2 _ p⟩
end M4
namespace K1
open PySem L2 L3 M1
noncomputable def ed (hs:List (List Nat)) (d:M1.Rd):M4.Ed Str:=⟨S (hs.getD d.a []),S (hs.getD d.b []),d.t⟩
noncomputable def eds (hs:List (List Nat)) (ds:List M1.Rd):List (M4.Ed Str):=ds.map (ed hs)
structure Tab (kvs:List (Key × L2.V)) (D:Str→Option Int):Prop where
 at_:∀k:Str,bD kvs (Sum.inr k:Key)=(D k).map V.int
 ks:∀kv∈kvs,∃k:Str,kv.1=(Sum.inr k:Key)
theorem Ju {kvs:List (Key × L2.V)} (h:∀kv∈kvs,∃k:Str,kv.1=(Sum.inr k:Key)) (b:Str) (v:L2.V):∀kv∈putK kvs (Sum.inr b:Key) v,∃k:Str,kv.1=(Sum.inr k:Key):=by
 intro kv hk
 unfold putK at hk
 split at hk
 ·obtain ⟨q,hq,e⟩:=List.mem_map.mp hk
  obtain ⟨k,ek⟩:=h q hq
  split at e
  ·exact ⟨k,by rw [←e];exact ek⟩
  ·exact ⟨k,by rw [←e];exact ek⟩
 ·rcases List.mem_append.mp hk with z | z
  ·exact h kv z
  ·exact ⟨b,by rw [List.mem_singleton.mp z]⟩
theorem Tab.put {kvs:List (Key × L2.V)} {D:Str→Option Int} (T:Tab kvs D) (b:Str) (v:Int):Tab (putK kvs (Sum.inr b:Key) (.int v)) (M4.put D b v):=⟨fun k=>by
 rw [jU]
 unfold M4.put
 by_cases h:k=b
 ·rw [if_pos h,if_pos (congrArg Sum.inr h)]
  rfl
 ·rw [if_neg h,if_neg fun z=>h (Sum.inr.inj z)]
  exact T.at_ k,Ju T.ks b _⟩
theorem qM {κ:Type} [DecidableEq κ] {kvs:List (κ × L2.V)} {k:κ} {u:L2.V} (v:L2.V) (h:bD kvs k=some u):(putK kvs k v).length=kvs.length:=by
 unfold putK
 rw [if_pos (by rw [du,h];rfl),List.length_map]
noncomputable def shorter (D:Str→Option Int) (e:M4.Ed Str):Bool:=match D e.a with
 | none=>false
 | some v=>match D e.b with
  | none=>true
  | some u=>decide (v+e.t < u)
theorem uO {D:Str→Option Int} {e:M4.Ed Str} (h:shorter D e=true):∃v,D e.a=some v∧∀u,D e.b=some u→v+e.t < u:=by
 unfold shorter at h
 cases ha:D e.a with
 | none=>rw [ha] at h;cases h
 | some v=>
  rw [ha] at h
  refine ⟨v,rfl,fun u hu=>?_⟩
  rw [hu] at h
  exact of_decide_eq_true h
theorem rP {D:Str→Option Int} {e:M4.Ed Str} (h:shorter D e=false):M4.ok D e:=by
 intro v ha
 unfold shorter at h
 rw [ha] at h
 cases hb:D e.b with
 | none=>rw [hb] at h;cases h
 | some u=>
  rw [hb] at h
  exact ⟨u,rfl,by have:=of_decide_eq_false h;omega⟩
noncomputable def uP:Sp:=fun vs H Q _=>∃(r f:Addr) (hs:List (List Nat)) (d:M1.Rd) (kvs:List (Key × L2.V)) (D:Str→Option Int),vs=[.ref r,.ref f]∧H r=some (.tup (rdV hs d))∧H f=some (.dK kvs)∧Tab kvs D∧Q (.bl (shorter D (ed hs d))) H
noncomputable def uQ (K:PySem.W.Frag):Sp:=fun vs H Q _=>∃(b:Addr) (hs:List (List Nat)) (rs:List Addr) (ds:List M1.Rd) (h:Str),vs=[.ref b,.str h]∧SqL K H b (refs rs)∧bI H hs rs ds∧hs.length≤12∧h∈hs.map S∧
 ∀(p:Addr) (H':Hp) (kvs:List (Key × L2.V)) (D:Str→Option Int),H p=none→aB H H'→H' p=some (.dK kvs)→Tab kvs D→M4.Least (eds hs ds) h D→Q (.ref p) H'
section
variable {P:Program} {w:World} {K:PySem.W.Frag} {mg:Str→Option Value} {base:Heap}
noncomputable abbrev qN:Stmt:=top 29
noncomputable abbrev qO:Stmt:=top 30
theorem Jv:aH ["road","found"] ["road","found"] (aC qN):=⟨rfl,rfl,rfl,by decide+kernel,rfl,by decide+kernel,by decide+kernel⟩
theorem lu:aH ["roads","house","found","changed","road"] ["roads","house"] (aC qO):=⟨rfl,rfl,rfl,by decide+kernel,rfl,by decide+kernel,by decide+kernel⟩
theorem FQ {f:Addr} {fd:FuncData} (F:Fun K "is_shorter_by" "is_shorter_by" qN f fd):aD P w K mg base CX0 1 f fd ["road","found"] uP:=by
 refine F.ok Jv (fun vs H Q E h=>?_) (fun cdv A outer s H vs Q E hr h=>?_)
 ·obtain ⟨r,f',hs,d,kvs,D,rfl,_⟩:=h
  rfl
 ·obtain ⟨r,f',hs,d,kvs,D,rfl,hR,hf,T,q⟩:=h
  refine ⟨_,(ao (cI (uc (kY (cQ hr) (aK aP (pv 0) au (fun _ _=>rfl)) (pv 1))) (az (aU jK)) bw)
   (az (aU (Nf (CQ (kY (cQ hr) (aK aP (pv 0) au (fun _ _=>rfl)) (pv 1))) (jy (c7 vI (aM cu (d8 (cQ hr) (pv 1) (aK aP (pv 0) au (fun _ _=>rfl)) (fun _ _=>rfl)) (aK aP (pv 0) au (fun _ _=>rfl))) (d8 (cQ hr) (pv 1) (aK aP (pv 0) au (fun _ _=>rfl)) (fun _ _=>rfl)) (bG _))))))),?_⟩
  have ra:=T.at_ (S (hs.getD d.a []))
  have rb:=T.at_ (S (hs.getD d.b []))
  have ga:=fX.k (k:=Sum.inr (S (hs.getD d.a []))) hf
  have gb:=fX.k (k:=Sum.inr (S (hs.getD d.b []))) hf
  rw [ra] at ga
  rw [rb] at gb
  unfold shorter at q
  have ea:(ed hs d).a=S (hs.getD d.a []):=rfl
  have eb:(ed hs d).b=S (hs.getD d.b []):=rfl
  rw [ea,eb] at q
  refine ⟨_,rfl,r,_,_,_,rfl,rfl,SqT.of hR,rfl,_,rfl,f',_,rfl,ga,_,rfl,?_⟩
  cases ha:D (S (hs.getD d.a [])) with
  | none=>
   rw [ha] at q
   exact jR q
  | some v=>
   rw [ha] at q ga
   refine lQ ?_
   refine ⟨_,rfl,r,_,_,_,rfl,rfl,SqT.of hR,rfl,_,rfl,f',_,rfl,gb,_,rfl,?_⟩
   cases hb:D (S (hs.getD d.b [])) with
   | none=>
    rw [hb] at q
    exact jR q
   | some u=>
    rw [hb] at q gb
    refine lQ ?_
    exact ⟨_,rfl,_,rfl,r,_,_,_,rfl,rfl,SqT.of hR,rfl,f',_,rfl,ga,_,rfl,r,_,_,_,rfl,rfl,SqT.of hR,rfl,_,_,rfl,rfl,_,rfl,_,rfl,r,_,_,_,rfl,rfl,SqT.of hR,rfl,f',_,rfl,gb,_,_,rfl,rfl,q⟩
theorem FT {f fs:Addr} {fd fds:FuncData} (F:Fun K "least_turns_from" "least_turns_from" qO f fd) (cV:Dn K mg "is_shorter_by" qN ["road","found"] fs fds) (gM:aD P w K mg base CX0 1 fs fds ["road","found"] uP):
  aD P w K mg base CX0 2 f fd ["roads","house"] (uQ K):=by
 refine F.ok lu (fun vs H Q E h=>?_) (fun cdv A outer s H vs Q E hr h=>?_)
 ·obtain ⟨b,hs,rs,ds,h',rfl,_⟩:=h
  rfl
 ·obtain ⟨b,hs,rs,ds,h',rfl,hb,hR,few,hm,q⟩:=h
  refine ⟨_,(ao (aL (i:=2) lu.nd rfl (Or.inl rfl) (zF (vY (pv 1) au zE) rfl rfl (by intro z;cases z) (by decide)))
   (ao (aL (i:=3) lu.nd rfl (Or.inl rfl) jK)
   (ao (pR PassesOwn.never (iU (pv 3))
    (ao (aL (i:=3) lu.nd rfl (Or.inl rfl) jK)
   (az (dI PassesOwn.never rfl (bC (pv 0)) (aJ (i:=4) lu.nd rfl (Or.inl rfl))
    (az (cI (iU (bc gM (hr.mono (by decide)) (by rfl) cV.at_ cV.fn.kp cV.bd .nil bh (aa (pv 4) (aa (pv 2) aq)))) (ao (pC (cQ hr) (pv 2) (aK aP (pv 4) au (fun _ _=>rfl)) (aM cu (d8 (cQ hr) (pv 2) (aK aP (pv 4) au (fun _ _=>rfl)) (fun _ _=>rfl)) (aK aP (pv 4) au (fun _ _=>rfl))) rfl)
   (az (aL (i:=3) lu.nd rfl (Or.inl rfl) jK))) bw))))))
   (az (aU (pv 2)))))),?_⟩
  have he9:∀e∈eds hs ds,1≤e.t∧e.t≤9:=fun e he=>by
   obtain ⟨d,hd,rfl⟩:=List.mem_map.mp he
   exact (hR.ok d hd).t
  refine fun p hp=>⟨_,rfl,aj,[(Sum.inr h',.int 0)],rfl,(by show 1≤15;decide),?_⟩
  have e0:upd (upd H p (.dK [])) p (.dK (lU [] [((Sum.inr h':Key),V.int 0)]))=upd H p (.dK [((Sum.inr h':Key),V.int 0)]):=by
   rw [t7]
   rfl
  rw [e0]
  have s0:aB H (upd H p (.dK [((Sum.inr h':Key),V.int 0)])):=aF hp
  have T0:Tab [((Sum.inr h':Key),V.int 0)] (fun k=>if k=h' then some 0 else none):=⟨fun k=>by
   by_cases z:k=h'
   ·rw [cz (congrArg Sum.inr z.symm),if_pos z]
    rfl
   ·rw [b7 fun y=>z (Sum.inr.inj y).symm,if_neg z]
    rfl,fun kv hk=>⟨h',by rw [List.mem_singleton.mp hk]⟩⟩
  have m0:M4.Mid (eds hs ds) h' (hs.map S) (fun k=>if k=h' then some 0 else none):=M4.Mid.begin hm
  have c0:0 < (hs.map S).countP fun k=>((if k=h' then some (0:Int) else none).isSome):=List.countP_pos_iff.mpr ⟨h',hm,by simp⟩
  refine ⟨fun m σ Hc=>∃(kvs:List (Key × L2.V)) (D:Str→Option Int) (ch:Bool) (vr:Option L2.V),σ=[some (.ref b),some (.str h'),some (.ref p),some (.bl ch),vr]∧aB H Hc∧Hc p=some (.dK kvs)∧Tab kvs D∧
   kvs.length≤(hs.map S).countP (fun k=>(D k).isSome)∧M4.Mid (eds hs ds) h' (hs.map S) D∧(ch=false→∀e∈eds hs ds,M4.ok D e)∧m=2 * M4.mu (hs.map S) D+(if ch=true then 1 else 0),
   ⟨_,_,_,true,none,rfl,s0,aj,T0,c0,m0,fun z=>(nomatch z),rfl⟩,?_⟩
  rintro m σ Hc ⟨kvs,D,ch,vr,rfl,sm,hk,T,len,mid,hok,rfl⟩
  refine ⟨_,rfl,_,rfl,?_⟩
  cases ch with
  | false=>exact lQ ⟨_,rfl,q p Hc kvs D hp sm hk T (mid.done (hok rfl))⟩
  | true=>
   refine jR ⟨fun σ' Hd=>∃(kvs':List (Key × L2.V)) (D':Str→Option Int) (ch':Bool) (vr':Option L2.V),σ'=[some (.ref b),some (.str h'),some (.ref p),some (.bl ch'),vr']∧aB H Hd∧Hd p=some (.dK kvs')∧Tab kvs' D'∧
    kvs'.length≤(hs.map S).countP (fun k=>(D' k).isSome)∧M4.Mid (eds hs ds) h' (hs.map S) D'∧((ch'=false∧D'=D∧∀e∈eds hs ds,M4.ok D' e)∨(ch'=true∧M4.mu (hs.map S) D' < M4.mu (hs.map S) D)),?_,?_⟩
   ·rintro σ' Hd ⟨kvs',D',ch',vr',rfl,sm',hk',T',len',mid',hor⟩
    refine ⟨_,?_,kvs',D',ch',vr',rfl,sm',hk',T',len',mid',?_,rfl⟩
    ·rcases hor with ⟨rfl,rfl,_⟩ | ⟨rfl,hlt⟩
     ·simp
     ·simp
      omega
    ·rintro rfl
     rcases hor with ⟨_,_,ho⟩ | ⟨z,_⟩
     ·exact ho
     ·cases z
   ·refine ⟨_,rfl,b,rfl,⟨_,sm.seq hb⟩,?_⟩
    refine dJ (xs:=refs rs) (fun i σ' Hd=>∃(kvs':List (Key × L2.V)) (D':Str→Option Int) (ch':Bool) (vr':Option L2.V),σ'=[some (.ref b),some (.str h'),some (.ref p),some (.bl ch'),vr']∧aB H Hd∧Hd p=some (.dK kvs')∧Tab kvs' D'∧
     kvs'.length≤(hs.map S).countP (fun k=>(D' k).isSome)∧M4.Mid (eds hs ds) h' (hs.map S) D'∧((ch'=false∧D'=D∧∀j d,j < i→ds[j]?=some d→M4.ok D' (ed hs d))∨(ch'=true∧M4.mu (hs.map S) D' < M4.mu (hs.map S) D)))
     ⟨kvs,D,false,vr,rfl,sm,hk,T,len,mid,.inl ⟨rfl,rfl,fun j d hj _=>absurd hj (Nat.not_lt_zero _)⟩⟩ ?_ ?_ ?_
    ·rintro i σ' Hd hi ⟨kvs',D',ch',vr',rfl,sm',_⟩
     exact sm'.seq hb
    ·rintro i z σ' Hd ez ⟨kvs',D',ch',vr',rfl,sm',hk',T',len',mid',hor⟩
     unfold refs at ez
     rw [List.getElem?_map] at ez
     obtain ⟨r,er,rfl⟩:=Option.map_eq_some_iff.mp ez
     obtain ⟨d,edd,okd,hd⟩:=hR.get er
     have hmem:ed hs d∈eds hs ds:=List.mem_map.mpr ⟨d,List.mem_of_getElem? edd,rfl⟩
     refine ⟨_,rfl,_,rfl,r,p,hs,d,kvs',D',rfl,sm' _ _ hd,hk',T',_,rfl,?_⟩
     cases hsh:shorter D' (ed hs d) with
     | false=>
      refine lQ ⟨kvs',D',ch',_,rfl,sm',hk',T',len',mid',?_⟩
      rcases hor with ⟨rfl,rfl,ho⟩ | hor
      ·refine .inl ⟨rfl,rfl,fun j d' hj ej=>?_⟩
       by_cases hji:j=i
       ·subst hji
        rw [edd] at ej
        cases ej
        exact rP hsh
       ·exact ho j d' (by omega) ej
      ·exact .inr hor
     | true=>
      obtain ⟨v,ha,hs'⟩:=uO hsh
      have ha':D' (S (hs.getD d.a []))=some v:=ha
      obtain ⟨mid2,hlt⟩:=mid'.put he9 hmem (eZ okd.b) ha hs'
      have ga:=fX.k (k:=Sum.inr (S (hs.getD d.a []))) hk'
      rw [T'.at_,ha'] at ga
      have hcl:(hs.map S).countP (fun k=>(D' k).isSome)≤(hs.map S).length:=List.countP_le_length
      rw [List.length_map] at hcl
      have hrt:=sm' _ _ hd
      refine jR ?_
      refine ⟨_,rfl,_,rfl,r,_,_,_,rfl,rfl,SqT.of hrt,rfl,p,_,rfl,ga,_,rfl,r,_,_,_,rfl,rfl,SqT.of hrt,rfl,_,_,rfl,rfl,_,rfl,_,rfl,r,_,_,_,rfl,rfl,SqT.of hrt,rfl,p,_,rfl,p8.k (k:=Sum.inr (S (hs.getD d.b []))) hk' (aG (by omega)),?_⟩
      refine ⟨_,M4.put D' (ed hs d).b (v+(ed hs d).t),true,_,rfl,aY hp sm',aj,T'.put _ _,?_,mid2,.inr ⟨rfl,?_⟩⟩
      ·cases hb':D' (S (hs.getD d.b [])) with
       | none=>
        have e1:(putK kvs' (Sum.inr (S (hs.getD d.b [])):Key) (V.int (v+d.t))).length=kvs'.length+1:=by
         rw [jh _ (by rw [T'.at_,hb'];rfl),List.length_append]
         rfl
        have e2:(hs.map S).countP (fun k=>(D' k).isSome) < (hs.map S).countP (fun k=>(M4.put D' (ed hs d).b (v+(ed hs d).t) k).isSome):=
         M4.count_lt (b:=S (hs.getD d.b [])) (fun k hk=>by unfold M4.put;split;rfl;exact hk) (by rw [hb'];rfl) (by unfold M4.put;rw [if_pos (show S (hs.getD d.b [])=(ed hs d).b from rfl)];rfl) (eZ okd.b)
        exact Nat.le_trans (Nat.le_of_eq e1) (by omega)
       | some u=>
        have e1:(putK kvs' (Sum.inr (S (hs.getD d.b [])):Key) (V.int (v+d.t))).length=kvs'.length:=qM _ (by rw [T'.at_,hb'];rfl)
        have e2:(hs.map S).countP (fun k=>(D' k).isSome)≤(hs.map S).countP (fun k=>(M4.put D' (ed hs d).b (v+(ed hs d).t) k).isSome):=
         M4.count_le (fun k hk=>by unfold M4.put;split;rfl;exact hk) _
        exact Nat.le_trans (Nat.le_of_eq e1) (by omega)
      ·rcases hor with ⟨_,rfl,_⟩ | ⟨_,h2⟩
       ·exact hlt
       ·exact Nat.lt_trans hlt h2
    ·rintro σ' Hd ⟨kvs',D',ch',vr',rfl,sm',hk',T',len',mid',hor⟩
     refine ⟨kvs',D',ch',vr',rfl,sm',hk',T',len',mid',?_⟩
     rcases hor with ⟨rfl,rfl,ho⟩ | hor
     ·refine .inl ⟨rfl,rfl,fun e he=>?_⟩
      obtain ⟨d,hd,rfl⟩:=List.mem_map.mp he
      obtain ⟨j,hj⟩:=List.getElem?_of_mem hd
      refine ho j d ?_ hj
      have h1:=(List.getElem?_eq_some_iff.mp hj).1
      have h2:=hR.len
      rw [aN]
      omega
     ·exact .inr hor
end
end K1
namespace L3
open PySem PySem.Spec PyProof.Rows L2
section
variable {X:Cx}
noncomputable def Qm (ts:TS):TS:=fun D σ H=>∃a kvs,H a=some (.dK kvs)∧∀o,ts ⟨fun σ' H'=>H' a=some (.frz o (.dK kvs))∧D.nx σ' (upd H' a (.dK kvs)),fun v H'=>H' a=some (.frz o (.dK kvs))∧D.rt v (upd H' a (.dK kvs)),fun σ' H'=>H' a=some (.frz o (.dK kvs))∧D.bk σ' (upd H' a (.dK kvs)),fun σ' H'=>H' a=some (.frz o (.dK kvs))∧D.ct σ' (upd H' a (.dK kvs))⟩ σ (upd H a (.frz o (.dK kvs)))
theorem Mm {st:Stmt} {ts:TS} (hs:PS X st ts):PS X st (Qm ts):=by
 intro pins s σ H D I h
 obtain ⟨a,kvs,ha,h⟩:=h
 have f1:∀xs,X.H₀ a≠some (.tup xs):=fun xs z=>by have:=I.base.tups a xs z;rw [ha] at this;cases this
 have f2:∀o v,X.H₀ a≠some (.frz o v):=fun o v z=>by have:=I.base.frzs a o v z;rw [ha] at this;cases this
 have f3:∀ps,X.H₀ a≠some (.tbl ps):=fun ps z=>by obtain ⟨m,e⟩:=I.base.tbls a ps z;rw [ha] at e;cases e
 have ok:=I.hok a _ ha
 obtain ⟨z,y,vs,rel,o,es,ep,e,c⟩:=id ok
 have I1:Inv X pins σ (upd H a (.frz o (.dK kvs))) s:=Fq I ha (by intro _ w;cases w) (by intro _ w;cases w) ⟨e,z,y,vs,rel,o,es,ep,e,c⟩ f1 f2 f3
 have back:∀{σ':L2.St} {H':Hp} {s':Shared},Inv X pins σ' H' s'→H' a=some (.frz o (.dK kvs))→Inv X pins σ' (upd H' a (.dK kvs)) s':=fun {σ' H' s'} I2 ha1=>by
  obtain ⟨e1,z1,y1,vs1,rel1,o1,es1,ep1,e2,c1⟩:=I2.hok a _ ha1
  exact Fq I2 (u':=.dK kvs) ha1 (by intro _ w;cases w) (by intro _ w;cases w) ⟨z1,y1,vs1,rel1,o1,es1,ep1,e2,c1⟩ f1 f2 f3
 refine thn (hs pins s σ _ _ I1 (h o)) fun f s1 q=>?_
 cases f with
 | next=>
  obtain ⟨σ',H',I2,ha1,q⟩:=q
  exact ⟨σ',_,back I2 ha1,q⟩
 | brk=>
  obtain ⟨σ',H',I2,ha1,q⟩:=q
  exact ⟨σ',_,back I2 ha1,q⟩
 | cont=>
  obtain ⟨σ',H',I2,ha1,q⟩:=q
  exact ⟨σ',_,back I2 ha1,q⟩
 | ret v=>
  obtain ⟨σ',x,H',I2,rv,ha1,q⟩:=q
  exact ⟨σ',x,_,back I2 ha1,rv,q⟩
end
noncomputable def FW (a:Addr) (o:Obj) (kvs:List (Key × V)):It:=
 ⟨fun i H=>H a=some (.frz o (.dK kvs))∧i < kvs.length,fun i H v H'=>H'=H∧∃k x,v=kV k∧kvs[i]?=some (k,x),fun i H=>H a=some (.frz o (.dK kvs))∧kvs.length≤i⟩
theorem uR {P:Program} {w:World} {H:Hp} {h:Heap} {a:Addr} {o:Obj} {kvs:List (Key × V)} (ok:HOk P w H h) (ha:H a=some (.frz o (.dK kvs))):h.get? a=some o∧(a==sysModules)=false∧o.ExactDict∧∃es ep,o.data=.dict es ep∧es.size=kvs.length∧
  ∀(i:Nat) (k:Key) (x:V),kvs[i]?=some (k,x)→∃hi:i < es.size,RelV (kV k) es[i].key:=by
 obtain ⟨e0,_,y,vs,rel,o',es,ep,e1,hx,hd,_,pr,_⟩:=ok a _ ha
 rw [e0] at e1
 cases e1
 have gen:∀{kvs:List (Key × V)} {ys:List (Key × Value)} {el:List DictEntry},KV kvs ys→Pairs (bH P w) el ys→el.length=kvs.length∧∀(i:Nat) (k:Key) (x:V),kvs[i]?=some (k,x)→∃e,el[i]?=some e∧RelV (kV k) e.key:=by
  intro kvs ys el rel pr
  induction pr generalizing kvs with
  | nil=>
   cases rel
   exact ⟨rfl,fun i k x e=>by simp at e⟩
  | @cons e kv el ys h1 h2 t ih=>
   cases rel with
   | @cons p q ps qs a b=>
    obtain ⟨l,f⟩:=ih b
    refine ⟨by rw [List.length_cons,List.length_cons,l],fun i k x ei=>?_⟩
    cases i with
    | zero=>
     simp only [List.getElem?_cons_zero,Option.some.injEq] at ei
     refine ⟨e,rfl,?_⟩
     have e1:kv.1=k:=by rw [←a.1,ei]
     rw [e1] at h1
     rcases bW (show pP k e.key=true from h1) with ⟨n,t,rfl,ek⟩ | ⟨n,t,rfl,ek⟩
     ·exact ⟨t,ek⟩
     ·exact ⟨t,ek⟩
    | succ i=>exact f i k x (by simpa using ei)
 obtain ⟨l,f⟩:=gen rel pr
 refine ⟨e0,y,hx,es,ep,hd,by simpa using l,fun i k x hi=>?_⟩
 obtain ⟨e,ee,r⟩:=f i k x hi
 obtain ⟨h1,h2⟩:=List.getElem?_eq_some_iff.mp ee
 have h1':i < es.size:=by simpa using h1
 refine ⟨h1',?_⟩
 have:es[i]=e:=by simpa using h2
 rw [this]
 exact r
theorem yQ {P:Program} {w:World} {K:PySem.W.Frag} {tg:Expr} {o:Obj} {kvs:List (Key × V)} {es:Array DictEntry} {ep:Nat} (a it:Addr) (hd:o.data=.dict es ep):
  Turn P w K tg (FW a o kvs) [it] it (fun i h=>h.IsKeyIter it a i es.size ep) where
 mem:=by simp
 obj:=fun i h st b hb=>by
  obtain rfl:b=it:=by simpa using hb
  obtain ⟨o,e,c,d⟩:=st
  exact ⟨o,e,fun v z=>by rw [d] at z;cases z⟩
 keep:=fun i h h' st k=>by
  obtain ⟨o,e,r⟩:=st
  exact ⟨o,k it (by simp) o e,r⟩
 item:=by
  intro X hP hw hK hc i pins s σ H E I hf st hg
  subst hP hw hK
  obtain ⟨ha,hi⟩:=hg
  obtain ⟨go,_,gx,es',ep',gd,gs,ge⟩:=uR I.hok ha
  rw [hd] at gd
  cases gd
  obtain ⟨kx,ekx⟩:∃q,kvs[i]?=some q:=⟨_,List.getElem?_eq_getElem hi⟩
  obtain ⟨hes,rk⟩:=ge i kx.1 kx.2 ekx
  obtain ⟨f0,f1,f2,f3,f4,f5⟩:=hf it (by simp)
  refine Ft st ⟨o,go,gx,hd⟩ hes fun h' st' sb=>?_
  have I1:Inv X pins σ H {s with heap:=h'}:=I.turned (t':=s.toks) (fun b o hb e=>(sb.2 b hb).trans e) f0 f1 f3 f4 f5
  obtain ⟨oi,e,c,d⟩:=id st'
  exact ⟨_,rfl,rY (s:={s with heap:=h'}) e c d (by decide) ⟨kV kx.1,H,I1,rk,⟨rfl,kx.1,kx.2,rfl,ekx⟩,st',fun b hb=>(hf b hb).1⟩⟩
 done:=by
  intro X hP hw hK hc i pins s σ H E I hf st hg
  subst hP hw hK
  obtain ⟨ha,hi⟩:=hg
  obtain ⟨go,_,gx,es',ep',gd,gs,ge⟩:=uR I.hok ha
  rw [hd] at gd
  cases gd
  obtain ⟨f0,f1,f2,f3,f4,f5⟩:=hf it (by simp)
  exact zV (I.ok.hd hc) st ⟨o,go,gx,hd⟩ (by omega) fun h' eb=>⟨rfl,I.turned (t':=s.toks) (fun b o hb e=>eb b o hb e) f0 f1 f3 f4 f5⟩
 self:=fun A i s Q E st h=>by
  have T0:=st.typeIs
  refine wpAny_pyIter_slot T0 F.slot_dict_keyiterator_iter (wpAny_call_entry F.slot_dict_keyiterator_iter T0 F.entry_dict_keyiterator_iter ?_ (F.args_dict_keyiterator_iter_1 _))
  exact wpAny_pure ⟨_,rfl,"dict_keyiterator",_,T0,F.slot_dict_keyiterator_next.lookup,h⟩
section
variable {X:Cx} {tg:Expr}
noncomputable def Mp (td:TE):TI:=fun σ H R=>td σ H fun x H1=>∃a o kvs,x=.ref a∧H1 a=some (.frz o (.dK kvs))∧R (FW a o kvs) H1
theorem FZ {o:Expr} {td:TE} (ho:PE X o td):PI X tg o (Mp td):=by
 intro pins s σ H R I h
 refine thn (ho pins s σ H _ I h) fun v s1 ⟨x,H1,I1,r1,a,ob,kvs,ex,ha,q1⟩=>?_
 subst ex
 cases r1
 obtain ⟨go,gy,gx,es,ep,gd,gs,ge⟩:=uR I1.hok ha
 refine zW gy ⟨ob,go,gx,gd⟩ ?_
 refine ⟨s1.heap.objs.size,[s1.heap.objs.size],_,_,H1,rfl,I1.kept (t':=s1.toks) fun b o e=>Heap.get?_push_of_some _ e,yQ a _ gd,⟨_,Heap.get?_push_size _ rfl,rfl,rfl⟩,fun b hb=>?_,q1⟩
 obtain rfl:b=s1.heap.objs.size:=by simpa using hb
 exact I1.fpOk (Nat.le_refl _) (I1.hok.fresh (Nat.le_refl _))
end
theorem BW {a:Addr} {o:Obj} {kvs:List (Key × V)} {g:TG} {tb:TS} {D:Ends} {σ:L2.St} {H:Hp} (Pv:Nat→L2.St→Hp→Prop) (h0:Pv 0 σ H) (hl:∀i σ H,Pv i σ H→H a=some (.frz o (.dK kvs)))
  (hs:∀i k x σ H,kvs[i]?=some (k,x)→Pv i σ H→g (kV k) σ H fun σ2 H2=>tb {D with nx:=Pv (i+1),ct:=Pv (i+1),bk:=D.nx} σ2 H2) (hd:∀σ H,Pv kvs.length σ H→D.nx σ H):
  ∃W:Nat→Nat→L2.St→Hp→Prop,(∃m,W 0 m σ H)∧∀i m σ H,W i m σ H→
   ((FW a o kvs).stop i H∧D.nx σ H)∨((FW a o kvs).go i H∧∃N:L2.St→Hp→Prop,(∀σ' H',N σ' H'→∃m',m' < m∧W (i+1) m' σ' H')∧∀x H',(FW a o kvs).yld i H x H'→g x σ H' fun σ2 H2=>tb {D with nx:=N,ct:=N,bk:=D.nx} σ2 H2):=by
 refine ⟨fun i m σ H=>m=kvs.length - i∧i≤kvs.length∧Pv i σ H,⟨kvs.length,by simp,Nat.zero_le _,h0⟩,?_⟩
 rintro i m σ H ⟨rfl,hi,p⟩
 have q:=hl i σ H p
 by_cases hlt:i < kvs.length
 ·refine .inr ⟨⟨q,hlt⟩,Pv (i+1),fun σ' H' p'=>⟨kvs.length - (i+1),by omega,rfl,hlt,p'⟩,fun v H' y=>?_⟩
  obtain ⟨rfl,k,x,rfl,ek⟩:=y
  exact hs i k x σ H' ek p
 ·have e:i=kvs.length:=by omega
  subst e
  exact .inl ⟨⟨q,Nat.le_refl _⟩,hd σ H p⟩
open PySem PySem.Spec PyProof.Rows L2
theorem bnd {α β:Type} {M:Model} {A:Around} {E:Value→Shared→Prop} {s:Shared} (c:Sem α) {k:α→Sem β} {Q:β→Shared→Prop} (h:wpAny M A c (fun a s'=>wpAny M A (k a) Q E s') E s):wpAny M A (c >>=k) Q E s:=wpAny_bind h
theorem zZ {h:Heap} {b:Addr} {o:Obj} (e:h.get? b=some o):b≠h.objs.size:=Nat.ne_of_lt (Heap.lt_size e)
theorem lZ {h:Heap} {b:Addr} {o:Obj} (e:h.get? b=some o):b≠h.objs.size+1:=Nat.ne_of_lt (Nat.lt_succ_of_lt (Heap.lt_size e))
theorem Ga {prog:Program} {w:World} {A:Around} {R:Result→Shared→Prop} {I:Addr} {fp wr:List Addr} {n:Nat} {P:Nat→Value→Prop} {St:Nat→Heap→Prop} {d:Value} (W:Walks prog w A.in1 I fp wr n P St) (bt:Nat→Nat→Bool) (hc:CmpOf prog w A.in1 .Gt P bt) (S:Addr) (nS:S∉fp):
  ∀(k j:Nat) (s:Shared) (vb:Value) (c:Nat),n - (j+1)=k→j+1≤n→St (j+1) s.heap→P (argBest bt j) vb→s.heap.get? S=some ⟨.type "list",none,.seq #[vb,vb] c,#[]⟩→
   (∀v h' tk,P (argBest bt (n - 1)) v→(∀b o,b∉wr→b≠S→s.heap.get? b=some o→h'.get? b=some o)→R (.ok (.ret v)) {s with heap:=h',toks:=tk})→
   codeAny (model prog w) A (.builtin "max.loop" ⟨[.ref I,.none,.ref S],[(Str.ofString "default",d)]⟩) R s:=by
 have wS:S∉wr:=fun h=>nS (W.sub _ h)
 have nm:(toString "max"++toString ".loop":String)="max.loop":=by decide
 intro k
 induction k with
 | zero=>
  intro j s vb c hk hj st pb gS hR
  have en:j+1=n:=by omega
  refine codeAny_builtin PySem.F.entry_max_loop ?_
  rw [Around.under_plainId PySem.F.plain_max_loop _]
  refine bnd (seqItems? (.ref S)) (wpAny_seqItems gS rfl (bnd (tryCatch (pyNext (.ref I)) _) (wpAny_tryCatch (W.done s _ _ (en▸st) fun h' tk kk=>?_))))
  refine bnd (updateSeq S (fun _=>#[])) (wpAny_updateSeq (kk S _ wS gS) rfl (wpAny_bind (wpAny_letGo (wpAny_pure ?_))))
  exact hR vb _ tk (by rw [←en];exact pb) fun b o n1 n2 e=>(Heap.get?_update_other _ _ (Ne.symm n2)).trans (kk b o n1 e)
 | succ k ih=>
  intro j s vb c hk hj st pb gS hR
  have lt:j+1 < n:=by omega
  refine codeAny_builtin PySem.F.entry_max_loop ?_
  rw [Around.under_plainId PySem.F.plain_max_loop _]
  refine bnd (seqItems? (.ref S)) (wpAny_seqItems gS rfl (bnd (tryCatch (pyNext (.ref I)) _) (wpAny_tryCatch (W.item (j+1) s _ _ lt st fun v h' tk pv st' kk=>?_))))
  have gS':=kk S _ wS gS
  refine bnd (tryCatch (holding [v,v] (richCompare .Gt v vb >>=_)) _) (wpAny_tryCatch (wpAny_holding (wpAny_bind (hc (j+1) (argBest bt j) v vb _ _ _ pv pb (wpAny_bind (wpAny_holding (wpAny_truthy_bool (wpAny_bind (wpAny_letGo (wpAny_pure ?_))))))))))
  cases hb:bt (j+1) (argBest bt j) with
  | true=>
   simp only [if_true]
   refine wpAny_bind (wpAny_updateSeq gS' rfl (wpAny_bind (wpAny_letGo ?_)))
   rw [nm]
   refine wpAny_pure ⟨plainId_quiet PySem.F.plain_max_loop _,ih (j+1) _ v _ (by omega) lt (W.frame _ _ _ st' fun b bf o e=>(Heap.get?_update_other _ _ (fun h:S=b=>nS (by rw [h];exact bf))).trans e) (by simp only [argBest,hb,if_true];exact pv) (Heap.get?_update_self _ gS' rfl) fun v2 h2 tk2 pv2 kk2=>?_⟩
   exact hR v2 h2 tk2 pv2 fun b o n1 n2 e=>kk2 b o n1 n2 ((Heap.get?_update_other _ _ (Ne.symm n2)).trans (kk b o n1 e))
  | false=>
   simp only [Bool.false_eq_true,if_false]
   refine wpAny_bind (wpAny_letGo ?_)
   rw [nm]
   exact wpAny_pure ⟨plainId_quiet PySem.F.plain_max_loop _,ih (j+1) _ vb c (by omega) lt st' (by simp only [argBest,hb,Bool.false_eq_true,if_false];exact pb) gS' fun v2 h2 tk2 pv2 kk2=>hR v2 h2 tk2 pv2 fun b o n1 n2 e=>kk2 b o n1 n2 (kk b o n1 e)⟩
theorem BX {prog:Program} {w:World} {A:Around} {R:Result→Shared→Prop} {I:Addr} {fp wr:List Addr} {n:Nat} {P:Nat→Value→Prop} {St:Nat→Heap→Prop} {d:Value} (W:Walks prog w A.in1 I fp wr n P St) (bt:Nat→Nat→Bool) (hc:CmpOf prog w A.in1 .Gt P bt) (S:Addr) (nS:S∉fp) {s:Shared} {c:Nat} (st:St 0 s.heap)
  (gS:s.heap.get? S=some ⟨.type "list",none,.seq #[] c,#[]⟩)
  (h0:n=0→∀h' tk,(∀b o,b∉wr→b≠S→s.heap.get? b=some o→h'.get? b=some o)→R (.ok (.ret d)) {s with heap:=h',toks:=tk})
  (h1:0 < n→∀v h' tk,P (argBest bt (n - 1)) v→(∀b o,b∉wr→b≠S→s.heap.get? b=some o→h'.get? b=some o)→R (.ok (.ret v)) {s with heap:=h',toks:=tk}):
  codeAny (model prog w) A (.builtin "max.loop" ⟨[.ref I,.none,.ref S],[(Str.ofString "default",d)]⟩) R s:=by
 have wS:S∉wr:=fun h=>nS (W.sub _ h)
 have nm:(toString "max"++toString ".loop":String)="max.loop":=by decide
 refine codeAny_builtin PySem.F.entry_max_loop ?_
 rw [Around.under_plainId PySem.F.plain_max_loop _]
 refine bnd (seqItems? (.ref S)) (wpAny_seqItems gS rfl ?_)
 by_cases hz:n=0
 ·refine bnd (tryCatch (pyNext (.ref I)) _) (wpAny_tryCatch (W.done s _ _ (hz▸st) fun h' tk kk=>?_))
  refine wpAny_bind (wpAny_rule (wpAny_pure ?_))
  exact h0 hz h' tk fun b o n1 _ e=>kk b o n1 e
 ·refine bnd (tryCatch (pyNext (.ref I)) _) (wpAny_tryCatch (W.item 0 s _ _ (Nat.pos_of_ne_zero hz) st fun v h' tk pv st' kk=>?_))
  have gS':=kk S _ wS gS
  refine bnd (updateSeq S (fun _=>#[v,v])) (wpAny_updateSeq gS' rfl ?_)
  rw [nm]
  refine wpAny_pure ⟨plainId_quiet PySem.F.plain_max_loop _,Ga W bt hc S nS _ 0 _ v _ rfl (Nat.pos_of_ne_zero hz) (W.frame _ _ _ st' fun b bf o e=>(Heap.get?_update_other _ _ (fun h:S=b=>nS (by rw [h];exact bf))).trans e) pv (Heap.get?_update_self _ gS' rfl) fun v2 h2 tk2 pv2 kk2=>?_⟩
  exact h1 (Nat.pos_of_ne_zero hz) v2 h2 tk2 pv2 fun b o n1 n2 e=>kk2 b o n1 n2 ((Heap.get?_update_other _ _ (Ne.symm n2)).trans (kk b o n1 e))
theorem BZ (a v:Value):argsOk "max" ⟨[a],[(Str.ofString "default",v)]⟩:=by unfold argsOk;kernel_rfl
theorem Gb {prog:Program} {w:World} {A:Around} {E:Value→Shared→Prop} {s:Shared} {l:Addr} {items:Array Value} {val:Nat→Int} {d:Value} {Q:Value→Shared→Prop} (hh:A.in1.handled=none) (hl:s.heap.IsList l items) (hv:∀i v,items[i]?=some v→∃t,v=Value.int (val i) t)
  (h0:items.size=0→∀h' tk,(∀b o,s.heap.get? b=some o→h'.get? b=some o)→Q d {s with heap:=h',toks:=tk})
  (h1:0 < items.size→∀t h' tk,(∀b o,s.heap.get? b=some o→h'.get? b=some o)→Q (Value.int (val (argBest (fun i j=>decide (val i > val j)) (items.size - 1))) t) {s with heap:=h',toks:=tk}):
  wpAny (model prog w) A (call (.builtin "max") [.ref l] [(Str.ofString "default",d)]) Q E s:=by
 have nm:(toString "max"++toString ".loop":String)="max.loop":=by decide
 obtain ⟨ol,hol,_⟩:=id hl
 have hne:l≠s.heap.objs.size:=Nat.ne_of_lt (Heap.lt_size hol)
 refine PyProof.Rows.kmk_tree PySem.F.kind_max PySem.F.plain_max PySem.F.entry_max (BZ _ _) ?_
 refine bnd (Builtin.Builtins.bindParams "max" ["key","default"] 0 ⟨[],[(Str.ofString "default",d)]⟩) (wpAny_of_eq (show _=pure [none,some d] from rfl) ?_)
 refine wpAny_bind (wpAny_pure ?_)
 refine wpAny_bind (wpAny_pyIter_list hl ?_)
 refine wpAny_bind (wpAny_newObj_type ?_)
 rw [nm]
 have W:=Walks.list (prog:=prog) (w:=w) (A:=A.in1) hh s.heap.objs.size l hne items
 have sz:(s.heap.push {cls:=.type "list_iterator",data:=.fields #[.ref l,.int 0 0]}).objs.size=s.heap.objs.size+1:=Heap.size_push ..
 have hlt:=Heap.lt_size hol
 have gI:(s.heap.push {cls:=.type "list_iterator",data:=.fields #[.ref l,.int 0 0]}).get? s.heap.objs.size=some {cls:=.type "list_iterator",data:=.fields #[.ref l,.int 0 0]}:=Heap.get?_push_size _ rfl
 have hl1:=hl.push {cls:=.type "list_iterator",data:=.fields #[.ref l,.int 0 0]}
 have k1:∀b o,s.heap.get? b=some o→(s.heap.push {cls:=.type "list_iterator",data:=.fields #[.ref l,.int 0 0]}).get? b=some o:=fun b o e=>Heap.get?_push_of_some _ e
 dsimp only
 generalize s.heap.push {cls:=.type "list_iterator",data:=.fields #[.ref l,.int 0 0]}=hp1 at sz gI hl1 k1 ⊢
 refine wpAny_pure ⟨plainId_quiet PySem.F.plain_max_loop _,BX W _ (CmpOf.ints_gt val hv) hp1.objs.size (by rw [sz];simp only [List.mem_cons,List.not_mem_nil,or_false,not_or];exact ⟨Nat.succ_ne_self _,Ne.symm (lZ hol)⟩) ⟨⟨_,Heap.get?_push_of_some _ gI,rfl,rfl⟩,hl1.push _⟩ (Heap.get?_push_size _ rfl) (fun hz h' tk kk=>?_) fun hz v h' tk pv kk=>?_⟩
 ·exact h0 hz h' tk fun b o e=>kk b o (by simp only [List.mem_cons,List.not_mem_nil,or_false];exact zZ e) (by rw [sz];exact lZ e) (Heap.get?_push_of_some _ (k1 b o e))
 ·obtain ⟨t2,rfl⟩:=hv _ v pv
  exact h1 hz t2 h' tk fun b o e=>kk b o (by simp only [List.mem_cons,List.not_mem_nil,or_false];exact zZ e) (by rw [sz];exact lZ e) (Heap.get?_push_of_some _ (k1 b o e))
noncomputable def tMM (K:PySem.W.Frag) (f:List Int→Int) (t:TA) (td:TE):TE:=fun σ H Q=>t σ H fun vs H1=>mG td Ba σ H1 fun zs H2=>∃dv a ns,zs=[dv]∧vs=[.ref a]∧SqL K H2 a (ns.map V.int)∧(ns=[]→Q dv H2)∧(ns≠[]→Q (.int (f ns)) H2)
theorem z6 {val:Nat→Int}:∀k,argBest (fun i j=>decide (val i > val j)) k≤k∧∀j,j≤k→val j≤val (argBest (fun i j=>decide (val i > val j)) k)
 | 0=>⟨Nat.le_refl _,fun j h=>by rw [Nat.le_zero.mp h];exact Int.le_refl _⟩
 | k+1=>by
  obtain ⟨a,b⟩:=z6 (val:=val) k
  simp only [argBest]
  by_cases h:val (k+1) > val (argBest (fun i j=>decide (val i > val j)) k)
  ·rw [if_pos (decide_eq_true h)]
   refine ⟨Nat.le_refl _,fun j hj=>?_⟩
   rcases Nat.lt_or_ge j (k+1) with h1 | h1
   ·exact Int.le_trans (b j (by omega)) (Int.le_of_lt h)
   ·rw [show j=k+1 by omega];exact Int.le_refl _
  ·rw [if_neg (by rw [decide_eq_false h];exact Bool.false_ne_true)]
   refine ⟨by omega,fun j hj=>?_⟩
   rcases Nat.lt_or_ge j (k+1) with h1 | h1
   ·exact b j (by omega)
   ·rw [show j=k+1 by omega];omega
theorem wN {val:Nat→Int}:∀k,argBest (fun i j=>decide (val i < val j)) k≤k∧∀j,j≤k→val (argBest (fun i j=>decide (val i < val j)) k)≤val j
 | 0=>⟨Nat.le_refl _,fun j h=>by rw [Nat.le_zero.mp h];exact Int.le_refl _⟩
 | k+1=>by
  obtain ⟨a,b⟩:=wN (val:=val) k
  simp only [argBest]
  by_cases h:val (k+1) < val (argBest (fun i j=>decide (val i < val j)) k)
  ·rw [if_pos (decide_eq_true h)]
   refine ⟨Nat.le_refl _,fun j hj=>?_⟩
   rcases Nat.lt_or_ge j (k+1) with h1 | h1
   ·exact Int.le_trans (Int.le_of_lt h) (b j (by omega))
   ·rw [show j=k+1 by omega];exact Int.le_refl _
  ·rw [if_neg (by rw [decide_eq_false h];exact Bool.false_ne_true)]
   refine ⟨by omega,fun j hj=>?_⟩
   rcases Nat.lt_or_ge j (k+1) with h1 | h1
   ·exact b j (by omega)
   ·rw [show j=k+1 by omega];omega
noncomputable def jm (ns:List Int):Int:=ns.getD (argBest (fun i j=>decide (ns.getD i 0 > ns.getD j 0)) (ns.length - 1)) 0
theorem Mq:bootBuiltins "max"=some (.builtin "max"):=by decide+kernel
theorem z7 {X:Cx} {e e2:Expr} {p kp pos:Pos} {t:TA} {td:TE} (hc:X.calm=true) (hg:Gl X "max") (hm:X.mg "max"=none) (ha:PA X [e] t) (hd:PE X e2 td)
  (hall:(backToKw pos (keywordEach [⟨some "default",e2,kp⟩] X.env)).all (·.1.isSome)=true:=by rfl) (hks:(backToKw pos (keywordEach [⟨some "default",e2,kp⟩] X.env)).filterMap (·.1)=[Str.ofString "default"]:=by rfl)
  (he:starEach [e] X.env=(false,eval e X.env)::starEach [] X.env:=by rfl) (hpl:(backTo pos (starEach [e] X.env)).any (·.1)=false:=by rfl) (hkw:(backToKw pos (keywordEach [⟨some "default",e2,kp⟩] X.env)).any (·.1.isNone)=false:=by rfl):
  PE X (.Call (.Name "max" p) [e] [⟨some "default",e2,kp⟩] pos) (tMM X.K jm t td):=by
 intro pins s σ H Q I h
 refine wpAny_Call_Name_kw (lM I hg hm Mq ?_ (by decide) (by decide))
 refine callWith_builtin_kwB hpl hkw (evalArgs_kw2 hall (thn (ha pos pins s σ H _ I h) fun us s1 ⟨vs,H1,I1,r,q⟩=>thn ((HB hd Kw) pos pins s1 σ H1 _ I1 q) fun ws s2 ⟨zs,H2,I2,rz,q2⟩=>?_) he)
 obtain ⟨dv,a,ns,rfl,rfl,hq,q0,q1⟩:=q2
 obtain ⟨u,rfl,ru⟩:=vals1 r
 obtain ⟨w',rfl,rw'⟩:=vals1 rz
 cases ru
 rw [hks]
 obtain ⟨its,rv,pl,hz⟩:=I2.list hq
 have hlen:ns.length=its.length:=by have:=rv.length;rwa [List.length_map] at this
 refine Gb (val:=fun i=>ns.getD i 0) (items:=its.toArray) (I2.ok.hd hc) pl.isList (fun i v ev=>?_) (fun z h' tk kk=>?_) fun z t h' tk kk=>?_
 ·have ev':its[i]?=some v:=by simpa using ev
  have hi:i < ns.length:=by rw [hlen];exact (List.getElem?_eq_some_iff.mp ev').1
  obtain ⟨u',e',r'⟩:=rv.get (x:=V.int (ns.getD i 0)) (i:=i) (by rw [List.getElem?_map,List.getElem?_eq_getElem hi];simp [List.getD,hi])
  rw [ev'] at e'
  cases e'
  exact r'
 ·have z':ns=[]:=List.length_eq_zero_iff.mp (by rw [hlen];simpa using z)
  exact ⟨dv,H2,I2.kept kk,rw',q0 z'⟩
 ·have z':ns≠[]:=fun e=>by
   rw [e] at hlen
   have:its=[]:=List.length_eq_zero_iff.mp hlen.symm
   rw [this] at z
   simp at z
  refine ⟨.int (jm ns),H2,I2.kept kk,⟨t,?_⟩,q1 z'⟩
  unfold jm
  rw [hlen]
  simp
noncomputable def lL (ns:List Int):Int:=ns.getD (argBest (fun i j=>decide (ns.getD i 0 < ns.getD j 0)) (ns.length - 1)) 0
theorem uT {ns:List Int} (h:ns≠[]):jm ns∈ns∧∀x∈ns,x≤jm ns:=by
 have hp:0 < ns.length:=List.length_pos_iff.mpr h
 obtain ⟨a,b⟩:=z6 (val:=fun i=>ns.getD i 0) (ns.length - 1)
 have hi:argBest (fun i j=>decide (ns.getD i 0 > ns.getD j 0)) (ns.length - 1) < ns.length:=by omega
 refine ⟨?_,fun x hx=>?_⟩
 ·unfold jm
  rw [List.getD,List.getElem?_eq_getElem hi]
  exact List.getElem_mem hi
 ·obtain ⟨j,hj,rfl⟩:=List.mem_iff_getElem.mp hx
  have:=b j (by omega)
  have e:ns.getD j 0=ns[j]:=by rw [List.getD,List.getElem?_eq_getElem hj];rfl
  rw [←e]
  exact this
theorem yR {ns:List Int} (h:ns≠[]):lL ns∈ns∧∀x∈ns,lL ns≤x:=by
 have hp:0 < ns.length:=List.length_pos_iff.mpr h
 obtain ⟨a,b⟩:=wN (val:=fun i=>ns.getD i 0) (ns.length - 1)
 have hi:argBest (fun i j=>decide (ns.getD i 0 < ns.getD j 0)) (ns.length - 1) < ns.length:=by omega
 refine ⟨?_,fun x hx=>?_⟩
 ·unfold lL
  rw [List.getD,List.getElem?_eq_getElem hi]
  exact List.getElem_mem hi
 ·obtain ⟨j,hj,rfl⟩:=List.mem_iff_getElem.mp hx
  have:=b j (by omega)
  have e:ns.getD j 0=ns[j]:=by rw [List.getD,List.getElem?_eq_getElem hj];rfl
  rw [←e]
  exact this
theorem Ca {prog:Program} {w:World} {A:Around} {R:Result→Shared→Prop} {I:Addr} {fp wr:List Addr} {n:Nat} {P:Nat→Value→Prop} {St:Nat→Heap→Prop} (W:Walks prog w A.in1 I fp wr n P St) (bt:Nat→Nat→Bool) (hc:CmpOf prog w A.in1 .Lt P bt) (S:Addr) (nS:S∉fp):
  ∀(k j:Nat) (s:Shared) (vb:Value) (c:Nat),n - (j+1)=k→j+1≤n→St (j+1) s.heap→P (argBest bt j) vb→s.heap.get? S=some ⟨.type "list",none,.seq #[vb,vb] c,#[]⟩→
   (∀v h' tk,P (argBest bt (n - 1)) v→(∀b o,b∉wr→b≠S→s.heap.get? b=some o→h'.get? b=some o)→R (.ok (.ret v)) {s with heap:=h',toks:=tk})→
   codeAny (model prog w) A (.builtin "min.loop" ⟨[.ref I,.none,.ref S],[]⟩) R s:=by
 have wS:S∉wr:=fun h=>nS (W.sub _ h)
 have nm:(toString "min"++toString ".loop":String)="min.loop":=by decide
 intro k
 induction k with
 | zero=>
  intro j s vb c hk hj st pb gS hR
  have en:j+1=n:=by omega
  refine codeAny_builtin PySem.F.entry_min_loop ?_
  rw [Around.under_plainId PySem.F.plain_min_loop _]
  refine bnd (seqItems? (.ref S)) (wpAny_seqItems gS rfl (bnd (tryCatch (pyNext (.ref I)) _) (wpAny_tryCatch (W.done s _ _ (en▸st) fun h' tk kk=>?_))))
  refine bnd (updateSeq S (fun _=>#[])) (wpAny_updateSeq (kk S _ wS gS) rfl (wpAny_bind (wpAny_letGo (wpAny_pure ?_))))
  exact hR vb _ tk (by rw [←en];exact pb) fun b o n1 n2 e=>(Heap.get?_update_other _ _ (Ne.symm n2)).trans (kk b o n1 e)
 | succ k ih=>
  intro j s vb c hk hj st pb gS hR
  have lt:j+1 < n:=by omega
  refine codeAny_builtin PySem.F.entry_min_loop ?_
  rw [Around.under_plainId PySem.F.plain_min_loop _]
  refine bnd (seqItems? (.ref S)) (wpAny_seqItems gS rfl (bnd (tryCatch (pyNext (.ref I)) _) (wpAny_tryCatch (W.item (j+1) s _ _ lt st fun v h' tk pv st' kk=>?_))))
  have gS':=kk S _ wS gS
  refine bnd (tryCatch (holding [v,v] (richCompare .Lt v vb >>=_)) _) (wpAny_tryCatch (wpAny_holding (wpAny_bind (hc (j+1) (argBest bt j) v vb _ _ _ pv pb (wpAny_bind (wpAny_holding (wpAny_truthy_bool (wpAny_bind (wpAny_letGo (wpAny_pure ?_))))))))))
  cases hb:bt (j+1) (argBest bt j) with
  | true=>
   simp only [if_true]
   refine wpAny_bind (wpAny_updateSeq gS' rfl (wpAny_bind (wpAny_letGo ?_)))
   rw [nm]
   refine wpAny_pure ⟨plainId_quiet PySem.F.plain_min_loop _,ih (j+1) _ v _ (by omega) lt (W.frame _ _ _ st' fun b bf o e=>(Heap.get?_update_other _ _ (fun h:S=b=>nS (by rw [h];exact bf))).trans e) (by simp only [argBest,hb,if_true];exact pv) (Heap.get?_update_self _ gS' rfl) fun v2 h2 tk2 pv2 kk2=>?_⟩
   exact hR v2 h2 tk2 pv2 fun b o n1 n2 e=>kk2 b o n1 n2 ((Heap.get?_update_other _ _ (Ne.symm n2)).trans (kk b o n1 e))
  | false=>
   simp only [Bool.false_eq_true,if_false]
   refine wpAny_bind (wpAny_letGo ?_)
   rw [nm]
   exact wpAny_pure ⟨plainId_quiet PySem.F.plain_min_loop _,ih (j+1) _ vb c (by omega) lt st' (by simp only [argBest,hb,Bool.false_eq_true,if_false];exact pb) gS' fun v2 h2 tk2 pv2 kk2=>hR v2 h2 tk2 pv2 fun b o n1 n2 e=>kk2 b o n1 n2 (kk b o n1 e)⟩
theorem yS {prog:Program} {w:World} {A:Around} {R:Result→Shared→Prop} {I:Addr} {fp wr:List Addr} {n:Nat} {P:Nat→Value→Prop} {St:Nat→Heap→Prop} (W:Walks prog w A.in1 I fp wr n P St) (bt:Nat→Nat→Bool) (hc:CmpOf prog w A.in1 .Lt P bt) (S:Addr) (nS:S∉fp) {s:Shared} {c:Nat} (st:St 0 s.heap)
  (gS:s.heap.get? S=some ⟨.type "list",none,.seq #[] c,#[]⟩) (hz:0 < n)
  (h1:∀v h' tk,P (argBest bt (n - 1)) v→(∀b o,b∉wr→b≠S→s.heap.get? b=some o→h'.get? b=some o)→R (.ok (.ret v)) {s with heap:=h',toks:=tk}):
  codeAny (model prog w) A (.builtin "min.loop" ⟨[.ref I,.none,.ref S],[]⟩) R s:=by
 have wS:S∉wr:=fun h=>nS (W.sub _ h)
 have nm:(toString "min"++toString ".loop":String)="min.loop":=by decide
 refine codeAny_builtin PySem.F.entry_min_loop ?_
 rw [Around.under_plainId PySem.F.plain_min_loop _]
 refine bnd (seqItems? (.ref S)) (wpAny_seqItems gS rfl ?_)
 refine bnd (tryCatch (pyNext (.ref I)) _) (wpAny_tryCatch (W.item 0 s _ _ hz st fun v h' tk pv st' kk=>?_))
 have gS':=kk S _ wS gS
 refine bnd (updateSeq S (fun _=>#[v,v])) (wpAny_updateSeq gS' rfl ?_)
 rw [nm]
 refine wpAny_pure ⟨plainId_quiet PySem.F.plain_min_loop _,Ca W bt hc S nS _ 0 _ v _ rfl hz (W.frame _ _ _ st' fun b bf o e=>(Heap.get?_update_other _ _ (fun h:S=b=>nS (by rw [h];exact bf))).trans e) pv (Heap.get?_update_self _ gS' rfl) fun v2 h2 tk2 pv2 kk2=>?_⟩
 exact h1 v2 h2 tk2 pv2 fun b o n1 n2 e=>kk2 b o n1 n2 ((Heap.get?_update_other _ _ (Ne.symm n2)).trans (kk b o n1 e))
theorem Cd (a:Value):argsOk "min" ⟨[a],[]⟩:=by unfold argsOk;kernel_rfl
theorem Gd {prog:Program} {w:World} {A:Around} {E:Value→Shared→Prop} {s:Shared} {l:Addr} {items:Array Value} {val:Nat→Int} {Q:Value→Shared→Prop} (hh:A.in1.handled=none) (hl:s.heap.IsList l items) (hv:∀i v,items[i]?=some v→∃t,v=Value.int (val i) t) (hz:0 < items.size)
  (h1:∀t h' tk,(∀b o,s.heap.get? b=some o→h'.get? b=some o)→Q (Value.int (val (argBest (fun i j=>decide (val i < val j)) (items.size - 1))) t) {s with heap:=h',toks:=tk}):
  wpAny (model prog w) A (call (.builtin "min") [.ref l] []) Q E s:=by
 have nm:(toString "min"++toString ".loop":String)="min.loop":=by decide
 obtain ⟨ol,hol,_⟩:=id hl
 have hne:l≠s.heap.objs.size:=Nat.ne_of_lt (Heap.lt_size hol)
 refine PyProof.Rows.kmk_tree PySem.F.kind_min PySem.F.plain_min PySem.F.entry_min (Cd _) ?_
 refine bnd (Builtin.Builtins.bindParams "min" ["key","default"] 0 ⟨[],[]⟩) (wpAny_of_eq (show _=pure [none,none] from rfl) ?_)
 refine wpAny_bind (wpAny_pure ?_)
 refine wpAny_bind (wpAny_pyIter_list hl ?_)
 refine wpAny_bind (wpAny_newObj_type ?_)
 rw [nm]
 have W:=Walks.list (prog:=prog) (w:=w) (A:=A.in1) hh s.heap.objs.size l hne items
 have sz:(s.heap.push {cls:=.type "list_iterator",data:=.fields #[.ref l,.int 0 0]}).objs.size=s.heap.objs.size+1:=Heap.size_push ..
 have hlt:=Heap.lt_size hol
 have gI:(s.heap.push {cls:=.type "list_iterator",data:=.fields #[.ref l,.int 0 0]}).get? s.heap.objs.size=some {cls:=.type "list_iterator",data:=.fields #[.ref l,.int 0 0]}:=Heap.get?_push_size _ rfl
 have hl1:=hl.push {cls:=.type "list_iterator",data:=.fields #[.ref l,.int 0 0]}
 have k1:∀b o,s.heap.get? b=some o→(s.heap.push {cls:=.type "list_iterator",data:=.fields #[.ref l,.int 0 0]}).get? b=some o:=fun b o e=>Heap.get?_push_of_some _ e
 dsimp only
 generalize s.heap.push {cls:=.type "list_iterator",data:=.fields #[.ref l,.int 0 0]}=hp1 at sz gI hl1 k1 ⊢
 refine wpAny_pure ⟨plainId_quiet PySem.F.plain_min_loop _,yS W _ (CmpOf.ints_lt val hv) hp1.objs.size (by rw [sz];simp only [List.mem_cons,List.not_mem_nil,or_false,not_or];exact ⟨Nat.succ_ne_self _,Ne.symm (lZ hol)⟩) ⟨⟨_,Heap.get?_push_of_some _ gI,rfl,rfl⟩,hl1.push _⟩ (Heap.get?_push_size _ rfl) hz fun v h' tk pv kk=>?_⟩
 obtain ⟨t2,rfl⟩:=hv _ v pv
 exact h1 t2 h' tk fun b o e=>kk b o (by simp only [List.mem_cons,List.not_mem_nil,or_false];exact zZ e) (by rw [sz];exact lZ e) (Heap.get?_push_of_some _ (k1 b o e))
theorem tR {X:Cx} (hc:X.calm=true):eU X (.builtin "min") (fun xs H Q=>∃a ns,xs=[.ref a]∧SqL X.K H a (ns.map V.int)∧ns≠[]∧Q (.int (lL ns)) H):=by
 intro pins s σ H xs us Q I r h
 obtain ⟨a,ns,rfl,hq,z',q⟩:=h
 obtain ⟨u,rfl,ru⟩:=vals1 r
 cases ru
 obtain ⟨its,rv,pl,hz⟩:=I.list hq
 have hlen:ns.length=its.length:=by have:=rv.length;rwa [List.length_map] at this
 refine Gd (val:=fun i=>ns.getD i 0) (items:=its.toArray) (I.ok.hd hc) pl.isList (fun i v ev=>?_) (by rw [List.size_toArray,←hlen];exact List.length_pos_iff.mpr z') fun t h' tk kk=>?_
 ·have ev':its[i]?=some v:=by simpa using ev
  have hi:i < ns.length:=by rw [hlen];exact (List.getElem?_eq_some_iff.mp ev').1
  obtain ⟨u',e',r'⟩:=rv.get (x:=V.int (ns.getD i 0)) (i:=i) (by rw [List.getElem?_map,List.getElem?_eq_getElem hi];simp [List.getD,hi])
  rw [ev'] at e'
  cases e'
  exact r'
 ·refine ⟨.int (lL ns),H,I.kept kk,⟨t,?_⟩,q⟩
  unfold lL
  rw [hlen]
  simp
end L3
namespace K1
open PySem L2 L3 M1
noncomputable def TabAt (H:Hp) (p:Addr) (D:Str→Option Int):Prop:=∃kvs,Rd H p (.dK kvs)∧Tab kvs D
theorem TabAt.get {H:Hp} {p:Addr} {D:Str→Option Int} (T:TabAt H p D) (g:Str):fX H p (.str g) ((D g).map V.int):=by
 obtain ⟨kvs,r,t⟩:=T
 exact .inl ⟨kvs,Sum.inr g,r,rfl,(t.at_ g).symm⟩
noncomputable def begins (Da Db:Str→Option Int) (g:Str) (t:Int):Bool:=match Db g with
 | none=>false
 | some u=>decide (some (t+u)=Da g)
noncomputable def Ge:Sp:=fun vs H Q _=>∃(r f pa pb:Addr) (hs:List (List Nat)) (d:M1.Rd) (kvs:List (Key × L2.V)) (g:Str) (Da Db:Str→Option Int),vs=[.ref r,.ref f,.str g]∧H r=some (.tup (rdV hs d))∧H f=some (.dK kvs)∧
 bD kvs (Sum.inr (S (hs.getD d.a [])):Key)=some (.ref pa)∧bD kvs (Sum.inr (S (hs.getD d.b [])):Key)=some (.ref pb)∧TabAt H pa Da∧TabAt H pb Db∧(∀u,Db g=some u→∃v,Da g=some v)∧Q (.bl (begins Da Db g d.t)) H
noncomputable abbrev cZ (hs:List (List Nat)) (ds:List M1.Rd) (h:Str):Str→Option Int:=fun g=>M4.dist (eds hs ds) h g
noncomputable def toI (hs:List (List Nat)) (ds:List M1.Rd) (i:Int):Str:=S (hs.getD (ds.getD i.toNat d0).b [])
noncomputable def wO (hs:List (List Nat)) (ds:List M1.Rd) (h g:Str) (i:Int):Bool:=begins (cZ hs ds h) (cZ hs ds (toI hs ds i)) g (ds.getD i.toNat d0).t
noncomputable def fit (hs:List (List Nat)) (ds:List M1.Rd) (h g:Str):List Int:=(touch hs ds (·.a) h).filter (wO hs ds h g)
noncomputable def best (hs:List (List Nat)) (ds:List M1.Rd) (h g:Str):Int:=lL (fit hs ds h g)
theorem Gf {hs:List (List Nat)} {ds:List M1.Rd} (h9:∀e∈eds hs ds,1≤e.t) {h g:Str} {v:Int} (hv:cZ hs ds h g=some v) (hn:h≠g):fit hs ds h g≠[]:=by
 obtain ⟨_,e,he,u,ea,eu,ev⟩:=(M4.fars h9 g).other h9 hn hv
 obtain ⟨d,hd,rfl⟩:=List.mem_map.mp he
 obtain ⟨i,hi⟩:=List.getElem?_of_mem hd
 have hl:=(List.getElem?_eq_some_iff.mp hi).1
 have e0:ds.getD i d0=d:=gj hi
 refine List.ne_nil_of_mem (a:=(i:Int)) (List.mem_filter.mpr ⟨?_,?_⟩)
 ·unfold touch uN
  refine List.mem_map.mpr ⟨i,List.mem_filter.mpr ⟨List.mem_range.mpr hl,?_⟩,rfl⟩
  have ea':S (hs.getD d.a [])=h:=ea
  rw [e0,ea']
  exact decide_eq_true rfl
 ·unfold wO begins toI
  rw [Int.toNat_natCast,e0]
  have eu':cZ hs ds (S (hs.getD d.b [])) g=some u:=eu
  have ev':v=u+d.t:=ev
  rw [eu',hv]
  refine decide_eq_true ?_
  congr 1
  omega
theorem wQ {hs:List (List Nat)} {ds:List M1.Rd} (h9:∀e∈eds hs ds,1≤e.t) {h g:Str} {v:Int} (hv:cZ hs ds h g=some v) (hn:h≠g):best hs ds h g∈touch hs ds (·.a) h∧wO hs ds h g (best hs ds h g)=true:=
 List.mem_filter.mp (yR (Gf h9 hv hn)).1
structure Bst (bst:Str→Str→Int) (L:List Str) (kvs:DTs) (M:Str→Str→Prop):Prop where
 yes:∀h g,M h g→bD kvs (pk h g)=some (.int (bst h g))
 no:∀h g,¬M h g→bD kvs (pk h g)=none
 key:∀k∈kvs.map (·.1),∃h g,k=pk h g∧h∈L∧g∈L
 nd:(kvs.map (·.1)).Nodup
theorem yU {h g h' g':Str} (e:pk h g=pk h' g'):h=h'∧g=g':=by
 unfold pk at e
 simp only [List.cons.injEq,Sum.inr.injEq,and_true] at e
 exact e
theorem wR {κ:Type} [DecidableEq κ] {kvs:List (κ × L2.V)} {k:κ} {u:L2.V} (v:L2.V) (h:bD kvs k=some u):(putK kvs k v).map (·.1)=kvs.map (·.1):=by
 unfold putK
 rw [if_pos (by rw [du,h];rfl),List.map_map]
 refine List.map_congr_left fun q _=>?_
 show (if q.1=k then (q.1,v) else q).1=q.1
 split <;> rfl
theorem Bst.put {bst:Str→Str→Int} {L:List Str} {kvs:DTs} {M:Str→Str→Prop} (B:Bst bst L kvs M) {h g:Str} (hh:h∈L) (hg:g∈L):Bst bst L (putK kvs (pk h g) (.int (bst h g))) (fun h' g'=>M h' g'∨(h'=h∧g'=g)):=by
 refine ⟨fun h' g' m=>?_,fun h' g' m=>?_,?_,?_⟩
 ·rw [jU]
  by_cases e:pk h' g'=pk h g
  ·obtain ⟨rfl,rfl⟩:=yU e
   rw [if_pos rfl]
  ·rw [if_neg e]
   refine B.yes h' g' (m.resolve_right fun z=>e ?_)
   rw [z.1,z.2]
 ·rw [jU,if_neg fun e=>m (.inr (yU e))]
  exact B.no h' g' fun z=>m (.inl z)
 ·intro k hk
  cases hv:bD kvs (pk h g) with
  | none=>
   rw [jh _ hv,List.map_append] at hk
   rcases List.mem_append.mp hk with z | z
   ·exact B.key k z
   ·exact ⟨h,g,List.mem_singleton.mp z,hh,hg⟩
  | some u=>
   rw [wR _ hv] at hk
   exact B.key k hk
 ·cases hv:bD kvs (pk h g) with
  | none=>exact Ib _ B.nd hv
  | some u=>rw [wR _ hv];exact B.nd
theorem Bst.iff {bst:Str→Str→Int} {L:List Str} {kvs:DTs} {M M':Str→Str→Prop} (B:Bst bst L kvs M) (e:∀h g,M h g↔M' h g):Bst bst L kvs M':=
 ⟨fun h g m=>B.yes h g ((e h g).mpr m),fun h g m=>B.no h g fun z=>m ((e h g).mp z),B.key,B.nd⟩
theorem Bst.few {bst:Str→Str→Int} {L:List Str} {kvs:DTs} {M:Str→Str→Prop} (B:Bst bst L kvs M) (hl:L.length≤12):kvs.length≤144:=by
 have h1:=bZ (L:=L.flatMap fun h=>L.map (pk h)) B.nd fun k hk=>by
  obtain ⟨h,g,rfl,hh,hg⟩:=B.key k hk
  exact List.mem_flatMap.mpr ⟨h,hh,List.mem_map.mpr ⟨g,hg,rfl⟩⟩
 have h2:(L.flatMap fun h=>L.map (pk h)).length=L.length * L.length:=by simp [List.length_flatMap,List.map_const']
 rw [h2,List.length_map] at h1
 exact Nat.le_trans h1 (Nat.mul_le_mul hl hl)
theorem Jw {H H':Hp} {a:Addr} (sm:aB H H') (z:HO):aB (upd H a z) (upd H' a z):=fun b o e=>by
 by_cases hb:b=a
 ·rw [hb,aj] at e ⊢
  exact e
 ·rw [ak hb] at e ⊢
  exact sm b o e
theorem Gg {H H':Hp} {a:Addr} {u z:HO} (ha:H a=some u) (sm:aB (upd H a z) H'):aB H (upd H' a u):=fun b o e=>by
 by_cases hb:b=a
 ·rw [hb,aj]
  rw [hb,ha] at e
  exact e
 ·rw [ak hb]
  exact sm b o (by rw [ak hb];exact e)
section
variable {P:Program} {w:World} {K:PySem.W.Frag} {mg:Str→Option Value} {base:Heap}
noncomputable abbrev Gh:Stmt:=top 34
theorem J6:aH ["road","far_from","goal","behind"] ["road","far_from","goal"] (aC Gh):=⟨rfl,rfl,rfl,by decide+kernel,rfl,by decide+kernel,by decide+kernel⟩
theorem Mr {f:Addr} {fd:FuncData} (F:Fun K "begins_shortest" "begins_shortest" Gh f fd):aD P w K mg base CX0 1 f fd ["road","far_from","goal"] Ge:=by
 refine F.ok J6 (fun vs H Q E h=>?_) (fun cdv A outer s H vs Q E hr h=>?_)
 ·obtain ⟨r,f',pa,pb,hs,d,kvs,g,Da,Db,rfl,_⟩:=h
  rfl
 ·obtain ⟨r,f',pa,pb,hs,d,kvs,g,Da,Db,rfl,hR,hf,va,vb,Ta,Tb,hv,q⟩:=h
  refine ⟨_,(ao (aL (i:=3) J6.nd rfl (Or.inl rfl) (qd (cQ hr) (d8 (cQ hr) (pv 1) (aK aP (pv 0) au (fun _ _=>rfl)) (fun _ _=>rfl)) (pv 2) ⟨rfl,rfl,rfl,rfl⟩))
   (az (aU (gH (c7 ug (pv 3) jw (bG _)) (jy (c7 mC (aM cu (aK aP (pv 0) au (fun _ _=>rfl)) (pv 3)) (d8 (cQ hr) (d8 (cQ hr) (pv 1) (aK aP (pv 0) au (fun _ _=>rfl)) (fun _ _=>rfl)) (pv 2) (fun _ _=>rfl)) (bG _))))))),?_⟩
  have ga:=fX.k (k:=Sum.inr (S (hs.getD d.a []))) hf
  have gb:=fX.k (k:=Sum.inr (S (hs.getD d.b []))) hf
  rw [va] at ga
  rw [vb] at gb
  have ta:=Ta.get g
  have tb:=Tb.get g
  unfold begins at q
  have ib:IsD H pb:=by
   obtain ⟨kb,r0,_⟩:=Tb
   exact .inl ⟨kb,r0⟩
  refine ⟨_,rfl,_,rfl,r,_,_,_,rfl,rfl,SqT.of hR,rfl,f',_,rfl,gb,pb,rfl,ib,_,rfl,_,tb,_,rfl,?_⟩
  cases hb:Db g with
  | none=>
   rw [hb] at q
   exact ⟨rfl,_,rfl,gw (by decide) q⟩
  | some u=>
   rw [hb] at q
   obtain ⟨v,hv⟩:=hv u hb
   have gv:=ta
   rw [hv] at gv q
   refine ⟨rfl,_,rfl,eY (by simp) ⟨_,rfl,r,_,_,_,rfl,rfl,SqT.of hR,rfl,_,rfl,_,_,rfl,rfl,_,rfl,_,rfl,r,_,_,_,rfl,rfl,SqT.of hR,rfl,f',_,rfl,ga,_,rfl,pa,_,rfl,gv,rfl,?_⟩⟩
   have ee:decide (V.int (d.t+u)=V.int v)=decide (some ((d.t:Int)+u)=some v):=by simp
   rw [ee]
   exact q
end
open PySem L2 L3 M1
theorem wU {hs:List (List Nat)} {y:Str} (h:y∈hs.map S):inD (.str y) (hD hs)=true:=by
 obtain ⟨x,hx,rfl⟩:=List.mem_map.mp h
 obtain ⟨k,hk,ek⟩:=List.getElem_of_mem hx
 have e:hs.getD k []=x:=by rw [List.getD,List.getElem?_eq_getElem hk,ek];rfl
 have:=Jg hk
 rwa [e] at this
theorem uU {hs:List (List Nat)} {h g:Str} (a:h∈hs.map S) (b:g∈hs.map S) (n:h≠g):dF (hD hs) (.str h) (.str g)=true:=by
 unfold dF
 rw [wU a,wU b,wJ,decide_eq_false n]
 rfl
theorem oR {H:Hp} {hs:List (List Nat)} (G:Good hs) {c:Str} (h:c∈hs.map S):Th H (.str c) (.str c):=by
 obtain ⟨x,hx,rfl⟩:=List.mem_map.mp h
 have n:=G.nm x hx
 exact .str _ (by rw [zJ];have:=n.2.1;omega) (wj n)
noncomputable def J7 (H1 H:Hp) (q:Addr) (fk:List (Key × L2.V)) (hs:List (List Nat)) (ds:List M1.Rd) (h:Str):Prop:=∃(p:Addr) (kv:List (Key × L2.V)),bD fk (Sum.inr h:Key)=some (.ref p)∧p≠q∧H1 p=none∧H p=some (.dK kv)∧Tab kv (cZ hs ds h)
theorem jn {H H':Hp} {p:Addr} (sm:aB H H') (hp:H' p=none):H p=none:=by
 cases e:H p with
 | none=>rfl
 | some o=>rw [sm _ _ e] at hp;cases hp
theorem cP {H:Hp} {a b:Addr} {o:HO} (ha:H a=some o) (hb:H b=none):a≠b:=fun e=>by rw [e,hb] at ha;cases ha
theorem Ot {hs:List (List Nat)} {i:Nat} {v:L2.V} (e:(txs hs)[i]?=some v):∃h,v=.str h∧(hs.map S)[i]?=some h:=by
 unfold txs at e
 rw [List.getElem?_map] at e
 obtain ⟨x,hx,rfl⟩:=Option.map_eq_some_iff.mp e
 exact ⟨S x,rfl,by rw [List.getElem?_map,hx];rfl⟩
theorem tU {κ:Type} [DecidableEq κ] {k:κ} {x:L2.V}:∀{kvs:List (κ × L2.V)},(k,x)∈kvs→(bD kvs k).isSome=true:=fun {kvs} h=>by
 rw [←du]
 exact List.any_eq_true.mpr ⟨_,h,decide_eq_true rfl⟩
theorem tV {κ:Type} [DecidableEq κ] {k:κ} {kvs:List (κ × L2.V)} (h:(bD kvs k).isSome=true):∃(j:Nat) (x:L2.V),kvs[j]?=some (k,x):=by
 rw [←du] at h
 obtain ⟨⟨k',x⟩,hm,e⟩:=List.any_eq_true.mp h
 obtain ⟨j,hj⟩:=List.getElem?_of_mem hm
 exact ⟨j,x,by rw [hj,show k'=k from of_decide_eq_true e]⟩
theorem Jx {hs:List (List Nat)} {ds:List M1.Rd} (R:∀d∈ds,d.Ok hs.length) {h g:Str} {u:Int} (p:M4.Path (eds hs ds) h g u) (hm:h∈hs.map S):g∈hs.map S:=by
 cases p with
 | nil=>exact hm
 | snoc e _ he=>
  obtain ⟨d,hd,rfl⟩:=List.mem_map.mp he
  exact eZ (R d hd).b
theorem wV {hs:List (List Nat)} {ds:List M1.Rd} {h:Str} {i:Nat} {v:L2.V} (e:((touch hs ds (·.a) h).map V.int)[i]?=some v):∃(k:Nat) (d:M1.Rd),v=.int (k:Int)∧ds[k]?=some d∧S (hs.getD d.a [])=h:=by
 obtain ⟨z,hz,rfl⟩:=List.mem_map.mp (List.mem_of_getElem? e)
 unfold touch uN at hz
 obtain ⟨k,hk,rfl⟩:=List.mem_map.mp hz
 obtain ⟨h1,h2⟩:=List.mem_filter.mp hk
 have hl:=List.mem_range.mp h1
 have e1:ds[k]?=some ds[k]:=List.getElem?_eq_getElem hl
 refine ⟨k,ds[k],rfl,e1,?_⟩
 rw [gj e1] at h2
 have:=of_decide_eq_true h2
 cases this
 rfl
theorem pH {te:TE} {g:TG} {u:TS} {D:Ends} {σ:L2.St} {H:Hp} (h:te σ H fun v H1=>g v σ H1 (u D)):xO (vG te g) u D σ H:=h
theorem Jy {K:PySem.W.Frag} {wi:TI} {cs:List (Option Nat)} {tt:TT} {te:TE} {σ rest:L2.St} {H:Hp} {Q:VK} {xs:List L2.V} (hw:∀R:It→Hp→Prop,(∀p H1,H p=none→aB H H1→H1 p=some (.lst xs)→R (Itl K p) H1)→wi σ H R) (hcs:fQ cs σ=none::rest) (hl:xs.length < sizeLine) (p:L2.V→Bool) (f:L2.V→L2.V)
  (test:∀(i:Nat) (x:L2.V) (H2:Hp) (R:Bool→Hp→Prop),xs[i]?=some x→aB H H2→(∀H5,aB H2 H5→R (p x) H5)→tt (some x::rest) H2 R)
  (elt:∀(i:Nat) (x:L2.V) (H2:Hp) (R:VK),xs[i]?=some x→p x=true→aB H H2→(∀H5,aB H2 H5→R (f x) H5)→te (some x::rest) H2 R)
  (fin:∀(D:Addr) (H':Hp),H D=none→H' D=some (.lst ((xs.filter p).map f))→aB H H'→Q (.ref D) H'):tLC wi cs (cJ 0) tt te σ H Q:=
 hw _ fun q H1 nq s1 hq=>Du hcs (dD (SqL.of hq)) hl p f (fun i x H2 R ex sm h=>test i x H2 R ex (s1.trans sm) h) (fun i x H2 R ex px sm h=>elt i x H2 R ex px (s1.trans sm) h) fun D H' nD hD sm=>fin D H' (jn s1 nD) hD (s1.trans sm)
noncomputable def Told (hs:List (List Nat)) (ds:List M1.Rd) (i:Nat) (h g:Str):Prop:=(∃j,j < i∧(hs.map S)[j]?=some h)∧h≠g∧(cZ hs ds h g).isSome=true
structure dU (hs:List (List Nat)) (ds:List M1.Rd) (kvs:DTs):Prop where
 bst:Bst (best hs ds) (hs.map S) kvs (fun h g=>h∈hs.map S∧h≠g∧(cZ hs ds h g).isSome=true)
section
variable {P:Program} {w:World} {K:PySem.W.Frag} {mg:Str→Option Value} {base:Heap}
noncomputable abbrev sSh:Stmt:=top 35
theorem wW:aH ["net","roads","far_from","house","ways","goal","fitting"] ["net"] (aC sSh):=⟨rfl,rfl,rfl,by decide+kernel,rfl,by decide+kernel,by decide+kernel⟩
noncomputable def Ms (C CN:Addr):Sp:=fun vs H Q _=>∃(n a' b':Addr) (hs:List (List Nat)) (rs:List Addr) (ds:List M1.Rd),vs=[.ref n]∧iJ CN H n a' b' (txs hs) (refs rs)∧Good hs∧bI H hs rs ds∧rs.length≤40∧∀(x t:Addr) (H':Hp) (kvs:DTs),H x=none→H t=none→aB H H'→f9 C CN H' x n t a' b' (txs hs) (refs rs) kvs→dU hs ds kvs→Q (.ref x) H'
theorem Ou {C CN NH NR f f1 f2 f3 f4 f5 f6 fj:Addr} {fd fd1 fd2 fd3 fd4 fd5 fd6 fdj:FuncData} (F:Fun K "shortest" "shortest" sSh f fd) (B:Blt mg) (WC:oZ K C) (bR:Cls K CN) (uV:mg "Ways"=some (.ref C))
  (bO:Mn K CN "houses" "Net.houses" jk ["self"] f1 fd1) (cO:aD P w K mg base CX0 1 f1 fd1 ["self"] (lg CN))
  (iQ:Mn K CN "roads" "Net.roads" nj ["self"] f2 fd2) (j9:aD P w K mg base CX0 1 f2 fd2 ["self"] (qp CN))
  (cA:Mn K CN "out_of" "Net.out_of" BR ["self","house"] f3 fd3) (dG:aD P w K mg base (CXe P w) 2 f3 fd3 ["self","house"] (zY CN NH (·.a)))
  (b8:Dn K mg "least_turns_from" qO ["roads","house"] f4 fd4) (eO:aD P w K mg base CX0 2 f4 fd4 ["roads","house"] (uQ K))
  (cB:Dn K mg "begins_shortest" Gh ["road","far_from","goal"] f5 fd5) (nJ:aD P w K mg base CX0 1 f5 fd5 ["road","far_from","goal"] Ge)
  (pI:Mk K C fj) (kh:Inn K C "Ways.__init__" sWI ["self","net"] fj fdj) (kj:aD P w K mg base CX0 1 fj fdj ["self","net"] (Mg C))
  (fJ:Mn K C "set_way" "Ways.set_way" sSW ["self","house","goal","road"] f6 fd6) (iC:aD P w K mg base (CXe P w) 3 f6 fd6 ["self","house","goal","road"] (Mh C CN NH NR)):
  aD P w K mg base CX0 4 f fd ["net"] (Ms C CN):=by
 have d9:=WC.cl
 refine F.ok wW (fun vs H Q E h=>?_) (fun cdv A outer s H vs Q E hr h=>?_)
 ·obtain ⟨n,a',b',hs,rs,ds,rfl,_⟩:=h
  rfl
 ·obtain ⟨n,a',b',hs,rs,ds,rfl,N,G,hR,few,q⟩:=h
  refine ⟨_,(ao (aL (i:=1) wW.nd rfl (Or.inr rfl) (mH (pv 0) bR iQ.me j9 (hr.mono (by decide)) iQ.bd .nil bh))
   (ao (aL (i:=2) wW.nd rfl (Or.inr rfl) vX)
   (ao (dI PassesOwn.never rfl (bC (mH (pv 0) bR bO.me cO (hr.mono (by decide)) bO.bd .nil bh)) (aJ (i:=3) wW.nd rfl (Or.inl rfl))
    (az (pC (cQ hr) (pv 2) (pv 3) (bc eO (hr.mono (by decide)) (by rfl) b8.at_ b8.fn.kp b8.bd .nil bh (aa (pv 1) (aa (pv 3) aq))) rfl)))
   (ao (aL (i:=4) wW.nd rfl (Or.inl rfl) (uh pI kj (hr.mono (by decide)) (by rfl) uV kh.bd .nil bh (aa (pv 0) aq)))
   (ao (dI PassesOwn.never rfl (bC (mH (pv 0) bR bO.me cO (hr.mono (by decide)) bO.bd .nil bh)) (aJ (i:=3) wW.nd rfl (Or.inl rfl))
    (az (Mm (dI PassesOwn.never rfl (FZ (d8 (cQ hr) (pv 2) (pv 3) (fun _ _=>rfl))) (aJ (i:=5) wW.nd rfl (Or.inr rfl))
    (az (cI (bK sy (pv 5) (pv 3) (bG _)) (ao (gr (i:=6) wW.nd rfl rfl rfl (N':=["number","far_from","goal","roads"]) (cs:=[none,some 2,some 5,some 1]) rfl (bC (bL (pv 0) bR cA.me dG (hr.mono (by decide)) cA.bd .nil Ea (aa (pv 3) aq))) rfl (by decide+kernel) rfl (by decide+kernel) (cY (List.forall_mem_cons.mpr ⟨rfl,(List.forall_mem_cons.mpr ⟨rfl,(List.forall_mem_cons.mpr ⟨rfl,(fun p hp=>absurd hp (List.not_mem_nil))⟩)⟩)⟩)) rfl
    (.own (.cap rfl (.inl rfl) (.inl rfl) rfl (.cap rfl (.inl rfl) (.inl rfl) rfl (.cap rfl (.inl rfl) (.inl rfl) rfl .nil))))
    (fun C s3 H3 fp pn=>⟨(aJ (i:=0) (by show (["number","far_from","goal","roads"]:List Str).Nodup;decide+kernel) rfl (.inl rfl)),(kW (iU (bc nJ (hr.mono (by decide)) (by rfl) cB.at_ cB.fn.kp cB.bd .nil bh (aa (aK (DG (K:=K) rfl) (pv 3) (pv 0) (fun _ _=>rfl)) (aa (pv 1) (aa (pv 2) aq)))))),(pv 0)⟩))
   (az (cg (bL (pv 4) d9 fJ.me iC (hr.mono (by decide)) fJ.bd .nil Ea (aa (pv 3) (aa (pv 5) (aa (aV (tR rfl) (by rfl) B.min J2 (aa (pv 6) aq)) aq))))))) bw))))))
   (az (aU (pv 4)))))))),?_⟩
  obtain ⟨dn,hn⟩:=N.ins
  have hlen:=hR.len
  have few12:=G.few
  refine ⟨_,rfl,n,dn,_,rfl,hn,rfl,n,a',b',_,_,rfl,N,fun p1 np1=>?_⟩
  have s1:aB H (upd H p1 (.lst (refs rs))):=aF np1
  have h1:upd H p1 (.lst (refs rs)) p1=some (.lst (refs rs)):=aj
  generalize upd H p1 (.lst (refs rs))=H1 at s1 h1 ⊢
  refine fun p2 np2=>?_
  have s2:aB H1 (upd H1 p2 (.dK [])):=aF np2
  have h2:upd H1 p2 (.dK []) p2=some (.dK []):=aj
  generalize upd H1 p2 (.dK [])=H2 at s2 h2 ⊢
  refine ⟨_,rfl,n,dn,_,rfl,s2 _ _ (s1 _ _ hn),rfl,n,a',b',_,_,rfl,(N.same s1).same s2,fun p3 np3=>⟨p3,rfl,⟨_,SqL.of aj⟩,?_⟩⟩
  have n32:p2≠p3:=cP h2 np3
  refine dJ (xs:=txs hs) (fun i σ Hc=>∃(fk:List (Key × L2.V)) (vh:Option L2.V),σ=[some (.ref n),some (.ref p1),some (.ref p2),vh,none,none,none]∧aB H1 Hc∧Hc p3=some (.lst (txs hs))∧Hc p2=some (.dK fk)∧fk.length≤i∧∀j h,j < i→(hs.map S)[j]?=some h→J7 H1 Hc p2 fk hs ds h)
   ⟨[],none,rfl,s2.trans (aF np3),aj,by rw [ak n32];exact h2,Nat.le_refl _,fun j h hj _=>absurd hj (Nat.not_lt_zero _)⟩ ?_ ?_ ?_
  ·rintro i σ Hc hi ⟨fk,vh,rfl,sm,h3,_⟩
   exact SqL.of h3
  ·rintro i v σ Hc ev ⟨fk,vh,rfl,sm,h3,hf,hfl,hF⟩
   obtain ⟨h,rfl,eh⟩:=Ot ev
   have il:i < hs.length:=by have:=(List.getElem?_eq_some_iff.mp eh).1;rwa [List.length_map] at this
   refine ⟨_,rfl,_,rfl,p1,hs,rs,ds,h,rfl,SqL.of (sm _ _ h1),(hR.same s1).same sm,few12,List.mem_of_getElem? eh,fun p H' kv D np sm2 hk T L=>?_⟩
   refine ⟨_,rfl,_,rfl,p2,_,rfl,p8.k (k:=Sum.inr h) (sm2 _ _ hf) (aG (by omega)),?_⟩
   have np1':H1 p=none:=jn sm np
   have ne2:p≠p2:=Ne.symm (cP hf np)
   have eD:D=cZ hs ds h:=funext fun g=>M4.dist_of L g
   subst eD
   refine ⟨_,_,rfl,aY np2 (sm.trans sm2),by rw [ak (Ne.symm n32)];exact sm2 _ _ h3,aj,?_,fun j h' hj eh'=>?_⟩
   ·cases hv:bD fk (Sum.inr h:Key) with
    | none=>rw [jh _ hv,List.length_append];simp only [List.length_cons,List.length_nil];omega
    | some u=>rw [qM _ hv];omega
   ·by_cases e:h'=h
    ·subst e
     exact ⟨p,kv,by rw [jU,if_pos rfl],ne2,np1',by rw [ak ne2];exact hk,T⟩
    ·have hji:j < i:=by
      rcases Nat.lt_or_ge j i with z | z
      ·exact z
      ·have:j=i:=by omega
       subst this
       rw [eh] at eh'
       cases eh'
       exact absurd rfl e
     obtain ⟨p',kv',v',ne',nn',hk',T'⟩:=hF j h' hji eh'
     exact ⟨p',kv',by rw [jU,if_neg fun z=>e (Sum.inr.inj z)];exact v',ne',nn',by rw [ak ne'];exact sm2 _ _ hk',T'⟩
  ·rintro σ Hc ⟨fk,vh,rfl,sm,h3,hf,hfl,hF⟩
   have hFm:∀h∈hs.map S,J7 H1 Hc p2 fk hs ds h:=fun h hm=>by
    obtain ⟨j,hj⟩:=List.getElem?_of_mem hm
    exact hF j h (by have:=(List.getElem?_eq_some_iff.mp hj).1;rw [List.length_map] at this;unfold txs;rw [List.length_map];exact this) hj
   refine ⟨_,rfl,fun x dx nx ndx nxd=>⟨x,dx,_,rfl,aj,fun t nt=>⟨rfl,?_⟩⟩⟩
   have nt0:Hc t=none:=by
    refine jn (aY (o:=.ins C dx []) nx (aF (o:=.own x) ndx)) nt
   have tx:x≠t:=cP (H:=upd (upd Hc dx (.own x)) x (.ins C dx [])) aj nt
   have sM:aB Hc (upd (upd (upd (upd Hc dx (.own x)) x (.ins C dx [])) t (.dT [])) x (.ins C dx (nH n t))):=aY nx (aY nt0 (aY nx (aF ndx)))
   have hxM:upd (upd (upd (upd Hc dx (.own x)) x (.ins C dx [])) t (.dT [])) x (.ins C dx (nH n t)) x=some (.ins C dx (nH n t)):=aj
   have htM:upd (upd (upd (upd Hc dx (.own x)) x (.ins C dx [])) t (.dT [])) x (.ins C dx (nH n t)) t=some (.dT []):=by rw [ak (Ne.symm tx),aj]
   show xO _ _ _ _ (upd (upd (upd (upd Hc dx (.own x)) x (.ins C dx [])) t (.dT [])) x (.ins C dx (nH n t)))
   generalize upd (upd (upd (upd Hc dx (.own x)) x (.ins C dx [])) t (.dT [])) x (.ins C dx (nH n t))=Hm at sM hxM htM ⊢
   have Nc:iJ CN Hc n a' b' (txs hs) (refs rs):=(N.same s1).same sm
   refine ⟨_,rfl,n,dn,_,rfl,sM _ _ (sm _ _ (s1 _ _ hn)),rfl,n,a',b',_,_,rfl,Nc.same sM,fun p4 np4=>⟨p4,rfl,⟨_,SqL.of aj⟩,?_⟩⟩
   have np4c:Hc p4=none:=jn sM np4
   have n4x:x≠p4:=cP hxM np4
   have n4t:t≠p4:=cP htM np4
   refine dJ (xs:=txs hs) (fun i σ Hd=>∃(kvs:DTs) (vh vg vf:Option L2.V),σ=[some (.ref n),some (.ref p1),some (.ref p2),vh,some (.ref x),vg,vf]∧aB Hc Hd∧Hd p4=some (.lst (txs hs))∧Hd x=some (.ins C dx (nH n t))∧Hd t=some (.dT kvs)∧Bst (best hs ds) (hs.map S) kvs (Told hs ds i))
    ⟨[],vh,none,none,rfl,sM.trans (aF np4),aj,by rw [ak n4x];exact hxM,by rw [ak n4t];exact htM,⟨fun h g m=>?_,fun h g _=>rfl,fun k hk=>(nomatch hk),List.nodup_nil⟩⟩ ?_ ?_ ?_
   ·obtain ⟨⟨j,hj,_⟩,_⟩:=m
    exact absurd hj (Nat.not_lt_zero _)
   ·rintro i σ Hd hi ⟨kvs,vh',vg,vf,rfl,sd,h4,_⟩
    exact SqL.of h4
   ·rintro i v σ Hd ev ⟨kvs,vh',vg,vf,rfl,sd,h4,hx,ht,BT⟩
    obtain ⟨h,rfl,eh⟩:=Ot ev
    have hm:h∈hs.map S:=List.mem_of_getElem? eh
    obtain ⟨pa,kv,va,na2,na1,hka,Ta⟩:=hFm h hm
    have nxa:x≠pa:=Ne.symm (cP hka nx)
    have nta:t≠pa:=Ne.symm (cP hka nt0)
    have n4a:p4≠pa:=Ne.symm (cP hka np4c)
    refine ⟨pa,kv,sd _ _ hka,fun o=>?_⟩
    have gp2:=fX.k (k:=Sum.inr h) (show upd Hd pa (.frz o (.dK kv)) p2=some (.dK fk) by rw [ak (Ne.symm na2)];exact sd _ _ hf)
    rw [va] at gp2
    refine ⟨_,rfl,_,rfl,p2,_,rfl,gp2,pa,o,kv,rfl,aj,?_⟩
    refine BW (fun j σ He=>∃(kvs:DTs) (vg vf:Option L2.V),σ=[some (.ref n),some (.ref p1),some (.ref p2),some (.str h),some (.ref x),vg,vf]∧aB (upd Hc pa (.frz o (.dK kv))) He∧He p4=some (.lst (txs hs))∧He x=some (.ins C dx (nH n t))∧He t=some (.dT kvs)∧
      Bst (best hs ds) (hs.map S) kvs (fun h' g=>Told hs ds i h' g∨(h'=h∧h≠g∧∃j' z,j' < j∧kv[j']?=some (Sum.inr g,z))))
     ⟨kvs,vg,vf,rfl,Jw sd _,by rw [ak n4a];exact h4,by rw [ak nxa];exact hx,by rw [ak nta];exact ht,BT.iff fun h' g=>⟨.inl,fun z=>z.resolve_right fun ⟨_,_,j',_,y,_⟩=>absurd y (Nat.not_lt_zero _)⟩⟩ ?_ ?_ ?_
    ·rintro j σ He ⟨kvs,vg,vf,rfl,se,_⟩
     exact se _ _ aj
    ·rintro j k z σ He ek ⟨kvs,vg,vf,rfl,se,h4e,hxe,hte,Be⟩
     obtain ⟨g,eg⟩:=Ta.ks _ (List.mem_of_getElem? ek)
     have eg':k=Sum.inr g:=eg
     subst eg'
     have h9:∀e∈eds hs ds,1≤e.t:=fun e he=>by
      obtain ⟨d,hd,rfl⟩:=List.mem_map.mp he
      exact (hR.ok d hd).t.1
     have hv0:(cZ hs ds h g).isSome=true:=by
      have:=tU (List.mem_of_getElem? ek)
      rw [Ta.at_] at this
      simpa using this
     obtain ⟨v,hv⟩:=Option.isSome_iff_exists.mp hv0
     have hg:g∈hs.map S:=Jx hR.ok ((M4.fars h9 g).path h v hv) hm
     refine ⟨_,rfl,_,rfl,rfl,_,rfl,?_⟩
     by_cases e:g=h
     ·subst e
      refine gw (show (!decide (V.str g=V.str g))=false by simp) ⟨kvs,_,vf,rfl,se,h4e,hxe,hte,Be.iff fun h' g'=>?_⟩
      constructor
      ·rintro (y | ⟨a,b,j',z',hj,ez⟩)
       ·exact .inl y
       ·exact .inr ⟨a,b,j',z',by omega,ez⟩
      ·rintro (y | ⟨a,b,j',z',hj,ez⟩)
       ·exact .inl y
       ·refine .inr ⟨a,b,j',z',?_,ez⟩
        rcases Nat.lt_or_ge j' j with y | y
        ·exact y
        ·have:j'=j:=by omega
         subst this
         rw [ek] at ez
         cases ez
         exact absurd rfl b
     ·refine eY (show (!decide (V.str g=V.str h))=true by simp [e]) ?_
      have hne:h≠g:=Ne.symm e
      have sHe:aB H (upd Hc pa (.frz o (.dK kv))):=s1.trans (aY na1 sm)
      have Nee:=N.same (sHe.trans se)
      have hRe:=hR.same (sHe.trans se)
      have hp1e:=se _ _ ((aY (o:=.frz o (.dK kv)) na1 sm) _ _ h1)
      have hp2e:=se _ _ (show upd Hc pa (.frz o (.dK kv)) p2=some (.dK fk) by rw [ak (Ne.symm na2)];exact hf)
      refine pH ?_
      refine Jy (K:=K) (rest:=[some (.ref p2),some (.str g),some (.ref p1)]) (xs:=(touch hs ds (·.a) h).map V.int) (fun R hR5=>?_) rfl (by rw [List.length_map];have:=BP hs ds (·.a) h;exact aG (by omega)) (fun y=>match y with | .int i=>wO hs ds h g i | _=>false) id (fun i y H6 R ey s56 hR6=>?_) (fun i y H6 R ey _ s6 hR6=>⟨_,rfl,hR6 H6 (aB.refl _)⟩) (fun D H6 nD hD s56=>?_)
      ·exact ⟨_,rfl,n,dn,_,rfl,(sHe.trans se) _ _ hn,rfl,_,rfl,n,a',b',hs,rs,ds,h,rfl,Nee,hRe,few,fun _ p5 H5 np5 s5 h5=>⟨p5,rfl,⟨_,SqL.of h5⟩,hR5 p5 H5 np5 s5 h5⟩,fun y=>absurd hm y⟩
      ·obtain ⟨k,d,rfl,ed',ea⟩:=wV ey
       obtain ⟨r,er⟩:∃r,rs[k]?=some r:=⟨_,List.getElem?_eq_getElem (by rw [hlen];exact (List.getElem?_eq_some_iff.mp ed').1)⟩
       obtain ⟨d',ed2,okd,hrd⟩:=hRe.get er
       rw [ed'] at ed2
       cases ed2
       obtain ⟨pb,kb,vb,nb2,nb1,hkb,Tb⟩:=hFm _ (eZ okd.b)
       have TAa:TabAt H6 pa (cZ hs ds h):=⟨kv,.inr ⟨o,s56 _ _ (se _ _ aj)⟩,Ta⟩
       have TAb:TabAt H6 pb (cZ hs ds (S (hs.getD d.b []))):=by
        by_cases eb:pb=pa
        ·subst eb
         rw [hka] at hkb
         cases hkb
         exact ⟨kv,.inr ⟨o,s56 _ _ (se _ _ aj)⟩,Tb⟩
        ·exact ⟨kb,.inl (s56 _ _ (se _ _ (by rw [ak eb];exact hkb))),Tb⟩
       have er2:L2.atI (refs rs) (k:Int)=some (.ref r):=cN (by unfold refs;rw [List.getElem?_map,er];rfl)
       refine ⟨_,rfl,_,rfl,p1,_,_,_,rfl,rfl,SqL.of (s56 _ _ hp1e),er2,_,rfl,_,rfl,r,p2,pa,pb,hs,d,fk,g,_,_,rfl,s56 _ _ hrd,s56 _ _ hp2e,by rw [ea];exact va,vb,TAa,TAb,fun u hu=>⟨v,hv⟩,_,rfl,?_⟩
       have ep:wO hs ds h g (k:Int)=begins (cZ hs ds h) (cZ hs ds (S (hs.getD d.b []))) g d.t:=by
        unfold wO toI
        rw [Int.toNat_natCast,gj ed']
       rw [←ep]
       exact hR6 H6 (aB.refl _)
      ·have ef:(((touch hs ds (·.a) h).map V.int).filter fun y=>match y with | .int i=>wO hs ds h g i | _=>false).map id=(fit hs ds h g).map V.int:=by
        rw [List.map_id,List.filter_map]
        rfl
       rw [ef] at hD
       refine ⟨_,rfl,x,dx,_,rfl,s56 _ _ hxe,rfl,_,rfl,_,rfl,_,rfl,D,_,rfl,SqL.of hD,Gf h9 hv hne,x,n,t,a',b',hs,rs,ds,kvs,h,g,_,rfl,⟨⟨dx,s56 _ _ hxe⟩,Nee.same s56,s56 _ _ hte⟩,G,hRe.same s56,few,oR G hm,oR G hg,aG (by have:=Be.few (by rw [List.length_map];exact few12);omega),fun _ _ H7 s7=>?_,fun y=>absurd (uU hm hg hne) (by rw [y];decide),fun _ y=>absurd (wQ h9 hv hne).1 y⟩
       have s57:=s56.trans s7
       refine ⟨_,_,_,rfl,aY (by rw [ak nta];exact nt0) (se.trans s57),by rw [ak (Ne.symm n4t)];exact s57 _ _ h4e,by rw [ak tx];exact s57 _ _ hxe,aj,(Be.put hm hg).iff fun h' g'=>?_⟩
       constructor
       ·rintro ((y | ⟨a,b,j',z',hj,ez⟩) | ⟨rfl,rfl⟩)
        ·exact .inl y
        ·exact .inr ⟨a,b,j',z',by omega,ez⟩
        ·exact .inr ⟨rfl,hne,j,z,Nat.lt_succ_self _,ek⟩
       ·rintro (y | ⟨a,b,j',z',hj,ez⟩)
        ·exact .inl (.inl y)
        ·rcases Nat.lt_or_ge j' j with y | y
         ·exact .inl (.inr ⟨a,b,j',z',y,ez⟩)
         ·have:j'=j:=by omega
          subst this
          rw [ek] at ez
          cases ez
          exact .inr ⟨a,rfl⟩
    ·rintro σ He ⟨kvs,vg,vf,rfl,se,h4e,hxe,hte,Be⟩
     refine ⟨se _ _ aj,kvs,_,vg,vf,rfl,Gg hka se,by rw [ak n4a];exact h4e,by rw [ak nxa];exact hxe,by rw [ak nta];exact hte,Be.iff fun h' g=>?_⟩
     constructor
     ·rintro (⟨⟨j,hj,ej⟩,b,c⟩ | ⟨rfl,b,j',z,_,ez⟩)
      ·exact ⟨⟨j,by omega,ej⟩,b,c⟩
      ·refine ⟨⟨i,Nat.lt_succ_self _,eh⟩,b,?_⟩
       have:=tU (List.mem_of_getElem? ez)
       rw [Ta.at_] at this
       simpa using this
     ·rintro ⟨⟨j,hj,ej⟩,b,c⟩
      by_cases e:h'=h
      ·subst e
       have:(bD kv (Sum.inr g:Key)).isSome=true:=by rw [Ta.at_];simpa using c
       obtain ⟨j',z,ez⟩:=tV this
       exact .inr ⟨rfl,b,j',z,(List.getElem?_eq_some_iff.mp ez).1,ez⟩
      ·refine .inl ⟨⟨j,?_,ej⟩,b,c⟩
       rcases Nat.lt_or_ge j i with y | y
       ·exact y
       ·have:j=i:=by omega
        subst this
        rw [eh] at ej
        cases ej
        exact absurd rfl e
   ·rintro σ Hd ⟨kvs,vh',vg,vf,rfl,sd,h4,hx,ht,BT⟩
    refine ⟨_,rfl,q x t Hd kvs (jn (s1.trans sm) nx) (jn (s1.trans sm) nt0) ((s1.trans sm).trans sd) ⟨⟨dx,hx⟩,Nc.same sd,ht⟩ ⟨BT.iff fun h g=>⟨fun ⟨⟨j,_,ej⟩,b,c⟩=>⟨List.mem_of_getElem? ej,b,c⟩,fun ⟨m,b,c⟩=>⟨?_,b,c⟩⟩⟩⟩
    obtain ⟨j,hj⟩:=List.getElem?_of_mem m
    exact ⟨j,by have:=(List.getElem?_eq_some_iff.mp hj).1;rw [List.length_map] at this;unfold txs;rw [List.length_map];exact this,hj⟩
end
end K1
namespace L3
open PySem PySem.Spec PyProof.Rows L2 PySem.W
structure qP (n:Nat) (lt:Nat→Nat→Bool):Prop where
 tr:∀i j k,lt i j=true→lt j k=true→lt i k=true
 to:∀i j,i < n→j < n→i≠j→lt i j=true∨lt j i=true
 ir:∀i,lt i i=false
noncomputable abbrev gx (p:Array Nat) (a:Nat):Nat:=p.getD a 0
noncomputable def jo (lt:Nat→Nat→Bool) (p:Array Nat) (k:Nat):Prop:=∀a b,a < b→b < k→lt (gx p a) (gx p b)=true
theorem ig {α β:Type} (lt:Nat→Nat→Bool) (f:α→KasT β):∀t:KasT α,fY lt (t.bind f)=fY lt (f (fY lt t))
 | .ret _=>rfl
 | .ask i j k=>ig lt f (k (lt i j))
theorem z8 {α:Type} (lt:Nat→Nat→Bool) {c:Prop} [Decidable c] (s t:KasT α):fY lt (if c then s else t)=if c then fY lt s else fY lt t:=by split <;> rfl
theorem AB.size {n:Nat} {p:Array Nat} (h:AB n p):p.size=n:=by
 have:=h.list.length_eq
 simpa using this
theorem AB.inj {n:Nat} {p:Array Nat} (h:AB n p) {a b:Nat} (ha:a < n) (hb:b < n) (e:gx p a=gx p b):a=b:=by
 have nd:p.toList.Nodup:=h.list.nodup_iff.mpr List.nodup_range
 have sz:=h.size
 have e1:gx p a=p.toList[a]'(by simp;omega):=by simp [gx,Array.getD,show a < p.size by omega]
 have e2:gx p b=p.toList[b]'(by simp;omega):=by simp [gx,Array.getD,show b < p.size by omega]
 rw [e1,e2] at e
 exact (List.getElem_inj nd).mp e
section
variable {n:Nat} {lt:Nat→Nat→Bool}
theorem qP.or (o:qP n lt) {p:Array Nat} (h:AB n p) {a b:Nat} (ha:a < n) (hb:b < n) (ne:a≠b) (f:lt (gx p a) (gx p b)=false):lt (gx p b) (gx p a)=true:=by
 have h0:0 < n:=by omega
 rcases o.to (gx p a) (gx p b) (h.at h0 a) (h.at h0 b) (fun e=>ne (h.inj ha hb e)) with z | z
 ·rw [z] at f;cases f
 ·exact z
theorem jo.succ (o:qP n lt) {p:Array Nat} {k:Nat} (s:jo lt p k) (h1:1≤k) (h:lt (gx p (k - 1)) (gx p k)=true):jo lt p (k+1):=fun a b hab hb=>by
 by_cases e:b=k
 ·subst e
  by_cases e2:a=b - 1
  ·rw [e2];exact h
  ·exact o.tr _ _ _ (s a (b - 1) (by omega) (by omega)) h
 ·exact s a b hab (by omega)
theorem yV (o:qP n lt) {p:Array Nat} (h:AB n p):∀f k,1≤k→k+f≤n→jo lt p k→∃m,fY lt (kas_asc p f k)=m∧k≤m∧m≤k+f∧jo lt p m∧(m < k+f→lt (gx p m) (gx p (m - 1))=true)
 | 0,k,h1,h2,s=>⟨k,rfl,Nat.le_refl _,Nat.le_refl _,s,fun z=>absurd z (by omega)⟩
 | f+1,k,h1,h2,s=>by
  show ∃m,fY lt (if lt (gx p k) (gx p (k - 1))=true then .ret k else kas_asc p f (k+1))=m∧_
  cases e:lt (gx p k) (gx p (k - 1)) with
  | true=>
   rw [if_pos rfl]
   exact ⟨k,rfl,Nat.le_refl _,by omega,s,fun _=>e⟩
  | false=>
   rw [if_neg (by decide)]
   have up:=o.or h (a:=k) (b:=k - 1) (by omega) (by omega) (by omega) e
   obtain ⟨m,e1,e2,e3,e4,e5⟩:=yV o h f (k+1) (by omega) (by omega) (s.succ o h1 up)
   exact ⟨m,e1,by omega,by omega,e4,fun z=>e5 (by omega)⟩
noncomputable def z9 (lt:Nat→Nat→Bool) (p:Array Nat) (k:Nat):Prop:=∀a b,a < b→b < k→lt (gx p b) (gx p a)=true
theorem Aa (o:qP n lt) {p:Array Nat} (h:AB n p):∀f k,1≤k→k+f≤n→z9 lt p k→∃m,fY lt (kas_desc f p k 0)=(p,m,0)∧k≤m∧m≤k+f∧z9 lt p m
 | 0,k,h1,h2,s=>⟨k,rfl,Nat.le_refl _,Nat.le_refl _,s⟩
 | f+1,k,h1,h2,s=>by
  show ∃m,fY lt (if lt (gx p k) (gx p (k - 1))=true then (if 0 > 0 then kas_desc f (kas_rev p (k - (0+1)) k) (k+1) 0 else kas_desc f p (k+1) 0) else .ask (gx p (k - 1)) (gx p k) fun d=>if d=true then .ret (p,k,0) else kas_desc f p (k+1) (0+1))=(p,m,0)∧_
  cases e:lt (gx p k) (gx p (k - 1)) with
  | true=>
   rw [if_pos rfl,if_neg (by omega)]
   have s2:z9 lt p (k+1):=fun a b hab hb=>by
    by_cases eb:b=k
    ·subst eb
     by_cases e2:a=b - 1
     ·rw [e2];exact e
     ·exact o.tr _ _ _ e (s a (b - 1) (by omega) (by omega))
    ·exact s a b hab (by omega)
   obtain ⟨m,e1,e2,e3,e4⟩:=Aa o h f (k+1) (by omega) (by omega) s2
   exact ⟨m,e1,by omega,by omega,e4⟩
  | false=>
   rw [if_neg (by decide)]
   have up:=o.or h (a:=k) (b:=k - 1) (by omega) (by omega) (by omega) e
   show ∃m,fY lt (if lt (gx p (k - 1)) (gx p k)=true then .ret (p,k,0) else kas_desc f p (k+1) (0+1))=(p,m,0)∧_
   rw [if_pos up]
   exact ⟨k,rfl,Nat.le_refl _,by omega,s⟩
theorem Ab {p q:Array Nat} {a b:Nat} (e:p[a]?=q[b]?):gx p a=gx q b:=by
 have f:∀(r:Array Nat) (c:Nat),gx r c=(r[c]?).getD 0:=fun r c=>by
  show r.getD c 0=_
  by_cases hc:c < r.size
  ·rw [Array.getElem?_eq_getElem hc]
   simp [Array.getD,hc]
  ·rw [Array.getElem?_eq_none (by omega)]
   simp [Array.getD,hc]
 rw [f,f,e]
theorem Gi {p:Array Nat} {r i:Nat} (hr:r≤p.size) (hi:i < r):gx (kas_rev p 0 r) i=gx p (r - 1 - i):=by
 have h:=getElem?_mirror_all (xs:=p) (i:=0) (j:=r) hr i
 rw [if_pos ⟨Nat.zero_le _,hi⟩,show 0+r - 1 - i=r - 1 - i by omega] at h
 exact Ab h
theorem Gj (o:qP n lt) {p:Array Nat} (h:AB n p) {k:Nat} (h1:1≤k) (h2:k≤n) (s:z9 lt p k):∃m q,fY lt (kas_tail3 k n p)=(m,q)∧1≤m∧m≤n∧jo lt q m∧AB n q:=by
 unfold kas_tail3
 rw [ig]
 have hr:=h.rev 0 k
 have sr:jo lt (kas_rev p 0 k) k:=fun a b hab hb=>by
  rw [Gi (by rw [h.size];exact h2) (by omega),Gi (by rw [h.size];exact h2) hb]
  exact s _ _ (by omega) (by omega)
 obtain ⟨m,e1,e2,e3,e4,_⟩:=yV o hr (n - k) k h1 (by omega) sr
 rw [e1]
 exact ⟨m,_,rfl,by omega,by omega,e4,hr⟩
theorem Gk (o:qP n lt) {p:Array Nat} (h:AB n p) (h0:2≤n):∃m q,fY lt (kas_count n p)=(m,q)∧1≤m∧m≤n∧jo lt q m∧AB n q:=by
 unfold kas_count
 rw [ig]
 obtain ⟨m,e1,e2,e3,e4,e5⟩:=yV o h (n - 1) 1 (Nat.le_refl _) (by omega) (fun a b hab hb=>by omega)
 rw [e1,z8]
 by_cases c1:m=n
 ·rw [if_pos (by simpa using c1)]
  exact ⟨m,p,rfl,e2,by omega,e4,h⟩
 ·rw [if_neg (by simpa using c1),z8]
  have lt1:=e5 (by omega)
  by_cases c2:m > 1
  ·rw [if_pos c2]
   show ∃m' q,fY lt (if lt (gx p 0) (gx p (m - 1))=true then .ret (m,p) else kas_descPart m n (kas_rev p 0 m))=(m',q)∧_
   rw [if_pos (e4 0 (m - 1) (by omega) (by omega))]
   exact ⟨m,p,rfl,e2,by omega,e4,h⟩
  ·rw [if_neg c2]
   have m1:m=1:=by omega
   subst m1
   unfold kas_descPart
   rw [ig]
   obtain ⟨k,d1,d2,d3,d4⟩:=Aa o h (n - (1+1)) (1+1) (by omega) (by omega) (fun a b hab hb=>by
    have:a=0∧b=1:=by omega
    rw [this.1,this.2]
    exact lt1)
   rw [d1]
   show ∃m' q,fY lt (if 0 > 0 then kas_tail3 k n (kas_rev p (k - (0+1)) k) else kas_tail3 k n p)=(m',q)∧_
   rw [if_neg (by omega)]
   exact Gj o h (by omega) (by omega) d4
theorem qQ (o:qP n lt) {p:Array Nat} (h:AB n p) {k:Nat} (hk:k < n) (s:jo lt p k):∀f l r,l≤r→r≤k→r - l≤f→(∀a,a < l→lt (gx p a) (gx p k)=true)→(∀a,r≤a→a < k→lt (gx p k) (gx p a)=true)→
  ∃m,fY lt (kas_place p k f l r)=m∧m≤k∧(∀a,a < m→lt (gx p a) (gx p k)=true)∧∀a,m≤a→a < k→lt (gx p k) (gx p a)=true
 | 0,l,r,h1,h2,h3,hl,hr=>⟨l,rfl,by omega,hl,fun a ha=>hr a (by omega)⟩
 | f+1,l,r,h1,h2,h3,hl,hr=>by
  show ∃m,fY lt (if l ≥ r then .ret l else .ask (gx p k) (gx p ((l+r) / 2)) fun c=>if c=true then kas_place p k f l ((l+r) / 2) else kas_place p k f ((l+r) / 2+1) r)=m∧_
  by_cases c:l ≥ r
  ·rw [if_pos c]
   exact ⟨l,rfl,by omega,hl,fun a ha=>hr a (by omega)⟩
  ·rw [if_neg c]
   show ∃m,fY lt (if lt (gx p k) (gx p ((l+r) / 2))=true then kas_place p k f l ((l+r) / 2) else kas_place p k f ((l+r) / 2+1) r)=m∧_
   have md:l≤(l+r) / 2∧(l+r) / 2 < r:=by omega
   cases e:lt (gx p k) (gx p ((l+r) / 2)) with
   | true=>
    rw [if_pos rfl]
    refine qQ o h hk s f l ((l+r) / 2) md.1 (by omega) (by omega) hl fun a ha hak=>?_
    by_cases ea:a=(l+r) / 2
    ·rw [ea];exact e
    ·exact o.tr _ _ _ e (s _ _ (by omega) hak)
   | false=>
    rw [if_neg (by decide)]
    have up:=o.or h (a:=k) (b:=(l+r) / 2) hk (by omega) (by omega) e
    refine qQ o h hk s f ((l+r) / 2+1) r (by omega) h2 (by omega) (fun a ha=>?_) hr
    by_cases ea:a=(l+r) / 2
    ·rw [ea];exact up
    ·exact o.tr _ _ _ (s a _ (by omega) (by omega)) up
theorem Gm {p:Array Nat} {k l i:Nat} (hk:k < p.size) (hl:l≤k):gx (bubble p k (k - l)) i=if i=l then gx p k else if l < i∧i≤k then gx p (i - 1) else gx p i:=by
 have h:=getElem?_bubble (xs:=p) hk (k - l) (by omega) i
 rw [show k - (k - l)=l by omega] at h
 by_cases c:i=l
 ·rw [if_pos c] at h ⊢
  exact Ab h
 ·rw [if_neg c] at h ⊢
  by_cases c2:l < i∧i≤k
  ·rw [if_pos c2] at h ⊢
   exact Ab h
  ·rw [if_neg c2] at h ⊢
   exact Ab h
theorem Gn (o:qP n lt):∀(f:Nat) (p:Array Nat) (k:Nat),AB n p→jo lt p k→k+f=n→jo lt (fY lt (kas_bin f p k)) n
 | 0,p,k,h,s,e=>by
  have:k=n:=by omega
  subst this
  exact s
 | f+1,p,k,h,s,e=>by
  show jo lt (fY lt ((kas_place p k k 0 k).bind fun l=>kas_bin f (bubble p k (k - l)) (k+1))) n
  rw [ig]
  obtain ⟨m,e1,e2,e3,e4⟩:=qQ o h (k:=k) (by omega) s k 0 k (Nat.zero_le _) (Nat.le_refl _) (by omega) (fun a ha=>absurd ha (by omega)) (fun a h1 h2=>absurd h2 (by omega))
  rw [e1]
  refine Gn o f _ _ (h.bub _ _) (fun a b hab hb=>?_) (by omega)
  have hk:k < p.size:=by rw [h.size];omega
  rw [Gm hk e2,Gm hk e2]
  by_cases a1:a=m
  ·rw [if_pos a1,if_neg (by omega),if_pos ⟨by omega,by omega⟩]
   exact e4 (b - 1) (by omega) (by omega)
  ·rw [if_neg a1]
   by_cases b1:b=m
   ·rw [if_pos b1,if_neg (by omega)]
    exact e3 a (by omega)
   ·rw [if_neg b1]
    by_cases a2:m < a∧a≤k
    ·rw [if_pos a2,if_pos ⟨by omega,by omega⟩]
     exact s _ _ (by omega) (by omega)
    ·rw [if_neg a2]
     by_cases b2:m < b∧b≤k
     ·rw [if_pos b2]
      exact s _ _ (by omega) (by omega)
     ·rw [if_neg b2]
      exact s _ _ hab (by omega)
theorem uW (o:qP n lt):(lK lt n).Pairwise fun i j=>lt i j=true:=by
 unfold lK
 by_cases h2:n < 2
 ·rw [if_pos h2]
  have:n=0∨n=1:=by omega
  rcases this with e | e <;> subst e <;> simp [List.range_succ]
 ·rw [if_neg h2]
  have hr:AB n (List.toArray (List.range n)):=Array.Perm.refl _
  unfold kas_sort
  rw [ig]
  obtain ⟨m,q,e1,e2,e3,e4,e5⟩:=Gk o hr (by omega)
  rw [e1]
  show ((fY lt (if m < n then kas_bin (n - max m 1) q (max m 1) else .ret q)).toList).Pairwise _
  have mx:max m 1=m:=by omega
  rw [mx]
  have fin:∀q':Array Nat,AB n q'→jo lt q' n→q'.toList.Pairwise fun i j=>lt i j=true:=fun q' a s=>by
   rw [List.pairwise_iff_getElem]
   intro i j hi hj hij
   have hj':j < n:=by rw [←a.size];simpa using hj
   have:=s i j hij hj'
   have si:i < q'.size:=by rw [a.size];omega
   have sj:j < q'.size:=by rw [a.size];omega
   have f1:gx q' i=q'[i]:=by simp [gx,Array.getD,si]
   have f2:gx q' j=q'[j]:=by simp [gx,Array.getD,sj]
   rw [f1,f2] at this
   simpa using this
  by_cases c:m < n
  ·rw [if_pos c]
   refine fin _ ?_ (Gn o _ _ _ e5 e4 (by omega))
   exact nA (lt:=lt) _ (Fj (by omega) _ _ _ e5)
  ·rw [if_neg c]
   have:m=n:=by omega
   subst this
   exact fin q e5 e4
end
open PySem PySem.Spec PyProof.Rows L2 PySem.W
section
variable {X:Cx}
noncomputable def ltI (ns:List Int) (i j:Nat):Bool:=decide (i < ns.length∧j < ns.length∧ns.getD i 0 < ns.getD j 0)
theorem Mt {ns:List Int} (nd:ns.Nodup):qP ns.length (ltI ns) where
 tr:=fun i j k h1 h2=>by
  have h1:=of_decide_eq_true h1
  have h2:=of_decide_eq_true h2
  exact decide_eq_true ⟨h1.1,h2.2.1,by omega⟩
 to:=fun i j hi hj ne=>by
  have e1:ns.getD i 0=ns[i]:=by rw [List.getD,List.getElem?_eq_getElem hi];rfl
  have e2:ns.getD j 0=ns[j]:=by rw [List.getD,List.getElem?_eq_getElem hj];rfl
  have dn:ns.getD i 0≠ns.getD j 0:=fun z=>ne ((List.getElem_inj nd).mp (by rw [←e1,←e2];exact z))
  rcases Int.lt_or_lt_of_ne dn with z | z
  ·exact .inl (decide_eq_true ⟨hi,hj,z⟩)
  ·exact .inr (decide_eq_true ⟨hj,hi,z⟩)
 ir:=fun i=>decide_eq_false fun z=>by omega
noncomputable def sortI (ns:List Int):List Int:=gK 0 (ltI ns) ns
theorem sortI_perm (ns:List Int):(sortI ns).Perm ns:=tK _ _ _
theorem Gp {ns:List Int} (nd:ns.Nodup):(sortI ns).Pairwise (· < ·):=by
 unfold sortI gK
 rw [List.pairwise_map]
 exact (uW (Mt nd)).imp fun z=>(of_decide_eq_true z).2.2
theorem Ac (ns:List Int):gK V.non (ltI ns) (ns.map V.int)=(sortI ns).map V.int:=by
 unfold sortI gK
 rw [List.map_map,List.length_map]
 refine List.map_congr_left fun i hi=>?_
 have:=qG hi
 show (ns.map V.int).getD i .non=V.int (ns.getD i 0)
 rw [List.getD,List.getElem?_map,List.getElem?_eq_getElem this,List.getD,List.getElem?_eq_getElem this]
 rfl
section
variable {prog:Program} {w:World} {A:Around} {s:Shared} {ns:List Int} {us:List Value}
theorem uX (r:Vals (ns.map V.int) us) {i:Nat} (hi:i < us.length):∃t,us.getD i Value.none=.int (ns.getD i 0) t:=by
 have hl:=r.length
 rw [List.length_map] at hl
 obtain ⟨u,hu,t,rfl⟩:=r.get (x:=V.int (ns.getD i 0)) (i:=i) (by rw [List.getElem?_map,List.getElem?_eq_getElem (by omega),List.getD,List.getElem?_eq_getElem (by omega)];rfl)
 exact ⟨t,by rw [List.getD,hu];rfl⟩
theorem tW (r:Vals (ns.map V.int) us) (h2:2≤us.length) {Q:SortKind→Shared→Prop} (h:Q oneType' s):wpAny (model prog w) A (keyKind' us.toArray) Q (fun _ _=>False) s:=by
 refine kas_kind (T:=.type "int") h2 (fun v hv=>?_) (by decide+kernel) (by decide+kernel) h
 obtain ⟨i,hi,rfl⟩:=List.getElem_of_mem hv
 obtain ⟨t,e⟩:=uX r hi
 rw [List.getD,List.getElem?_eq_getElem hi] at e
 have e:us[i]=.int (ns.getD i 0) t:=e
 rw [e]
 exact Looks.of_pure rfl
theorem wX (r:Vals (ns.map V.int) us) {i j:Nat} (hi:i < us.length) (hj:j < us.length) {C:Bool→Shared→Prop} (h:C (ltI ns i j) s):kas_ask prog w A oneType' us i j C s:=by
 have hl:=r.length
 rw [List.length_map] at hl
 obtain ⟨t,e1⟩:=uX r hi
 obtain ⟨u,e2⟩:=uX r hj
 unfold kas_ask
 rw [e1,e2]
 refine kat_lt_int ?_
 have e:ltI ns i j=decide (ns.getD i 0 < ns.getD j 0):=decide_eq_decide.mpr ⟨fun z=>z.2.2,fun z=>⟨by omega,by omega,z⟩⟩
 rw [←e]
 exact h
end
theorem Jz {P:Program} {w:World} {n:Int} {v:Value} (h:(bH P w).is (.inl n) v=true):RelV (V.int n) v:=by
 obtain ⟨t,e⟩:=Value.isInt_shape h
 exact ⟨t,e⟩
end
open PySem PySem.Spec PyProof.Rows L2
end L3
namespace K1
open PySem L2 L3 M1
theorem Ad {α:Type} {R:α→α→Prop} (as:∀a b,R a b→R b a→False):∀{a b:List α},a.Perm b→a.Pairwise R→b.Pairwise R→a=b
 | [],b,p,_,_=>p.nil_eq
 | x::a,[],p,_,_=>absurd p.length_eq (by simp)
 | x::a,y::b,p,sa,sb=>by
  rw [List.pairwise_cons] at sa sb
  have exy:x=y:=by
   rcases List.mem_cons.mp (p.mem_iff.mp (.head _):x∈y::b) with e | e
   ·exact e
   ·rcases List.mem_cons.mp (p.mem_iff.mpr (.head _):y∈x::a) with e2 | e2
    ·exact e2.symm
    ·exact (as _ _ (sa.1 y e2) (sb.1 x e)).elim
  subst exy
  rw [Ad as (List.Perm.cons_inv p) sa.2 sb.2]
noncomputable def pV (c:Int × Nat):List L2.V:=[.int c.1,.int (c.2:Int)]
noncomputable def pK (c:Int × Nat):List Key:=[.inl c.1,.inl (c.2:Int)]
theorem Gq (cs:List (Int × Nat)):∀d∈cs.map pK,kSh d=true::[true]:=fun d hd=>by
 obtain ⟨r,_,rfl⟩:=List.mem_map.mp hd
 rfl
noncomputable def dz (cs:List (Int × Nat)):List (Int × Nat):=(lK (ltK (cs.map pK)) cs.length).map fun i=>cs.getD i (0,0)
theorem gB (cs:List (Int × Nat)):(dz cs).Perm cs:=by
 unfold dz
 refine ((qH _ _).map _).trans ?_
 rw [show (List.range cs.length).map (fun i=>cs.getD i (0,0))=cs from ?_]
 refine List.ext_getElem (by simp) fun i h1 h2=>?_
 rw [List.getElem_map,List.getElem_range,List.getD,List.getElem?_eq_getElem h2]
 rfl
theorem qT {H:Hp}:∀{ts:List Addr} {cs:List (Int × Nat)},cT H ts (cs.map pV)→Paired (fun r d=>H r=some (.tup (d.map kV))) ts (cs.map pK)
 | _,[],h=>by cases h;exact .nil
 | _,c::cs,h=>by cases h with | cons a t=>exact .cons a (qT t)
theorem Ce {H:Hp} {ts:List Addr} {cs:List (Int × Nat)} (tp:cT H ts (cs.map pV)):∃ts',gK V.non (ltK (cs.map pK)) (refs ts)=refs ts'∧cT H ts' ((dz cs).map pV):=by
 have ln:(refs ts).length=cs.length:=by
  have:=tp.len
  rw [List.length_map] at this
  rw [aN,this]
 unfold gK dz
 rw [ln]
 have all:∀is:List Nat,(∀i∈is,i < cs.length)→∃ts',(is.map fun i=>(refs ts).getD i .non)=refs ts'∧cT H ts' ((is.map fun i=>cs.getD i (0,0)).map pV):=fun is=>by
  induction is with
  | nil=>intro _;exact ⟨[],rfl,.nil⟩
  | cons i q ih=>
   intro hi
   obtain ⟨ts',e1,tp'⟩:=ih fun j hj=>hi j (.tail _ hj)
   have lt:=hi i (.head _)
   have lt2:i < ts.length:=by rw [aN] at ln;omega
   have e2:ts[i]?=some ts[i]:=List.getElem?_eq_getElem lt2
   obtain ⟨y,h1,h2⟩:=Paired.get tp e2
   rw [List.getElem?_map,List.getElem?_eq_getElem lt] at h1
   cases h1
   refine ⟨ts[i]::ts',?_,.cons ?_ tp'⟩
   ·rw [List.map_cons,e1]
    show (refs ts).getD i .non::refs ts'=V.ref ts[i]::refs ts'
    congr 1
    show ((refs ts)[i]?).getD .non=_
    unfold refs
    rw [List.getElem?_map,e2]
    rfl
   ·show H ts[i]=some (HO.tup (pV (cs.getD i (0,0))))
    rw [show cs.getD i (0,0)=cs[i] by rw [List.getD,List.getElem?_eq_getElem lt];rfl]
    exact h2
 exact all _ fun i hi=>qG hi
noncomputable def km (ns:List Nat):List Int:=ns.map fun n:Nat=>(n:Int)
noncomputable def fK (ns:List Nat):List Nat:=(sortI (km ns)).map Int.toNat
theorem JB {ns:List Nat} (nd:ns.Nodup):(km ns).Nodup:=List.pairwise_map.mpr (nd.imp fun h z=>h (by omega))
theorem pJ (ns:List Nat):km (fK ns)=sortI (km ns):=by
 unfold fK km
 rw [List.map_map]
 have:∀x∈sortI (ns.map fun n:Nat=>(n:Int)),((fun n:Nat=>(n:Int))∘Int.toNat) x=x:=fun x hx=>by
  obtain ⟨n,_,rfl⟩:=List.mem_map.mp ((sortI_perm _).mem_iff.mp hx)
  rfl
 rw [List.map_congr_left this,List.map_id']
theorem eQ (ns:List Nat):(fK ns).Perm ns:=by
 have h:=(sortI_perm (km ns)).map Int.toNat
 have e:(km ns).map Int.toNat=ns:=by
  unfold km
  rw [List.map_map]
  have:∀x∈ns,(Int.toNat∘fun n:Nat=>(n:Int)) x=x:=fun x _=>Int.toNat_natCast x
  rw [List.map_congr_left this,List.map_id']
 rw [e] at h
 exact h
theorem Gr {ns:List Nat} (nd:ns.Nodup):(fK ns).Pairwise (· < ·):=by
 have h:=Gp (JB nd)
 rw [←pJ] at h
 unfold km at h
 exact (List.pairwise_map.mp h).imp fun z=>by omega
noncomputable def Cg (room:Int) (q:List (Int × Nat)):List Nat:=fK (((dz q).take room.toNat).map (·.2))
noncomputable def enE (E:List (Nat × Addr)):List (Key × L2.V):=E.map fun e=>(Sum.inl (e.1:Int),.ref e.2)
structure QAt (H0 H:Hp) (p:Addr) (E:List (Nat × Addr)) (q:Nat→List (Int × Nat)):Prop where
 tab:H p=some (.dK (enE E))
 nk:(E.map (·.1)).Nodup
 na:(E.map (·.2)).Nodup
 each:∀e∈E,H0 e.2=none∧e.2≠p∧∃ts,H e.2=some (.lst (refs ts))∧cT H ts ((q e.1).map pV)
theorem QAt.same {H0 H H':Hp} {p:Addr} {E:List (Nat × Addr)} {q:Nat→List (Int × Nat)} (h:QAt H0 H p E q) (sm:aB H H'):QAt H0 H' p E q:=
 ⟨sm _ _ h.tab,h.nk,h.na,fun e he=>let ⟨a,b,ts,c,d⟩:=h.each e he;⟨a,b,ts,sm _ _ c,d.same sm⟩⟩
theorem nM:∀{E:List (Nat × Addr)},(E.map (·.1)).Nodup→∀{r:Nat} {l:Addr},(r,l)∈E→bD (enE E) (Sum.inl (r:Int):Key)=some (.ref l)
 | [],_,_,_,h=>nomatch h
 | (r0,l0)::E,nd,r,l,h=>by
  rw [List.map_cons,List.nodup_cons] at nd
  rcases List.mem_cons.mp h with e | e
  ·cases e
   exact cz rfl
  ·show bD ((Sum.inl (r0:Int),V.ref l0)::enE E) _=_
   rw [b7 (fun z=>nd.1 (by
    have z':(r0:Int)=(r:Int):=Sum.inl.inj z
    have:r0=r:=by omega
    rw [this]
    exact List.mem_map.mpr ⟨_,e,rfl⟩))]
   exact nM nd.2 e
theorem uY:∀{E:List (Nat × Addr)} {r:Nat},r∉E.map (·.1)→bD (enE E) (Sum.inl (r:Int):Key)=none
 | [],_,_=>rfl
 | (r0,l0)::E,r,h=>by
  show bD ((Sum.inl (r0:Int),V.ref l0)::enE E) _=_
  rw [b7 (fun z=>h (by
   have z':(r0:Int)=(r:Int):=Sum.inl.inj z
   have:r0=r:=by omega
   rw [this]
   exact .head _))]
  exact uY fun z=>h (.tail _ z)
theorem QAt.new {H0 H:Hp} {p pz:Addr} {E:List (Nat × Addr)} {q:Nat→List (Int × Nat)} (h:QAt H0 H p E q) {r:Nat} (hr:r∉E.map (·.1)) (q0:q r=[]) (nz:H0 pz=none) (hz:H pz=some (.lst [])) (nE:∀e∈E,e.2≠pz):
  QAt H0 (upd H p (.dK (putK (enE E) (Sum.inl (r:Int)) (.ref pz)))) p (E++[(r,pz)]) q:=by
 have np:pz≠p:=fun z=>by rw [z,h.tab] at hz;cases hz
 refine ⟨?_,?_,?_,fun e he=>?_⟩
 ·rw [aj,jh _ (uY hr)]
  unfold enE
  rw [List.map_append]
  rfl
 ·rw [List.map_append]
  exact iB h.nk hr
 ·rw [List.map_append]
  refine iB h.na fun z=>?_
  obtain ⟨e,he,e2⟩:=List.mem_map.mp z
  exact nE e he e2
 ·rcases List.mem_append.mp he with z | z
  ·obtain ⟨a,b,ts,c,d⟩:=h.each e z
   exact ⟨a,b,ts,by rw [ak b];exact c,d.upd h.tab (by intro d z;cases z)⟩
  ·rw [List.mem_singleton.mp z]
   refine ⟨nz,np,[],by rw [ak np];exact hz,?_⟩
   show cT _ [] ((q r).map pV)
   rw [q0]
   exact .nil
theorem QAt.add {H0 H:Hp} {p l t:Addr} {E:List (Nat × Addr)} {q:Nat→List (Int × Nat)} {ts:List Addr} (h:QAt H0 H p E q) {r:Nat} (hr:(r,l)∈E) {c:Int × Nat} (hl:H l=some (.lst (refs ts))) (tp:cT H ts ((q r).map pV)) (ht:H t=some (.tup (pV c))) (hn:H0 t=none):
  QAt H0 (upd H l (.lst (refs ts++[V.ref t]))) p E (fun r'=>if r'=r then q r++[c] else q r'):=by
 obtain ⟨a0,b0,_⟩:=h.each _ hr
 have b0:l≠p:=b0
 have uniq:∀e∈E,e.2=l→e=(r,l):=fun e he z=>by
  obtain ⟨i,hi,ei⟩:=List.getElem_of_mem he
  obtain ⟨j,hj,ej⟩:=List.getElem_of_mem hr
  have e1:(E.map (·.2))[i]'(by rw [List.length_map];exact hi)=(E.map (·.2))[j]'(by rw [List.length_map];exact hj):=by
   rw [List.getElem_map,List.getElem_map,ei,ej,z]
  have:=(List.getElem_inj h.na).mp e1
  subst this
  rw [←ei,ej]
 refine ⟨by rw [ak (Ne.symm b0)];exact h.tab,h.nk,h.na,fun e he=>?_⟩
 obtain ⟨a,b,ts',c',d⟩:=h.each e he
 refine ⟨a,b,?_⟩
 by_cases z:e.2=l
 ·obtain rfl:=uniq e he z
  refine ⟨ts++[t],by rw [aj,g8],?_⟩
  show cT _ _ ((if r=r then q r++[c] else q r).map pV)
  rw [if_pos rfl,List.map_append]
  exact cT.upd (Paired.snoc (F:=fun r d=>H r=some (.tup d)) ht tp) hl (by intro d z;cases z)
 ·refine ⟨ts',by rw [ak z];exact c',?_⟩
  have nr:e.1≠r:=fun y=>z (by
   obtain ⟨i,hi,ei⟩:=List.getElem_of_mem he
   obtain ⟨j,hj,ej⟩:=List.getElem_of_mem hr
   have e1:(E.map (·.1))[i]'(by rw [List.length_map];exact hi)=(E.map (·.1))[j]'(by rw [List.length_map];exact hj):=by
    rw [List.getElem_map,List.getElem_map,ei,ej,y]
   have:=(List.getElem_inj h.nk).mp e1
   subst this
   rw [←ei,ej])
  show cT _ _ ((if e.1=r then q r++[c] else q e.1).map pV)
  rw [if_neg nr]
  exact d.upd hl (by intro d z;cases z)
noncomputable def qOf (due:Nat→Int) (rd:Nat→Nat) (T:Int) (go:List Nat) (r:Nat):List (Int × Nat):=(go.filter fun n=>decide (due n≤T) && decide (rd n=r)).map fun n=>(due n,n)
theorem Gs {due:Nat→Int} {rd:Nat→Nat} {T:Int} {go:List Nat} {n:Nat} (h:¬due n≤T):qOf due rd T (go++[n])=qOf due rd T go:=by
 funext r
 unfold qOf
 rw [List.filter_append,List.map_append]
 simp [List.filter_cons,h]
theorem pL {due:Nat→Int} {rd:Nat→Nat} {T:Int} {go:List Nat} {n:Nat} (h:due n≤T):qOf due rd T (go++[n])=fun r'=>if r'=rd n then qOf due rd T go (rd n)++[(due n,n)] else qOf due rd T go r':=by
 funext r
 unfold qOf
 rw [List.filter_append,List.map_append]
 by_cases e:r=rd n
 ·subst e
  simp [List.filter_cons,h]
 ·simp [List.filter_cons,h,e,Ne.symm e]
theorem Ae (due:Nat→Int) (rd:Nat→Nat) (T:Int) (go:List Nat) (r:Nat):(qOf due rd T go r).length≤go.length:=by
 unfold qOf
 rw [List.length_map]
 exact List.length_filter_le _ _
noncomputable def yW (hs:List (List Nat)) (kvs:DTs) (gs:List Str) (sss:List (List Step)) (due:Nat→Int) (rd:Nat→Nat) (n:Nat):Prop:=∃(ss:List Step) (s:Step) (y:Str),sss[n]?=some (ss++[s])∧s.due=due n∧gs[n]?=some y∧s.house∈hs.map S∧y∈hs.map S∧s.house≠y∧bD kvs (pk s.house y)=some (.int (rd n:Int))
noncomputable def dm (go:List Nat):List L2.V:=go.map fun n:Nat=>V.int (n:Int)
noncomputable def JC (hs:List (List Nat)) (kvs:DTs) (gs:List Str) (sss:List (List Step)) (due:Nat→Int) (n:Nat):Prop:=∃(ss:List Step) (s:Step) (y:Str),sss[n]?=some (ss++[s])∧s.due=due n∧gs[n]?=some y∧s.house∈hs.map S∧y∈hs.map S∧s.house≠y∧bD kvs (pk s.house y)=none
noncomputable def Af (hw:Nat→Bool) (hs:List (List Nat)) (kvs:DTs) (gs:List Str) (sss:List (List Step)) (due:Nat→Int) (rd:Nat→Nat) (n:Nat):Prop:=(hw n=true∧yW hs kvs gs sss due rd n)∨(hw n=false∧JC hs kvs gs sss due n)
noncomputable def Mu (K:PySem.W.Frag) (C CW CN:Addr):Sp:=fun vs H Q _=>∃(x n g st gl y n' t a' b':Addr) (gs:List Str) (ls:List Addr) (sss:List (List Step)) (hs:List (List Nat)) (ys:List L2.V) (kvs:DTs) (go:List Nat) (hw:Nat→Bool) (due:Nat→Int) (rd:Nat→Nat) (T:Int),vs=[.ref x,.ref gl,.ref y,.int T]∧
 WalkAt C H x n g st gs ls sss∧SqL K H gl (dm go)∧f9 CW CN H y n' t a' b' (txs hs) ys kvs∧Good hs∧go.length≤100∧(∀k∈go,Af hw hs kvs gs sss due rd k)∧
 ∀(p:Addr) (H':Hp) (E:List (Nat × Addr)),H p=none→aB H H'→QAt H H' p E (qOf due rd T (go.filter hw))→(∀r,r∈E.map (·.1)↔qOf due rd T (go.filter hw) r≠[])→Q (.ref p) H'
section
variable {P:Program} {w:World} {K:PySem.W.Frag} {mg:Str→Option Value} {base:Heap}
noncomputable abbrev sQs:Stmt:=top 16
theorem Gv:aH ["walk","going","ways","turn","queues","number","came","road"] ["walk","going","ways","turn"] (aC sQs):=⟨rfl,rfl,rfl,by decide+kernel,rfl,by decide+kernel,by decide+kernel⟩
theorem Ov {C CW CN NH f f1 f2 f3 f4:Addr} {fd fd1 fd2 fd3 fd4:FuncData} (F:Fun K "queues_at" "queues_at" sQs f fd) (WC:lJ K C) (WW:oZ K CW)
  (aR:Mn K C "last_turn" "Walk.last_turn" lX ["self","number"] f1 fd1) (cH:aD P w K mg base CX0 1 f1 fd1 ["self","number"] (nu C))
  (bz:Mn K C "last_house" "Walk.last_house" oH ["self","number"] f2 fd2) (fD:aD P w K mg base CX0 1 f2 fd2 ["self","number"] (pF C))
  (iR:Mn K C "goal" "Walk.goal" wM ["self","number"] f3 fd3) (wY:aD P w K mg base CX0 1 f3 fd3 ["self","number"] (yF C))
  (jH:Mn K CW "way" "Ways.way" sWy ["self","house","goal"] f4 fd4) (mj:aD P w K mg base (CXe P w) 3 f4 fd4 ["self","house","goal"] (Ml CW CN NH)):
  aD P w K mg base CX0 4 f fd ["walk","going","ways","turn"] (Mu K C CW CN):=by
 have di:=WC.cl
 have d9:=WW.cl
 refine F.ok Gv (fun vs H Q E h=>?_) (fun cdv A outer s H vs Q E hr h=>?_)
 ·obtain ⟨x,n,g,st,gl,y,n',t,a',b',gs,ls,sss,hs,ys,kvs,go,hw,due,rd,T,rfl,_⟩:=h
  rfl
 ·obtain ⟨x,n,g,st,gl,y,n',t,a',b',gs,ls,sss,hs,ys,kvs,go,hw,due,rd,T,rfl,W,hgo,Wy,G,few,ok,q⟩:=h
  obtain ⟨dx,hx⟩:=W.ins
  obtain ⟨dy,hy⟩:=Wy.ins
  refine ⟨_,(ao (aL (i:=4) Gv.nd rfl (Or.inl rfl) vX)
   (ao (dI PassesOwn.never rfl (bC (pv 1)) (aJ (i:=5) Gv.nd rfl (Or.inl rfl))
    (ao (aL (i:=6) Gv.nd rfl (Or.inl rfl) (bL (pv 0) di aR.me cH (hr.mono (by decide)) aR.bd .nil bh (aa (pv 5) aq)))
   (az (cI (bK mD (pv 6) (pv 3) (bG _)) (ao (aL (i:=7) Gv.nd rfl (Or.inl rfl) (bL (pv 2) d9 jH.me mj (hr.mono (by decide)) jH.bd .nil Ea (aa (bL (pv 0) di bz.me fD (hr.mono (by decide)) bz.bd .nil bh (aa (pv 5) aq)) (aa (bL (pv 0) di iR.me wY (hr.mono (by decide)) iR.bd .nil bh (aa (pv 5) aq)) aq))))
   (az (cI (bK ug (pv 7) jw (bG _)) (az (cg (lG PySem.F.plainAttrs_list PySem.F.slot_list_append PySem.F.type_list_append cG (Fv (pv 4) (pv 7) (iW aq) ⟨rfl,rfl,rfl,rfl⟩) (aa (iu (aa (pv 6) (aa (pv 5) aq))) aq)))) bw))) bw))))
   (az (aU (pv 4))))),?_⟩
  refine fun p hp=>?_
  have s0:aB H (upd H p (.dK [])):=aF hp
  refine ⟨_,rfl,gl,rfl,⟨_,s0.seq hgo⟩,?_⟩
  refine dJ (xs:=dm go) (fun i σ Hc=>∃(E:List (Nat × Addr)) (v1 v2 v3:Option L2.V),σ=[some (.ref x),some (.ref gl),some (.ref y),some (.int T),some (.ref p),v1,v2,v3]∧aB H Hc∧QAt H Hc p E (qOf due rd T ((go.take i).filter hw))∧(∀r,r∈E.map (·.1)↔qOf due rd T ((go.take i).filter hw) r≠[])∧E.length≤i)
   ⟨[],none,none,none,rfl,s0,⟨aj,List.nodup_nil,List.nodup_nil,fun e he=>nomatch he⟩,fun r=>⟨fun z=>(nomatch z),fun z=>absurd rfl z⟩,Nat.le_refl _⟩ (fun i σ Hc _ ⟨_,_,_,_,_,h,_⟩=>h.seq hgo) ?_ ?_
  ·rintro i z σ Hc ez ⟨E,v1,v2,v3,rfl,sm,qa,mem,le⟩
   unfold dm at ez
   rw [List.getElem?_map] at ez
   obtain ⟨k,ek,rfl⟩:=Option.map_eq_some_iff.mp ez
   have il:i < go.length:=(List.getElem?_eq_some_iff.mp ek).1
   have tk:go.take (i+1)=go.take i++[k]:=by
    rw [List.take_add_one,ek]
    rfl
   have Wc:=W.same sm
   rcases ok k (List.mem_of_getElem? ek) with ⟨hwk,ss,s1,y1,e1,e2,e3,e4,e5,e6,e7⟩ | ⟨hwk,ss,s1,y1,e1,e2,e3,e4,e5,e6,e7⟩
   ·have tk:(go.take (i+1)).filter hw=(go.take i).filter hw++[k]:=by
     rw [tk,List.filter_append,List.filter_cons,if_pos hwk,List.filter_nil]
    refine ⟨_,rfl,x,dx,_,rfl,sm _ _ hx,rfl,_,rfl,x,n,g,st,gs,ls,sss,k,ss,s1,rfl,Wc,e1,?_⟩
    refine ⟨_,rfl,_,rfl,_,_,rfl,rfl,_,rfl,?_⟩
    by_cases hd:due k≤T
    ·refine eY (decide_eq_true (by rw [e2];exact hd)) ?_
     refine ⟨_,rfl,y,dy,_,rfl,sm _ _ hy,rfl,_,rfl,x,dx,_,rfl,sm _ _ hx,rfl,_,rfl,x,n,g,st,gs,ls,sss,k,ss,s1,rfl,Wc,e1,_,rfl,x,dx,_,rfl,sm _ _ hx,rfl,_,rfl,x,n,g,st,gs,ls,sss,k,y1,rfl,Wc,e3,?_⟩
     refine ⟨y,n',t,a',b',hs,_,kvs,s1.house,y1,rfl,Wy.same sm,G,oR G e4,oR G e5,fun _ H2 s2=>?_,fun z=>absurd (uU e4 e5 e6) (by rw [z];decide)⟩
     rw [e7]
     refine ⟨_,rfl,rfl,_,rfl,eY (by simp) ?_⟩
     have sm2:=sm.trans s2
     have qa2:=qa.same s2
     refine ⟨_,rfl,p,rfl,.inl ⟨_,.inl qa2.tab⟩,_,rfl,Nat.zero_le _,fun pz npz=>?_⟩
     have s3:=aF (o:=.lst []) npz
     have qa3:=qa2.same s3
     have sm3:=sm2.trans s3
     have hz:upd H2 pz (.lst []) pz=some (.lst []):=aj
     have npzH:=jn sm2 npz
     have nE:∀e∈E,e.2≠pz:=fun e he z=>by
      obtain ⟨_,_,ts,c,_⟩:=qa2.each e he
      rw [z,npz] at c
      cases c
     generalize upd H2 pz (.lst [])=H3 at s3 qa3 sm3 hz ⊢
     have el:(enE E).length=E.length:=List.length_map _
     refine ⟨enE E,Sum.inl (rd k:Int),rfl,qa3.tab,aG (by omega),fun v hv=>?_,fun h0=>?_⟩
     ·have hin:rd k∈E.map (·.1):=by
       by_cases z:rd k∈E.map (·.1)
       ·exact z
       ·rw [uY z] at hv
        cases hv
      obtain ⟨⟨r0,l⟩,he,e0⟩:=List.mem_map.mp hin
      have e0:r0=rd k:=e0
      subst e0
      rw [nM qa3.nk he] at hv
      cases hv
      obtain ⟨nl,_,ts,hl,tp⟩:=qa3.each _ he
      refine ⟨.inl ⟨rfl,_,SqL.of hl⟩,_,rfl,_,rfl,(by show 2≤sizeLine;decide),fun r nr=>?_⟩
      have s4:=aF (o:=.tup [V.int s1.due,V.int (k:Int)]) nr
      have qa4:=qa3.same s4
      have hr:upd H3 r (.tup [V.int s1.due,V.int (k:Int)]) r=some (.tup (pV (due k,k))):=by rw [aj,e2];rfl
      have tl:=tp.len
      refine ⟨l,_,_,rfl,rfl,s4 _ _ hl,aG (by rw [aN];rw [List.length_map] at tl;have:=Ae due rd T ((go.take i).filter hw) (rd k);have l2:=List.length_filter_le hw (go.take i);rw [List.length_take] at l2;have tl':ts.length=(qOf due rd T ((go.take i).filter hw) (rd k)).length:=tl;omega),?_⟩
      refine ⟨E,_,_,_,rfl,aY nl (sm3.trans s4),?_,?_,by omega⟩
      ·rw [tk,pL hd]
       exact qa4.add he (s4 _ _ hl) (tp.same s4) hr (jn sm3 nr)
      ·intro r'
       rw [tk,pL hd,mem r']
       dsimp only
       by_cases z:r'=rd k
       ·subst z
        rw [if_pos rfl]
        exact ⟨fun _=>by simp,fun _=>(mem _).mp hin⟩
       ·rw [if_neg z]
     ·have hin:rd k∉E.map (·.1):=fun z=>by
       obtain ⟨⟨r0,l⟩,he,e0⟩:=List.mem_map.mp z
       have e0:r0=rd k:=e0
       subst e0
       rw [nM qa3.nk he] at h0
       cases h0
      have q0:qOf due rd T ((go.take i).filter hw) (rd k)=[]:=by
       by_cases z:qOf due rd T ((go.take i).filter hw) (rd k)=[]
       ·exact z
       ·exact absurd ((mem _).mpr z) hin
      have qn:=qa3.new hin q0 npzH hz nE
      have smn:aB H (upd H3 p (.dK (putK (enE E) (Sum.inl (rd k:Int)) (.ref pz)))):=aY hp sm3
      have np:pz≠p:=fun z=>by rw [z,qa3.tab] at hz;cases hz
      have hzn:upd H3 p (.dK (putK (enE E) (Sum.inl (rd k:Int)) (.ref pz))) pz=some (.lst (refs [])):=by rw [ak np];exact hz
      generalize upd H3 p (.dK (putK (enE E) (Sum.inl (rd k:Int)) (.ref pz)))=H4 at qn smn hzn ⊢
      have he:(rd k,pz)∈E++[(rd k,pz)]:=List.mem_append.mpr (.inr (.head _))
      refine ⟨.inl ⟨rfl,_,SqL.of hzn⟩,_,rfl,_,rfl,(by show 2≤sizeLine;decide),fun r nr=>?_⟩
      have s4:=aF (o:=.tup [V.int s1.due,V.int (k:Int)]) nr
      have qa4:=qn.same s4
      have hr:upd H4 r (.tup [V.int s1.due,V.int (k:Int)]) r=some (.tup (pV (due k,k))):=by rw [aj,e2];rfl
      refine ⟨pz,_,_,rfl,rfl,s4 _ _ hzn,(by show 0 < sizeLine;decide),?_⟩
      refine ⟨E++[(rd k,pz)],_,_,_,rfl,aY npzH (smn.trans s4),?_,?_,by rw [List.length_append];show E.length+1≤i+1;omega⟩
      ·rw [tk,pL hd]
       exact qa4.add (ts:=[]) he (s4 _ _ hzn) (by rw [q0];exact .nil) hr (jn smn nr)
      ·intro r'
       rw [tk,pL hd,List.map_append,List.mem_append,mem r']
       dsimp only
       by_cases z:r'=rd k
       ·subst z
        rw [if_pos rfl]
        exact ⟨fun _=>by simp,fun _=>.inr (.head _)⟩
       ·rw [if_neg z]
        exact ⟨fun y=>y.elim id fun y=>absurd (List.mem_singleton.mp y) z,.inl⟩
    ·refine gw (decide_eq_false (by rw [e2];exact hd)) ?_
     exact ⟨E,_,_,v3,rfl,sm,by rw [tk,Gs hd];exact qa,by rw [tk,Gs hd];exact mem,by omega⟩
   ·have tk:(go.take (i+1)).filter hw=(go.take i).filter hw:=by
     rw [tk,List.filter_append,List.filter_cons,if_neg (by rw [hwk];decide),List.filter_nil,List.append_nil]
    refine ⟨_,rfl,x,dx,_,rfl,sm _ _ hx,rfl,_,rfl,x,n,g,st,gs,ls,sss,k,ss,s1,rfl,Wc,e1,?_⟩
    refine ⟨_,rfl,_,rfl,_,_,rfl,rfl,_,rfl,?_⟩
    by_cases hd:due k≤T
    ·refine eY (decide_eq_true (by rw [e2];exact hd)) ?_
     refine ⟨_,rfl,y,dy,_,rfl,sm _ _ hy,rfl,_,rfl,x,dx,_,rfl,sm _ _ hx,rfl,_,rfl,x,n,g,st,gs,ls,sss,k,ss,s1,rfl,Wc,e1,_,rfl,x,dx,_,rfl,sm _ _ hx,rfl,_,rfl,x,n,g,st,gs,ls,sss,k,y1,rfl,Wc,e3,?_⟩
     refine ⟨y,n',t,a',b',hs,_,kvs,s1.house,y1,rfl,Wy.same sm,G,oR G e4,oR G e5,fun _ H2 s2=>?_,fun z=>absurd (uU e4 e5 e6) (by rw [z];decide)⟩
     rw [e7]
     refine ⟨_,rfl,rfl,_,rfl,gw (by simp) ?_⟩
     exact ⟨E,_,_,_,rfl,sm.trans s2,by rw [tk];exact qa.same s2,by rw [tk];exact mem,by omega⟩
    ·refine gw (decide_eq_false (by rw [e2];exact hd)) ?_
     exact ⟨E,_,_,v3,rfl,sm,by rw [tk];exact qa,by rw [tk];exact mem,by omega⟩
  ·rintro σ Hc ⟨E,v1,v2,v3,rfl,sm,qa,mem,le⟩
   unfold dm at qa mem
   rw [List.length_map,List.take_length] at qa mem
   exact ⟨_,rfl,q p Hc E hp sm qa mem⟩
end
end K1
namespace L3
open PySem PySem.Spec PyProof.Rows L2
section
variable {X:Cx}
theorem rQ:eU X (.builtin "sorted") (fun xs H Q=>∃(p:Addr) (ns:List Int),xs=[.ref p]∧SqL X.K H p (ns.map V.int)∧ns.length < 64∧∀l,H l=none→Q (.ref l) (upd H l (.lst ((sortI ns).map V.int)))):=by
 intro pins s σ H xs us Q I r h
 obtain ⟨p,ns,rfl,hq,l64,q⟩:=h
 obtain ⟨u,rfl,ru⟩:=vals1 r
 cases ru
 obtain ⟨its,rv,pl,hz⟩:=I.list hq
 have hlen:=rv.length
 rw [List.length_map] at hlen
 refine tL (κ:=oneType') (lt:=ltI ns) pl.isList (by omega) (fun h2 s1 x Q' hQ=>tW rv h2 hQ) (fun h2 s1 x i j C hi hj hC=>wX rv hi hj hC) fun D h' c hle x hc=>?_
 refine ⟨.ref D,_,I.laid (a:=D) (o:=.lst ((sortI ns).map V.int)) (t':=s.toks) (fun b o q=>x b o q) hle ?_,rfl,q D (I.hok.fresh hle)⟩
 rw [←Ac]
 refine ⟨?_,_,c,oK rv,hc⟩
 rw [qI]
 exact hz
theorem qU (hc:X.calm=true):eU X (.builtin "sorted") (fun xs H Q=>∃(p:Addr) (kvs:List (Key × V)) (ns:List Int),xs=[.ref p]∧H p=some (.dK kvs)∧kvs.map (·.1)=ns.map Sum.inl∧ns.length < 64∧∀l,H l=none→Q (.ref l) (upd H l (.lst ((sortI ns).map V.int)))):=by
 intro pins s σ H xs us Q I r h
 obtain ⟨p,kvs,ns,rfl,hp,ek,l64,q⟩:=h
 obtain ⟨u,rfl,ru⟩:=vals1 r
 cases ru
 have hh:X.A.handled=none:=I.ok.hd hc
 obtain ⟨zl,lo,ys,rel,o,es,ep,ho,hx,hd,_,hp2,hn⟩:=zB I.hok hp
 have rv:Vals (ns.map V.int) (es.toList.map (·.key)):=by
  have gen:∀{kvs:List (Key × V)} {ys:List (Key × Value)} {el:List DictEntry} {ns:List Int},KV kvs ys→Pairs (bH X.prog X.w) el ys→kvs.map (·.1)=ns.map Sum.inl→Vals (ns.map V.int) (el.map (·.key)):=by
   intro kvs ys el ns rel pr
   induction pr generalizing kvs ns with
   | nil=>
    intro e
    cases rel
    cases ns with
    | nil=>exact .nil
    | cons _ _=>cases e
   | cons h1 h2 t ih=>
    intro e
    cases rel with
    | cons a b=>
     cases ns with
     | nil=>cases e
     | cons n ns=>
      rw [List.map_cons,List.map_cons,List.cons.injEq] at e
      refine .cons ?_ (ih b e.2)
      rw [←a.1,e.1] at h1
      exact Jz h1
  exact gen rel hp2 ek
 have hl:=rv.length
 rw [List.length_map] at hl
 have kl:kvs.length=ns.length:=by have:=congrArg List.length ek;simpa using this
 refine yJ (κ:=oneType') (lt:=ltI ns) lo hh ⟨o,ho,hx,hd⟩ rfl (by omega) (fun h2 s1 x Q' hQ=>tW rv h2 hQ) (fun h2 s1 x i j C hi hj hC=>wX rv hi hj hC) fun h1 D h' t c x1 hle x hc=>?_
 have I1:Inv X pins σ H {s with heap:=h1,toks:=t}:=I.kept (t':=t) fun b o e=>x1 b o e
 refine ⟨.ref D,_,I1.laid (a:=D) (o:=.lst ((sortI ns).map V.int)) (t':=t) (fun b o q=>x b o q) hle ?_,rfl,q D (I1.hok.fresh hle)⟩
 rw [←Ac]
 refine ⟨?_,_,c,oK rv,hc⟩
 rw [qI,List.length_map]
 omega
end
end L3
namespace K1
open PySem L2 L3 M1
theorem JD {K:PySem.W.Frag} {wi:TI} {cs:List (Option Nat)} {te:TE} {σ rest:L2.St} {H:Hp} {Q:VK} {ds:List (List L2.V)} (hw:∀R:It→Hp→Prop,(∀p H1 ts,H p=none→aB H H1→H1 p=some (.lst (refs ts))→cT H1 ts ds→R (Itl K p) H1)→wi σ H R) (hcs:fQ cs σ=none::none::rest) (hl:ds.length < sizeLine) (f:Nat→L2.V)
  (two:∀d∈ds,∃u v,d=[u,v]) (elt:∀(i:Nat) (u v:L2.V) (H2:Hp) (R:VK),ds[i]?=some [u,v]→aB H H2→(∀H5,aB H2 H5→R (f i) H5)→te (some u::some v::rest) H2 R)
  (fin:∀(D:Addr) (H':Hp),H D=none→H' D=some (.lst ((List.range ds.length).map f))→aB H H'→Q (.ref D) H'):tLC wi cs (Aq K 2 (lE (cJ 0) (lE (cJ 1) CT))) yj te σ H Q:=by
 refine hw _ fun p H1 ts np s1 hp tp D hD=>?_
 have ln:=tp.len
 refine ⟨fun i m ys σ' H'=>m=ds.length - i∧i≤ds.length∧ys=(List.range i).map f∧(∃o1 o2,σ'=o1::o2::rest)∧aB H1 H'∧H' D=some (.lst ys),⟨ds.length,by simp,Nat.zero_le _,rfl,⟨none,none,by rw [hcs]⟩,fun b o e=>?_,aj⟩,?_⟩
 ·rw [ak (aA e hD)]
  exact e
 ·rintro i m ys σ' H' ⟨rfl,hi,rfl,⟨o1,o2,rfl⟩,sm,hHD⟩
  obtain ⟨w1,w2,w3⟩:=dD (SqL.of (K:=K) hp) H' sm
  refine ⟨hHD,Nat.lt_of_le_of_lt (by rw [List.length_map,List.length_range];omega) hl,?_⟩
  rw [aN] at w1 w2 w3
  by_cases hlt:i < ds.length
  ·refine .inr ⟨w2 i (by omega),fun x H2 y=>?_⟩
   obtain ⟨rfl,ex⟩:=w3 i x H2 (by omega) y
   unfold refs at ex
   rw [List.getElem?_map] at ex
   obtain ⟨t,et,rfl⟩:=Option.map_eq_some_iff.mp ex
   obtain ⟨d,ed,hd⟩:=Paired.get tp et
   have hd:=sm _ _ hd
   obtain ⟨u,v,rfl⟩:=two d (List.mem_of_getElem? ed)
   refine ⟨t,_,rfl,SqT.of hd,rfl,_,_,rfl,_,_,rfl,rfl,?_⟩
   show te (some u::some v::rest) H2 _
   refine elt i u v H2 _ ed (s1.trans sm) fun H5 s5=>⟨s5 _ _ hHD,ds.length - (i+1),by omega,rfl,hlt,?_,⟨_,_,rfl⟩,fun b ob e=>?_,aj⟩
   ·rw [List.range_succ,List.map_append]
    rfl
   ·rw [ak (aA e hD)]
    exact s5 _ _ (sm _ _ e)
  ·have e:i=ds.length:=by omega
   subst e
   rw [ln] at w1
   exact .inl ⟨w1,fin D H' (jn s1 hD) hHD (s1.trans sm)⟩
theorem Ag {i:Nat} {v:L2.V} {σ:L2.St} {H:Hp} {Q:L2.St→Hp→Prop} (h:Q (σ.set i (some v)) H):cJ i v σ H Q:=h
theorem fU.upd {H:Hp} {a l:Addr} {b:Kt × List Nat} {xs ys:List L2.V} (h:fU H a b) (hl:H l=some (.lst xs)):fU (L2.upd H l (.lst ys)) a b:=by
 obtain ⟨c,h1,h2⟩:=h
 exact ⟨c,by rw [ak fun z=>by rw [z,hl] at h1;cases h1];exact h1,by rw [ak fun z=>by rw [z,hl] at h2;cases h2];exact h2⟩
theorem Gw (ts:List Addr) {m:Int} (h:0≤m):Bd (refs ts) none (some m)=refs (ts.take m.toNat):=by
 obtain ⟨k,rfl⟩:∃k:Nat,m=(k:Int):=⟨m.toNat,by omega⟩
 unfold Bd
 have f1:HT.sIx (refs ts).length 0 none=0:=rfl
 have f2:HT.sIx (refs ts).length (refs ts).length (some (k:Int))=min k (refs ts).length:=HT.sIx_nat (refs ts).length (refs ts).length k
 rw [f1,f2,Nat.sub_zero,List.drop_zero,Int.toNat_natCast]
 unfold refs
 rw [List.length_map,List.map_take]
 by_cases z:k≤ts.length
 ·rw [Nat.min_eq_left z]
 ·rw [Nat.min_eq_right (by omega),List.take_of_length_le (by rw [List.length_map];exact Nat.le_refl _),List.take_of_length_le (by rw [List.length_map];omega)]
theorem tX {H:Hp}:∀{ts:List Addr} {ds:List (List L2.V)} (k:Nat),cT H ts ds→cT H (ts.take k) (ds.take k)
 | _,_,0,_=>by rw [List.take_zero,List.take_zero];exact .nil
 | _,_,k+1,.nil=>.nil
 | _,_,k+1,.cons a t=>.cons a (tX k t)
noncomputable def dW (ds:List M1.Rd) (due:Nat→Int) (rd:Nat→Nat) (T:Int) (go:List Nat) (r:Nat):Kt × List Nat:=((T,r),Cg (rRm ds r) (qOf due rd T go r))
theorem Ah (due:Nat→Int) (rd:Nat→Nat) (T:Int) (go:List Nat) (r:Nat):(qOf due rd T go r).map (·.2)=go.filter fun n=>decide (due n≤T) && decide (rd n=r):=by
 unfold qOf
 rw [List.map_map]
 exact List.map_id' _
theorem Mv {due:Nat→Int} {rd:Nat→Nat} {T:Int} {go:List Nat} {r:Nat} (nd:go.Nodup):(qOf due rd T go r).Nodup:=by
 have h:((qOf due rd T go r).map (·.2)).Nodup:=by rw [Ah];exact nd.filter _
 exact (List.pairwise_map.mp h).imp fun h z=>h (by rw [z])
theorem Ai {due:Nat→Int} {rd:Nat→Nat} {T:Int} {go:List Nat} {r:Nat} (nd:go.Nodup) (k:Nat):(((dz (qOf due rd T go r)).take k).map (·.2)).Nodup:=by
 have h:((dz (qOf due rd T go r)).map (·.2)).Nodup:=by
  refine (((gB _).map _).nodup_iff).mpr ?_
  rw [Ah]
  exact nd.filter _
 rw [List.map_take]
 exact h.sublist (List.take_sublist _ _)
theorem uZ (ns:List Nat):dm ns=(km ns).map V.int:=by
 unfold dm km
 rw [List.map_map]
 rfl
noncomputable def JF (K:PySem.W.Frag) (C CW CN:Addr):Sp:=fun vs H Q _=>∃(x n g st gl y t a' b':Addr) (gs:List Str) (ls rs:List Addr) (sss:List (List Step)) (hs:List (List Nat)) (ds:List M1.Rd) (kvs:DTs) (go:List Nat) (due:Nat→Int) (rd:Nat→Nat) (T:Int),vs=[.ref n,.ref x,.ref gl,.ref y,.int T]∧
 WalkAt C H x n g st gs ls sss∧SqL K H gl (dm go)∧f9 CW CN H y n t a' b' (txs hs) (refs rs) kvs∧bI H hs rs ds∧Good hs∧go.length≤60∧go.Nodup∧(∀k∈go,yW hs kvs gs sss due rd k)∧(∀k∈go,rd k < ds.length)∧
 ∀(l:Addr) (H':Hp) (as:List Addr) (rl:List Nat),H l=none→aB H H'→H' l=some (.lst (refs as))→Paired (fU H') as (rl.map (dW ds due rd T go))→rl.Pairwise (· < ·)→(∀r,r∈rl↔qOf due rd T go r≠[])→Q (.ref l) H'
noncomputable def Gx (K:PySem.W.Frag) (C CW CN:Addr):Sp:=fun vs H Q _=>∃(x n g st gl y t a' b':Addr) (gs:List Str) (ls rs:List Addr) (sss:List (List Step)) (hs:List (List Nat)) (ds:List M1.Rd) (kvs:DTs) (gz:List Nat) (hw:Nat→Bool) (go:List Nat) (due:Nat→Int) (rd:Nat→Nat) (T:Int),vs=[.ref n,.ref x,.ref gl,.ref y,.int T]∧go=gz.filter hw∧
 WalkAt C H x n g st gs ls sss∧SqL K H gl (dm gz)∧f9 CW CN H y n t a' b' (txs hs) (refs rs) kvs∧bI H hs rs ds∧Good hs∧gz.length≤60∧gz.Nodup∧(∀k∈gz,Af hw hs kvs gs sss due rd k)∧(∀k∈go,rd k < ds.length)∧
 ∀(l:Addr) (H':Hp) (as:List Addr) (rl:List Nat),H l=none→aB H H'→H' l=some (.lst (refs as))→Paired (fU H') as (rl.map (dW ds due rd T go))→rl.Pairwise (· < ·)→(∀r,r∈rl↔qOf due rd T go r≠[])→Q (.ref l) H'
theorem Mw {K:PySem.W.Frag} {C CW CN:Addr} {vs:List L2.V} {H:Hp} {Q:VK} {E:XK} (h:JF K C CW CN vs H Q E):Gx K C CW CN vs H Q E:=by
 obtain ⟨x,n,g,st,gl,y,t,a',b',gs,ls,rs,sss,hs,ds,kvs,go,due,rd,T,rfl,W,hgo,Wy,R,G,few,ndg,ok,rlt,q⟩:=h
 exact ⟨x,n,g,st,gl,y,t,a',b',gs,ls,rs,sss,hs,ds,kvs,go,fun _=>true,go,due,rd,T,rfl,(List.filter_eq_self.mpr fun _ _=>rfl).symm,W,hgo,Wy,R,G,few,ndg,fun k hk=>.inl ⟨rfl,ok k hk⟩,rlt,q⟩
section
variable {P:Program} {w:World} {K:PySem.W.Frag} {mg:Str→Option Value} {base:Heap}
noncomputable abbrev sBa:Stmt:=top 17
theorem Ci:aH ["net","walk","going","ways","turn","queues","bags","road","room","chosen"] ["net","walk","going","ways","turn"] (aC sBa):=⟨rfl,rfl,rfl,by decide+kernel,rfl,by decide+kernel,by decide+kernel⟩
theorem Mx {C CW CN f f1 f2:Addr} {fd fd1 fd2:FuncData} (F:Fun K "bags_at" "bags_at" sBa f fd) (B:Blt mg) (bR:Cls K CN)
  (gC:Dn K mg "queues_at" sQs ["walk","going","ways","turn"] f1 fd1) (wZ:aD P w K mg base CX0 4 f1 fd1 ["walk","going","ways","turn"] (Mu K C CW CN))
  (bT:Mn K CN "road" "Net.road" j4 ["self","number"] f2 fd2) (eN:aD P w K mg base CX0 1 f2 fd2 ["self","number"] (pG CN)):
  aD P w K mg base CX0 5 f fd ["net","walk","going","ways","turn"] (Gx K C CW CN):=by
 refine F.ok Ci (fun vs H Q E h=>?_) (fun cdv A outer s H vs Q E hr h=>?_)
 ·obtain ⟨x,n,g,st,gl,y,t,a',b',gs,ls,rs,sss,hs,ds,kvs,gz,hw,go,due,rd,T,rfl,_⟩:=h
  rfl
 ·obtain ⟨x,n,g,st,gl,y,t,a',b',gs,ls,rs,sss,hs,ds,kvs,gz,hw,go,due,rd,T,rfl,ego,W,hgo,Wy,R,G,fewz,ndz,ok,rlt,q⟩:=h
  have few:go.length≤60:=by rw [ego];exact Nat.le_trans (List.length_filter_le _ _) fewz
  have ndg:go.Nodup:=by rw [ego];exact ndz.filter _
  obtain ⟨dn,hn⟩:=Wy.net.ins
  refine ⟨_,(ao (aL (i:=5) Ci.nd rfl (Or.inl rfl) (bc wZ (hr.mono (by decide)) (by rfl) gC.at_ gC.fn.kp gC.bd .nil bh (aa (pv 1) (aa (pv 2) (aa (pv 3) (aa (pv 4) aq))))))
   (ao (aL (i:=6) Ci.nd rfl (Or.inl rfl) (iW aq))
   (ao (dI PassesOwn.never rfl (bC (aV (qU rfl) (by rfl) B.sorted oM (aa (pv 5) aq))) (aJ (i:=7) Ci.nd rfl (Or.inl rfl))
    (ao (aL (i:=8) Ci.nd rfl (Or.inl rfl) (aK aP (bL (pv 0) bR bT.me eN (hr.mono (by decide)) bT.bd .nil bh (aa (pv 7) aq)) au (fun _ _=>rfl)))
   (ao (gr (i:=9) Ci.nd rfl rfl rfl (N':=["came","number"]) (cs:=[none,none]) rfl (bC (Dl HJ (aV uL (by rfl) B.sorted oM (aa (d8 (cQ hr) (pv 5) (pv 7) (fun _ _=>rfl)) aq)) HF (mJ (pv 8)))) rfl (by decide+kernel) rfl (by decide+kernel) (cY (fun p hp=>absurd hp (List.not_mem_nil))) rfl
    (.own (.own .nil))
    (fun C s3 H3 fp pn=>⟨(mY (K:=K) (n:=2) rfl rfl (bQ (aJ (i:=0) (by show (["came","number"]:List Str).Nodup;decide+kernel) rfl (.inl rfl)) (bQ (aJ (i:=1) (by show (["came","number"]:List Str).Nodup;decide+kernel) rfl (.inl rfl)) jz))),d7,(pv 1)⟩))
   (az (cg (lG PySem.F.plainAttrs_list PySem.F.slot_list_append PySem.F.type_list_append cG (pv 6) (aa (iu (aa (pv 4) (aa (pv 7) (aa (dB rK (by rfl) B.tuple vZ (aa (aV rQ (by rfl) B.sorted oM (aa (pv 9) aq)) aq)) aq)))) aq)))))))
   (az (aU (pv 6)))))),?_⟩
  refine ⟨_,rfl,_,rfl,_,rfl,_,rfl,x,n,g,st,gl,y,n,t,a',b',gs,ls,sss,hs,_,kvs,gz,hw,due,rd,T,rfl,W,hgo,Wy,G,(by omega),ok,fun p H1 E np s1 qa mem=>?_⟩
  rw [←ego] at qa mem
  refine ⟨Nat.zero_le _,fun bl nbl=>?_⟩
  have s2:=aF (o:=.lst []) nbl
  have hbl2:upd H1 bl (.lst []) bl=some (.lst []):=aj
  generalize upd H1 bl (.lst [])=H2 at s2 hbl2 ⊢
  obtain ⟨ks,eks⟩:∃ks,ks=E.map (·.1):=⟨_,rfl⟩
  have ndk:ks.Nodup:=by rw [eks];exact qa.nk
  have ek:(enE E).map (·.1)=(km ks).map Sum.inl:=by
   rw [eks]
   unfold enE km
   rw [List.map_map,List.map_map,List.map_map]
   rfl
  have kl0:ks.length≤go.length:=by
   have h2:=bZ (sn:=ks) (L:=go.map rd) ndk fun r hr=>by
    rw [eks] at hr
    obtain ⟨c,hc⟩:=List.exists_mem_of_ne_nil _ ((mem r).mp hr)
    unfold qOf at hc
    obtain ⟨k,hk,_⟩:=List.mem_map.mp hc
    obtain ⟨h3,h4⟩:=List.mem_filter.mp hk
    simp only [Bool.and_eq_true,decide_eq_true_eq] at h4
    exact List.mem_map.mpr ⟨k,h3,h4.2⟩
   rwa [List.length_map] at h2
  refine ⟨_,rfl,p,enE E,km ks,rfl,s2 _ _ qa.tab,ek,(by unfold km;rw [List.length_map];omega),fun sl nsl=>⟨sl,rfl,⟨_,SqL.of aj⟩,?_⟩⟩
  rw [←pJ,←uZ]
  have s3:=aF (o:=.lst (dm (fK ks))) nsl
  have hsl3:upd H2 sl (.lst (dm (fK ks))) sl=some (.lst (dm (fK ks))):=aj
  have hbl3:=s3 _ _ hbl2
  have sbl:sl≠bl:=Ne.symm (cP hbl2 nsl)
  generalize upd H2 sl (.lst (dm (fK ks)))=H3 at s3 hsl3 hbl3 ⊢
  obtain ⟨rl,erl⟩:∃rl,rl=fK ks:=⟨_,rfl⟩
  rw [←erl] at hsl3
  have memr:∀r,r∈rl↔qOf due rd T go r≠[]:=fun r=>by
   rw [erl,(eQ ks).mem_iff,eks]
   exact mem r
  have kl:rl.length≤100:=by
   rw [erl,(eQ ks).length_eq]
   omega
  refine dJ (xs:=dm (fK ks)) (fun j σ Hc=>∃(as:List Addr) (v1 v2 v3:Option L2.V),σ=[some (.ref n),some (.ref x),some (.ref gl),some (.ref y),some (.int T),some (.ref p),some (.ref bl),v1,v2,v3]∧aB H1 Hc∧Hc sl=some (.lst (dm rl))∧Hc bl=some (.lst (refs as))∧Paired (fU Hc) as ((rl.take j).map (dW ds due rd T go)))
   ⟨[],none,none,none,rfl,s2.trans s3,hsl3,hbl3,.nil⟩ (fun i σ Hc _ ⟨_,_,_,_,_,_,h,_⟩=>by rw [←erl];exact SqL.of h) ?_ ?_
  ·rintro j z σ Hc ez ⟨as,v1,v2,v3,rfl,sm,hslc,hblc,bags⟩
   rw [←erl] at ez
   unfold dm at ez
   rw [List.getElem?_map] at ez
   obtain ⟨r,er,rfl⟩:=Option.map_eq_some_iff.mp ez
   have hrm:=List.mem_of_getElem? er
   obtain ⟨c0,hc0⟩:=List.exists_mem_of_ne_nil _ ((memr r).mp hrm)
   have rlt':r < ds.length:=by
    unfold qOf at hc0
    obtain ⟨k,hk,_⟩:=List.mem_map.mp hc0
    obtain ⟨h3,h4⟩:=List.mem_filter.mp hk
    simp only [Bool.and_eq_true,decide_eq_true_eq] at h4
    rw [←h4.2]
    exact rlt k h3
   have s1c:=s1.trans sm
   have Rc:=R.same s1c
   have rl2:=R.len
   obtain ⟨ra,era⟩:∃ra,rs[r]?=some ra:=⟨_,List.getElem?_eq_getElem (by omega)⟩
   obtain ⟨d,ed,okd,hd⟩:=Rc.get era
   have e0:ds.getD r rd0=d:=gO ed
   refine ⟨_,rfl,n,dn,_,rfl,s1c _ _ hn,rfl,_,rfl,n,a',b',_,_,_,_,rfl,Wy.net.same s1c,(by omega),(by have:=aN rs;omega),(cN (by unfold refs;rw [List.getElem?_map,era];rfl)),ra,_,_,_,rfl,rfl,SqT.of hd,rfl,?_⟩
   have em:(d.m:Int)=rRm ds r:=by unfold rRm;rw [e0]
   have m0:0≤rRm ds r:=by rw [←em];have:=okd.m.1;omega
   obtain ⟨cs,ecs⟩:∃cs,cs=qOf due rd T go r:=⟨_,rfl⟩
   have ndc:cs.Nodup:=by rw [ecs];exact Mv ndg
   have lcs:cs.length≤60:=by rw [ecs];have:=Ae due rd T go r;omega
   have hrE:r∈E.map (·.1):=(mem r).mpr ((memr r).mp hrm)
   obtain ⟨⟨r0,la⟩,he,e1⟩:=List.mem_map.mp hrE
   have e1:r0=r:=e1
   subst e1
   obtain ⟨_,_,ts,hla,tpla⟩:=(qa.same sm).each _ he
   have tpla:cT Hc ts (cs.map pV):=by rw [ecs];exact tpla
   have hpc:=(qa.same sm).tab
   have gq:=fX.k (k:=Sum.inl (r0:Int)) hpc
   rw [nM qa.nk he] at gq
   have tll:=tpla.len
   rw [List.length_map] at tll
   obtain ⟨k,ek2⟩:∃k,k=(rRm ds r0).toNat:=⟨_,rfl⟩
   obtain ⟨ch,ech⟩:∃ch,ch=((dz cs).take k).map (·.2):=⟨_,rfl⟩
   have ndch:ch.Nodup:=by rw [ech,ecs];exact Ai ndg k
   have lp:((dz cs).take k).length≤60:=by
    rw [List.length_take]
    have:=(gB cs).length_eq
    omega
   refine Ag ?_
   dsimp only
   refine pH ?_
   refine JD (K:=K) (rest:=[]) (ds:=((dz cs).take k).map pV) (fun R' hR'=>?_) rfl (aG (by rw [List.length_map];omega)) (fun i=>V.int ((((dz cs).take k).getD i (0,0)).2:Int)) (fun d' hd'=>?_) (fun i u v H5 R' ei s5 kk=>?_) (fun D H5 nD hD s5=>?_)
   ·refine ⟨_,rfl,_,rfl,p,_,rfl,gq,la,ts,cs.map pK,true,[true],rfl,SqL.of hla,qT tpla,(by omega),Gq cs,fun l1 nl1=>?_⟩
    obtain ⟨ts1,ets,tp1⟩:=Ce tpla
    have s4:=aF (o:=.lst (gK V.non (ltK (cs.map pK)) (ts.map V.ref))) nl1
    have hl1:upd Hc l1 (.lst (gK V.non (ltK (cs.map pK)) (ts.map V.ref))) l1=some (.lst (refs ts1)):=by rw [aj];rw [show ts.map V.ref=refs ts from rfl,ets]
    refine ⟨_,rfl,_,rfl,l1,_,rfl,SqL.of hl1,fun l2 nl2=>⟨l2,rfl,⟨_,SqL.of aj⟩,?_⟩⟩
    rw [em,Gw ts1 m0,←ek2]
    refine hR' l2 _ (ts1.take k) (jn s4 nl2) (s4.trans (aF nl2)) aj ?_
    rw [List.map_take]
    exact (tX k (tp1.same s4)).same (aF nl2)
   ·obtain ⟨c,_,rfl⟩:=List.mem_map.mp hd'
    exact ⟨_,_,rfl⟩
   ·rw [List.getElem?_map] at ei
    obtain ⟨c,ec,e2⟩:=Option.map_eq_some_iff.mp ei
    have e3:V.int (c.2:Int)=v:=by
     unfold pV at e2
     simp only [List.cons.injEq] at e2
     exact e2.2.1
    refine ⟨_,rfl,?_⟩
    rw [←e3]
    have:=kk H5 (aB.refl _)
    rw [gO ec] at this
    exact this
   have eD:(List.range (((dz cs).take k).map pV).length).map (fun i=>V.int ((((dz cs).take k).getD i (0,0)).2:Int))=dm ch:=by
    rw [List.length_map,range_getD (fun c:Int × Nat=>V.int (c.2:Int)) (0,0) ((dz cs).take k),ech]
    unfold dm
    rw [List.map_map]
    rfl
   rw [eD,uZ] at hD
   have hbl5:=s5 _ _ hblc
   have las:=Paired.length bags
   rw [List.length_map,List.length_take] at las
   refine ⟨_,rfl,.inl ⟨rfl,_,SqL.of hbl5⟩,_,rfl,_,rfl,_,rfl,D,km ch,rfl,SqL.of hD,(by unfold km;rw [List.length_map,ech,List.length_map];omega),fun l3 nl3=>⟨l3,_,rfl,.inl ⟨SqL.of aj,fun c nc=>⟨(by show 3≤sizeLine;decide),fun bt nbt=>⟨bl,refs as,_,rfl,rfl,aF nbt _ _ (aF nc _ _ (aF nl3 _ _ hbl5)),aG (by rw [aN];omega),?_⟩⟩⟩⟩⟩
   rw [←pJ,←uZ]
   have s6:=aF (o:=.lst (dm (fK ch))) nl3
   have h6:∀b o,H5 b=some o→upd H5 l3 (.lst (dm (fK ch))) b=some o:=s6
   rw [←pJ,←uZ] at nc nbt
   generalize upd H5 l3 (.lst (dm (fK ch)))=H6 at s6 nc nbt ⊢
   have s7:=aF (o:=.tup (dm (fK ch))) nc
   have hc7:upd H6 c (.tup (dm (fK ch))) c=some (.tup (dm (fK ch))):=aj
   generalize upd H6 c (.tup (dm (fK ch)))=H7 at s7 hc7 nbt ⊢
   have s8:=aF (o:=.tup [V.int T,V.int (r0:Int),V.ref c]) nbt
   have hbt8:upd H7 bt (.tup [V.int T,V.int (r0:Int),V.ref c]) bt=some (.tup [V.int T,V.int (r0:Int),V.ref c]):=aj
   have hc8:=s8 _ _ hc7
   generalize upd H7 bt (.tup [V.int T,V.int (r0:Int),V.ref c])=H8 at s8 hbt8 hc8 ⊢
   have s58:=s6.trans (s7.trans s8)
   have hbl8:=s58 _ _ hbl5
   have nb:fU H8 bt (dW ds due rd T go r0):=by
    refine ⟨c,hbt8,?_⟩
    have e9:(dW ds due rd T go r0).2=fK ch:=by
     unfold dW Cg
     rw [←ecs,←ek2,←ech]
    rw [e9]
    exact hc8
   refine ⟨as++[bt],_,_,_,rfl,aY nbl (sm.trans (s5.trans s58)),by rw [ak sbl];exact s58 _ _ (s5 _ _ hslc),by rw [aj,g8],?_⟩
   rw [show rl.take (j+1)=rl.take j++[r0] by rw [List.take_add_one,er];rfl,List.map_append]
   refine Paired.snoc (nb.upd hbl8) (Paired.mapP bags fun a b h=>((h.same s5).same s58).upd hbl8)
  ·rintro σ Hc ⟨as,v1,v2,v3,rfl,sm,hslc,hblc,bags⟩
   rw [←erl] at bags
   unfold dm at bags
   rw [List.length_map,List.take_length] at bags
   exact ⟨_,rfl,q bl Hc as rl (jn s1 nbl) (s1.trans sm) hblc bags (by rw [erl];exact Gr ndk) memr⟩
theorem Ow {C CW CN f:Addr} {fd:FuncData} {ps:List Str} (F:aD P w K mg base CX0 5 f fd ps (Gx K C CW CN)):aD P w K mg base CX0 5 f fd ps (JF K C CW CN):=F.imp fun _ _ _ _ h=>Mw h
end
open PySem L2 L3 M1
noncomputable def s00:Step:=⟨0,none,Str.empty,0⟩
noncomputable def w5 (ss:List Step):Step:=ss.getLastD s00
noncomputable def lastAt (sss:List (List Step)) (n:Nat):Step:=w5 (sss.getD n [])
noncomputable def cD (sss:List (List Step)) (n:Nat):Int:=(lastAt sss n).due
noncomputable def gN (gs:List Str) (n:Nat):Str:=gs.getD n Str.empty
noncomputable def rdN (kvs:DTs) (gs:List Str) (sss:List (List Step)) (n:Nat):Nat:=(dw kvs (lastAt sss n).house (gN gs n)).getD 0
theorem qW {ss:List Step} (h:ss≠[]):∃i,ss=i++[w5 ss]:=by
 refine ⟨ss.dropLast,?_⟩
 unfold w5
 rw [List.getLastD_eq_getLast?,List.getLast?_eq_getLast h]
 exact (List.dropLast_concat_getLast h).symm
theorem lw {α:Type} {l:List α} {i:Nat} {d:α} (h:i < l.length):l[i]?=some (l.getD i d):=by
 rw [List.getD,List.getElem?_eq_getElem h]
 rfl
noncomputable def gk (m:Nat) (due:Nat→Int) (rd:Nat→Nat) (T:Int) (go:List Nat):List Nat:=(List.range m).filter fun r=>!(qOf due rd T go r).isEmpty
noncomputable def o4 (ds:List M1.Rd) (due:Nat→Int) (rd:Nat→Nat) (T:Int) (go:List Nat):List (Kt × List Nat):=(gk ds.length due rd T go).map (dW ds due rd T go)
theorem Gy {m:Nat} {due:Nat→Int} {rd:Nat→Nat} {T:Int} {go:List Nat} (hlt:∀k∈go,rd k < m) {rl:List Nat} (up:rl.Pairwise (· < ·)) (mem:∀r,r∈rl↔qOf due rd T go r≠[]):rl=gk m due rd T go:=by
 have up2:(gk m due rd T go).Pairwise (· < ·):=List.pairwise_lt_range.filter _
 have mem2:∀r,r∈gk m due rd T go↔qOf due rd T go r≠[]:=fun r=>by
  unfold gk
  rw [List.mem_filter]
  constructor
  ·rintro ⟨_,h⟩ e
   rw [e] at h
   cases h
  ·intro h
   obtain ⟨c,hc⟩:=List.exists_mem_of_ne_nil _ h
   refine ⟨List.mem_range.mpr ?_,?_⟩
   ·unfold qOf at hc
    obtain ⟨k,hk,_⟩:=List.mem_map.mp hc
    obtain ⟨h3,h4⟩:=List.mem_filter.mp hk
    simp only [Bool.and_eq_true,decide_eq_true_eq] at h4
    rw [←h4.2]
    exact hlt k h3
   ·cases e:qOf due rd T go r with
    | nil=>exact absurd e h
    | cons _ _=>rfl
 refine Ad (R:=(· < ·)) (fun a b h1 h2=>by omega) ((List.perm_ext_iff_of_nodup (up.imp fun h=>Nat.ne_of_lt h) (up2.imp fun h=>Nat.ne_of_lt h)).mpr fun r=>?_) up up2
 rw [mem r,mem2 r]
theorem lz {ds:List M1.Rd} {due:Nat→Int} {rd:Nat→Nat} {T:Int} {go:List Nat} {r i:Nat} (h:i∈(dW ds due rd T go r).2):i∈go∧due i≤T∧rd i=r:=by
 unfold dW Cg at h
 have h1:=(eQ _).mem_iff.mp h
 obtain ⟨c,hc,rfl⟩:=List.mem_map.mp h1
 have h2:=(gB _).mem_iff.mp (List.mem_of_mem_take hc)
 unfold qOf at h2
 obtain ⟨k,hk,rfl⟩:=List.mem_map.mp h2
 obtain ⟨h3,h4⟩:=List.mem_filter.mp hk
 simp only [Bool.and_eq_true,decide_eq_true_eq] at h4
 exact ⟨h3,h4.1,h4.2⟩
theorem Mz {ds:List M1.Rd} {due:Nat→Int} {rd:Nat→Nat} {T:Int} {go:List Nat} (nd:go.Nodup) (r:Nat):(dW ds due rd T go r).2.Nodup:=((eQ _).nodup_iff).mpr (Ai nd _)
theorem Gz {ds:List M1.Rd} {due:Nat→Int} {rd:Nat→Nat} {T:Int} {go:List Nat} {r:Nat} (hm:1≤rRm ds r) (h:qOf due rd T go r≠[]):(dW ds due rd T go r).2≠[]:=fun e=>by
 have l1:=congrArg List.length e
 unfold dW Cg at l1
 rw [(eQ _).length_eq,List.length_map,List.length_take,(gB _).length_eq] at l1
 have l2:=List.length_pos_iff.mpr h
 simp only [List.length_nil] at l1
 omega
noncomputable def gm (hs:List (List Nat)) (ds:List M1.Rd) (bs:List (Kt × List Nat)) (sss:List (List Step)):List (List Step):=bs.foldl (fun s b=>iM (stepK hs ds b.1) b.2 s) sss
theorem nO (hs:List (List Nat)) (ds:List M1.Rd):∀(bs:List (Kt × List Nat)) (sss:List (List Step)),(gm hs ds bs sss).length=sss.length
 | [],_=>rfl
 | b::bs,sss=>by
  show (gm hs ds bs (iM (stepK hs ds b.1) b.2 sss)).length=_
  rw [nO hs ds bs,oN]
theorem qX (hs:List (List Nat)) (ds:List M1.Rd):∀(bs:List (Kt × List Nat)) (sss:List (List Step)) (i:Nat),(gm hs ds bs sss)[i]?=(sss[i]?).map fun ss=>ss++((bs.filter fun b=>decide (i∈b.2)).map fun b=>stepK hs ds b.1)
 | [],sss,i=>by
  show sss[i]?=_
  cases sss[i]? <;> simp
 | b::bs,sss,i=>by
  show (gm hs ds bs (iM (stepK hs ds b.1) b.2 sss))[i]?=_
  rw [qX hs ds bs,jl,Option.map_map]
  congr 1
  funext ss
  show (if i∈b.2 then ss++[stepK hs ds b.1] else ss)++_=_
  rw [List.filter_cons]
  by_cases z:i∈b.2
  ·rw [if_pos z,if_pos (decide_eq_true z),List.map_cons,List.append_assoc]
   rfl
  ·rw [if_neg z,if_neg (by rw [decide_eq_false z];decide)]
theorem Cj (hs:List (List Nat)) (ds:List M1.Rd) (bs:List (Kt × List Nat)) (b:Kt × List Nat) (sss:List (List Step)):gm hs ds (bs++[b]) sss=iM (stepK hs ds b.1) b.2 (gm hs ds bs sss):=by
 unfold gm
 rw [List.foldl_append]
 rfl
theorem yX {L:List Nat} (nd:L.Nodup) {p:Nat→Bool} {r0:Nat} (h:∀r∈L,p r=true→r=r0) (h0:p r0=true→r0∈L):L.filter p=if p r0=true then [r0] else []:=by
 by_cases z:p r0=true
 ·rw [if_pos z]
  have nf:=nd.filter p
  have all:∀r∈L.filter p,r=r0:=fun r hr=>h r (List.mem_filter.mp hr).1 (List.mem_filter.mp hr).2
  have m0:r0∈L.filter p:=List.mem_filter.mpr ⟨h0 z,z⟩
  match e:L.filter p with
  | []=>rw [e] at m0;exact absurd m0 List.not_mem_nil
  | [a]=>rw [e] at all;rw [all a (.head _)]
  | a::b::l=>
   rw [e] at all nf
   have:=(List.nodup_cons.mp nf).1
   exact absurd (by rw [all a (.head _),all b (.tail _ (.head _))];exact .head _) this
 ·rw [if_neg z]
  refine List.filter_eq_nil_iff.mpr fun r hr hp=>z ?_
  rw [←h r hr hp]
  exact hp
noncomputable def o5 (ds:List M1.Rd) (due:Nat→Int) (rd:Nat→Nat) (T:Int) (go:List Nat) (i:Nat):Bool:=decide (i∈(dW ds due rd T go (rd i)).2)
theorem pM {ds:List M1.Rd} {due:Nat→Int} {rd:Nat→Nat} {T:Int} {go:List Nat} (hlt:∀k∈go,rd k < ds.length) (i:Nat):(o4 ds due rd T go).filter (fun b=>decide (i∈b.2))=if o5 ds due rd T go i=true then [dW ds due rd T go (rd i)] else []:=by
 unfold o4
 rw [List.filter_map]
 have nd:(gk ds.length due rd T go).Nodup:=(List.pairwise_lt_range.filter _).imp fun h=>Nat.ne_of_lt h
 rw [yX (r0:=rd i) nd (p:=(fun b:Kt × List Nat=>decide (i∈b.2))∘dW ds due rd T go) (fun r _ hp=>((lz (of_decide_eq_true hp)).2.2).symm) (fun hp=>?_)]
 ·show List.map _ (if o5 ds due rd T go i=true then [rd i] else [])=_
  cases o5 ds due rd T go i <;> rfl
 ·have m:=lz (of_decide_eq_true hp)
  unfold gk
  refine List.mem_filter.mpr ⟨List.mem_range.mpr (hlt i m.1),?_⟩
  have hm:(due i,i)∈qOf due rd T go (rd i):=by
   unfold qOf
   refine List.mem_map.mpr ⟨i,List.mem_filter.mpr ⟨m.1,?_⟩,rfl⟩
   rw [decide_eq_true m.2.1,decide_eq_true rfl]
   rfl
  cases e:qOf due rd T go (rd i) with
  | nil=>rw [e] at hm;exact absurd hm List.not_mem_nil
  | cons _ _=>rfl
section
variable {P:Program} {w:World} {K:PySem.W.Frag} {mg:Str→Option Value} {base:Heap}
noncomputable abbrev sIW:Stmt:=inClass (top 6) 0
theorem Qn:aH ["self","reason","seen"] ["self","reason","seen"] (aC sIW):=⟨rfl,rfl,rfl,by decide+kernel,rfl,by decide+kernel,by decide+kernel⟩
theorem Ox {C R f:Addr} {fd:FuncData} (F:Fun K "__init__" "NoWay.__init__" sIW f fd) (B:Blt mg) (xc:XC K mg "RoadError" C R) (gU:mg "RoadError"=some (.ref R)) (h1:PySem.W.findIn K (.ref C) "reason"=some none) (h2:PySem.W.findIn K (.ref C) "seen"=some none):aD P w K mg base CX0 1 f fd ["self","reason","seen"] (Jt C):=by
 refine F.ok Qn (fun vs H Q E h=>?_) (fun cdv A outer s H vs Q E hr h=>?_)
 ·obtain ⟨e,s,v,zs,rfl,_⟩:=h
  rfl
 ·obtain ⟨e,s,v,zs,rfl,he,hs,q⟩:=h
  refine ⟨_,(ao (cg (Eo (by rfl) gU xc.rd xc.fc xc.sg (aa (pv 0) (aa ik aq))))
   (ao (zN (y:="RoadError") (R:=R) (pv 0) (pv 1) rfl)
   (az (zN (y:="RoadError") (R:=R) (pv 0) (dB eX (by rfl) B.list jD (aa (pv 2) aq)) rfl)))),?_⟩
  refine ⟨_,rfl,e,C,_,rfl,he,xc,(by show 1≤sizeLine;decide),?_⟩
  refine ⟨_,rfl,_,rfl,e,C,rfl,xc,h1,.inl ⟨he,fun dx nd nde=>?_⟩⟩
  have hse:s≠e:=fun z=>by rw [z,he] at hs;cases hs
  have hsd:s≠dx:=fun z=>by rw [z,nd] at hs;cases hs
  refine ⟨_,rfl,s,zs,rfl,.inl (SqL.of (by rw [ak hse,ak hsd];exact hs)),fun l nl=>?_⟩
  have nle:l≠e:=fun z=>by rw [z,aj] at nl;cases nl
  rw [ak nle] at nl
  have nld:l≠dx:=fun z=>by rw [z,aj] at nl;cases nl
  rw [ak nld] at nl
  refine ⟨_,rfl,e,C,rfl,xc,h2,.inr ⟨dx,[("reason",v)],?_,?_,(by show 1 < 100;decide),?_⟩⟩
  ·rw [ak (Ne.symm nle)];exact aj
  ·rw [ak (Ne.symm nld),ak nde];exact aj
  refine q dx l _ nd nl (Ne.symm nld) (fun b o hb hbe=>?_) ?_ ?_ ?_
  ·rw [ak (fun z=>by rw [z,nd] at hb;cases hb),ak (fun z=>by rw [z,nl] at hb;cases hb),ak hbe,ak (fun z=>by rw [z,nd] at hb;cases hb)]
   exact hb
  ·rw [ak (Ne.symm nde),ak (Ne.symm nle)];exact aj
  ·exact aj
  ·rw [ak nld];exact aj
noncomputable abbrev sRt:Stmt:=inClass (top 33) 4
noncomputable abbrev nRt:List Str:=["self","house","goal","taken","seen","number","come_to"]
theorem GC:aH nRt ["self","house","goal"] (aC sRt):=⟨rfl,rfl,rfl,by decide+kernel,rfl,by decide+kernel,by decide+kernel⟩
theorem Oz {C CN NH NR NW R f f1 f2 fI:Addr} {fd fd1 fd2 fdI:FuncData} (F:Fun K "route" "Ways.route" sRt f fd) (WC:oZ K C) (bR:Cls K CN)
  (aX:Mn K CN "need_house" "Net.need_house" tQ ["self","house"] f1 fd1) (bJ:aD P w K mg base (CXe P w) 1 f1 fd1 ["self","house"] (uM CN NH))
  (bT:Mn K CN "road" "Net.road" j4 ["self","number"] f2 fd2) (eN:aD P w K mg base (CXe P w) 1 f2 fd2 ["self","number"] (uy CN NR))
  (kE:XC K mg "RoadError" NW R) (iD:mg "NoWay"=some (.ref NW)) (w6:PySem.W.keepIn K (.ref NW)=true) (xf:PySem.W.findIn K (.ref NW) "__init__"=some (some (.ref fI))) (xg:PySem.W.isFn K (.ref fI)=true)
  (gW:aD P w K mg base CX0 1 fI fdI ["self","reason","seen"] (Jt NW)) (xj:Binds K fdI ["self","reason","seen"] []):
  aD P w K mg base (CXd P w) 3 f fd ["self","house","goal"] (Mj C CN NH NW):=by
 refine okD F GC (fun vs H Q E h=>?_) (fun cdv A outer s H vs Q E hr h=>?_)
 ·obtain ⟨x,n,t,a',b',hs,rs,ds,kvs,h',g',rfl,_⟩:=h
  rfl
 ·obtain ⟨x,n,t,a',b',hs,rs,ds,kvs,h',g',rfl,W,G,hR,tab,q,qE⟩:=h
  obtain ⟨dx,hx⟩:=W.ins
  obtain ⟨dn,hn⟩:=W.net.ins
  refine ⟨_,(ao (cg (bL (bV (pv 0) (by rfl)) bR aX.me bJ (hr.mono (by decide)) aX.bd .nil qw (aa (pv 1) aq)))
   (ao (cg (bL (bV (pv 0) (by rfl)) bR aX.me bJ (hr.mono (by decide)) aX.bd .nil qw (aa (pv 2) aq)))
   (ao (aL (i:=3) GC.nd rfl (Or.inl rfl) (iW aq))
   (ao (aL (i:=4) GC.nd rfl (Or.inl rfl) (iW (aa (pv 1) aq)))
   (ao (pR PassesOwn.leaving (bK sy (aK bM (pv 4) (vH pU au) (fun _ _=>rfl)) (pv 2) (bG _))
    (ao (aL (i:=5) GC.nd rfl (Or.inl rfl) (qd (cQ hr) (bV (pv 0) (by rfl)) (iu (aa (aK bM (pv 4) (vH pU au) (fun _ _=>rfl)) (aa (pv 2) aq))) ⟨rfl,rfl,rfl,rfl⟩))
   (ao (cI (bK xT (pv 5) jw (bG _)) (az (tu kE iD w6 xf xg gW (hr.mono (by decide)) xj rfl (aa ik (aa (pv 4) aq)))) bw)
   (ao (aL (i:=6) GC.nd rfl (Or.inl rfl) (aK aP (bL (bV (pv 0) (by rfl)) bR bT.me eN (hr.mono (by decide)) bT.bd .nil qw (aa (pv 5) aq)) au (fun _ _=>rfl)))
   (ao (cI (bK nW (pv 6) (pv 4) (by rfl)) (az (tu kE iD w6 xf xg gW (hr.mono (by decide)) xj rfl (aa ik (aa (aM KD (pv 4) (iW (aa (pv 6) aq))) aq)))) bw)
   (ao (cg (lG PySem.F.plainAttrs_list PySem.F.slot_list_append PySem.F.type_list_append cG (pv 3) (aa (pv 5) aq)))
   (az (cg (lG PySem.F.plainAttrs_list PySem.F.slot_list_append PySem.F.type_list_append cG (pv 4) (aa (pv 6) aq))))))))))
   (az (aU (pv 3)))))))),?_⟩
  refine ⟨_,rfl,x,C,dx,_,_,rfl,hx,WC.cl,WC.nn,rfl,n,dn,_,rfl,hn,rfl,_,rfl,n,a',b',hs,_,h',rfl,W.net,fun m1=>?_,fun hno=>qE (.inl hno)⟩
  refine ⟨_,rfl,x,C,dx,_,_,rfl,hx,WC.cl,WC.nn,rfl,n,dn,_,rfl,hn,rfl,_,rfl,n,a',b',hs,_,g',rfl,W.net,fun m2=>?_,fun hno=>qE (.inr hno)⟩
  refine ⟨Nat.zero_le _,fun p3 n3=>⟨_,rfl,(by show 1≤sizeLine;decide),fun p4 n4=>?_⟩⟩
  have q:=q m1 m2
  have s3:=aF (o:=.lst []) n3
  have s4:=aF (o:=.lst [V.str h']) n4
  have n34:p4≠p3:=fun z=>by rw [z,aj] at n4;cases n4
  have n4':H p4=none:=by rw [ak n34] at n4;exact n4
  refine ⟨fun m σ Hc=>∃(c:Str) (sn:List Str) (tk:List Nat) (v5 v6:Option L2.V),σ=[some (.ref x),some (.str h'),some (.str g'),some (.ref p3),some (.ref p4),v5,v6]∧aB H Hc∧Hc p3=some (.lst (nats tk))∧Hc p4=some (.lst (ph sn))∧
   L2.atI (ph sn) (-1)=some (.str c)∧(∀y∈sn,y∈hs.map S)∧sn.Nodup∧Mi NW (j8 kvs hs ds g' m c sn tk) H Q E∧m+sn.length=14∧tk.length+1=sn.length,⟨13,h',[h'],[],none,none,rfl,s3.trans s4,s4 _ _ aj,aj,rfl,?_,?_,q,rfl,rfl⟩,?_⟩
  ·intro y hy
   rw [List.mem_singleton.mp hy]
   exact m1
  ·exact List.nodup_cons.mpr ⟨List.not_mem_nil,List.nodup_nil⟩
  rintro m σ Hc ⟨c,sn,tk,v5,v6,rfl,sm,h3,h4,last,sub,nd,q,hm,hl⟩
  have l12:sn.length≤12:=by
   have:=bZ nd sub
   rw [List.length_map] at this
   exact Nat.le_trans this G.few
  obtain ⟨m,rfl⟩:∃m',m=m'+1:=⟨m - 1,by omega⟩
  have hs4:(ph sn).length=sn.length:=List.length_map _
  refine ⟨_,rfl,_,rfl,p4,_,_,_,rfl,rfl,SqL.of h4,last,_,rfl,rfl,_,rfl,?_⟩
  unfold j8 at q
  by_cases hcg:c=g'
  ·rw [if_pos hcg] at q
   refine gw (by rw [hcg];simp) ⟨_,rfl,q p3 Hc n3 sm h3⟩
  rw [if_neg hcg] at q
  refine eY (by simp [hcg]) ⟨_,fun σ' H' h=>⟨m,Nat.lt_succ_self _,h⟩,?_⟩
  have hxc:=sm _ _ hx
  refine ⟨_,rfl,x,C,dx,_,_,rfl,hxc,WC.cl,WC.nt,rfl,t,rfl,.inr ⟨kvs,.inl (sm _ _ W.told)⟩,_,rfl,_,rfl,p4,_,_,_,rfl,rfl,SqL.of h4,last,_,rfl,(by show 2≤sizeLine;decide),fun r nr=>⟨_,fX.t (k:=pk c g') ((aF nr) _ _ (sm _ _ W.told)) aj,?_⟩⟩
  have sr:=aF (o:=.tup [V.str c,V.str g']) nr
  have sm1:=sm.trans sr
  have h31:=sr _ _ h3
  have h41:=sr _ _ h4
  generalize upd Hc r (.tup [V.str c,V.str g'])=H1 at sr sm1 h31 h41 ⊢
  rcases tab.get c g' with ⟨e1,e2⟩ | ⟨i,e1,e2,hi⟩
  ·rw [e2] at q
   rw [e1]
   exact ⟨_,rfl,rfl,_,rfl,eY (by decide) ⟨_,rfl,(by show 2≤sizeLine;decide),fun e ne=>J5 q sm1 h41 ne⟩⟩
  ·rw [e2] at q
   rw [e1]
   refine ⟨_,rfl,rfl,_,rfl,gw (by simp) ?_⟩
   obtain ⟨r',er⟩:∃r',rs[i]?=some r':=⟨_,List.getElem?_eq_getElem (by rw [hR.len];exact hi)⟩
   obtain ⟨d,ed,dok,hrd⟩:=hR.get er
   have et:cF hs ds i=S (hs.getD d.b []):=by unfold cF;rw [gj ed]
   have er2:L2.atI (refs rs) (i:Int)=some (.ref r'):=cN (by unfold refs;rw [List.getElem?_map,er];rfl)
   refine ⟨_,rfl,x,C,dx,_,_,rfl,sm1 _ _ hx,WC.cl,WC.nn,rfl,n,dn,_,rfl,sm1 _ _ hn,rfl,_,rfl,n,a',b',_,_,(i:Int),rfl,W.net.same sm1,fun _=>⟨_,er2,?_⟩,fun hno=>absurd ⟨by omega,by rw [aN,hR.len];omega⟩ hno⟩
   refine ⟨r',_,_,_,rfl,rfl,SqT.of (sm1 _ _ hrd),rfl,?_⟩
   simp only [et] at q
   have mem2:S (hs.getD d.b [])∈hs.map S:=List.mem_map.mpr ⟨_,getD_mem' dok.b,rfl⟩
   generalize S (hs.getD d.b [])=c2 at q mem2 ⊢
   refine ⟨_,rfl,_,rfl,p4,_,rfl,.inl (SqL.of h41),rfl,kZ _,_,rfl,?_⟩
   by_cases hin:c2∈sn
   ·rw [if_pos hin] at q
    refine eY (pD hin) ⟨_,rfl,_,rfl,(by show 1≤sizeLine;decide),fun r6 n6=>⟨p4,r6,_,_,rfl,rfl,(aF n6) _ _ h41,aj,Nat.le_of_lt (aG (by show (ph sn).length+1≤1000;omega)),fun r7 n7=>⟨(by show 2≤sizeLine;decide),fun e ne=>J5 q (sm1.trans ((aF n6).trans (aF n7))) (by rw [aj];unfold ph;rw [List.map_append];rfl) ne⟩⟩⟩
   ·rw [if_neg hin] at q
    refine gw (qL hin) ?_
    have htl:(nats tk).length=tk.length:=List.length_map _
    refine ⟨_,rfl,.inl ⟨rfl,_,SqL.of h31⟩,_,rfl,p3,_,_,rfl,rfl,h31,aG (by omega),?_⟩
    have h42:upd H1 p3 (.lst (nats tk++[V.int (i:Int)])) p4=some (.lst (ph sn)):=by rw [ak n34];exact h41
    refine ⟨_,rfl,.inl ⟨rfl,_,SqL.of h42⟩,_,rfl,p4,_,_,rfl,rfl,h42,aG (by omega),?_⟩
    refine ⟨c2,sn++[c2],tk++[i],_,_,rfl,aY n4' (aY n3 sm1),?_,?_,?_,?_,?_,q,?_,?_⟩
    ·rw [ak (Ne.symm n34),aj];unfold nats;rw [List.map_append];rfl
    ·rw [aj];unfold ph;rw [List.map_append];rfl
    ·exact vM sn c2
    ·intro y hy
     rcases List.mem_append.mp hy with hy | hy
     ·exact sub y hy
     ·rw [List.mem_singleton.mp hy];exact mem2
    ·exact iB nd hin
    ·rw [List.length_append];show m+(sn.length+1)=14;omega
    ·rw [List.length_append,List.length_append];show tk.length+1+1=sn.length+1;omega
end
end K1
namespace L3
open PySem PySem.Spec PyProof.Rows L2
noncomputable def OD (K:PySem.W.Frag) (tb:TSx) (R:Addr) (ts:TS):TS:=fun D σ H=>tb D (fun σ' cls od H'=>∃C dx,cls=.ref C∧od=some dx∧jC K C R=true∧∀ea,H' ea=none→ts D σ' (upd H' ea (exD ea C dx))) σ H
theorem JG {X:Cx} {st b0:Stmt} {suite:List Stmt} {x:Str} {np hpos pos:Pos} {tb:TSx} {ts:TS} {R:Addr} (hstk:X.stack=X.env::X.outer) (hfrm:X.env.frame=some X.env.locals)
  (hb:PSd X st tb) (hg:Gl X x) (hm:X.mg x=some (.ref R)) (hR:jC X.K R R=true) (hsuite:∀ea,PSs (pA X ea) (b0::suite) ts)
  (hdb:(x==("__debug__":Str))=false:=by decide):PS X (.Try [st] [.ExceptHandler (some (.Name x np)) none (b0::suite) hpos] [] [] pos) (OD X.K tb R ts):=by
 intro pins s σ H D I h
 refine wpAny_Try_except (wpAny_execs_cons (wpAny_mono (hb pins s σ H D _ I h) (fun f s1 q=>?_) fun e s1 q=>?_))
 ·cases f with
  | next=>exact wpAny_execs_nil (wpAny_execs_nil q)
  | ret v=>exact q
  | brk=>exact q
  | cont=>exact q
 ·obtain ⟨σ1,Hc,sc,ea,cls,a0,H',B,od,rfl,Ic,T,lk,C,dx,rfl,rfl,hsub,k⟩:=q
  obtain ⟨o0,ho0,hd0⟩:=lk dx rfl
  have hfr:X.A.frames=some (X.env::X.outer):=by rw [←hstk];exact I.ok.frames
  have fl1:=T.fl
  rw [hstk] at fl1
  refine Iu hfr hfrm fl1 fun h4 held4 up4 sd4=>Iv held4 fun h5 fl5 up5 sd5=>?_
  have fl5':=fl5
  rw [←hstk] at fl5'
  have T5:=T.move fl5' (up4.trans up5)
  have I5:Inv X pins σ1 H' {s1 with heap:=h5}:=Ic.call' (s':={s1 with heap:=h5}) (ch:=[]) T5.os T5.un T5.hok T5.bare (fun b z=>absurd z (by simp))
  obtain ⟨ob,hob,hobc⟩:=fl5.there
  refine wpAny_handleBy_cons (codeAny_handlers_test (jx (X:=pA X ea) (L3.Inv.suite I5 ea) hg hm (HW I5.kIn hsub hR hob hobc ?_) hdb)) (by intro q;cases q)
  refine codeAny_handlers_suite (Iw fl5 fun h6 fl6 up6 sd6=>?_)
  have fl6':=fl6
  rw [←hstk] at fl6'
  have T6:=T5.move fl6' up6
  obtain ⟨o6,v6,ho6,hc6,hf6,_⟩:=fl6.first
  have hd6:o6.dict=some dx:=(((sd4.trans sd5).trans sd6).dict ho0 ho6).trans hd0
  have hl6:h6.get? ea=some ⟨.ref C,some dx,.fields v6,o6.slots⟩:=by
   rw [ho6]
   obtain ⟨c,d,dt,sl⟩:=o6
   dsimp only at hc6 hf6 hd6
   rw [hc6,hf6,hd6]
  have old:∀b o,sc.heap.get? b=some o→b≠ea:=fun b o e=>T.notOld e
  have tn:=T.new
  have I6:Inv X pins σ1 (upd H' ea (exD ea C dx)) {s1 with heap:=h6}:=by
   refine Ic.call' (s':={s1 with heap:=h6}) (ch:=[]) T6.os ⟨T6.un.keep,T6.un.slot,fun b o e n' hx=>by rw [ak (old b o e)];exact T6.un.free b o e n' hx,T6.un.there,fun b xs e=>?_,fun b o u e=>?_,fun b ps e=>?_⟩ ?_ T6.bare (fun b z=>absurd z (by simp))
   ·have:=T6.un.tups b xs e
    rw [ak (aA this tn)]
    exact this
   ·have:=T6.un.frzs b o u e
    rw [ak (aA this tn)]
    exact this
   ·obtain ⟨m,this⟩:=T6.un.tbls b ps e
    exact ⟨m,by rw [ak (aA this tn)];exact this⟩
   ·intro b u e
    by_cases hb':b=ea
    ·subst hb'
     rw [aj] at e
     cases e
     exact Lj hl6
    ·rw [ak hb'] at e
     exact (T6.hok b u e).stay (fun c v _ q=>q) (fun c q=>by rw [ak (aA q tn)];exact q) fun c xs q=>by rw [ak (aA q tn)];exact q
  refine wpAny_mono (hsuite ea pins _ _ _ _ (L3.Inv.suite I6 ea) (k ea tn)) (fun fl8 s8 q8=>?_) fun _ _ z=>False.elim z
  cases fl8 with
  | next=>obtain ⟨σ8,H8,I8,q⟩:=q8;exact ⟨σ8,H8,Inv.unsuite I.ok.hd I8,q⟩
  | brk=>obtain ⟨σ8,H8,I8,q⟩:=q8;exact ⟨σ8,H8,Inv.unsuite I.ok.hd I8,q⟩
  | cont=>obtain ⟨σ8,H8,I8,q⟩:=q8;exact ⟨σ8,H8,Inv.unsuite I.ok.hd I8,q⟩
  | ret u=>obtain ⟨v8,σ8,H8,I8,r8,q⟩:=q8;exact ⟨v8,σ8,H8,Inv.unsuite I.ok.hd I8,r8,q⟩
open PySem L2
section
variable {X:Cx} {e o:Expr} {es:List Expr} {pos apos p:Pos} {k:Nat} {f C:Addr} {fd:FuncData} {ps:List Str} {sp:Sp} {ta:TE} {t:TA} {m x:Str}
theorem JH {pl:Sem Bool} (he:PE X.nox o ta) (c:Cls X.K C) (hm:Meth X.K C m f) (F:aD X.prog X.w X.K X.mg X.base (CXd X.prog X.w) k f fd ps sp) (hr:dM k X.A) (hb:Binds X.K fd ps []) (ha:PA X.nox (e::es) t)
  (hst:starEach (e::es) X.env=(false,eval e X.env)::starEach es X.env:=by rfl) (hpl:(backTo pos (starEach es X.env)).any (·.1)=false:=by rfl)
  (ht:eval (.Call (.Attribute o m apos) (e::es) [] pos) X.env=(do
   let ov ←eval o X.env
   standAt apos.atName
   let (f,first) ←holding [ov] (getMethod ov m pl)
   callWith pos f first (backTo pos (starEach (e::es) X.env)) (backToKw pos (keywordEach [] X.env))):=by rfl):
  PEd X (.Call (.Attribute o m apos) (e::es) [] pos) (KZ C m sp ta t):=by
 intro pins s σ H Q E I h
 refine PySem.W.methodCall_KW (pl:=pl) (noW (X:=X) (pins:=pins) (thn (he pins s σ H _ (I.wish _) h) fun u s1 ⟨x,H1,I1,rx,a,dx,fs,ex,ea,l,q⟩=>?_)) ht
 subst ex
 obtain rfl:u=Value.ref a:=rx
 have I1:=I1.unwish
 refine jB I1 ea c hm l ?_
 refine PySem.W.callWith_K (first:=[.ref a]) (h₀:=X.base) I.ok.mod.kin hm.kp (noW (X:=X) (pins:=pins) (thn (ha pos pins s1 σ H1 _ (I1.wish _) q) fun us s2 ⟨vs,H2,I2,r,q2⟩=>⟨I2.unwish.kIn,?_⟩)) hst hpl
 refine Ir (us:=.ref a::us) (vs:=.ref a::vs) F hr hb I2.unwish (.cons rfl r) ?_
 have q2':sp (V.ref a::(vs++[])) H2 Q E:=q2
 rw [List.append_nil] at q2'
 exact q2'
end
end L3
namespace K1
open PySem L2 L3 M1
noncomputable def Qo:Out→Bool
 | .ok _=>true
 | .no _ _=>false
noncomputable def kI (kvs:DTs) (hs:List (List Nat)) (ds:List M1.Rd) (d:Str × Int × Str):Bool:=Qo (j8 kvs hs ds d.2.2 13 d.1 [d.1] [])
noncomputable def MF (C CN:Addr):Sp:=fun vs H Q _=>∃(lt x n t a' b':Addr) (hs:List (List Nat)) (rs:List Addr) (ds:List M1.Rd) (kvs:DTs) (d:Str × Int × Str),vs=[.ref lt,.ref x]∧H lt=some (.tup (ltT d))∧f9 C CN H x n t a' b' (txs hs) (refs rs) kvs∧Good hs∧bI H hs rs ds∧TabOk kvs ds.length∧d.1∈hs.map S∧d.2.2∈hs.map S∧
 ∀H',aB H H'→Q (.bl (kI kvs hs ds d)) H'
section
variable {P:Program} {w:World} {K:PySem.W.Frag} {mg:Str→Option Value} {base:Heap}
noncomputable abbrev sHR:Stmt:=top 15
theorem Qp:aH ["letter","ways"] ["letter","ways"] (aC sHR):=⟨rfl,rfl,rfl,by decide+kernel,rfl,by decide+kernel,by decide+kernel⟩
theorem OJ {C CN NH NW f f1:Addr} {fd fd1:FuncData} (F:Fun K "has_route" "has_route" sHR f fd) (d9:Cls K C) (hR_NoWay:jC K NW NW=true) (iD:mg "NoWay"=some (.ref NW))
  (gY:Mn K C "route" "Ways.route" sRt ["self","house","goal"] f1 fd1) (jJ:aD P w K mg base (CXd P w) 3 f1 fd1 ["self","house","goal"] (Mj C CN NH NW)):
  aD P w K mg base CX0 4 f fd ["letter","ways"] (MF C CN):=by
 refine F.ok Qp (fun vs H Q E h=>?_) (fun cdv A outer s H vs Q E hr h=>?_)
 ·obtain ⟨lt,x,n,t,a',b',hs,rs,ds,kvs,d,rfl,_⟩:=h
  rfl
 ·obtain ⟨lt,x,n,t,a',b',hs,rs,ds,kvs,d,rfl,hlt,W,G,hR,tab,m1,m2,q⟩:=h
  obtain ⟨dx,hx⟩:=W.ins
  refine ⟨_,(ao (JG rfl rfl (Es (JH (pv 1) d9 gY.me jJ (hr.mono (by decide)) gY.bd (aa (aK aP (pv 0) au (fun _ _=>rfl)) (aa (aK aP (pv 0) au (fun _ _=>rfl)) aq)))) rfl iD hR_NoWay (fun ea=>(az (aU jK))))
   (az (aU jK))),?_⟩
  refine ⟨_,rfl,x,dx,_,rfl,hx,rfl,_,rfl,lt,_,_,_,rfl,rfl,SqT.of hlt,rfl,_,rfl,lt,_,_,_,rfl,rfl,SqT.of hlt,rfl,x,n,t,a',b',hs,rs,ds,kvs,d.1,d.2.2,rfl,W,G,hR,tab,fun _ _=>?_,fun hno=>hno.elim (fun z=>absurd m1 z) fun z=>absurd m2 z⟩
  unfold kI at q
  cases ow:j8 kvs hs ds d.2.2 13 d.1 [d.1] [] with
  | ok tk=>
   rw [ow] at q
   intro l H' nl sl hl
   exact q H' sl
  | no why sn=>
   rw [ow] at q
   intro dx l H' nd nl ndl sm hdx hl
   refine ⟨NW,dx,rfl,rfl,hR_NoWay,fun ea hea=>?_⟩
   exact q _ (sm.trans (aF hea))
end
open PySem L2 L3 M1
inductive cL (kvs:DTs) (hs:List (List Nat)) (ds:List M1.Rd) (g:Str):Str→List Nat→Prop
 | home:cL kvs hs ds g g []
 | on {h:Str} {k:Nat} {tk:List Nat}:h≠g→dw kvs h g=some k→k < ds.length→cL kvs hs ds g (cF hs ds k) tk→cL kvs hs ds g h (k::tk)
theorem qY {kvs:DTs} {hs:List (List Nat)} {ds:List M1.Rd} (R:∀d∈ds,d.Ok hs.length) (T:TabOk kvs ds.length) (few:hs.length≤12) {g:Str}:∀(n:Nat) (c:Str) (sn:List Str) (tk out:List Nat),n+sn.length=14→sn.Nodup→(∀y∈sn,y∈hs.map S)→
  j8 kvs hs ds g n c sn tk=.ok out→∃tk',out=tk++tk'∧cL kvs hs ds g c tk'∧tk'.length+sn.length≤12
 | 0,c,sn,tk,out,hn,nd,sub,e=>by
  have:=bZ nd sub
  rw [List.length_map] at this
  omega
 | n+1,c,sn,tk,out,hn,nd,sub,e=>by
  have l12:=bZ nd sub
  rw [List.length_map] at l12
  unfold j8 at e
  by_cases z:c=g
  ·rw [if_pos z] at e
   cases e
   subst z
   exact ⟨[],by rw [List.append_nil],.home,by show 0+sn.length≤12;omega⟩
  ·rw [if_neg z] at e
   rcases T.get c g with ⟨_,w⟩ | ⟨k,_,w,kl⟩
   ·rw [w] at e
    cases e
   ·rw [w] at e
    by_cases m:cF hs ds k∈sn
    ·simp only [if_pos m] at e
     cases e
    ·simp only [if_neg m] at e
     have mto:cF hs ds k∈hs.map S:=by
      unfold cF
      exact eZ (R _ (getD_mem' kl)).b
     obtain ⟨tk',h1,h2,h3⟩:=qY R T few n (cF hs ds k) (sn++[cF hs ds k]) (tk++[k]) out (by rw [List.length_append];show n+(sn.length+1)=14;omega) (iB nd m) (fun y hy=>by
      rcases List.mem_append.mp hy with y' | y'
      ·exact sub y y'
      ·rw [List.mem_singleton.mp y'];exact mto) e
     rw [List.length_append] at h3
     simp only [List.length_cons,List.length_nil] at h3
     exact ⟨k::tk',by rw [h1,List.append_assoc];rfl,.on z w kl h2,by rw [List.length_cons];omega⟩
theorem u5 {kvs:DTs} {hs:List (List Nat)} {ds:List M1.Rd} (R:∀d∈ds,d.Ok hs.length) (T:TabOk kvs ds.length) (few:hs.length≤12) {d:Str × Int × Str} (m:d.1∈hs.map S) (h:kI kvs hs ds d=true):∃tk,cL kvs hs ds d.2.2 d.1 tk∧tk.length≤12:=by
 unfold kI at h
 cases e:j8 kvs hs ds d.2.2 13 d.1 [d.1] [] with
 | ok out=>
  obtain ⟨tk,_,h2,h3⟩:=qY R T few 13 d.1 [d.1] [] out rfl (List.nodup_cons.mpr ⟨List.not_mem_nil,List.nodup_nil⟩) (fun y hy=>by rw [List.mem_singleton.mp hy];exact m) e
  exact ⟨tk,h2,by omega⟩
 | no why sn=>rw [e] at h;cases h
structure kJ (hs:List (List Nat)) (ds:List M1.Rd) (kvs:DTs) (gs:List Str) (sss:List (List Step)) (go:List Nat) (rt:Nat→List Nat):Prop where
 len:sss.length=gs.length
 lt:∀n∈go,n < gs.length
 nd:go.Nodup
 ne:∀ss∈sss,ss≠[]
 few:∀n,(sss.getD n []).length+(rt n).length≤20
 house:∀n∈go,(lastAt sss n).house∈hs.map S
 goal:∀n∈go,gN gs n∈hs.map S
 way:∀n∈go,cL kvs hs ds (gN gs n) (lastAt sss n).house (rt n)
 on:∀n∈go,rt n≠[]
theorem yZ (ss:List Step) (s:Step):w5 (ss++[s])=s:=by
 unfold w5
 rw [List.getLastD_eq_getLast?,List.getLast?_append]
 rfl
theorem cL.way {kvs:DTs} {hs:List (List Nat)} {ds:List M1.Rd} {g h:Str} {tk:List Nat} (r:cL kvs hs ds g h tk) (ne:tk≠[]):∃k tk',tk=k::tk'∧h≠g∧dw kvs h g=some k∧k < ds.length∧cL kvs hs ds g (cF hs ds k) tk':=by
 cases r with
 | home=>exact absurd rfl ne
 | on a b c d=>exact ⟨_,_,rfl,a,b,c,d⟩
theorem kJ.goes {hs:List (List Nat)} {ds:List M1.Rd} {kvs:DTs} {gs:List Str} {sss:List (List Step)} {go:List Nat} {rt:Nat→List Nat} (T:TabOk kvs ds.length) (O:kJ hs ds kvs gs sss go rt):(∀n∈go,yW hs kvs gs sss (cD sss) (rdN kvs gs sss) n)∧∀n∈go,rdN kvs gs sss n < ds.length:=by
 have key:∀n∈go,∃k,dw kvs (lastAt sss n).house (gN gs n)=some k∧rdN kvs gs sss n=k∧k < ds.length∧(lastAt sss n).house≠gN gs n∧bD kvs (pk (lastAt sss n).house (gN gs n))=some (.int (k:Int)):=fun n hn=>by
  obtain ⟨k,tk',_,h2,h3,h4,_⟩:=(O.way n hn).way (O.on n hn)
  refine ⟨k,h3,by unfold rdN;rw [h3];rfl,h4,h2,?_⟩
  rcases T.get (lastAt sss n).house (gN gs n) with ⟨_,w⟩ | ⟨i,v,w,_⟩
  ·rw [w] at h3;cases h3
  ·rw [w] at h3
   cases h3
   exact v
 refine ⟨fun n hn=>?_,fun n hn=>?_⟩
 ·obtain ⟨k,h1,h2,h3,h4,h5⟩:=key n hn
  have ln:=O.lt n hn
  have e1:sss[n]?=some (sss.getD n []):=lw (by rw [O.len];exact ln)
  obtain ⟨i,ei⟩:=qW (O.ne _ (List.mem_of_getElem? e1))
  refine ⟨i,lastAt sss n,gN gs n,?_,rfl,lw ln,O.house n hn,O.goal n hn,h4,by rw [h2];exact h5⟩
  rw [e1]
  congr 1
 ·obtain ⟨k,_,h2,h3,_⟩:=key n hn
  rw [h2]
  exact h3
section
variable (hs:List (List Nat)) (ds:List M1.Rd) (kvs:DTs) (gs:List Str)
noncomputable def nextT (T:Int) (go:List Nat) (sss:List (List Step)):Int:=max (T+1) (lL (go.map (cD sss)))
noncomputable def jq (T:Int) (go:List Nat) (sss:List (List Step)):List (Kt × List Nat):=o4 ds (cD sss) (rdN kvs gs sss) T go
noncomputable def dq (T:Int) (go:List Nat) (sss:List (List Step)):List (List Step):=gm hs ds (jq ds kvs gs T go sss) sss
noncomputable def fL (T:Int) (go:List Nat) (sss:List (List Step)) (i:Nat):Bool:=o5 ds (cD sss) (rdN kvs gs sss) T go i
noncomputable def goT (go:List Nat) (sss:List (List Step)):List Nat:=go.filter fun n=>decide ((lastAt sss n).house≠gN gs n)
noncomputable def oU:Nat→Int→List Nat→List (List Step)→List (Kt × List Nat)
 | 0,_,_,_=>[]
 | m+1,T,go,sss=>if go=[] then [] else jq ds kvs gs (nextT T go sss) go sss++oU m (nextT T go sss) (goT gs go (dq hs ds kvs gs (nextT T go sss) go sss)) (dq hs ds kvs gs (nextT T go sss) go sss)
end
section
variable {hs:List (List Nat)} {ds:List M1.Rd} {kvs:DTs} {gs:List Str} {sss:List (List Step)} {go:List Nat} {rt:Nat→List Nat} {T:Int}
theorem step_get (hlt:∀k∈go,rdN kvs gs sss k < ds.length) (i:Nat):(dq hs ds kvs gs T go sss)[i]?=(sss[i]?).map fun ss=>ss++(if fL ds kvs gs T go sss i=true then [stepK hs ds (T,rdN kvs gs sss i)] else []):=by
 unfold dq
 rw [qX]
 congr 1
 funext ss
 congr 1
 unfold jq
 rw [pM hlt i]
 show List.map _ (if fL ds kvs gs T go sss i=true then _ else _)=_
 cases fL ds kvs gs T go sss i <;> rfl
theorem tY (hlt:∀k∈go,rdN kvs gs sss k < ds.length) {i:Nat} (hi:i < sss.length):(dq hs ds kvs gs T go sss).getD i []=sss.getD i []++(if fL ds kvs gs T go sss i=true then [stepK hs ds (T,rdN kvs gs sss i)] else []):=by
 rw [List.getD,step_get hlt,lw (d:=[]) hi]
 rfl
theorem pN {i:Nat} (h:fL ds kvs gs T go sss i=true):i∈go∧cD sss i≤T:=by
 have:=lz (of_decide_eq_true h)
 exact ⟨this.1,this.2.1⟩
theorem lA (hlt:∀k∈go,rdN kvs gs sss k < ds.length) {i:Nat} (hi:i < sss.length):lastAt (dq hs ds kvs gs T go sss) i=if fL ds kvs gs T go sss i=true then stepK hs ds (T,rdN kvs gs sss i) else lastAt sss i:=by
 unfold lastAt
 rw [tY hlt hi]
 by_cases z:fL ds kvs gs T go sss i=true
 ·rw [if_pos z,if_pos z]
  exact yZ _ _
 ·rw [if_neg z,if_neg z,List.append_nil]
theorem u6 {r:Nat} (h:r < ds.length):j7 hs ds r=cF hs ds r:=by
 unfold j7 cF
 rw [show ds.getD r rd0=ds[r] by rw [List.getD,List.getElem?_eq_getElem h];rfl,show ds.getD r d0=ds[r] by rw [List.getD,List.getElem?_eq_getElem h];rfl]
noncomputable def rtT (ds:List M1.Rd) (kvs:DTs) (gs:List Str) (T:Int) (go:List Nat) (sss:List (List Step)) (rt:Nat→List Nat) (i:Nat):List Nat:=if fL ds kvs gs T go sss i=true then (rt i).tail else rt i
theorem cL.nil_eq {kvs:DTs} {hs:List (List Nat)} {ds:List M1.Rd} {g h:Str} {tk:List Nat} (r:cL kvs hs ds g h tk) (e:tk=[]:=by rfl):h=g:=by
 cases r with
 | home=>rfl
 | on=>cases e
theorem kJ.step (R:∀d∈ds,d.Ok hs.length) (Tb:TabOk kvs ds.length) (O:kJ hs ds kvs gs sss go rt):kJ hs ds kvs gs (dq hs ds kvs gs T go sss) (goT gs go (dq hs ds kvs gs T go sss)) (rtT ds kvs gs T go sss rt):=by
 have hlt:=(O.goes Tb).2
 have sub:∀n∈goT gs go (dq hs ds kvs gs T go sss),n∈go:=fun n hn=>(List.mem_filter.mp hn).1
 have way':∀n∈go,cL kvs hs ds (gN gs n) (lastAt (dq hs ds kvs gs T go sss) n).house (rtT ds kvs gs T go sss rt n):=fun n hn=>by
  have ln:n < sss.length:=by rw [O.len];exact O.lt n hn
  rw [lA hlt ln]
  unfold rtT
  by_cases z:fL ds kvs gs T go sss n=true
  ·rw [if_pos z,if_pos z]
   obtain ⟨k,tk',e1,_,e2,e3,e4⟩:=(O.way n hn).way (O.on n hn)
   have er:rdN kvs gs sss n=k:=by unfold rdN;rw [e2];rfl
   rw [e1]
   show cL kvs hs ds (gN gs n) (j7 hs ds (rdN kvs gs sss n)) tk'
   rw [er,u6 e3]
   exact e4
  ·rw [if_neg z,if_neg z]
   exact O.way n hn
 refine ⟨?_,fun n hn=>O.lt n (sub n hn),O.nd.filter _,fun ss hss=>?_,fun n=>?_,fun n hn=>?_,fun n hn=>O.goal n (sub n hn),fun n hn=>way' n (sub n hn),fun n hn e=>?_⟩
 ·unfold dq
  rw [nO]
  exact O.len
 ·obtain ⟨i,hi⟩:=List.getElem?_of_mem hss
  rw [step_get hlt] at hi
  obtain ⟨ss0,e0,rfl⟩:=Option.map_eq_some_iff.mp hi
  have:=O.ne ss0 (List.mem_of_getElem? e0)
  intro e
  exact this (List.append_eq_nil_iff.mp e).1
 ·have f:=O.few n
  by_cases ln:n < sss.length
  ·rw [tY hlt ln]
   unfold rtT
   by_cases z:fL ds kvs gs T go sss n=true
   ·rw [if_pos z,if_pos z,List.length_append,List.length_tail]
    have:=List.length_pos_iff.mpr (O.on n (pN z).1)
    simp only [List.length_cons,List.length_nil]
    omega
   ·rw [if_neg z,if_neg z,List.append_nil]
    exact f
  ·have e0:(dq hs ds kvs gs T go sss).getD n []=[]:=by
    rw [List.getD,List.getElem?_eq_none (by unfold dq;rw [nO];omega)]
    rfl
   have z:¬fL ds kvs gs T go sss n=true:=fun z=>ln (by rw [O.len];exact O.lt n (pN z).1)
   rw [e0]
   unfold rtT
   rw [if_neg z]
   simp only [List.length_nil]
   omega
 ·have hn':=sub n hn
  have ln:n < sss.length:=by rw [O.len];exact O.lt n hn'
  rw [lA hlt ln]
  by_cases z:fL ds kvs gs T go sss n=true
  ·rw [if_pos z]
   have hl:=hlt n hn'
   show j7 hs ds (rdN kvs gs sss n)∈_
   unfold j7
   rw [show ds.getD (rdN kvs gs sss n) rd0=ds[rdN kvs gs sss n] by rw [List.getD,List.getElem?_eq_getElem hl];rfl]
   exact eZ (R _ (List.getElem_mem hl)).b
  ·rw [if_neg z]
   exact O.house n hn'
 ·have hne:=of_decide_eq_true (List.mem_filter.mp hn).2
  have w:=way' n (sub n hn)
  rw [e] at w
  exact hne w.nil_eq
noncomputable def tot (rt:Nat→List Nat) (go:List Nat):Nat:=(go.map fun n=>(rt n).length).sum
theorem GD {f g:Nat→List Nat}:∀{go:List Nat},(∀n∈go,(f n).length≤(g n).length)→tot f go≤tot g go
 | [],_=>Nat.le_refl _
 | n::go,h=>by
  unfold tot
  rw [List.map_cons,List.sum_cons,List.map_cons,List.sum_cons]
  have h1:=h n (.head _)
  have h2:tot f go≤tot g go:=GD fun n hn=>h n (.tail _ hn)
  unfold tot at h2
  omega
theorem GF {f g:Nat→List Nat}:∀{go:List Nat},(∀n∈go,(f n).length≤(g n).length)→(∃n∈go,(f n).length < (g n).length)→tot f go < tot g go
 | [],_,⟨n,hn,_⟩=>nomatch hn
 | n::go,h,⟨m,hm,lt⟩=>by
  have h1:=h n (.head _)
  have le:tot f go≤tot g go:=GD fun n hn=>h n (.tail _ hn)
  unfold tot at le ⊢
  rw [List.map_cons,List.sum_cons,List.map_cons,List.sum_cons]
  rcases List.mem_cons.mp hm with rfl | hm
  ·omega
  ·have h2:tot f go < tot g go:=GF (fun n hn=>h n (.tail _ hn)) ⟨m,hm,lt⟩
   unfold tot at h2
   omega
theorem qZ {f:Nat→List Nat} {p:Nat→Bool}:∀go:List Nat,tot f (go.filter p)≤tot f go
 | []=>Nat.le_refl _
 | n::go=>by
  have h:=qZ (f:=f) (p:=p) go
  rw [List.filter_cons]
  unfold tot at h ⊢
  split
  ·rw [List.map_cons,List.sum_cons,List.map_cons,List.sum_cons]
   omega
  ·rw [List.map_cons,List.sum_cons]
   omega
theorem kJ.less (R:∀d∈ds,d.Ok hs.length) (Tb:TabOk kvs ds.length) (O:kJ hs ds kvs gs sss go rt) (h:∃n∈go,cD sss n≤T):tot (rtT ds kvs gs T go sss rt) (goT gs go (dq hs ds kvs gs T go sss)) < tot rt go:=by
 have hlt:=(O.goes Tb).2
 refine Nat.lt_of_le_of_lt (qZ go) (GF (fun n hn=>?_) ?_)
 ·unfold rtT
  split
  ·rw [List.length_tail];omega
  ·exact Nat.le_refl _
 ·obtain ⟨n,hn,hd⟩:=h
  have hl:=hlt n hn
  have q:qOf (cD sss) (rdN kvs gs sss) T go (rdN kvs gs sss n)≠[]:=List.ne_nil_of_mem (a:=(cD sss n,n)) (by
   unfold qOf
   refine List.mem_map.mpr ⟨n,List.mem_filter.mpr ⟨hn,?_⟩,rfl⟩
   rw [decide_eq_true hd,decide_eq_true rfl]
   rfl)
  have m1:1≤rRm ds (rdN kvs gs sss n):=by
   unfold rRm
   rw [show ds.getD (rdN kvs gs sss n) rd0=ds[rdN kvs gs sss n] by rw [List.getD,List.getElem?_eq_getElem hl];rfl]
   have:=(R _ (List.getElem_mem hl)).m.1
   omega
  obtain ⟨i,hi⟩:=List.exists_mem_of_ne_nil _ (Gz m1 q)
  have bm:=lz hi
  have z:fL ds kvs gs T go sss i=true:=by
   unfold fL o5
   rw [bm.2.2]
   exact decide_eq_true hi
  refine ⟨i,bm.1,?_⟩
  unfold rtT
  rw [if_pos z,List.length_tail]
  have:=List.length_pos_iff.mpr (O.on i bm.1)
  omega
theorem q9 (h:go≠[]):∃n∈go,cD sss n≤nextT T go sss:=by
 have h1:=(yR (ns:=go.map (cD sss)) (by simpa using h)).1
 obtain ⟨n,hn,e⟩:=List.mem_map.mp h1
 refine ⟨n,hn,?_⟩
 unfold nextT
 rw [e]
 exact Int.le_max_right _ _
end
open PySem L2 L3 M1
section
variable {hs:List (List Nat)} {ds:List M1.Rd} {kvs:DTs} {gs:List Str} {sss:List (List Step)} {go:List Nat} {rt:Nat→List Nat} {T:Int}
theorem cL.uniq {g h:Str}:∀{a b:List Nat},cL kvs hs ds g h a→cL kvs hs ds g h b→a=b
 | [],_,ra,rb=>by
  cases ra
  cases rb with
  | home=>rfl
  | on ne _ _ _=>exact absurd rfl ne
 | k::a,b,ra,rb=>by
  obtain ⟨k1,t1,e1,n1,w1,_,r1⟩:=ra.way (by simp)
  cases e1
  cases rb with
  | home=>exact absurd rfl n1
  | on _ w2 _ r2=>
   rw [w1] at w2
   cases w2
   rw [r1.uniq r2]
noncomputable def gone (P:List (Kt × List Nat)) (n:Nat):List Nat:=(P.filter fun b=>decide (n∈b.2)).map fun b=>b.1.2
theorem Ck (hlt:∀k∈go,rdN kvs gs sss k < ds.length) (n:Nat):gone (jq ds kvs gs T go sss) n=if fL ds kvs gs T go sss n=true then [rdN kvs gs sss n] else []:=by
 unfold gone jq
 rw [pM hlt n]
 show List.map _ (if fL ds kvs gs T go sss n=true then _ else _)=_
 cases fL ds kvs gs T go sss n <;> rfl
theorem GJ (P P':List (Kt × List Nat)) (n:Nat):gone (P++P') n=gone P n++gone P' n:=by
 unfold gone
 rw [List.filter_append,List.map_append]
theorem rm (R:∀d∈ds,d.Ok hs.length) (Tb:TabOk kvs ds.length):∀(m:Nat) (T:Int) (go:List Nat) (sss:List (List Step)) (rt:Nat→List Nat),kJ hs ds kvs gs sss go rt→tot rt go≤m→∀n,gone (oU hs ds kvs gs m T go sss) n=if n∈go then rt n else []
 | 0,T,go,sss,rt,O,ht,n=>by
  have hg:go=[]:=by
   cases go with
   | nil=>rfl
   | cons k go=>
    have:=List.length_pos_iff.mpr (O.on k (.head _))
    unfold tot at ht
    rw [List.map_cons,List.sum_cons] at ht
    omega
  rw [hg,if_neg List.not_mem_nil]
  rfl
 | m+1,T,go,sss,rt,O,ht,n=>by
  unfold oU
  by_cases hg:go=[]
  ·rw [if_pos hg,hg,if_neg List.not_mem_nil]
   rfl
  ·rw [if_neg hg,GJ]
   have hlt:=(O.goes Tb).2
   obtain ⟨T',eT'⟩:∃T',T'=nextT T go sss:=⟨_,rfl⟩
   have less:=O.less (T:=T') R Tb (by rw [eT'];exact q9 hg)
   rw [←eT',Ck hlt n,rm R Tb m T' _ _ _ (O.step R Tb) (by omega) n]
   by_cases hn:n∈go
   ·rw [if_pos hn]
    have ln:n < sss.length:=by rw [O.len];exact O.lt n hn
    obtain ⟨k,tk',e1,ne,e2,e3,e4⟩:=(O.way n hn).way (O.on n hn)
    have er:rdN kvs gs sss n=k:=by unfold rdN;rw [e2];rfl
    have inn:n∈goT gs go (dq hs ds kvs gs T' go sss)↔(lastAt (dq hs ds kvs gs T' go sss) n).house≠gN gs n:=by
     unfold goT
     rw [List.mem_filter,decide_eq_true_iff]
     exact ⟨fun z=>z.2,fun z=>⟨hn,z⟩⟩
    rw [lA hlt ln] at inn
    by_cases z:fL ds kvs gs T' go sss n=true
    ·rw [if_pos z]
     rw [if_pos z] at inn
     have inn:n∈goT gs go (dq hs ds kvs gs T' go sss)↔j7 hs ds (rdN kvs gs sss n)≠gN gs n:=inn
     rw [er,u6 e3] at inn
     rw [er,e1]
     show [k]++_=[k]++tk'
     congr 1
     by_cases y:cF hs ds k=gN gs n
     ·rw [if_neg fun w=>(inn.mp w) y]
      rw [y] at e4
      exact (e4.uniq .home).symm
     ·rw [if_pos (inn.mpr y)]
      unfold rtT
      rw [if_pos z,e1]
      rfl
    ·rw [if_neg z]
     rw [if_neg z] at inn
     rw [if_pos (inn.mpr ne),List.nil_append]
     unfold rtT
     rw [if_neg z]
   ·rw [if_neg hn,if_neg (show ¬n∈goT gs go (dq hs ds kvs gs T' go sss) from fun w=>hn (List.mem_filter.mp w).1),if_neg fun z=>hn (pN z).1]
    rfl
end
open PySem L2 L3 M1
noncomputable def dj (P:List (Kt × List Nat)) (n r:Nat) (d:Int):Prop:=∃b∈P,b.1=(d,r)∧n∈b.2
theorem dj.app_l {P P':List (Kt × List Nat)} {n r:Nat} {d:Int} (h:dj P n r d):dj (P++P') n r d:=let ⟨b,hb,e⟩:=h;⟨b,List.mem_append.mpr (.inl hb),e⟩
theorem dj.app_r {P P':List (Kt × List Nat)} {n r:Nat} {d:Int} (h:dj P' n r d):dj (P++P') n r d:=let ⟨b,hb,e⟩:=h;⟨b,List.mem_append.mpr (.inr hb),e⟩
structure jd (ds:List M1.Rd) (P:List (Kt × List Nat)) (k:Nat) (τ:Int):Prop where
 bag:∃b∈P,b.1=(τ,k)∧b.2≠[]∧(b.2.length:Int)=rRm ds k
theorem jd.app_l {ds:List M1.Rd} {P P':List (Kt × List Nat)} {k:Nat} {τ:Int} (h:jd ds P k τ):jd ds (P++P') k τ:=let ⟨b,hb,e⟩:=h.bag;⟨⟨b,List.mem_append.mpr (.inl hb),e⟩⟩
theorem jd.app_r {ds:List M1.Rd} {P P':List (Kt × List Nat)} {k:Nat} {τ:Int} (h:jd ds P' k τ):jd ds (P++P') k τ:=let ⟨b,hb,e⟩:=h.bag;⟨⟨b,List.mem_append.mpr (.inr hb),e⟩⟩
inductive Goes (kvs:DTs) (hs:List (List Nat)) (ds:List M1.Rd) (P:List (Kt × List Nat)) (n:Nat) (g:Str) (T:Int):Str→Int→List Nat→Prop
 | home {due:Int}:Goes kvs hs ds P n g T g due []
 | on {h:Str} {due d:Int} {k:Nat} {tk:List Nat}:h≠g→dw kvs h g=some k→k < ds.length→dj P n k d→due≤d→T < d→(∀τ,due≤τ→τ < d→T < τ→jd ds P k τ)→Goes kvs hs ds P n g T (cF hs ds k) (d+rTn ds k) tk→Goes kvs hs ds P n g T h due (k::tk)
section
variable {hs:List (List Nat)} {ds:List M1.Rd} {kvs:DTs} {gs:List Str} {sss:List (List Step)} {go:List Nat} {rt:Nat→List Nat} {T:Int}
theorem Goes.inv {P:List (Kt × List Nat)} {n:Nat} {g h:Str} {T due:Int} {l:List Nat} {k:Nat} {tk:List Nat} (gg:Goes kvs hs ds P n g T h due l) (e:l=k::tk:=by rfl):∃d,h≠g∧dw kvs h g=some k∧k < ds.length∧dj P n k d∧due≤d∧T < d∧(∀τ,due≤τ→τ < d→T < τ→jd ds P k τ)∧Goes kvs hs ds P n g T (cF hs ds k) (d+rTn ds k) tk:=by
 cases gg with
 | home=>cases e
 | on a b c l e1 f q r=>cases e;exact ⟨_,a,b,c,l,e1,f,q,r⟩
theorem Aj {rt:Nat→List Nat} {n:Nat}:∀{go:List Nat},n∈go→(rt n).length≤tot rt go
 | [],h=>nomatch h
 | k::go,h=>by
  unfold tot
  rw [List.map_cons,List.sum_cons]
  rcases List.mem_cons.mp h with rfl | h
  ·omega
  ·have:(rt n).length≤tot rt go:=Aj h
   unfold tot at this
   omega
theorem Goes.more {P P':List (Kt × List Nat)} {n:Nat} {g:Str} {T T':Int} (hT:T≤T'):∀{tk:List Nat} {h:Str} {due:Int},Goes kvs hs ds P' n g T' h due tk→T' < due→(∀k∈tk,1≤rTn ds k)→Goes kvs hs ds (P++P') n g T h due tk
 | [],h,due,gg,_,_=>by
  cases gg
  exact .home
 | k::tk,h,due,gg,hd,ht=>by
  obtain ⟨d,a,b,c,l,e,f,q,r⟩:=gg.inv
  refine .on a b c l.app_r e (by omega) (fun τ t1 t2 _=>(q τ t1 t2 (by omega)).app_r) (Goes.more hT r ?_ fun k hk=>ht k (.tail _ hk))
  have:=ht k (.head _)
  omega
theorem cL.roads {g:Str} {p:Nat→Prop} (hp:∀k,k < ds.length→p k):∀{tk:List Nat} {h:Str},cL kvs hs ds g h tk→∀k∈tk,p k
 | [],_,_,k,hk=>nomatch hk
 | j::tk,_,.on _ _ c r,k,hk=>by
  rcases List.mem_cons.mp hk with rfl | hk
  ·exact hp k c
  ·exact r.roads hp k hk
theorem Cm {ds:List M1.Rd} {due:Nat→Int} {rd:Nat→Nat} {T:Int} {go:List Nat} (nd:go.Nodup) (hm:∀k∈go,1≤rRm ds (rd k)) {n:Nat} (hn:n∈go) (hd:due n≤T) (hs:¬o5 ds due rd T go n=true):((dW ds due rd T go (rd n)).2.length:Int)=rRm ds (rd n):=by
 have m1:=hm n hn
 have hq:(due n,n)∈qOf due rd T go (rd n):=by
  unfold qOf
  refine List.mem_map.mpr ⟨n,List.mem_filter.mpr ⟨hn,?_⟩,rfl⟩
  rw [decide_eq_true hd,decide_eq_true rfl]
  rfl
 have hp:=(gB _).mem_iff.mpr hq
 have no:(due n,n)∉(dz (qOf due rd T go (rd n))).take (rRm ds (rd n)).toNat:=fun z=>hs (by
  unfold o5 dW Cg
  exact decide_eq_true ((eQ _).mem_iff.mpr (List.mem_map.mpr ⟨_,z,rfl⟩)))
 unfold dW Cg
 rw [(eQ _).length_eq,List.length_map,List.length_take]
 have:(rRm ds (rd n)).toNat≤(dz (qOf due rd T go (rd n))).length:=by
  by_cases z:(rRm ds (rd n)).toNat≤(dz (qOf due rd T go (rd n))).length
  ·exact z
  ·rw [List.take_of_length_le (by omega)] at no
   exact absurd hp no
 omega
theorem GK {T τ:Int} {go:List Nat} {sss:List (List Step)} (h1:T < τ) (h2:τ < nextT T go sss) {n:Nat} (hn:n∈go):τ < cD sss n:=by
 have h3:=(yR (ns:=go.map (cD sss)) (by intro z;rw [List.map_eq_nil_iff] at z;rw [z] at hn;exact absurd hn List.not_mem_nil)).2 (cD sss n) (List.mem_map.mpr ⟨n,hn,rfl⟩)
 unfold nextT at h2
 omega
theorem rn (R:∀d∈ds,d.Ok hs.length) (Tb:TabOk kvs ds.length):∀(m:Nat) (T:Int) (go:List Nat) (sss:List (List Step)) (rt:Nat→List Nat),kJ hs ds kvs gs sss go rt→tot rt go≤m→∀n∈go,Goes kvs hs ds (oU hs ds kvs gs m T go sss) n (gN gs n) T (lastAt sss n).house (cD sss n) (rt n)
 | 0,T,go,sss,rt,O,ht,n,hn=>by
  exfalso
  have h1:=List.length_pos_iff.mpr (O.on n hn)
  have h2:(rt n).length≤tot rt go:=Aj hn
  omega
 | m+1,T,go,sss,rt,O,ht,n,hn=>by
  have hg:go≠[]:=fun z=>by rw [z] at hn;exact absurd hn List.not_mem_nil
  have hlt:=(O.goes Tb).2
  have tn1:∀k,k < ds.length→1≤rTn ds k∧1≤rRm ds k:=fun k hk=>by
   unfold rTn rRm
   rw [show ds.getD k rd0=ds[k] by rw [List.getD,List.getElem?_eq_getElem hk];rfl]
   exact ⟨(R _ (List.getElem_mem hk)).t.1,(R _ (List.getElem_mem hk)).m.1⟩
  unfold oU
  rw [if_neg hg]
  obtain ⟨T',eT'⟩:∃T',T'=nextT T go sss:=⟨_,rfl⟩
  have TT:T < T':=by rw [eT'];unfold nextT;omega
  have less:=O.less (T:=T') R Tb (by rw [eT'];exact q9 hg)
  have O':=O.step (T:=T') R Tb
  rw [←eT']
  have ih:=rn R Tb m T' _ _ _ O' (by omega) n
  obtain ⟨k,tk',e1,ne,e2,e3,e4⟩:=(O.way n hn).way (O.on n hn)
  have er:rdN kvs gs sss n=k:=by unfold rdN;rw [e2];rfl
  have ln:n < sss.length:=by rw [O.len];exact O.lt n hn
  have inn:n∈goT gs go (dq hs ds kvs gs T' go sss)↔(lastAt (dq hs ds kvs gs T' go sss) n).house≠gN gs n:=by
   unfold goT
   rw [List.mem_filter,decide_eq_true_iff]
   exact ⟨fun z=>z.2,fun z=>⟨hn,z⟩⟩
  have la:=lA (hs:=hs) (T:=T') hlt ln
  have gap:∀τ,cD sss n≤τ→τ < T'→T < τ→False:=fun τ a b c=>by
   rw [eT'] at b
   have:=GK c b hn
   omega
  by_cases z:fL ds kvs gs T' go sss n=true
  ·rw [if_pos z] at la
   have hb:dj (jq ds kvs gs T' go sss) n k T':=by
    have hm:=of_decide_eq_true z
    rw [er] at hm
    refine ⟨dW ds (cD sss) (rdN kvs gs sss) T' go k,?_,rfl,hm⟩
    have bo:=pM (T:=T') (due:=cD sss) hlt n
    rw [if_pos (show o5 ds (cD sss) (rdN kvs gs sss) T' go n=true from z),er] at bo
    have:dW ds (cD sss) (rdN kvs gs sss) T' go k∈(o4 ds (cD sss) (rdN kvs gs sss) T' go).filter fun b=>decide (n∈b.2):=by rw [bo];exact .head _
    exact (List.mem_filter.mp this).1
   have rt':rtT ds kvs gs T' go sss rt n=tk':=by unfold rtT;rw [if_pos z,e1];rfl
   have hd':cD (dq hs ds kvs gs T' go sss) n=T'+rTn ds k:=by
    unfold cD
    rw [la]
    show T'+rTn ds (rdN kvs gs sss n)=_
    rw [er]
   have hh':(lastAt (dq hs ds kvs gs T' go sss) n).house=cF hs ds k:=by
    rw [la]
    show j7 hs ds (rdN kvs gs sss n)=_
    rw [er,u6 e3]
   rw [e1]
   refine .on ne e2 e3 hb.app_l (pN z).2 TT (fun τ a b c=>(gap τ a b c).elim) ?_
   by_cases y:cF hs ds k=gN gs n
   ·rw [y] at e4 ⊢
    rw [e4.uniq .home]
    exact .home
   ·have g2:=ih (inn.mpr (by rw [hh'];exact y))
    rw [rt',hd',hh'] at g2
    have rts:∀j∈tk',1≤rTn ds j:=e4.roads fun j hj=>(tn1 j hj).1
    exact g2.more (Int.le_of_lt TT) (by have:=(tn1 k e3).1;omega) rts
  ·rw [if_neg z] at la
   have rt':rtT ds kvs gs T' go sss rt n=rt n:=by unfold rtT;rw [if_neg z]
   have hd':cD (dq hs ds kvs gs T' go sss) n=cD sss n:=by unfold cD;rw [la]
   have g2:=ih (inn.mpr (by rw [la];exact ne))
   rw [rt',hd',la,e1] at g2
   rw [e1]
   obtain ⟨d,a,b,c,l,e,f,q,r⟩:=g2.inv
   ·refine .on a b c l.app_r e (by omega) (fun τ t1 t2 t3=>?_) (r.more (Int.le_of_lt TT) (by have:=(tn1 k e3).1;omega) (e4.roads fun j hj=>(tn1 j hj).1))
    by_cases y:T' < τ
    ·exact (q τ t1 t2 y).app_r
    ·by_cases w:τ < T'
     ·exact (gap τ t1 w t3).elim
     ·have:τ=T':=by omega
      subst this
      have fl:=Cm O.nd (fun j hj=>(tn1 _ (hlt j hj)).2) hn t1 z
      rw [er] at fl
      have hq:qOf (cD sss) (rdN kvs gs sss) τ go k≠[]:=List.ne_nil_of_mem (a:=(cD sss n,n)) (by
       unfold qOf
       refine List.mem_map.mpr ⟨n,List.mem_filter.mpr ⟨hn,?_⟩,rfl⟩
       rw [decide_eq_true t1,decide_eq_true er]
       rfl)
      refine jd.app_l ⟨dW ds (cD sss) (rdN kvs gs sss) τ go k,?_,rfl,Gz (tn1 k e3).2 hq,fl⟩
      unfold jq o4
      refine List.mem_map.mpr ⟨k,?_,rfl⟩
      unfold gk
      refine List.mem_filter.mpr ⟨List.mem_range.mpr e3,?_⟩
      cases h:qOf (cD sss) (rdN kvs gs sss) τ go k with
      | nil=>exact absurd h hq
      | cons _ _=>rfl
end
open PySem L2 L3 M1
noncomputable def d00:Str × Int × Str:=(Str.empty,0,Str.empty)
noncomputable def cj (hs:List (List Nat)) (ds:List M1.Rd) (kvs:DTs) (lds:List (Str × Int × Str)):List Nat:=(List.range lds.length).filter fun i=>kI kvs hs ds (lds.getD i d00)
noncomputable def rA (hs:List (List Nat)) (ds:List M1.Rd) (kvs:DTs) (lds:List (Str × Int × Str)):List (Kt × List Nat):=oU hs ds kvs (lds.map fun d=>d.2.2) 1300 (-1) (cj hs ds kvs lds) (lds.map eG)
theorem MJ {K:PySem.W.Frag} {wi:TI} {a:Addr} {xs:List L2.V} {cs:List (Option Nat)} {σ rest:L2.St} {tt:TT} {te:TE} {Q:VK} {H H1:Hp} (hw:∀R:It→Hp→Prop,R (Ite K a) H1→wi σ H R) (hcs:fQ cs σ=none::none::rest) (ha:SqL K H1 a xs) (hl:xs.length < sizeLine) (p:Nat→Bool) (f:Nat→L2.V)
  (test:∀(i:Nat) (x:L2.V) (H2:Hp) (R:Bool→Hp→Prop),xs[i]?=some x→aB H1 H2→(∀H5,aB H2 H5→R (p i) H5)→tt (some (.int i)::some x::rest) H2 R)
  (elt:∀(i:Nat) (x:L2.V) (H2:Hp) (R:VK),xs[i]?=some x→p i=true→aB H1 H2→(∀H5,aB H2 H5→R (f i) H5)→te (some (.int i)::some x::rest) H2 R)
  (fin:∀(D:Addr) (H':Hp),H1 D=none→H' D=some (.lst (((List.range xs.length).filter p).map f))→aB H1 H'→Q (.ref D) H'):
  tLC wi cs (Aq K 2 (lE (cJ 0) (lE (cJ 1) CT))) tt te σ H Q:=hw _ (zA hcs ha hl (fun i _=>p i) (fun i _=>f i) test elt fun D H' nD hD sm=>fin D H' nD (by
   have e:((xs.zipIdx.filter fun z=>p z.2).map fun z=>f z.2)=((List.range xs.length).filter p).map f:=by
    rw [List.range_eq_range',←List.zipIdx_map_snd,List.filter_map,List.map_map]
    rfl
   rw [←e]
   exact hD) sm)
theorem mq {H:Hp} {ls:List Addr} {sss:List (List Step)} (h:Paired (aZ H) ls sss):∀l∈ls,∃ts,H l=some (.lst (refs ts)):=fun l hl=>by
 obtain ⟨i,hi⟩:=List.getElem?_of_mem hl
 obtain ⟨ss,_,ts,h1,_⟩:=Paired.get h hi
 exact ⟨ts,h1⟩
theorem MK {C:Addr} {H:Hp} {x n g st:Addr} {gs:List Str} {ls:List Addr} {sss:List (List Step)} (W:jL C H x n g st gs ls) (e:Paired (aZ H) ls sss) (fr:∀l∈ls,l≠st∧l≠g):jL C (mask H ls) x n g st gs ls:=by
 obtain ⟨dx,hx⟩:=W.ins
 refine ⟨⟨dx,gR hx fun z=>?_⟩,gR W.goals fun z=>(fr g z).2 rfl,gR W.steps fun z=>(fr st z).1 rfl⟩
 obtain ⟨ts,h⟩:=mq e x z
 rw [hx] at h
 cases h
theorem nP {H:Hp} {ls:List Addr} {sss:List (List Step)} {a:Addr} {b:Kt × List Nat} (h:fU H a b) (e:Paired (aZ H) ls sss):fU (mask H ls) a b:=by
 obtain ⟨c,h1,h2⟩:=h
 refine ⟨c,gR h1 fun z=>?_,gR h2 fun z=>?_⟩
 ·obtain ⟨ts,h⟩:=mq e a z
  rw [h1] at h
  cases h
 ·obtain ⟨ts,h⟩:=mq e c z
  rw [h2] at h
  cases h
theorem Cp {H H':Hp} {ls:List Addr} (sm:aB H H') (fr:∀l∈ls,H l=none):aB H (mask H' ls):=fun b o e=>gR (sm _ _ e) fun z=>by rw [fr b z] at e;cases e
theorem GP {H:Hp} {ls:List Addr} {sss:List (List Step)} {p:Addr} {xs ys:List L2.V} (h:Paired (aZ H) ls sss) (hp:H p=some (.lst xs)) (np:p∉ls):Paired (aZ (upd H p (.lst ys))) ls sss:=by
 have all:∀{ls:List Addr} {sss:List (List Step)},Paired (aZ H) ls sss→p∉ls→Paired (aZ (upd H p (.lst ys))) ls sss:=fun {ls sss} q=>by
  induction q with
  | nil=>exact fun _=>.nil
  | cons r t ih=>
   intro nn
   obtain ⟨ts,h1,h2⟩:=r
   exact .cons ⟨ts,by rw [ak fun z=>nn (by rw [z];exact .head _)];exact h1,h2.upd hp (by intro d z;cases z)⟩ (ih fun z=>nn (.tail _ z))
 exact all h np
theorem jL.upd {C:Addr} {H:Hp} {x n g st:Addr} {gs:List Str} {ls:List Addr} {p:Addr} {xs ys:List L2.V} (W:jL C H x n g st gs ls) (hp:H p=some (.lst xs)) (h1:p≠g) (h2:p≠st):jL C (L2.upd H p (.lst ys)) x n g st gs ls:=by
 obtain ⟨dx,hx⟩:=W.ins
 exact ⟨⟨dx,by rw [ak fun z=>by rw [z,hp] at hx;cases hx];exact hx⟩,by rw [ak (Ne.symm h1)];exact W.goals,by rw [ak (Ne.symm h2)];exact W.steps⟩
structure rB (C:Addr) (H Hc:Hp) (x n g st gl pl:Addr) (gs:List Str) (ls as:List Addr) (sss:List (List Step)) (go:List Nat) (bs:List (Kt × List Nat)):Prop where
 sm:aB H Hc
 wb:jL C Hc x n g st gs ls
 each:Paired (aZ Hc) ls sss
 gol:Hc gl=some (.lst (dm go))
 ng:gl∉ls
 ngp:gl≠pl
 pla:Hc pl=some (.lst (refs as))
 bag:Paired (fU Hc) as bs
theorem rB.same {C:Addr} {H Hc Hd:Hp} {x n g st gl pl:Addr} {gs:List Str} {ls as:List Addr} {sss:List (List Step)} {go:List Nat} {bs:List (Kt × List Nat)} (h:rB C H Hc x n g st gl pl gs ls as sss go bs) (s:aB Hc Hd):rB C H Hd x n g st gl pl gs ls as sss go bs:=
 ⟨h.sm.trans s,h.wb.same s,tO h.each s,s _ _ h.gol,h.ng,h.ngp,s _ _ h.pla,Paired.mapP h.bag fun _ _ b=>b.same s⟩
theorem gf {α β:Type} {f:α→β} {l:List α} {i:Nat} {d:α} {e:β} (h:i < l.length):(l.map f).getD i e=f (l.getD i d):=by
 rw [List.getD,List.getElem?_map,lw (d:=d) h]
 rfl
theorem GQ {rt:Nat→List Nat}:∀go:List Nat,(∀n∈go,(rt n).length≤12)→tot rt go≤12 * go.length
 | [],_=>Nat.le_refl _
 | n::go,h=>by
  have h1:=GQ (rt:=rt) go fun n hn=>h n (.tail _ hn)
  have h2:=h n (.head _)
  unfold tot at h1 ⊢
  rw [List.map_cons,List.sum_cons,List.length_cons]
  omega
theorem oV {hs:List (List Nat)} {ds:List M1.Rd} {kvs:DTs} (R:∀d∈ds,d.Ok hs.length) (Tb:TabOk kvs ds.length) (few:hs.length≤12) {lds:List (Str × Int × Str)} (l100:lds.length≤100) (hld:∀d∈lds,d.1∈hs.map S∧d.2.2∈hs.map S∧d.1≠d.2.2):
  ∃rt,kJ hs ds kvs (lds.map fun d=>d.2.2) (lds.map eG) (cj hs ds kvs lds) rt∧tot rt (cj hs ds kvs lds)≤1300:=by
 have mem:∀n∈cj hs ds kvs lds,n < lds.length∧kI kvs hs ds (lds.getD n d00)=true:=fun n hn=>by
  obtain ⟨h1,h2⟩:=List.mem_filter.mp hn
  exact ⟨List.mem_range.mp h1,h2⟩
 have all:∀n,∃tk:List Nat,tk.length≤12∧(n∈cj hs ds kvs lds→cL kvs hs ds (lds.getD n d00).2.2 (lds.getD n d00).1 tk):=fun n=>by
  by_cases z:n∈cj hs ds kvs lds
  ·obtain ⟨h1,h2⟩:=mem n z
   obtain ⟨tk,h3,h4⟩:=u5 R Tb few (hld _ (getD_mem' h1)).1 h2
   exact ⟨tk,h4,fun _=>h3⟩
  ·exact ⟨[],Nat.zero_le _,fun y=>absurd y z⟩
 obtain ⟨rt,hrt⟩:∃rt:Nat→List Nat,∀n,(rt n).length≤12∧(n∈cj hs ds kvs lds→cL kvs hs ds (lds.getD n d00).2.2 (lds.getD n d00).1 (rt n)):=⟨fun n=>Classical.choose (all n),fun n=>Classical.choose_spec (all n)⟩
 have la:∀n,n < lds.length→lastAt (lds.map eG) n=⟨(lds.getD n d00).2.1,none,(lds.getD n d00).1,(lds.getD n d00).2.1⟩:=fun n hn=>by
  unfold lastAt
  rw [gf (d:=d00) hn]
  rfl
 have ga:∀n,n < lds.length→gN (lds.map fun d=>d.2.2) n=(lds.getD n d00).2.2:=fun n hn=>by
  unfold gN
  rw [gf (d:=d00) hn]
 refine ⟨rt,⟨by rw [List.length_map,List.length_map],fun n hn=>by rw [List.length_map];exact (mem n hn).1,(List.nodup_range).filter _,fun ss hss=>?_,fun n=>?_,fun n hn=>?_,fun n hn=>?_,fun n hn=>?_,fun n hn e=>?_⟩,?_⟩
 ·obtain ⟨d,_,rfl⟩:=List.mem_map.mp hss
  unfold eG
  simp
 ·have h:=(hrt n).1
  have:((lds.map eG).getD n []).length≤1:=by
   by_cases z:n < lds.length
   ·rw [gf (d:=d00) z]
    exact Nat.le_refl _
   ·rw [List.getD,List.getElem?_eq_none (by rw [List.length_map];omega)]
    exact Nat.zero_le _
  omega
 ·rw [la n (mem n hn).1]
  exact (hld _ (getD_mem' (mem n hn).1)).1
 ·rw [ga n (mem n hn).1]
  exact (hld _ (getD_mem' (mem n hn).1)).2.1
 ·rw [la n (mem n hn).1,ga n (mem n hn).1]
  exact (hrt n).2 hn
 ·have r:=(hrt n).2 hn
  exact (hld _ (getD_mem' (mem n hn).1)).2.2 (r.nil_eq e)
 ·have h1:=GQ (rt:=rt) (cj hs ds kvs lds) fun n _=>(hrt n).1
  have h2:(cj hs ds kvs lds).length≤lds.length:=by
   unfold cj
   exact Nat.le_trans (List.length_filter_le _ _) (by rw [List.length_range];exact Nat.le_refl _)
  omega
noncomputable def GR (C CW CN:Addr):Sp:=fun vs H Q _=>∃(n lp y t a' b':Addr) (hs:List (List Nat)) (rs lrs:List Addr) (ds:List M1.Rd) (kvs:DTs) (lds:List (Str × Int × Str)),vs=[.ref n,.ref lp,.ref y]∧H lp=some (.lst (refs lrs))∧cT H lrs (lds.map ltT)∧lrs.length≤60∧f9 CW CN H y n t a' b' (txs hs) (refs rs) kvs∧Good hs∧bI H hs rs ds∧TabOk kvs ds.length∧
 (∀d∈lds,d.1∈hs.map S∧d.2.2∈hs.map S∧d.1≠d.2.2)∧∀(l:Addr) (H':Hp) (as:List Addr),H l=none→aB H H'→H' l=some (.lst (refs as))→Paired (fU H') as (rA hs ds kvs lds)→Q (.ref l) H'
section
variable {P:Program} {w:World} {K:PySem.W.Frag} {mg:Str→Option Value} {base:Heap}
noncomputable abbrev GX:Stmt:=top 18
noncomputable abbrev Qq:List Str:=["net","letters","ways","walk","going","plan","turn","bag"]
theorem o7:aH Qq ["net","letters","ways"] (aC GX):=⟨rfl,rfl,rfl,by decide+kernel,rfl,by decide+kernel,by decide+kernel⟩
theorem MN {C CW CN f fi f1 f2 f3 f4 f5:Addr} {fd fdi fd1 fd2 fd3 fd4 fd5:FuncData} (F:Fun K "run" "run" GX f fd) (B:Blt mg) (WC:lJ K C) (u9:mg "Walk"=some (.ref C))
  (pO:Mk K C fi) (kO:Inn K C "Walk.__init__" Ff ["self","net","letters"] fi fdi) (xm:aD P w K mg base CX0 2 fi fdi ["self","net","letters"] (Fe C))
  (gD:Dn K mg "has_route" sHR ["letter","ways"] f1 fd1) (xn:aD P w K mg base CX0 4 f1 fd1 ["letter","ways"] (MF CW CN))
  (aR:Mn K C "last_turn" "Walk.last_turn" lX ["self","number"] f2 fd2) (cH:aD P w K mg base CX0 1 f2 fd2 ["self","number"] (nu C))
  (jr:Dn K mg "bags_at" sBa ["net","walk","going","ways","turn"] f3 fd3) (Cq:aD P w K mg base CX0 5 f3 fd3 ["net","walk","going","ways","turn"] (JF K C CW CN))
  (iT:Mn K C "send" "Walk.send" wL ["self","bag"] f4 fd4) (xq:aD P w K mg base CX0 2 f4 fd4 ["self","bag"] (yL C CN))
  (dH:Mn K C "home_turn" "Walk.home_turn" qC ["self","number"] f5 fd5) (oW:aD P w K mg base CX0 2 f5 fd5 ["self","number"] (uI C)):
  aD P w K mg base CX0 6 f fd ["net","letters","ways"] (GR C CW CN):=by
 have di:=WC.cl
 refine F.ok o7 (fun vs H Q E h=>?_) (fun cdv A outer s H vs Q E hr h=>?_)
 ·obtain ⟨n,lp,y,t,a',b',hs,rs,lrs,ds,kvs,lds,rfl,_⟩:=h
  rfl
 ·obtain ⟨n,lp,y,t,a',b',hs,rs,lrs,ds,kvs,lds,rfl,hlp,tpl,few,Wy,G,R,Tb,hld,q⟩:=h
  refine ⟨_,(ao (aL (i:=3) o7.nd rfl (Or.inr rfl) (uh pO xm (hr.mono (by decide)) (by rfl) u9 kO.bd .nil bh (aa (pv 0) (aa (pv 1) aq))))
   (ao (gr (i:=4) o7.nd rfl rfl rfl (N':=["number","letter","ways"]) (cs:=[none,none,some 2]) rfl (zz rfl B.enumerate (aa (pv 1) aq)) rfl (by decide+kernel) rfl (by decide+kernel) (cY (List.forall_mem_cons.mpr ⟨rfl,(fun p hp=>absurd hp (List.not_mem_nil))⟩)) rfl
    (.own (.own (.cap rfl (.inl rfl) (.inl rfl) rfl .nil)))
    (fun C s3 H3 fp pn=>⟨(mY (K:=K) (n:=2) rfl rfl (bQ (aJ (i:=0) (by show (["number","letter","ways"]:List Str).Nodup;decide+kernel) rfl (.inl rfl)) (bQ (aJ (i:=1) (by show (["number","letter","ways"]:List Str).Nodup;decide+kernel) rfl (.inl rfl)) jz))),(kW (iU (bc xn (hr.mono (by decide)) (by rfl) gD.at_ gD.fn.kp gD.bd .nil bh (aa (pv 1) (aa (pv 2) aq))))),(pv 0)⟩))
   (ao (aL (i:=5) o7.nd rfl (Or.inl rfl) (iW aq))
   (ao (aL (i:=6) o7.nd rfl (Or.inl rfl) (vH pU au))
   (ao (pR PassesOwn.never (Df (pv 4) (fun _=>rfl))
    (ao (aL (i:=6) o7.nd rfl (Or.inl rfl) (aV (Aw rfl) (by rfl) B.max J3 (aa (aM cu (pv 6) au) (aa (aV (tR rfl) (by rfl) B.min J2 (aa (mR (N':=["number","walk"]) (cs:=[none,some 3]) rfl (bC (pv 4)) rfl (by decide+kernel) rfl (by decide+kernel) (cY (List.forall_mem_cons.mpr ⟨rfl,(fun p hp=>absurd hp (List.not_mem_nil))⟩)) rfl
    (.own (.cap rfl (.inl rfl) (.inl rfl) rfl .nil))
    (fun C s3 H3 fp pn=>⟨(aJ (i:=0) (by show (["number","walk"]:List Str).Nodup;decide+kernel) rfl (.inl rfl)),d7,(bL (pv 1) di aR.me cH (hr.mono (by decide)) aR.bd .nil bh (aa (pv 0) aq))⟩)) aq)) aq))))
   (ao (dI PassesOwn.never rfl (bC (bc Cq (hr.mono (by decide)) (by rfl) jr.at_ jr.fn.kp jr.bd .nil bh (aa (pv 0) (aa (pv 3) (aa (pv 4) (aa (pv 2) (aa (pv 6) aq))))))) (aJ (i:=7) o7.nd rfl (Or.inl rfl))
    (ao (cg (bL (pv 3) di iT.me xq (hr.mono (by decide)) iT.bd .nil bh (aa (pv 7) aq)))
   (az (cg (lG PySem.F.plainAttrs_list PySem.F.slot_list_append PySem.F.type_list_append cG (pv 5) (aa (pv 7) aq))))))
   (az (gr (i:=4) o7.nd rfl rfl rfl (N':=["number","walk"]) (cs:=[none,some 3]) rfl (bC (pv 4)) rfl (by decide+kernel) rfl (by decide+kernel) (cY (List.forall_mem_cons.mpr ⟨rfl,(fun p hp=>absurd hp (List.not_mem_nil))⟩)) rfl
    (.own (.cap rfl (.inl rfl) (.inl rfl) rfl .nil))
    (fun C s3 H3 fp pn=>⟨(aJ (i:=0) (by show (["number","walk"]:List Str).Nodup;decide+kernel) rfl (.inl rfl)),(kW (bK xT (bL (pv 1) di dH.me oW (hr.mono (by decide)) dH.bd .nil bh (aa (pv 0) aq)) jw (bG _))),(pv 0)⟩))))))
   (az (aU (pv 5)))))))),?_⟩
  have ldl:lrs.length=lds.length:=by have:=tpl.len;rwa [List.length_map] at this
  obtain ⟨gs,egs⟩:∃gs,gs=lds.map fun d=>d.2.2:=⟨_,rfl⟩
  have gsl:gs.length=lds.length:=by rw [egs,List.length_map]
  have lrl:=aN lrs
  refine ⟨_,rfl,_,rfl,fun x dx nx ndx nd=>?_⟩
  have mk:∀{b:Addr} {v:HO},H b=some v→upd (upd H dx (.own x)) x (.ins C dx []) b=some v:=fun {b v} e=>by
   rw [ak (aA e nx),ak (aA e ndx)]
   exact e
  refine ⟨x,dx,n,lp,lrs,lds,rfl,aj,mk hlp,tpl.same (fun b v e=>mk e),(by omega),fun H1 g st ls sb W ng0 nst0 ndl fr gst=>⟨rfl,?_⟩⟩
  have s1:aB H H1:=sX nx ndx sb
  have unmk:∀{b:Addr},upd (upd H dx (.own x)) x (.ins C dx []) b=none→H b=none:=fun {b} e=>by
   cases e2:H b with
   | none=>rfl
   | some v=>rw [mk e2] at e;cases e
  have frH:∀l∈ls,H l=none:=fun l hl=>unmk (fr l hl).1
  have frS:∀l∈ls,l≠st∧l≠g:=fun l hl=>(fr l hl).2
  rw [←egs] at W
  refine Ag ?_
  dsimp only
  refine pH ?_
  refine MJ (K:=K) (a:=lp) (H1:=H1) (xs:=refs lrs) (rest:=[some (.ref y)]) (fun R' h=>⟨_,rfl,lp,rfl,⟨_,SqL.of (s1 _ _ hlp)⟩,h⟩) rfl (SqL.of (s1 _ _ hlp)) (aG (by omega)) (fun i=>kI kvs hs ds (lds.getD i d00)) (fun i=>.int (i:Int)) (fun i v H2 R' ev s2 kk=>?_) (fun i v H2 R' ev _ s2 kk=>⟨_,rfl,kk H2 (aB.refl _)⟩) (fun gl0 H2 ngl0 hgl0 s2=>?_)
  ·unfold refs at ev
   rw [List.getElem?_map] at ev
   obtain ⟨r,er,rfl⟩:=Option.map_eq_some_iff.mp ev
   obtain ⟨d',ed',hd'⟩:=Paired.get tpl er
   rw [List.getElem?_map] at ed'
   obtain ⟨d,ed,rfl⟩:=Option.map_eq_some_iff.mp ed'
   have s12:=s1.trans s2
   have hh:=hld d (List.mem_of_getElem? ed)
   refine ⟨_,rfl,_,rfl,r,y,n,t,a',b',hs,rs,ds,kvs,d,rfl,s12 _ _ hd',Wy.same s12,G,R.same s12,Tb,hh.1,hh.2.1,fun H3 s3=>⟨_,rfl,?_⟩⟩
   have:=kk H3 s3
   rw [gO ed] at this
   exact this
  rw [lrl,ldl] at hgl0
  have hgl0:H2 gl0=some (.lst (dm (cj hs ds kvs lds))):=hgl0
  refine ⟨Nat.zero_le _,fun pl npl=>?_⟩
  have s3:=aF (o:=.lst []) npl
  have hpl3:upd H2 pl (.lst []) pl=some (.lst []):=aj
  have W2:=W.same s2
  have nplH:=jn (s1.trans s2) npl
  have npg:pl≠g:=Ne.symm (cP W2.goals npl)
  have npst:pl≠st:=Ne.symm (cP W2.steps npl)
  have npls:pl∉ls:=fun z=>by
   obtain ⟨ts,h⟩:=mq W2.each pl z
   rw [npl] at h
   cases h
  have ngls:gl0∉ls:=fun z=>by
   obtain ⟨ts,h⟩:=mq W.each gl0 z
   rw [ngl0] at h
   cases h
  have ngp0:gl0≠pl:=cP hgl0 npl
  have hgl3:=s3 _ _ hgl0
  have W3:=W2.same s3
  have s03:=(s1.trans s2).trans s3
  generalize upd H2 pl (.lst [])=H3 at s3 hpl3 hgl3 W3 s03 ⊢
  have Rd:=R.ok
  have few12:=G.few
  have O0:=oV (kvs:=kvs) Rd Tb few12 (show lds.length≤100 by omega) hld
  rw [←egs] at O0
  obtain ⟨rt0,O0,tot0⟩:=O0
  refine ⟨_,rfl,?_⟩
  refine Ag ?_
  dsimp only
  have a0:rB C H H3 x n g st gl0 pl gs ls [] (lds.map eG) (cj hs ds kvs lds) []:=⟨s03,⟨W3.ins,W3.goals,W3.steps⟩,W3.each,hgl3,ngls,ngp0,hpl3,.nil⟩
  obtain ⟨I,eI⟩:∃I:Nat→L2.St→Hp→Prop,I=fun m σ Hc=>∃(T:Int) (go:List Nat) (sss:List (List Step)) (rt:Nat→List Nat) (gl:Addr) (as:List Addr) (bs:List (Kt × List Nat)) (v7:Option L2.V),σ=[some (.ref n),some (.ref lp),some (.ref y),some (.ref x),some (.ref gl),some (.ref pl),some (.int T),v7]∧rB C H Hc x n g st gl pl gs ls as sss go bs∧kJ hs ds kvs gs sss go rt∧tot rt go≤m∧bs++oU hs ds kvs gs m T go sss=rA hs ds kvs lds∧as.length≤(1300 - m) * 100∧m≤1300:=⟨_,rfl⟩
  refine ⟨I,⟨1300,by rw [eI];exact ⟨-1,_,_,rt0,gl0,[],[],none,rfl,a0,O0,tot0,by rw [List.nil_append,egs];rfl,Nat.zero_le _,Nat.le_refl _⟩⟩,?_⟩
  intro m σ Hc hI
  rw [eI] at hI
  obtain ⟨T,go,sss,rt,gl,as,bs,v7,rfl,A0,O,totm,hrun,lenm,m13⟩:=hI
  have go100:go.length≤60:=by
   have:=bZ (L:=List.range gs.length) O.nd fun k hk=>List.mem_range.mpr (O.lt k hk)
   rw [List.length_range] at this
   omega
  obtain ⟨dxx,hxc⟩:=A0.wb.ins
  have ok:=(O.goes Tb).1
  have hlt:=(O.goes Tb).2
  refine ⟨_,rfl,!(dm go).isEmpty,.inl ⟨_,SqL.of A0.gol,rfl⟩,?_⟩
  by_cases hg:go=[]
  ·subst hg
   refine gw rfl ⟨_,rfl,q pl Hc as nplH A0.sm A0.pla ?_⟩
   have e0:oU hs ds kvs gs m T [] sss=[]:=by cases m <;> rfl
   rw [e0,List.append_nil] at hrun
   rw [←hrun]
   exact A0.bag
  obtain ⟨T',eT'⟩:∃T',T'=nextT T go sss:=⟨_,rfl⟩
  have less:=O.less (T:=T') Rd Tb (by rw [eT'];exact q9 hg)
  obtain ⟨m,rfl⟩:∃m',m=m'+1:=⟨m - 1,by omega⟩
  refine eY (by cases go with | nil=>exact absurd rfl hg | cons _ _=>rfl) ⟨I m,fun σ' H' h=>⟨m,by omega,h⟩,?_⟩
  have Wc:=A0.wb.at_ A0.each
  dsimp only [xO,vG,tCB,mG]
  refine ⟨_,rfl,_,_,rfl,rfl,?_⟩
  have lng:(dm go).length=go.length:=List.length_map _
  refine mZ (J:=Itl K gl) (H1:=Hc) (xs:=dm go) (rest:=[some (.ref x)]) (fun R' h=>⟨_,rfl,gl,rfl,⟨_,SqL.of A0.gol⟩,h⟩) rfl (dD (SqL.of A0.gol)) (aG (by omega)) (fun v=>match v with | .int k=>.int (cD sss k.toNat) | _=>.non) (fun i v H2 R' ev s2 kk=>?_) (fun D1 H4 nD1 hD1 s4=>?_)
  ·obtain ⟨k,hk,rfl⟩:=List.mem_map.mp (List.mem_of_getElem? ev)
   obtain ⟨ss,s1',y1,e1,e2,_⟩:=ok k hk
   refine ⟨_,rfl,x,dxx,_,rfl,s2 _ _ hxc,rfl,_,rfl,x,n,g,st,gs,ls,sss,k,ss,s1',rfl,Wc.same s2,e1,?_⟩
   rw [e2]
   have:=kk H2 (aB.refl _)
   rw [show (match V.int (k:Int) with | .int k=>V.int (cD sss k.toNat) | _=>.non)=V.int (cD sss k) by show V.int (cD sss (k:Int).toNat)=_;rw [Int.toNat_natCast]] at this
   exact this
  have eD1:(dm go).map (fun v=>match v with | .int k=>V.int (cD sss k.toNat) | _=>.non)=(go.map (cD sss)).map V.int:=by
   unfold dm
   rw [List.map_map,List.map_map]
   rfl
  rw [eD1] at hD1
  refine ⟨D1,go.map (cD sss),rfl,SqL.of hD1,by simpa using hg,_,_,rfl,?_⟩
  have eT:(if lL (go.map (cD sss)) > T+1 then lL (go.map (cD sss)) else T+1)=T':=by
   rw [eT']
   unfold nextT
   split <;> omega
  rw [eT]
  have A1:=A0.same s4
  refine Ag ?_
  refine ⟨_,rfl,_,rfl,_,rfl,_,rfl,_,rfl,x,n,g,st,gl,y,t,a',b',gs,ls,rs,sss,hs,ds,kvs,go,cD sss,rdN kvs gs sss,T',rfl,Wc.same s4,SqL.of A1.gol,Wy.same A1.sm,R.same A1.sm,G,go100,O.nd,ok,hlt,fun bl H5 as5 rl nbl s5 hbl bags5 up5 mem5=>⟨bl,rfl,⟨_,SqL.of hbl⟩,?_⟩⟩
  obtain rfl:=Gy hlt up5 mem5
  obtain ⟨Bs,eB⟩:∃Bs,Bs=jq ds kvs gs T' go sss:=⟨_,rfl⟩
  have bags5:Paired (fU H5) as5 Bs:=by rw [eB];exact bags5
  have A2:=A1.same s5
  have nbls:bl∉ls:=fun z=>by
   obtain ⟨ts,h⟩:=mq A1.each bl z
   rw [nbl] at h
   cases h
  have nblp:bl≠pl:=Ne.symm (cP A1.pla nbl)
  have las5:=Paired.length bags5
  have Bl:Bs.length≤100:=by
   rw [eB]
   unfold jq o4
   rw [List.length_map]
   have nd:(gk ds.length (cD sss) (rdN kvs gs sss) T' go).Nodup:=(List.pairwise_lt_range.filter _).imp fun h=>Nat.ne_of_lt h
   have:=bZ (L:=go.map (rdN kvs gs sss)) nd fun r hr=>by
    have h1:=(mem5 r).mp hr
    obtain ⟨c,hc⟩:=List.exists_mem_of_ne_nil _ h1
    unfold qOf at hc
    obtain ⟨k,hk,_⟩:=List.mem_map.mp hc
    obtain ⟨h3,h4⟩:=List.mem_filter.mp hk
    simp only [Bool.and_eq_true,decide_eq_true_eq] at h4
    exact List.mem_map.mpr ⟨k,h3,h4.2⟩
   rw [List.length_map] at this
   omega
  refine dJ (xs:=refs as5) (fun j σ Hd=>∃v7,σ=[some (.ref n),some (.ref lp),some (.ref y),some (.ref x),some (.ref gl),some (.ref pl),some (.int T'),v7]∧rB C H Hd x n g st gl pl gs ls (as++as5.take j) (gm hs ds (Bs.take j) sss) go (bs++Bs.take j)∧Hd bl=some (.lst (refs as5))∧Paired (fU Hd) as5 Bs)
   ⟨v7,rfl,by simpa [gm] using A2,hbl,bags5⟩ (fun j σ Hd _ ⟨_,_,_,h,_⟩=>SqL.of h) ?_ ?_
  ·rintro j z σ Hd ez ⟨v7,rfl,A3,hbld,bagsd⟩
   unfold refs at ez
   rw [List.getElem?_map] at ez
   obtain ⟨bg,ebg,rfl⟩:=Option.map_eq_some_iff.mp ez
   obtain ⟨b,eb,hb⟩:=Paired.get bagsd ebg
   have bmem:=List.mem_of_getElem? eb
   have bmem':=bmem
   rw [eB] at bmem'
   unfold jq o4 at bmem'
   obtain ⟨r,hr,rb⟩:=List.mem_map.mp bmem'
   have rl':r < ds.length:=by
    unfold gk at hr
    exact List.mem_range.mp (List.mem_filter.mp hr).1
   obtain ⟨dxx,hxd⟩:=A3.wb.ins
   have smask:=Cp A3.sm frH
   have Am:=MK A3.wb A3.each frS
   refine ⟨_,rfl,x,dxx,_,rfl,hxd,rfl,_,rfl,mask Hd ls,x,n,g,st,a',b',bg,gs,ls,rs,_,hs,ds,b,rfl,BK Hd ls,Am,A3.each,ndl,(fun l hl=>Jm hl),Wy.net.same smask,R.same smask,nP hb A3.each,?_,?_,?_,?_,fun H6 s6 each6=>?_⟩
   ·rw [←rb];exact rl'
   ·rw [←rb];exact Mz O.nd r
   ·intro i hi
    rw [←rb] at hi
    rw [nO,O.len]
    exact O.lt i (lz hi).1
   ·intro ss hss
    obtain ⟨i,hi⟩:=List.getElem?_of_mem hss
    rw [qX] at hi
    obtain ⟨ss0,e0,rfl⟩:=Option.map_eq_some_iff.mp hi
    have f:=O.few i
    rw [show sss.getD i []=ss0 by rw [List.getD,e0];rfl] at f
    have l1:((Bs.take j).filter fun b=>decide (i∈b.2)).length≤(Bs.filter fun b=>decide (i∈b.2)).length:=((List.take_sublist j Bs).filter _).length_le
    have l2:(Bs.filter fun b=>decide (i∈b.2)).length≤1:=by
     rw [eB]
     unfold jq
     rw [pM hlt i]
     split
     ·exact Nat.le_refl _
     ·exact Nat.zero_le _
    rw [List.length_append,List.length_map]
    omega
   have hpl6:=s6 _ _ (gR A3.pla npls)
   have lpa:=Paired.length A3.bag
   have tl1:(as++as5.take j).length≤200000:=by
    rw [List.length_append,List.length_take]
    omega
   refine ⟨_,rfl,.inl ⟨rfl,_,SqL.of hpl6⟩,_,rfl,pl,_,_,rfl,rfl,hpl6,(by rw [aN];exact Nat.lt_of_le_of_lt tl1 (by decide)),_,rfl,?_,?_,?_⟩
   ·have t1:as5.take (j+1)=as5.take j++[bg]:=by rw [List.take_add_one,ebg];rfl
    have t2:Bs.take (j+1)=Bs.take j++[b]:=by rw [List.take_add_one,eb];rfl
    rw [t1,t2,Cj,←List.append_assoc,←List.append_assoc]
    refine ⟨aY nplH (smask.trans s6),(Am.same s6).upd hpl6 npg npst,GP each6 hpl6 npls,?_,A3.ng,A3.ngp,by rw [aj,g8],?_⟩
    ·rw [ak A3.ngp]
     exact s6 _ _ (gR A3.gol A3.ng)
    ·exact Paired.snoc (((nP hb A3.each).same s6).upd hpl6) (Paired.mapP A3.bag fun a b h=>((nP h A3.each).same s6).upd hpl6)
   ·rw [ak nblp]
    exact s6 _ _ (gR hbld nbls)
   ·exact Paired.mapP bagsd fun a b h=>((nP h A3.each).same s6).upd hpl6
  ·rintro σ Hd ⟨v7,rfl,A3,hbld,bagsd⟩
   rw [aN,las5,List.take_length,show as5.take Bs.length=as5 by rw [←las5,List.take_length],eB] at A3
   have A3:rB C H Hd x n g st gl pl gs ls (as++as5) (dq hs ds kvs gs T' go sss) go (bs++jq ds kvs gs T' go sss):=A3
   have O':=O.step (T:=T') Rd Tb
   obtain ⟨dxx,hxd⟩:=A3.wb.ins
   have Wd:=A3.wb.at_ A3.each
   dsimp only
   refine La (J:=Itl K gl) (H1:=Hd) (xs:=dm go) (rest:=[some (.ref x)]) (fun R' h=>⟨_,rfl,gl,rfl,⟨_,SqL.of A3.gol⟩,h⟩) rfl (dD (SqL.of A3.gol)) (aG (by omega)) (fun v=>match v with | .int k=>decide ((lastAt (dq hs ds kvs gs T' go sss) k.toNat).house≠gN gs k.toNat) | _=>false) id (fun i v H2 R' ev s2 kk=>?_) (fun i v H2 R' ev _ s2 kk=>⟨_,rfl,kk H2 (aB.refl _)⟩) (fun gl2 H4 ngl2 hgl2 s4'=>?_)
   ·obtain ⟨k,hk,rfl⟩:=List.mem_map.mp (List.mem_of_getElem? ev)
    have lk:k < gs.length:=O.lt k hk
    have e1:(dq hs ds kvs gs T' go sss)[k]?=some ((dq hs ds kvs gs T' go sss).getD k []):=lw (by rw [O'.len];exact lk)
    obtain ⟨i0,ei⟩:=qW (O'.ne _ (List.mem_of_getElem? e1))
    refine ⟨_,rfl,x,dxx,_,rfl,s2 _ _ hxd,rfl,_,rfl,x,n,g,st,gs,ls,_,k,i0,lastAt (dq hs ds kvs gs T' go sss) k,gN gs k,rfl,Wd.same s2,?_,lw lk,rfl,_,rfl,?_⟩
    ·rw [e1]
     congr 1
    ·have e2:decide (zP (lastAt (dq hs ds kvs gs T' go sss) k) (gN gs k)=V.non)=decide ((lastAt (dq hs ds kvs gs T' go sss) k).house≠gN gs k):=by
      unfold zP
      by_cases z:(lastAt (dq hs ds kvs gs T' go sss) k).house=gN gs k
      ·rw [if_pos z]
       simp [z]
      ·rw [if_neg z]
       simp [z]
     rw [e2]
     have:=kk H2 (aB.refl _)
     rw [show (match V.int (k:Int) with | .int k=>decide ((lastAt (dq hs ds kvs gs T' go sss) k.toNat).house≠gN gs k.toNat) | _=>false)=decide ((lastAt (dq hs ds kvs gs T' go sss) k).house≠gN gs k) by show decide ((lastAt (dq hs ds kvs gs T' go sss) (k:Int).toNat).house≠gN gs (k:Int).toNat)=_;rw [Int.toNat_natCast]] at this
     exact this
   have eg:((dm go).filter fun v=>match v with | .int k=>decide ((lastAt (dq hs ds kvs gs T' go sss) k.toNat).house≠gN gs k.toNat) | _=>false).map id=dm (goT gs go (dq hs ds kvs gs T' go sss)):=by
    unfold dm goT
    rw [List.map_id,List.filter_map]
    rfl
   rw [eg] at hgl2
   rw [eI]
   have A4:=A3.same s4'
   refine ⟨T',_,_,_,gl2,as++as5,_,v7,rfl,⟨A4.sm,A4.wb,A4.each,hgl2,fun z=>?_,Ne.symm (cP A3.pla ngl2),A4.pla,A4.bag⟩,O',by omega,?_,?_,by omega⟩
   ·obtain ⟨ts,h⟩:=mq A3.each gl2 z
    rw [ngl2] at h
    cases h
   ·rw [←hrun,List.append_assoc]
    congr 1
    show _=(if go=[] then [] else _)
    rw [if_neg hg,←eT']
   ·rw [List.length_append]
    omega
end
open PySem L2 L3 M1
noncomputable def tn (lds:List (Str × Int × Str)) (n:Nat):Int:=(lds.getD n d00).2.1
noncomputable def pr (lds:List (Str × Int × Str)) (n:Nat):Int × Nat:=(tn lds n,n)
theorem xr {hs:List (List Nat)} {ds:List M1.Rd} (R:∀d∈ds,d.Ok hs.length):∀e∈eds hs ds,1≤e.t:=fun e he=>by
 obtain ⟨d,hd,rfl⟩:=List.mem_map.mp he
 exact (R d hd).t.1
theorem vd {hs:List (List Nat)} {ds:List M1.Rd} (R:∀d∈ds,d.Ok hs.length) {h g:Str} {v:Int} (hv:cZ hs ds h g=some v) (hn:h≠g):
  ∃(k:Nat) (d:M1.Rd) (u:Int),best hs ds h g=(k:Int)∧ds[k]?=some d∧S (hs.getD d.a [])=h∧cZ hs ds (S (hs.getD d.b [])) g=some u∧(d.t:Int)+u=v:=by
 obtain ⟨m,f⟩:=wQ (xr R) hv hn
 obtain ⟨i,hi⟩:=List.getElem?_of_mem (List.mem_map.mpr ⟨_,m,rfl⟩:V.int (best hs ds h g)∈(touch hs ds (·.a) h).map V.int)
 obtain ⟨k,d,e1,e2,e3⟩:=wV hi
 have e1':best hs ds h g=(k:Int):=V.int.inj e1
 rw [e1'] at f
 unfold wO begins toI at f
 rw [Int.toNat_natCast,gj e2] at f
 cases hu:cZ hs ds (S (hs.getD d.b [])) g with
 | none=>rw [hu] at f;cases f
 | some u=>
  rw [hu,hv] at f
  have:=of_decide_eq_true f
  exact ⟨k,d,u,e1',e2,e3,hu,Option.some.inj this⟩
theorem zG {κ:Type} [DecidableEq κ] {kvs:List (κ × L2.V)} {k:κ} {v:L2.V} (h:bD kvs k=some v):k∈kvs.map (·.1):=by
 obtain ⟨j,x,e⟩:=tV (show (bD kvs k).isSome=true by rw [h];rfl)
 exact List.mem_map.mpr ⟨_,List.mem_of_getElem? e,rfl⟩
theorem dU.get {hs:List (List Nat)} {ds:List M1.Rd} {kvs:DTs} (T:dU hs ds kvs) {k:List Key} {v:L2.V} (e:bD kvs k=some v):∃h g,k=pk h g∧h∈hs.map S∧g∈hs.map S∧h≠g∧(cZ hs ds h g).isSome=true∧v=.int (best hs ds h g):=by
 obtain ⟨h,g,rfl,mh,mg⟩:=T.bst.key k (zG e)
 by_cases m:h∈hs.map S∧h≠g∧(cZ hs ds h g).isSome=true
 ·have:=T.bst.yes h g m
  rw [e] at this
  exact ⟨h,g,rfl,mh,mg,m.2.1,m.2.2,Option.some.inj this⟩
 ·rw [T.bst.no h g m] at e
  cases e
theorem dU.ok {hs:List (List Nat)} {ds:List M1.Rd} {kvs:DTs} (T:dU hs ds kvs) (R:∀d∈ds,d.Ok hs.length):TabOk kvs ds.length:=⟨fun k v e=>by
 obtain ⟨h,g,rfl,mh,mg,ne,is,rfl⟩:=T.get e
 obtain ⟨u,hu⟩:=Option.isSome_iff_exists.mp is
 obtain ⟨i,d,_,e1,e2,_⟩:=vd R hu ne
 exact ⟨i,by rw [e1],(List.getElem?_eq_some_iff.mp e2).1⟩⟩
noncomputable def O1 (ds:List M1.Rd) (tk:List Nat):Int:=(tk.map fun k=>((ds.getD k d0).t:Int)).sum
theorem rC {hs:List (List Nat)} {ds:List M1.Rd} {kvs:DTs} (T:dU hs ds kvs) (R:∀d∈ds,d.Ok hs.length) (few:hs.length≤12) {g:Str}:∀(n:Nat) (c:Str) (sn:List Str) (tk:List Nat) (u:Int),n+sn.length=14→sn.Nodup→(∀y∈sn,y∈hs.map S)→c∈hs.map S→cZ hs ds c g=some u→
  (∀y∈sn,∃w,cZ hs ds y g=some w∧u≤w)→∃tk',j8 kvs hs ds g n c sn tk=.ok (tk++tk')∧O1 ds tk'=u∧(∀k∈tk',k < ds.length)∧tk'.length≤n
 | 0,c,sn,tk,u,hn,nd,sub,mc,hu,hw=>by
  have:=bZ nd sub
  rw [List.length_map] at this
  omega
 | n+1,c,sn,tk,u,hn,nd,sub,mc,hu,hw=>by
  unfold j8
  by_cases e:c=g
  ·rw [if_pos e]
   have h0:=(M4.fars (xr R) g).goal (xr R)
   rw [←e] at h0
   have h1:cZ hs ds c c=some 0:=h0
   rw [←e,h1] at hu
   exact ⟨[],by rw [List.append_nil],by cases hu;rfl,fun k hk=>(nomatch hk),Nat.zero_le _⟩
  ·rw [if_neg e]
   obtain ⟨k,d,u',e1,e2,e3,e4,e5⟩:=vd R hu e
   have hval:=T.bst.yes c g ⟨mc,e,by rw [hu];rfl⟩
   have hway:dw kvs c g=some k:=by
    unfold dw
    rw [hval,e1]
    simp
   have hto:cF hs ds k=S (hs.getD d.b []):=by
    unfold cF
    rw [gj e2]
   have okd:=R d (List.mem_of_getElem? e2)
   have t1:1≤(d.t:Int):=okd.t.1
   have hnot:cF hs ds k∉sn:=fun m=>by
    obtain ⟨w,h1,h2⟩:=hw _ m
    rw [hto,e4] at h1
    cases h1
    omega
   rw [hway]
   show ∃tk',(if cF hs ds k∈sn then _ else _)=Out.ok (tk++tk')∧_
   rw [if_neg hnot]
   have mto:cF hs ds k∈hs.map S:=by rw [hto];exact eZ okd.b
   obtain ⟨tk',h1,h2,h3,h4⟩:=rC T R few n (cF hs ds k) (sn++[cF hs ds k]) (tk++[k]) u' (by rw [List.length_append];show n+(sn.length+1)=14;omega) (iB nd hnot)
    (fun y hy=>by
     rcases List.mem_append.mp hy with z | z
     ·exact sub y z
     ·rw [List.mem_singleton.mp z];exact mto) mto (by rw [hto];exact e4)
    (fun y hy=>by
     rcases List.mem_append.mp hy with z | z
     ·obtain ⟨w,a,b⟩:=hw y z
      exact ⟨w,a,by omega⟩
     ·rw [List.mem_singleton.mp z,hto]
      exact ⟨u',e4,Int.le_refl _⟩)
   refine ⟨k::tk',by rw [h1,List.append_assoc];rfl,?_,?_,by rw [List.length_cons];omega⟩
   ·show ((ds.getD k d0).t:Int)+O1 ds tk'=u
    rw [h2,gj e2]
    exact e5
   ·intro j hj
    rcases List.mem_cons.mp hj with rfl | hj
    ·exact (List.getElem?_eq_some_iff.mp e2).1
    ·exact h3 j hj
end K1
namespace M33
open Classical
theorem bZ {α:Type}:∀{sn L:List α},sn.Nodup→(∀y∈sn,y∈L)→sn.length≤L.length
 | [],_,_,_=>Nat.zero_le _
 | x::r,L,nd,h=>by
  have hx:=h x (.head _)
  have ih:=bZ (sn:=r) (L:=L.erase x) (List.nodup_cons.mp nd).2 (fun y hy=>(List.mem_erase_of_ne (show y≠x from fun e=>(List.nodup_cons.mp nd).1 (by rw [←e];exact hy))).mpr (h y (.tail _ hy)))
  rw [List.length_erase_of_mem hx] at ih
  have:=List.length_pos_of_mem hx
  rw [List.length_cons]
  omega
structure Trace (N:Nat) (Left:Nat→Nat→Int→Prop) (rel:Nat→Int) (own:Nat→Nat→Prop) (nx:Nat→Option Nat) (t far:Nat→Int) (R D:Int):Prop where
 lt:∀{n r d},Left n r d→n < N
 zero:∀{n r d},Left n r d→0≤d
 t1:∀{n r d},Left n r d→1≤t r
 farNx:∀{n r' e r},Left n r' e→nx r'=some r→far r'=t r'+far r
 came:∀{n r d},Left n r d→(own n r∧rel n≤d∧∀τ,rel n≤τ→τ < d→∃m,Left m r τ)∨∃r' e,Left n r' e∧nx r'=some r∧e+t r'≤d∧∀τ,e+t r'≤τ→τ < d→∃m,Left m r τ
 single:∀{n r d d'},Left n r d→Left n r d'→d=d'
 go:∀{n r' e r},Left n r' e→nx r'=some r→∃d,Left n r d∧e+t r'≤d∧∀τ,e+t r'≤τ→τ < d→∃m,Left m r τ
 relR:∀{n},n < N→rel n≤R
 ownD:∀{n r d},own n r→Left n r d→far r≤D
noncomputable def ahead (N:Nat) (Left:Nat→Nat→Int→Prop) (r:Nat) (d:Int):List Nat:=(List.range N).filter fun n=>decide (∃d',d' < d∧Left n r d')
theorem jt {N:Nat} {Left:Nat→Nat→Int→Prop} {r n:Nat} {d:Int}:n∈ahead N Left r d↔n < N∧∃d',d' < d∧Left n r d':=by
 unfold ahead
 rw [List.mem_filter,List.mem_range,decide_eq_true_iff]
section
variable {N:Nat} {Left:Nat→Nat→Int→Prop} {rel:Nat→Int} {own:Nat→Nat→Prop} {nx:Nat→Option Nat} {t far:Nat→Int} {R D:Int}
theorem busy {d:Int} {x r:Nat} (h:Left x r d) (z:∀{n d},Left n r d→0≤d):∃s,s≤d∧(∀τ,s≤τ→τ≤d→∃m,Left m r τ)∧¬∃m,Left m r (s - 1):=by
 have key:∀(k:Nat) (s:Int),s.toNat=k→0≤s→s≤d→(∀τ,s≤τ→τ≤d→∃m,Left m r τ)→∃s,s≤d∧(∀τ,s≤τ→τ≤d→∃m,Left m r τ)∧¬∃m,Left m r (s - 1):=by
  intro k
  induction k with
  | zero=>
   intro s e h0 h1 h2
   refine ⟨s,h1,h2,fun ⟨m,hm⟩=>?_⟩
   have:=z hm
   omega
  | succ k ih=>
   intro s e h0 h1 h2
   by_cases y:∃m,Left m r (s - 1)
   ·refine ih (s - 1) (by omega) (by omega) (by omega) fun τ a b=>?_
    by_cases w:τ=s - 1
    ·rw [w];exact y
    ·exact h2 τ (by omega) b
   ·exact ⟨s,h1,h2,y⟩
 exact key d.toNat d rfl (z h) (Int.le_refl _) fun τ a b=>by
  have:τ=d:=by omega
  rw [this]
  exact ⟨x,h⟩
theorem JK (Tr:Trace N Left rel own nx t far R D):∀(k:Nat) {x r:Nat} {d:Int},d.toNat=k→Left x r d→d≤R+(D - far r)+(ahead N Left r d).length:=by
 intro k
 induction k using Nat.strongRecOn with
 | _ k ih=>
  intro x r d ek hx
  obtain ⟨s,sd,full,gap⟩:=busy hx fun h=>Tr.zero h
  obtain ⟨y,hy⟩:=full s (Int.le_refl _) sd
  obtain ⟨f,hf⟩:∃f:Nat→Nat,∀i:Nat,s+i≤d→Left (f i) r (s+i):=⟨fun i=>if h:s+(i:Int)≤d then Classical.choose (full (s+i) (by omega) h) else 0,fun i h=>by
   simp only [dif_pos h]
   exact Classical.choose_spec (full (s+i) (by omega) h)⟩
  obtain ⟨w,hw⟩:∃w:Nat,d - s=(w:Int):=⟨(d - s).toNat,by omega⟩
  have reps:∀Z:List Nat,Z.Nodup→(∀n∈Z,∃d',d' < s∧Left n r d')→Z.length+w≤(ahead N Left r d).length:=fun Z nd hZ=>by
   have h1:(Z++(List.range w).map f).Nodup:=by
    rw [List.nodup_append]
    refine ⟨nd,?_,?_⟩
    ·refine List.pairwise_map.mpr (List.Pairwise.imp_of_mem ?_ (List.nodup_range (n:=w)))
     intro i j hi hj ne e
     have a:=hf i (by have:=List.mem_range.mp hi;omega)
     have b:=hf j (by have:=List.mem_range.mp hj;omega)
     rw [e] at a
     have:=Tr.single a b
     omega
    ·rintro n hn m hm rfl
     obtain ⟨i,hi,rfl⟩:=List.mem_map.mp hm
     have a:=hf i (by have:=List.mem_range.mp hi;omega)
     obtain ⟨d',h2,h3⟩:=hZ _ hn
     have:=Tr.single a h3
     omega
   have h2:=bZ (L:=ahead N Left r d) h1 fun n hn=>by
    rcases List.mem_append.mp hn with z | z
    ·obtain ⟨d',h3,h4⟩:=hZ n z
     exact jt.mpr ⟨Tr.lt h4,d',by omega,h4⟩
    ·obtain ⟨i,hi,rfl⟩:=List.mem_map.mp z
     have li:=List.mem_range.mp hi
     have a:=hf i (by omega)
     exact jt.mpr ⟨Tr.lt a,_,by omega,a⟩
   rw [List.length_append,List.length_map,List.length_range] at h2
   exact h2
  rcases Tr.came hy with ⟨ho,hr,hq⟩ | ⟨r',e,he,hn,hle,hq⟩
  ·have es:rel y=s:=by
    by_cases z:rel y < s
    ·exact absurd (hq (s - 1) (by omega) (by omega)) gap
    ·omega
   have h1:=reps [] List.nodup_nil (fun n hn=>nomatch hn)
   have h2:=Tr.relR (Tr.lt hy)
   have h3:=Tr.ownD ho hy
   simp only [List.length_nil] at h1
   omega
  ·have es:e+t r'=s:=by
    by_cases z:e+t r' < s
    ·exact absurd (hq (s - 1) (by omega) (by omega)) gap
    ·omega
   have t1:=Tr.t1 he
   have e0:=Tr.zero he
   have h1:=ih e.toNat (by omega) rfl he
   have h2:=reps (ahead N Left r' e) (List.nodup_range.filter _) fun n hn'=>by
    obtain ⟨_,e',he',hl⟩:=jt.mp hn'
    obtain ⟨d',h3,h4,h5⟩:=Tr.go hl hn
    refine ⟨d',?_,h3⟩
    by_cases z:d' < s
    ·exact z
    ·exact absurd (h5 (s - 1) (by omega) (by omega)) gap
   have h3:=Tr.farNx he hn
   omega
theorem home_in_time (Tr:Trace N Left rel own nx t far R D) {x r:Nat} {d:Int} (h:Left x r d) (hf:far r=t r):d+t r≤R+D+N - 1:=by
 have h1:=JK Tr d.toNat rfl h
 have h2:(ahead N Left r d).length+1≤N:=by
  have h3:(x::ahead N Left r d).Nodup:=List.nodup_cons.mpr ⟨fun z=>by
   obtain ⟨_,d',h4,h5⟩:=jt.mp z
   have:=Tr.single h h5
   omega,List.nodup_range.filter _⟩
  have h4:=bZ (L:=List.range N) h3 fun n hn=>by
   rcases List.mem_cons.mp hn with rfl | z
   ·exact List.mem_range.mpr (Tr.lt h)
   ·exact List.mem_range.mpr (jt.mp z).1
  rw [List.length_cons,List.length_range] at h4
  exact h4
 omega
end
end M33
namespace K1
open PySem L2 L3 M1
section
variable {hs:List (List Nat)} {ds:List M1.Rd} {kvs:DTs}
theorem cL.tail {g:Str}:∀{a:List Nat} {k:Nat} {b:List Nat} {h:Str},cL kvs hs ds g h (a++k::b)→cL kvs hs ds g (cF hs ds k) b
 | [],k,b,h,r=>by
  obtain ⟨k',t',e,_,_,_,r'⟩:=r.way (by simp)
  cases e
  exact r'
 | j::a,k,b,h,r=>by
  obtain ⟨k',t',e,_,_,_,r'⟩:=r.way (by simp)
  cases e
  exact r'.tail
theorem cL.nd {g h:Str} {tk:List Nat} (r:cL kvs hs ds g h tk):tk.Nodup:=by
 induction tk generalizing h with
 | nil=>exact List.nodup_nil
 | cons k tk ih=>
  obtain ⟨k',t',e,_,_,_,r'⟩:=r.way (by simp)
  cases e
  refine List.nodup_cons.mpr ⟨fun z=>?_,ih r'⟩
  obtain ⟨a,b,e⟩:=List.append_of_mem z
  rw [e] at r'
  have r2:=r'.tail
  have:=congrArg List.length (r'.uniq r2)
  rw [List.length_append,List.length_cons] at this
  omega
theorem tZ {P:List (Kt × List Nat)} {n r:Nat} {d:Int} (h:dj P n r d):r∈gone P n:=by
 obtain ⟨b,hb,e,hn⟩:=h
 unfold gone
 exact List.mem_map.mpr ⟨b,List.mem_filter.mpr ⟨hb,decide_eq_true hn⟩,by rw [e]⟩
theorem GZ {P:List (Kt × List Nat)} {n r:Nat} {d d':Int} (nd:(gone P n).Nodup) (h:dj P n r d) (h':dj P n r d'):d=d':=by
 obtain ⟨b,hb,e,hn⟩:=h
 obtain ⟨b',hb',e',hn'⟩:=h'
 unfold gone at nd
 have m1:b∈P.filter fun b=>decide (n∈b.2):=List.mem_filter.mpr ⟨hb,decide_eq_true hn⟩
 have m2:b'∈P.filter fun b=>decide (n∈b.2):=List.mem_filter.mpr ⟨hb',decide_eq_true hn'⟩
 obtain ⟨i,hi,ei⟩:=List.getElem_of_mem m1
 obtain ⟨j,hj,ej⟩:=List.getElem_of_mem m2
 have e1:((P.filter fun b=>decide (n∈b.2)).map fun b=>b.1.2)[i]'(by rw [List.length_map];exact hi)=((P.filter fun b=>decide (n∈b.2)).map fun b=>b.1.2)[j]'(by rw [List.length_map];exact hj):=by
  rw [List.getElem_map,List.getElem_map,ei,ej,e,e']
 have:=(List.getElem_inj nd).mp e1
 subst this
 rw [ei] at ej
 subst ej
 rw [e] at e'
 exact congrArg Prod.fst e'
noncomputable def vm (P:List (Kt × List Nat)) (k:Nat) (a d:Int):Prop:=∀τ,a≤τ→τ < d→∃m,dj P m k τ
theorem Ak {P:List (Kt × List Nat)} {k:Nat} {a d T:Int} (hT:T < a) (h:∀τ,a≤τ→τ < d→T < τ→jd ds P k τ):vm P k a d:=fun τ h1 h2=>by
 obtain ⟨b,hb,e,ne,_⟩:=(h τ h1 h2 (by omega)).bag
 obtain ⟨m,hm⟩:=List.exists_mem_of_ne_nil _ ne
 exact ⟨m,b,hb,e,hm⟩
theorem Goes.at {P:List (Kt × List Nat)} {n:Nat} {g:Str} {T:Int}:∀{tk:List Nat} {h:Str} {due:Int},Goes kvs hs ds P n g T h due tk→T < due→(∀k∈tk,1≤rTn ds k)→∀r∈tk,∃d,dj P n r d∧T < d∧((dw kvs h g=some r∧h≠g∧due≤d∧vm P r due d)∨∃r' e,dj P n r' e∧r'∈tk∧cF hs ds r'≠g∧dw kvs (cF hs ds r') g=some r∧e+rTn ds r'≤d∧vm P r (e+rTn ds r') d)
 | [],_,_,_,_,_,r,hr=>nomatch hr
 | k::tk,h,due,gg,hT,ht,r,hr=>by
  obtain ⟨d,a,b,c,l,e,f,q,rr⟩:=gg.inv
  rcases List.mem_cons.mp hr with rfl | hr
  ·exact ⟨d,l,f,.inl ⟨b,a,e,Ak hT q⟩⟩
  ·have t1:=ht k (.head _)
   obtain ⟨d',l',f',or⟩:=rr.at (by omega) (fun j hj=>ht j (.tail _ hj)) r hr
   refine ⟨d',l',f',.inr ?_⟩
   rcases or with ⟨w,ne,le,ni⟩ | ⟨r',e',h1,h2,h3⟩
   ·exact ⟨k,d,l,.head _,ne,w,le,ni⟩
   ·exact ⟨r',e',h1,.tail _ h2,h3⟩
theorem Goes.next {P:List (Kt × List Nat)} {n:Nat} {g:Str} {T:Int}:∀{tk:List Nat} {h:Str} {due:Int},Goes kvs hs ds P n g T h due tk→T < due→(∀k∈tk,1≤rTn ds k)→∀r'∈tk,cF hs ds r'≠g→∃e r d,dj P n r' e∧dw kvs (cF hs ds r') g=some r∧dj P n r d∧e+rTn ds r'≤d∧vm P r (e+rTn ds r') d
 | [],_,_,_,_,_,r,hr,_=>nomatch hr
 | k::tk,h,due,gg,hT,ht,r',hr,hne=>by
  obtain ⟨d,a,b,c,l,e,f,q,rr⟩:=gg.inv
  have t1:=ht k (.head _)
  rcases List.mem_cons.mp hr with rfl | hr
  ·cases tk with
   | nil=>
    exfalso
    have:∀{h:Str} {due:Int},Goes kvs hs ds P n g T h due []→h=g:=fun gg=>by cases gg;rfl
    exact hne (this rr)
   | cons k2 tk2=>
    obtain ⟨d2,a2,b2,c2,l2,e2,f2,q2,_⟩:=rr.inv
    exact ⟨d,k2,d2,l,b2,l2,e2,Ak (by omega) q2⟩
  ·exact rr.next (by omega) (fun j hj=>ht j (.tail _ hj)) r' hr hne
noncomputable def nxR (kvs:DTs) (hs:List (List Nat)) (ds:List M1.Rd) (g:Str) (r:Nat):Option Nat:=if cF hs ds r=g then none else dw kvs (cF hs ds r) g
noncomputable def G3 (hs:List (List Nat)) (ds:List M1.Rd) (g:Str) (r:Nat):Int:=(cZ hs ds (Fx hs ds r) g).getD 0
theorem lB (R:∀d∈ds,d.Ok hs.length) (T:dU hs ds kvs) {h g:Str} {k:Nat} (w:dw kvs h g=some k):Fx hs ds k=h∧∃u,cZ hs ds (cF hs ds k) g=some u∧cZ hs ds h g=some (rTn ds k+u):=by
 have:∃v,bD kvs (pk h g)=some v:=by
  cases e:bD kvs (pk h g) with
  | none=>unfold dw at w;rw [e] at w;cases w
  | some v=>exact ⟨v,rfl⟩
 obtain ⟨v,hv⟩:=this
 obtain ⟨h',g',e1,_,_,ne,is,e2⟩:=T.get hv
 obtain ⟨rfl,rfl⟩:=yU e1
 obtain ⟨u0,hu0⟩:=Option.isSome_iff_exists.mp is
 obtain ⟨k',d,u,b1,b2,b3,b4,b5⟩:=vd R hu0 ne
 have ek:k'=k:=by
  unfold dw at w
  rw [hv,e2,b1] at w
  simpa using w
 subst ek
 have gd:ds.getD k' rd0=d:=gO b2
 have gd2:ds.getD k' d0=d:=gj b2
 refine ⟨by unfold Fx;rw [gd];exact b3,u,by unfold cF;rw [gd2];exact b4,?_⟩
 rw [hu0,←b5]
 unfold rTn
 rw [gd]
theorem G4 (R:∀d∈ds,d.Ok hs.length) (T:dU hs ds kvs) (few:hs.length≤12) {lds:List (Str × Int × Str)} (l100:lds.length≤100) (hld:∀d∈lds,d.1∈hs.map S∧d.2.2∈hs.map S∧d.1≠d.2.2) {g:Str} (hg:∀d∈lds,d.2.2=g∧0≤d.2.1) {Rm D:Int} (hR:∀d∈lds,d.2.1≤Rm)
  (hD:∀n∈cj hs ds kvs lds,∀v,cZ hs ds (lds.getD n d00).1 g=some v→v≤D):
  M33.Trace lds.length (dj (rA hs ds kvs lds)) (tn lds) (fun n r=>n∈cj hs ds kvs lds∧dw kvs (lds.getD n d00).1 g=some r) (nxR kvs hs ds g) (rTn ds) (G3 hs ds g) Rm D:=by
 have Tb:=T.ok R
 obtain ⟨rt,O,ht⟩:=oV (kvs:=kvs) R Tb few l100 hld
 have gn:=rm R Tb 1300 (-1) _ _ rt O ht
 have gs:=rn R Tb 1300 (-1) _ _ rt O ht
 have hin:∀{n r d},dj (rA hs ds kvs lds) n r d→n∈cj hs ds kvs lds∧r∈rt n:=fun {n r d} h=>by
  have h1:=tZ h
  have h1:r∈gone (oU hs ds kvs (lds.map fun d=>d.2.2) 1300 (-1) (cj hs ds kvs lds) (lds.map eG)) n:=h1
  rw [gn n] at h1
  by_cases z:n∈cj hs ds kvs lds
  ·rw [if_pos z] at h1
   exact ⟨z,h1⟩
  ·rw [if_neg z] at h1
   exact absurd h1 List.not_mem_nil
 have nl:∀n∈cj hs ds kvs lds,n < lds.length:=fun n hn=>List.mem_range.mp (List.mem_filter.mp hn).1
 have gg:∀n∈cj hs ds kvs lds,gN (lds.map fun d=>d.2.2) n=g:=fun n hn=>by
  unfold gN
  rw [gf (d:=d00) (nl n hn)]
  exact (hg _ (getD_mem' (nl n hn))).1
 have la:∀n∈cj hs ds kvs lds,lastAt (lds.map eG) n=⟨tn lds n,none,(lds.getD n d00).1,tn lds n⟩:=fun n hn=>by
  unfold lastAt
  rw [gf (d:=d00) (nl n hn)]
  rfl
 have rw_:∀n∈cj hs ds kvs lds,cL kvs hs ds g (lds.getD n d00).1 (rt n):=fun n hn=>by
  have:=O.way n hn
  rw [gg n hn,la n hn] at this
  exact this
 have rg:∀n∈cj hs ds kvs lds,Goes kvs hs ds (rA hs ds kvs lds) n g (-1) (lds.getD n d00).1 (tn lds n) (rt n):=fun n hn=>by
  have:=gs n hn
  have e:cD (lds.map eG) n=tn lds n:=by unfold cD;rw [la n hn]
  rw [gg n hn,e,la n hn] at this
  exact this
 have t0:∀n∈cj hs ds kvs lds,-1 < tn lds n:=fun n hn=>by
  have:=(hg _ (getD_mem' (d:=d00) (nl n hn))).2
  show -1 < (lds.getD n d00).2.1
  omega
 have tp:∀k,k < ds.length→1≤rTn ds k:=fun k hk=>by
  unfold rTn
  rw [show ds.getD k rd0=ds[k] by rw [List.getD,List.getElem?_eq_getElem hk];rfl]
  exact (R _ (List.getElem_mem hk)).t.1
 have ts:∀n∈cj hs ds kvs lds,∀k∈rt n,1≤rTn ds k:=fun n hn=>(rw_ n hn).roads tp
 have one:∀{n r d d'},dj (rA hs ds kvs lds) n r d→dj (rA hs ds kvs lds) n r d'→d=d':=fun {n r d d'} h h'=>by
  refine GZ ?_ h h'
  show (gone (oU hs ds kvs (lds.map fun d=>d.2.2) 1300 (-1) (cj hs ds kvs lds) (lds.map eG)) n).Nodup
  rw [gn n,if_pos (hin h).1]
  exact (rw_ n (hin h).1).nd
 have nxs:∀{r' r},nxR kvs hs ds g r'=some r→cF hs ds r'≠g∧dw kvs (cF hs ds r') g=some r:=fun {r' r} h=>by
  unfold nxR at h
  by_cases z:cF hs ds r'=g
  ·rw [if_pos z] at h;cases h
  ·rw [if_neg z] at h;exact ⟨z,h⟩
 refine ⟨fun h=>nl _ (hin h).1,fun {n r d} h=>?_,fun {n r d} h=>ts n (hin h).1 r (hin h).2,fun {n r' e r} h hx=>?_,fun {n r d} h=>?_,one,fun {n r' e r} h hx=>?_,fun {n} hn=>hR _ (getD_mem' (d:=d00) hn),fun {n r d} ho h=>?_⟩
 ·obtain ⟨d',h1,h2,_⟩:=(rg n (hin h).1).at (t0 n (hin h).1) (ts n (hin h).1) r (hin h).2
  rw [one h h1]
  omega
 ·obtain ⟨ne,w⟩:=nxs hx
  obtain ⟨hb,u,h1,h2⟩:=lB R T w
  have told:∃h0,dw kvs h0 g=some r':=by
   obtain ⟨d',_,_,or⟩:=(rg n (hin h).1).at (t0 n (hin h).1) (ts n (hin h).1) r' (hin h).2
   rcases or with ⟨w',_⟩ | ⟨r2,e2,_,_,_,w',_⟩
   ·exact ⟨_,w'⟩
   ·exact ⟨_,w'⟩
  obtain ⟨h0,w0⟩:=told
  obtain ⟨hb0,u0,h3,h4⟩:=lB R T w0
  unfold G3
  rw [hb0,h4,hb,h3]
  rfl
 ·obtain ⟨d',h1,h2,or⟩:=(rg n (hin h).1).at (t0 n (hin h).1) (ts n (hin h).1) r (hin h).2
  obtain rfl:=one h h1
  rcases or with ⟨w',ne',le,ni⟩ | ⟨r2,e2,l2,_,ne2,w',le,ni⟩
  ·exact .inl ⟨⟨(hin h).1,w'⟩,le,ni⟩
  ·exact .inr ⟨r2,e2,l2,by unfold nxR;rw [if_neg ne2];exact w',le,ni⟩
 ·obtain ⟨ne,w⟩:=nxs hx
  obtain ⟨e',r2,d',l1,w2,l2,le,ni⟩:=(rg n (hin h).1).next (t0 n (hin h).1) (ts n (hin h).1) r' (hin h).2 ne
  obtain rfl:=one h l1
  rw [w] at w2
  cases w2
  exact ⟨d',l2,le,ni⟩
 ·obtain ⟨hn,w⟩:=ho
  obtain ⟨hb,u,h1,h2⟩:=lB R T w
  have:=hD n hn _ h2
  unfold G3
  rw [hb,h2]
  exact this
end
open PySem L2 L3 M1
section
variable {P:Program} {w:World} {K:PySem.W.Frag} {mg:Str→Option Value} {base:Heap}
noncomputable abbrev G5:Stmt:=top 42
theorem t6:aH ["_law_lines","_law_letters","_law_plan","_law_found","_law_turn","_law_road_here","_law_numbers","_law_n"] ["_law_lines","_law_letters","_law_plan"] (aC G5):=⟨rfl,rfl,rfl,by decide+kernel,rfl,by decide+kernel,by decide+kernel⟩
noncomputable def vo (hs:List (List Nat)) (ds:List M1.Rd) (lds:List (Str × Int × Str)) (P:List (Kt × List Nat)) (n:Nat) (v:L2.V):Prop:=(v=.non∧∀b∈P,n∈b.2→j7 hs ds b.1.2≠(lds.getD n d00).2.2)∨∃b∈P,n∈b.2∧j7 hs ds b.1.2=(lds.getD n d00).2.2∧v=.int (b.1.1+rTn ds b.1.2)
noncomputable def G6 (K:PySem.W.Frag):Sp:=fun vs H Q _=>∃(b lp pp:Addr) (hs:List (List Nat)) (rs lrs as:List Addr) (ds:List M1.Rd) (lds:List (Str × Int × Str)) (P:List (Kt × List Nat)),vs=[.ref b,.ref lp,.ref pp]∧H b=some (.lst (refs rs))∧bI H hs rs ds∧H lp=some (.lst (refs lrs))∧cT H lrs (lds.map ltT)∧lrs.length≤60∧H pp=some (.lst (refs as))∧Paired (fU H) as P∧(∀b∈P,b.1.2 < ds.length∧∀n∈b.2,n < lds.length)∧
 ∀(l:Addr) (H':Hp) (vs:List L2.V),H l=none→aB H H'→H' l=some (.lst vs)→vs.length=lds.length→(∀n v,vs[n]?=some v→vo hs ds lds P n v)→Q (.ref l) H'
theorem MP {f:Addr} {fd:FuncData} (F:Fun K "_law_homes" "_law_homes" G5 f fd) (B:Blt mg):aD P w K mg base CX0 1 f fd ["_law_lines","_law_letters","_law_plan"] (G6 K):=by
 refine F.ok t6 (fun vs H Q E h=>?_) (fun cdv A outer s H vs Q E hr h=>?_)
 ·obtain ⟨b,lp,pp,hs,rs,lrs,as,ds,lds,Pl,rfl,_⟩:=h
  rfl
 ·obtain ⟨b,lp,pp,hs,rs,lrs,as,ds,lds,Pl,rfl,hb,R,hlp,tpl,few,hpp,bags,okP,q⟩:=h
  refine ⟨_,(ao (gr (i:=3) t6.nd rfl rfl rfl (N':=["_law_letter_here"]) (cs:=[none]) rfl (bC (pv 1)) rfl (by decide+kernel) rfl (by decide+kernel) (cY (fun p hp=>absurd hp (List.not_mem_nil))) rfl
    (.own .nil)
    (fun C s3 H3 fp pn=>⟨(aJ (i:=0) (by show (["_law_letter_here"]:List Str).Nodup;decide+kernel) rfl (.inl rfl)),d7,jw⟩))
   (ao (dI PassesOwn.never rfl (bC (pv 2)) (xP rfl (bQ (aJ (i:=4) t6.nd rfl (Or.inl rfl)) (bQ (aJ (i:=5) t6.nd rfl (Or.inl rfl)) (bQ (aJ (i:=6) t6.nd rfl (Or.inl rfl)) jz))))
    (az (dI PassesOwn.never rfl (CV (pv 6)) (aJ (i:=7) t6.nd rfl (Or.inl rfl))
    (az (cI (bK mC (aK aP (aK bM (pv 0) (pv 5) (fun _ _=>rfl)) au (fun _ _=>rfl)) (aK aP (aK bM (pv 1) (pv 7) (fun _ _=>rfl)) au (fun _ _=>rfl)) (bG _)) (az (Kp (aM cu (pv 4) (aK aP (aK bM (pv 0) (pv 5) (fun _ _=>rfl)) au (fun _ _=>rfl))) (Ko (pv 3) (pv 7) set_list))) bw)))))
   (az (aU (pv 3))))),?_⟩
  have ldl:lrs.length=lds.length:=by have:=tpl.len;rwa [List.length_map] at this
  have lrl:=aN lrs
  refine pH ?_
  refine mZ (J:=Itl K lp) (H1:=H) (xs:=refs lrs) (rest:=[]) (fun R' h=>⟨_,rfl,lp,rfl,⟨_,SqL.of hlp⟩,h⟩) rfl (dD (SqL.of hlp)) (aG (by omega)) (fun _=>.non) (fun i v H2 R' ev s2 kk=>kk H2 (aB.refl _)) (fun D H1 nD hD s1=>?_)
  have Dp:D≠pp:=Ne.symm (cP hpp nD)
  refine ⟨_,rfl,pp,rfl,⟨_,SqL.of (s1 _ _ hpp)⟩,?_⟩
  have rl:=R.len
  refine dJ (xs:=refs as) (fun i σ Hc=>∃(vs:List L2.V) (v1 v2 v3 v4:Option L2.V),σ=[some (.ref b),some (.ref lp),some (.ref pp),some (.ref D),v1,v2,v3,v4]∧aB H Hc∧Hc D=some (.lst vs)∧vs.length=lds.length∧∀n v,vs[n]?=some v→vo hs ds lds (Pl.take i) n v)
   ⟨_,none,none,none,none,rfl,s1,hD,by rw [List.length_map];omega,fun n v e=>?_⟩ (fun i σ Hc _ ⟨_,_,_,_,_,_,h,_⟩=>SqL.of (h _ _ hpp)) ?_ ?_
  ·rw [List.getElem?_map] at e
   obtain ⟨_,_,rfl⟩:=Option.map_eq_some_iff.mp e
   exact .inl ⟨rfl,fun b hb=>(nomatch hb)⟩
  ·rintro i z σ Hc ez ⟨vs,v1,v2,v3,v4,rfl,sm,hDc,lv,ok⟩
   unfold refs at ez
   rw [List.getElem?_map] at ez
   obtain ⟨bg,ebg,rfl⟩:=Option.map_eq_some_iff.mp ez
   obtain ⟨bb,ebb,c,hb1,hb2⟩:=Paired.get bags ebg
   obtain ⟨rlt,nlt⟩:=okP bb (List.mem_of_getElem? ebb)
   have tk:Pl.take (i+1)=Pl.take i++[bb]:=by rw [List.take_add_one,ebb];rfl
   refine ⟨bg,_,rfl,SqT.of (sm _ _ hb1),rfl,_,_,rfl,_,_,rfl,_,_,rfl,rfl,?_⟩
   obtain ⟨ra,era⟩:∃ra,rs[bb.1.2]?=some ra:=⟨_,List.getElem?_eq_getElem (by omega)⟩
   obtain ⟨d,ed,okd,hrd⟩:=R.get era
   have e0:ds.getD bb.1.2 rd0=d:=gO ed
   have eF:j7 hs ds bb.1.2=S (hs.getD d.b []):=by unfold j7;rw [e0]
   have eT:rTn ds bb.1.2=d.t:=by unfold rTn;rw [e0]
   have ar:L2.atI (refs rs) (bb.1.2:Int)=some (.ref ra):=cN (by unfold refs;rw [List.getElem?_map,era];rfl)
   refine ⟨_,rfl,c,rfl,⟨_,SqT.of (sm _ _ hb2)⟩,?_⟩
   refine zq (K:=K) (a:=c) (xs:=bb.2.map fun n:Nat=>V.int n) (fun j σ Hd=>∃(vs:List L2.V) (v4:Option L2.V),σ=[some (.ref b),some (.ref lp),some (.ref pp),some (.ref D),some (.int bb.1.1),some (.int (bb.1.2:Int)),some (.ref c),v4]∧aB H Hd∧Hd D=some (.lst vs)∧vs.length=lds.length∧∀n v,vs[n]?=some v→(n∈bb.2.take j∧j7 hs ds bb.1.2=(lds.getD n d00).2.2∧v=.int (bb.1.1+rTn ds bb.1.2))∨(vo hs ds lds (Pl.take i) n v∧(n∈bb.2.take j→j7 hs ds bb.1.2≠(lds.getD n d00).2.2)))
    ⟨vs,v4,rfl,sm,hDc,lv,fun n v e=>.inr ⟨ok n v e,fun z=>(nomatch z)⟩⟩ (fun j σ Hd _ ⟨_,_,_,h,_⟩=>SqT.of (h _ _ hb2)) ?_ ?_
   ·rintro j z σ Hd ez ⟨vs,v4,rfl,sd,hDd,lv,ok⟩
    rw [List.getElem?_map] at ez
    obtain ⟨k,ek,rfl⟩:=Option.map_eq_some_iff.mp ez
    have kl:=nlt k (List.mem_of_getElem? ek)
    have tj:bb.2.take (j+1)=bb.2.take j++[k]:=by rw [List.take_add_one,ek];rfl
    obtain ⟨la,ela⟩:∃la,lrs[k]?=some la:=⟨_,List.getElem?_eq_getElem (by omega)⟩
    obtain ⟨dd,edd,hdd⟩:=Paired.get tpl ela
    rw [List.getElem?_map] at edd
    obtain ⟨dl,edl,rfl⟩:=Option.map_eq_some_iff.mp edd
    have gl:lds.getD k d00=dl:=gO edl
    have al:L2.atI (refs lrs) (k:Int)=some (.ref la):=cN (by unfold refs;rw [List.getElem?_map,ela];rfl)
    refine ⟨_,rfl,_,rfl,b,_,_,_,rfl,rfl,SqL.of (sd _ _ hb),ar,ra,_,_,_,rfl,rfl,SqT.of (sd _ _ hrd),rfl,_,rfl,_,rfl,lp,_,_,_,rfl,rfl,SqL.of (sd _ _ hlp),al,la,_,_,_,rfl,rfl,SqT.of (sd _ _ hdd),rfl,rfl,_,rfl,?_⟩
    by_cases he:S (hs.getD d.b [])=dl.2.2
    ·refine eY (by rw [he];simp) ?_
     refine ⟨_,rfl,_,rfl,_,rfl,b,_,_,_,rfl,rfl,SqL.of (sd _ _ hb),ar,ra,_,_,_,rfl,rfl,SqT.of (sd _ _ hrd),rfl,_,_,rfl,rfl,?_⟩
     refine ⟨_,rfl,_,rfl,D,vs,(k:Int),k,rfl,rfl,hDd,(by unfold L2.ixN;rw [if_pos (by omega),if_pos (by omega),Int.toNat_natCast]),?_⟩
     refine ⟨_,_,rfl,aY nD sd,aj,by rw [List.length_set];exact lv,fun n v e=>?_⟩
     rw [tj]
     rw [List.getElem?_set] at e
     by_cases hn:k=n
     ·subst hn
      rw [if_pos rfl,if_pos (by omega)] at e
      cases e
      refine .inl ⟨List.mem_append.mpr (.inr (.head _)),by rw [gl,eF];exact he,by rw [eT]⟩
     ·rw [if_neg hn] at e
      rcases ok n v e with ⟨h1,h2⟩ | ⟨h1,h2⟩
      ·exact .inl ⟨List.mem_append.mpr (.inl h1),h2⟩
      ·refine .inr ⟨h1,fun z=>?_⟩
       rcases List.mem_append.mp z with y | y
       ·exact h2 y
       ·exact absurd (List.mem_singleton.mp y).symm hn
    ·refine gw (decide_eq_false fun y=>he (V.str.inj y)) ⟨vs,_,rfl,sd,hDd,lv,fun n v e=>?_⟩
     rw [tj]
     rcases ok n v e with ⟨h1,h2⟩ | ⟨h1,h2⟩
     ·exact .inl ⟨List.mem_append.mpr (.inl h1),h2⟩
     ·refine .inr ⟨h1,fun z=>?_⟩
      rcases List.mem_append.mp z with y | y
      ·exact h2 y
      ·rw [List.mem_singleton.mp y,gl,eF]
       exact he
   ·rintro σ Hd ⟨vs,v4,rfl,sd,hDd,lv,ok⟩
    refine ⟨vs,_,_,_,_,rfl,sd,hDd,lv,fun n v e=>?_⟩
    rw [List.length_map,List.take_length] at ok
    rw [tk]
    rcases ok n v e with ⟨h1,h2,h3⟩ | ⟨h1,h2⟩
    ·exact .inr ⟨bb,List.mem_append.mpr (.inr (.head _)),h1,h2,h3⟩
    ·rcases h1 with ⟨h3,h4⟩ | ⟨b',h3,h4,h5⟩
     ·refine .inl ⟨h3,fun b' hb' hn'=>?_⟩
      rcases List.mem_append.mp hb' with y | y
      ·exact h4 b' y hn'
      ·rw [List.mem_singleton.mp y] at hn' ⊢
       exact h2 hn'
     ·exact .inr ⟨b',List.mem_append.mpr (.inl h3),h4,h5⟩
  ·rintro σ Hc ⟨vs,v1,v2,v3,v4,rfl,sm,hDc,lv,ok⟩
   have la:=Paired.length bags
   rw [aN,la,List.take_length] at ok
   exact ⟨_,rfl,q D Hc vs nD sm hDc lv ok⟩
end
open PySem L2 L3 M1
section
variable {hs:List (List Nat)} {ds:List M1.Rd} {kvs:DTs}
theorem G7 (R:∀d∈ds,d.Ok hs.length) (g:Str):cZ hs ds g g=some 0:=(M4.fars (xr R) g).goal (xr R)
theorem Goes.least (R:∀d∈ds,d.Ok hs.length) (T:dU hs ds kvs) {P:List (Kt × List Nat)} {n:Nat} {g:Str} {T0:Int}:∀{tk:List Nat} {h:Str} {due:Int},Goes kvs hs ds P n g T0 h due tk→∀r∈tk,cF hs ds r=g→∃d u,dj P n r d∧cZ hs ds h g=some u∧due+u≤d+rTn ds r∧G3 hs ds g r=rTn ds r
 | [],_,_,_,r,hr,_=>nomatch hr
 | k::tk,h,due,gg,r,hr,e=>by
  obtain ⟨d,a,b,c,l,le,f,q,rr⟩:=gg.inv
  obtain ⟨h0,u,h1,h2⟩:=lB R T b
  rcases List.mem_cons.mp hr with rfl | hr
  ·rw [e] at h1
   have h3:=G7 R (ds:=ds) (hs:=hs) g
   rw [h3] at h1
   cases h1
   refine ⟨d,_,l,h2,by omega,?_⟩
   unfold G3
   rw [h0,h2]
   show rTn ds r+0=_
   omega
  ·obtain ⟨d',u',l',h3,h4,h5⟩:=rr.least R T r hr e
   rw [h1] at h3
   cases h3
   exact ⟨d',_,l',h2,by omega,h5⟩
theorem Goes.last {P:List (Kt × List Nat)} {n:Nat} {g:Str} {T0:Int}:∀{tk:List Nat} {h:Str} {due:Int},Goes kvs hs ds P n g T0 h due tk→h≠g→∃r∈tk,cF hs ds r=g
 | [],h,due,gg,ne=>by
  have:∀{h:Str} {due:Int},Goes kvs hs ds P n g T0 h due []→h=g:=fun gg=>by cases gg;rfl
  exact absurd (this gg) ne
 | k::tk,h,due,gg,ne=>by
  obtain ⟨d,a,b,c,l,le,f,q,rr⟩:=gg.inv
  by_cases z:cF hs ds k=g
  ·exact ⟨k,.head _,z⟩
  ·obtain ⟨r,hr,e⟩:=rr.last z
   exact ⟨r,.tail _ hr,e⟩
theorem G8 {gs:List Str}:∀(m:Nat) (T:Int) (go:List Nat) (sss:List (List Step)),∀b∈oU hs ds kvs gs m T go sss,b.1.2 < ds.length∧∀n∈b.2,n∈go
 | 0,_,_,_,b,hb=>nomatch hb
 | m+1,T,go,sss,b,hb=>by
  unfold oU at hb
  by_cases hg:go=[]
  ·rw [if_pos hg] at hb
   exact absurd hb List.not_mem_nil
  ·rw [if_neg hg] at hb
   rcases List.mem_append.mp hb with h | h
   ·unfold jq o4 at h
    obtain ⟨r,hr,rfl⟩:=List.mem_map.mp h
    exact ⟨List.mem_range.mp (List.mem_filter.mp hr).1,fun n hn=>(lz hn).1⟩
   ·obtain ⟨h1,h2⟩:=G8 m _ _ _ b h
    exact ⟨h1,fun n hn=>(List.mem_filter.mp (h2 n hn)).1⟩
theorem JL (R:∀d∈ds,d.Ok hs.length) (T:dU hs ds kvs) (few:hs.length≤12) {lds:List (Str × Int × Str)} (l100:lds.length≤100) (hld:∀d∈lds,d.1∈hs.map S∧d.2.2∈hs.map S∧d.1≠d.2.2) {g:Str} (hg:∀d∈lds,d.2.2=g∧0≤d.2.1) {Rm D:Int} (hR:∀d∈lds,d.2.1≤Rm)
  (hD:∀d∈lds,∀v,cZ hs ds d.1 g=some v→v≤D) {n:Nat} {v:L2.V} (hn:n < lds.length) (ho:vo hs ds lds (rA hs ds kvs lds) n v):
  (v=.non∧cZ hs ds (lds.getD n d00).1 g=none)∨∃u h:Int,cZ hs ds (lds.getD n d00).1 g=some u∧v=.int h∧(lds.getD n d00).2.1+u≤h∧h≤Rm+D+lds.length - 1:=by
 have Tb:=T.ok R
 obtain ⟨rt,O,ht⟩:=oV (kvs:=kvs) R Tb few l100 hld
 have gn:=rm R Tb 1300 (-1) _ _ rt O ht
 have gs:=rn R Tb 1300 (-1) _ _ rt O ht
 have nl:∀n∈cj hs ds kvs lds,n < lds.length:=fun n hn=>List.mem_range.mp (List.mem_filter.mp hn).1
 have hm:=getD_mem' (d:=d00) hn
 obtain ⟨m1,m2,m3⟩:=hld _ hm
 obtain ⟨eg,t0⟩:=hg _ hm
 have Tr:=G4 R T few l100 hld hg hR fun k hk v e=>hD _ (getD_mem' (nl k hk)) v e
 have hin:∀{r d},dj (rA hs ds kvs lds) n r d→n∈cj hs ds kvs lds∧r∈rt n:=fun {r d} h=>by
  have h1:r∈gone (oU hs ds kvs (lds.map fun d=>d.2.2) 1300 (-1) (cj hs ds kvs lds) (lds.map eG)) n:=tZ h
  rw [gn n] at h1
  by_cases z:n∈cj hs ds kvs lds
  ·rw [if_pos z] at h1
   exact ⟨z,h1⟩
  ·rw [if_neg z] at h1
   exact absurd h1 List.not_mem_nil
 by_cases z:n∈cj hs ds kvs lds
 ·have gg:Goes kvs hs ds (rA hs ds kvs lds) n g (-1) (lds.getD n d00).1 (lds.getD n d00).2.1 (rt n):=by
   have h1:=gs n z
   have la:lastAt (lds.map eG) n=⟨(lds.getD n d00).2.1,none,(lds.getD n d00).1,(lds.getD n d00).2.1⟩:=by
    unfold lastAt
    rw [gf (d:=d00) hn]
    rfl
   have e1:gN (lds.map fun d=>d.2.2) n=g:=by
    unfold gN
    rw [gf (d:=d00) hn]
    exact eg
   have e:cD (lds.map eG) n=(lds.getD n d00).2.1:=by unfold cD;rw [la]
   rw [e1,e,la] at h1
   exact h1
  obtain ⟨r,hr,er⟩:=gg.last (by rw [←eg];exact m3)
  obtain ⟨d,u,l,hu,_⟩:=gg.least R T r hr er
  rcases ho with ⟨rfl,no⟩ | ⟨b,hb,hnb,hf,rfl⟩
  ·obtain ⟨b,hb,e,hnb⟩:=l
   refine absurd ?_ (no b hb hnb)
   rw [e,eg]
   exact er
  ·have l':dj (rA hs ds kvs lds) n b.1.2 b.1.1:=⟨b,hb,rfl,hnb⟩
   have hf':cF hs ds b.1.2=g:=by rw [←eg];exact hf
   obtain ⟨d',u',l2,hu',le,fr⟩:=gg.least R T _ (hin l').2 hf'
   have e2:=Tr.single l' l2
   rw [hu] at hu'
   cases hu'
   have:=M33.home_in_time Tr l' fr
   exact .inr ⟨u,_,hu,rfl,by omega,by omega⟩
 ·have nf:cZ hs ds (lds.getD n d00).1 g=none:=by
   cases e:cZ hs ds (lds.getD n d00).1 g with
   | none=>rfl
   | some u=>
    exfalso
    refine z (List.mem_filter.mpr ⟨List.mem_range.mpr hn,?_⟩)
    obtain ⟨tk,h1,_⟩:=rC T R few (g:=g) 13 (lds.getD n d00).1 [(lds.getD n d00).1] [] u rfl (List.nodup_cons.mpr ⟨(fun y=>nomatch y),List.nodup_nil⟩) (fun y hy=>by rw [List.mem_singleton.mp hy];exact m1) m1 e fun y hy=>⟨u,by rw [List.mem_singleton.mp hy];exact e,Int.le_refl _⟩
    unfold kI
    rw [eg,h1]
    rfl
  rcases ho with ⟨rfl,no⟩ | ⟨b,hb,hnb,hf,rfl⟩
  ·exact .inl ⟨rfl,nf⟩
  ·exact absurd (hin (r:=b.1.2) (d:=b.1.1) ⟨b,hb,rfl,hnb⟩).1 z
end
end K1
namespace M4
variable {κ:Type} [DecidableEq κ]
structure Up (f D:κ→Option Int) (g:κ):Prop where
 up:∀k v,D k=some v→∃u,f k=some u∧u≤v
 goal:D g=some 0
noncomputable def relax (D:κ→Option Int) (e:Ed κ):κ→Option Int:=match D e.b with
 | none=>D
 | some u=>match D e.a with
  | none=>put D e.a (u+e.t)
  | some w=>if u+e.t < w then put D e.a (u+e.t) else D
noncomputable def Le (D D':κ→Option Int):Prop:=∀k v,D k=some v→∃v',D' k=some v'∧v'≤v
theorem Le.refl (D:κ→Option Int):Le D D:=fun k v h=>⟨v,h,Int.le_refl _⟩
theorem Le.trans {A B C:κ→Option Int} (h1:Le A B) (h2:Le B C):Le A C:=fun k v h=>by
 obtain ⟨v1,e1,l1⟩:=h1 k v h
 obtain ⟨v2,e2,l2⟩:=h2 k v1 e1
 exact ⟨v2,e2,Int.le_trans l2 l1⟩
theorem relax_cases (D:κ→Option Int) (e:Ed κ):(relax D e=D∧(D e.b=none∨∃u w,D e.b=some u∧D e.a=some w∧w≤u+e.t))∨∃u,D e.b=some u∧relax D e=put D e.a (u+e.t)∧∀w,D e.a=some w→u+e.t < w:=by
 cases hb:D e.b with
 | none=>exact .inl ⟨by unfold relax;rw [hb],.inl rfl⟩
 | some u=>
  cases ha:D e.a with
  | none=>exact .inr ⟨u,rfl,by unfold relax;rw [hb,ha],fun w z=>(nomatch z)⟩
  | some w=>
   by_cases lt:u+e.t < w
   ·exact .inr ⟨u,rfl,by unfold relax;rw [hb,ha];exact if_pos lt,fun w' z=>by cases z;exact lt⟩
   ·exact .inl ⟨by unfold relax;rw [hb,ha];exact if_neg lt,.inr ⟨u,w,rfl,rfl,by omega⟩⟩
theorem xu (D:κ→Option Int) (e:Ed κ):Le D (relax D e):=fun k v h=>by
 rcases relax_cases D e with ⟨r,_⟩ | ⟨u,hb,r,hn⟩
 ·rw [r]
  exact ⟨v,h,Int.le_refl _⟩
 ·rw [r]
  unfold put
  by_cases z:k=e.a
  ·rw [if_pos z]
   rw [z] at h
   exact ⟨_,rfl,Int.le_of_lt (hn v h)⟩
  ·rw [if_neg z]
   exact ⟨v,h,Int.le_refl _⟩
theorem Cr {D:κ→Option Int} {e:Ed κ} {u:Int} (h:D e.b=some u):∃v,relax D e e.a=some v∧v≤u+e.t:=by
 rcases relax_cases D e with ⟨r,hb | ⟨u',w,hb,ha,l⟩⟩ | ⟨u',hb,r,hn⟩
 ·rw [h] at hb
  cases hb
 ·rw [h] at hb
  cases hb
  exact ⟨w,by rw [r];exact ha,l⟩
 ·rw [h] at hb
  cases hb
  exact ⟨_,by rw [r];unfold put;rw [if_pos rfl],Int.le_refl _⟩
theorem MT {f D:κ→Option Int} {g:κ} (U:Up f D g) {a:κ} {v u:Int} (h:f a=some u) (l:u≤v) (hn:∀w,D a=some w→v < w) (hg:f g=some 0):Up f (put D a v) g:=by
 have ne:g≠a:=fun z=>by
  have:=hn 0 (by rw [←z];exact U.goal)
  rw [←z,hg] at h
  cases h
  omega
 refine ⟨fun k w hk=>?_,?_⟩
 ·unfold put at hk
  split at hk
  ·rename_i z
   cases hk
   exact ⟨u,by rw [z];exact h,l⟩
  ·exact U.up k w hk
 ·unfold put
  rw [if_neg ne]
  exact U.goal
section
variable {rs:List (Ed κ)} {f:κ→Option Int} {g:κ} (F:Fars rs f g) (hp:∀e∈rs,1≤e.t)
include F hp
theorem relax_up {D:κ→Option Int} (U:Up f D g) {e:Ed κ} (he:e∈rs):Up f (relax D e) g:=by
 rcases relax_cases D e with ⟨r,_⟩ | ⟨u,hu,r,hn⟩
 ·rw [r];exact U
 ·obtain ⟨u',h1,h2⟩:=U.up _ _ hu
  obtain ⟨v,h3,h4⟩:=F.back he h1
  rw [r]
  exact MT U h3 (by omega) hn (F.goal hp)
omit F hp in
noncomputable def Rnd (D0 D:κ→Option Int) (es:List (Ed κ)):Prop:=Le D0 D∧∀e∈es,∀u,D0 e.b=some u→∃v,D e.a=some v∧v≤u+e.t
omit F hp in
theorem Rnd.step {D0 D:κ→Option Int} {es:List (Ed κ)} (R:Le D0 D∧∀e∈es,∀u,D0 e.b=some u→∃v,D e.a=some v∧v≤u+e.t) (e:Ed κ):
  Le D0 (relax D e)∧∀e'∈es++[e],∀u,D0 e'.b=some u→∃v,relax D e e'.a=some v∧v≤u+e'.t:=by
 refine ⟨R.1.trans (xu D e),fun e' he u hu=>?_⟩
 rcases List.mem_append.mp he with z | z
 ·obtain ⟨v,h1,h2⟩:=R.2 e' z u hu
  obtain ⟨v',h3,h4⟩:=xu D e _ _ h1
  exact ⟨v',h3,by omega⟩
 ·rw [List.mem_singleton.mp z] at hu ⊢
  obtain ⟨u',h1,h2⟩:=R.1 _ _ hu
  obtain ⟨v,h3,h4⟩:=Cr (e:=e) h1
  exact ⟨v,h3,by omega⟩
omit F hp in
noncomputable def bad (f D:κ→Option Int) (k:κ):Bool:=(f k).isSome && decide (D k≠f k)
omit F hp in
theorem xx {D:κ→Option Int} (U:Up f D g) {k:κ} {u v:Int} (hu:f k=some u) (hv:D k=some v) (l:v≤u):D k=f k:=by
 obtain ⟨u',h1,h2⟩:=U.up _ _ hv
 rw [hu] at h1
 cases h1
 rw [hv,hu]
 congr 1
 omega
theorem round {ns:List κ} (hin:∀e∈rs,e.b∈ns) {D0 D:κ→Option Int} (U0:Up f D0 g) (U:Up f D g) (R:Le D0 D∧∀e∈rs,∀u,D0 e.b=some u→∃v,D e.a=some v∧v≤u+e.t):
  ns.countP (bad f D) < ns.countP (bad f D0)∨ns.countP (bad f D)=0:=by
 have mono:∀k,bad f D k=true→bad f D0 k=true:=fun k h=>by
  unfold bad at h ⊢
  simp only [Bool.and_eq_true,decide_eq_true_eq] at h ⊢
  refine ⟨h.1,fun z=>h.2 ?_⟩
  obtain ⟨u,hu⟩:=Option.isSome_iff_exists.mp h.1
  rw [hu] at z
  obtain ⟨v,h1,h2⟩:=R.1 _ _ z
  exact xx U hu h1 h2
 by_cases all:∃k∈ns,bad f D0 k=true
 ·-- the nearest bad one
  have near:∀(n:Nat) (k:κ) (u:Int),u.toNat=n→k∈ns→f k=some u→bad f D0 k=true→∃k∈ns,∃u,f k=some u∧bad f D0 k=true∧∀k'∈ns,∀u',f k'=some u'→u' < u→bad f D0 k'=false:=by
   intro n
   induction n using Nat.strongRecOn with
   | _ n ih=>
    intro k u hn hk hu hb
    by_cases h:∃k'∈ns,∃u',f k'=some u'∧u' < u∧bad f D0 k'=true
    ·obtain ⟨k',m,u',h1,h2,h3⟩:=h
     have h0:=(F.path _ _ h1).nonneg hp
     exact ih u'.toNat (by omega) k' u' rfl m h1 h3
    ·refine ⟨k,hk,u,hu,hb,fun k' m u' h1 h2=>?_⟩
     cases hb':bad f D0 k' with
     | false=>rfl
     | true=>exact absurd ⟨k',m,u',h1,h2,hb'⟩ h
  obtain ⟨k0,m0,b0⟩:=all
  have s0:(f k0).isSome=true:=by unfold bad at b0;simp only [Bool.and_eq_true] at b0;exact b0.1
  obtain ⟨u0,hu0⟩:=Option.isSome_iff_exists.mp s0
  obtain ⟨k,hk,u,hu,hb,hmin⟩:=near _ k0 u0 rfl m0 hu0 b0
  have kg:k≠g:=fun z=>by
   unfold bad at hb
   rw [z,U0.goal,F.goal hp] at hb
   simp at hb
  obtain ⟨_,e,he,u',ea,eb,ev⟩:=F.other hp kg hu
  have ht:=hp e he
  have ok:=hmin e.b (hin e he) u' eb (by omega)
  have ex:D0 e.b=some u':=by
   unfold bad at ok
   rw [eb] at ok
   simpa using ok
  obtain ⟨v,h1,h2⟩:=R.2 e he u' ex
  rw [ea] at h1
  have fin:=xx U hu h1 (by omega)
  refine .inl (count_lt mono (b:=k) ?_ hb hk)
  unfold bad
  rw [fin]
  simp
 ·refine .inr ?_
  rw [List.countP_eq_zero]
  exact fun k hk h=>all ⟨k,hk,mono k h⟩
end
end M4
namespace K1
open PySem L2 L3 M1
noncomputable abbrev toD (hs:List (List Nat)) (ds:List M1.Rd) (g:Str):Str→Option Int:=fun k=>M4.dist (eds hs ds) k g
theorem G9 {hs:List (List Nat)} {ds:List M1.Rd} (R:∀d∈ds,d.Ok hs.length) {h g:Str} {u:Int} (p:M4.Path (eds hs ds) h g u) (hm:g∈hs.map S):h∈hs.map S:=by
 rcases p.first with ⟨e,_⟩ | ⟨e,he,u',ea,_⟩
 ·rw [e];exact hm
 ·obtain ⟨d,hd,rfl⟩:=List.mem_map.mp he
  rw [←ea]
  exact eZ (R d hd).a
theorem xF {hs:List (List Nat)} {ds:List M1.Rd} (R:∀d∈ds,d.Ok hs.length) (h9:∀e∈eds hs ds,1≤e.t) {g:Str} (hg:g∈hs.map S) {D:Str→Option Int} (U:M4.Up (toD hs ds g) D g) (z:(hs.map S).countP (M4.bad (toD hs ds g) D)=0):D=toD hs ds g:=by
 funext k
 cases e:toD hs ds g k with
 | none=>
  cases e2:D k with
  | none=>rfl
  | some v=>
   obtain ⟨u,hu,_⟩:=U.up _ _ e2
   rw [e] at hu
   cases hu
 | some u=>
  have hk:=G9 R ((M4.fars h9 g).path k u e) hg
  have nb:=(List.countP_eq_zero.mp z) k hk
  unfold M4.bad at nb
  rw [e] at nb
  simpa using nb
noncomputable def za (K:PySem.W.Frag):Sp:=fun vs H Q _=>∃(b c:Addr) (hs:List (List Nat)) (rs:List Addr) (ds:List M1.Rd) (g:Str),vs=[.ref b,.ref c,.str g]∧SqL K H b (refs rs)∧SqL K H c (txs hs)∧bI H hs rs ds∧hs.length≤12∧g∈hs.map S∧
 ∀(p:Addr) (H':Hp) (kvs:List (Key × L2.V)),H p=none→aB H H'→H' p=some (.dK kvs)→Tab kvs (toD hs ds g)→Q (.ref p) H'
section
variable {P:Program} {w:World} {K:PySem.W.Frag} {mg:Str→Option Value} {base:Heap}
noncomputable abbrev xG:Stmt:=top 41
theorem rD:aH ["_law_lines","_law_names","_law_goal","_law_told","_law_k","_law_line","_law_there"] ["_law_lines","_law_names","_law_goal"] (aC xG):=⟨rfl,rfl,rfl,by decide+kernel,rfl,by decide+kernel,by decide+kernel⟩
theorem JM {f:Addr} {fd:FuncData} (F:Fun K "_law_fars" "_law_fars" xG f fd):aD P w K mg base CX0 1 f fd ["_law_lines","_law_names","_law_goal"] (za K):=by
 refine F.ok rD (fun vs H Q E h=>?_) (fun cdv A outer s H vs Q E hr h=>?_)
 ·obtain ⟨b,c,hs,rs,ds,g,rfl,_⟩:=h
  rfl
 ·obtain ⟨b,c,hs,rs,ds,g,rfl,hb,hc,hR,few,hg,q⟩:=h
  refine ⟨_,(ao (aL (i:=3) rD.nd rfl (Or.inl rfl) (zF (vY (pv 2) au zE) rfl rfl (by intro z;cases z) (by decide)))
   (ao (dI PassesOwn.never rfl (bC (pv 1)) (aJ (i:=4) rD.nd rfl (Or.inl rfl))
    (az (dI PassesOwn.never rfl (bC (pv 0)) (aJ (i:=5) rD.nd rfl (Or.inl rfl))
    (az (cI (uc (DK (cQ hr) (aK aP (pv 5) au (fun _ _=>rfl)) (pv 3))) (ao (aL (i:=6) rD.nd rfl (Or.inl rfl) (aM cu (d8 (cQ hr) (pv 3) (aK aP (pv 5) au (fun _ _=>rfl)) (fun _ _=>rfl)) (aK aP (pv 5) au (fun _ _=>rfl))))
   (az (cI (PW.pt (zj (uc (kY (cQ hr) (aK aP (pv 5) au (fun _ _=>rfl)) (pv 3))) (ud (bK vI (pv 6) (d8 (cQ hr) (pv 3) (aK aP (pv 5) au (fun _ _=>rfl)) (fun _ _=>rfl)) (bG _))))) (az (pC (cQ hr) (pv 3) (aK aP (pv 5) au (fun _ _=>rfl)) (pv 6) rfl)) bw))) bw)))))
   (az (aU (pv 3))))),?_⟩
  have h9:∀e∈eds hs ds,1≤e.t:=fun e he=>by
   obtain ⟨d,hd,rfl⟩:=List.mem_map.mp he
   exact (hR.ok d hd).t.1
  have FA:M4.Fars (eds hs ds) (toD hs ds g) g:=M4.fars h9 g
  have hlen:=hR.len
  refine fun p hp=>⟨_,rfl,aj,[(Sum.inr g,.int 0)],rfl,(by show 1≤15;decide),?_⟩
  have e0:upd (upd H p (.dK [])) p (.dK (lU [] [((Sum.inr g:Key),V.int 0)]))=upd H p (.dK [((Sum.inr g:Key),V.int 0)]):=by
   rw [t7]
   rfl
  rw [e0]
  have s0:aB H (upd H p (.dK [((Sum.inr g:Key),V.int 0)])):=aF hp
  have T0:Tab [((Sum.inr g:Key),V.int 0)] (fun k=>if k=g then some 0 else none):=⟨fun k=>by
   by_cases z:k=g
   ·rw [cz (congrArg Sum.inr z.symm),if_pos z]
    rfl
   ·rw [b7 fun y=>z (Sum.inr.inj y).symm,if_neg z]
    rfl,fun kv hk=>⟨g,by rw [List.mem_singleton.mp hk]⟩⟩
  have c0:0 < (hs.map S).countP fun k=>((if k=g then some (0:Int) else none).isSome):=List.countP_pos_iff.mpr ⟨g,hg,by simp⟩
  have U0:M4.Up (toD hs ds g) (fun k=>if k=g then some 0 else none) g:=by
   refine ⟨fun k v h=>?_,if_pos rfl⟩
   split at h
   ·rename_i z
    cases h
    exact ⟨0,by rw [z];exact FA.goal h9,Int.le_refl _⟩
   ·cases h
  refine ⟨_,rfl,c,rfl,⟨_,s0.seq hc⟩,?_⟩
  refine dJ (xs:=txs hs) (fun i σ Hc=>∃(kvs:List (Key × L2.V)) (D:Str→Option Int) (v1 v2 v3:Option L2.V),σ=[some (.ref b),some (.ref c),some (.str g),some (.ref p),v1,v2,v3]∧aB H Hc∧Hc p=some (.dK kvs)∧Tab kvs D∧
   kvs.length≤(hs.map S).countP (fun k=>(D k).isSome)∧M4.Up (toD hs ds g) D g∧((hs.map S).countP (M4.bad (toD hs ds g) D)+i≤hs.length∨(hs.map S).countP (M4.bad (toD hs ds g) D)=0))
   ⟨_,_,none,none,none,rfl,s0,aj,T0,c0,U0,.inl (by have:=List.countP_le_length (p:=M4.bad (toD hs ds g) (fun k=>if k=g then some 0 else none)) (l:=hs.map S);rw [List.length_map] at this;omega)⟩ ?_ ?_ ?_
  ·rintro i σ Hc hi ⟨kvs,D,v1,v2,v3,rfl,sm,_⟩
   exact sm.seq hc
  ·rintro i v σ Hc ev ⟨kvs,D0,v1,v2,v3,rfl,sm,hk,T,len,U,bd⟩
   refine ⟨_,rfl,b,rfl,⟨_,sm.seq hb⟩,?_⟩
   refine dJ (xs:=refs rs) (fun j σ Hc=>∃(kvs:List (Key × L2.V)) (D:Str→Option Int) (v2 v3:Option L2.V),σ=[some (.ref b),some (.ref c),some (.str g),some (.ref p),some v,v2,v3]∧aB H Hc∧Hc p=some (.dK kvs)∧Tab kvs D∧
    kvs.length≤(hs.map S).countP (fun k=>(D k).isSome)∧M4.Up (toD hs ds g) D g∧(M4.Le D0 D∧∀e∈eds hs (ds.take j),∀u,D0 e.b=some u→∃w,D e.a=some w∧w≤u+e.t))
    ⟨kvs,D0,v2,v3,rfl,sm,hk,T,len,U,M4.Le.refl _,fun e he=>by simp [eds] at he⟩ ?_ ?_ ?_
   ·rintro j σ Hd hj ⟨kvs,D,v2,v3,rfl,sm,_⟩
    exact sm.seq hb
   ·rintro j z σ Hd ez ⟨kvs0,D,v2,v3,rfl,sm,hk,T,len,U,R⟩
    unfold refs at ez
    rw [List.getElem?_map] at ez
    obtain ⟨r,er,rfl⟩:=Option.map_eq_some_iff.mp ez
    obtain ⟨d,edd,okd,hd⟩:=hR.get er
    have hmem:ed hs d∈eds hs ds:=List.mem_map.mpr ⟨d,List.mem_of_getElem? edd,rfl⟩
    have etk:eds hs (ds.take (j+1))=eds hs (ds.take j)++[ed hs d]:=by
     unfold eds
     rw [List.take_add_one,edd,List.map_append]
     rfl
    have R':=M4.Rnd.step R (ed hs d)
    rw [←etk] at R'
    have U':=M4.relax_up FA h9 U hmem
    have hrt:=sm _ _ hd
    have ga:=fX.k (k:=Sum.inr (S (hs.getD d.a []))) hk
    have gb:=fX.k (k:=Sum.inr (S (hs.getD d.b []))) hk
    rw [T.at_] at ga gb
    have cl:(hs.map S).countP (fun k=>(D k).isSome)≤hs.length:=by
     have:=List.countP_le_length (p:=fun k=>(D k).isSome) (l:=hs.map S)
     rwa [List.length_map] at this
    have put_ok:∀u:Int,D (S (hs.getD d.b []))=some u→(∀w,D (S (hs.getD d.a []))=some w→u+d.t < w)→∀σ,σ=[some (V.ref b),some (.ref c),some (.str g),some (.ref p),some v,some (.ref r),some (.int (u+d.t))]→
      ∃(kvs:List (Key × L2.V)) (D:Str→Option Int) (v2 v3:Option L2.V),σ=[some (.ref b),some (.ref c),some (.str g),some (.ref p),some v,v2,v3]∧aB H (upd Hd p (.dK (putK kvs0 (Sum.inr (S (hs.getD d.a [])):Key) (.int (u+d.t)))))∧(upd Hd p (.dK (putK kvs0 (Sum.inr (S (hs.getD d.a [])):Key) (.int (u+d.t))))) p=some (.dK kvs)∧Tab kvs D∧
    kvs.length≤(hs.map S).countP (fun k=>(D k).isSome)∧M4.Up (toD hs ds g) D g∧(M4.Le D0 D∧∀e∈eds hs (ds.take (j+1)),∀u,D0 e.b=some u→∃w,D e.a=some w∧w≤u+e.t):=by
     intro u hu hn σ eσ
     have er:M4.relax D (ed hs d)=M4.put D (S (hs.getD d.a [])) (u+d.t):=by
      rcases M4.relax_cases D (ed hs d) with ⟨_,hb' | ⟨u',w',hb',ha',l⟩⟩ | ⟨u',hb',r',_⟩
      ·exact absurd (hu.symm.trans hb') (by intro y;cases y)
      ·have e1:u=u':=Option.some.inj (hu.symm.trans hb')
       have:=hn w' ha'
       have l':w'≤u'+d.t:=l
       omega
      ·have e1:u=u':=Option.some.inj (hu.symm.trans hb')
       rw [r',←e1]
       rfl
     rw [er] at R' U'
     refine ⟨_,_,_,_,eσ,aY hp sm,aj,T.put _ _,?_,U',R'⟩
     cases ha:D (S (hs.getD d.a [])) with
     | none=>
      have e1:(putK kvs0 (Sum.inr (S (hs.getD d.a [])):Key) (V.int (u+d.t))).length=kvs0.length+1:=by
       rw [jh _ (by rw [T.at_,ha];rfl),List.length_append]
       rfl
      have e2:(hs.map S).countP (fun k=>(D k).isSome) < (hs.map S).countP (fun k=>(M4.put D (S (hs.getD d.a [])) (u+d.t) k).isSome):=
       M4.count_lt (b:=S (hs.getD d.a [])) (fun k hk=>by unfold M4.put;split;rfl;exact hk) (by rw [ha];rfl) (by unfold M4.put;rw [if_pos rfl];rfl) (eZ okd.a)
      exact Nat.le_trans (Nat.le_of_eq e1) (by omega)
     | some w'=>
      have e1:(putK kvs0 (Sum.inr (S (hs.getD d.a [])):Key) (V.int (u+d.t))).length=kvs0.length:=qM _ (by rw [T.at_,ha];rfl)
      have e2:(hs.map S).countP (fun k=>(D k).isSome)≤(hs.map S).countP (fun k=>(M4.put D (S (hs.getD d.a [])) (u+d.t) k).isSome):=
       M4.count_le (fun k hk=>by unfold M4.put;split;rfl;exact hk) _
      exact Nat.le_trans (Nat.le_of_eq e1) (by omega)
    have same_ok:M4.relax D (ed hs d)=D→∀σ v3',σ=[some (V.ref b),some (.ref c),some (.str g),some (.ref p),some v,some (.ref r),v3']→∃(kvs:List (Key × L2.V)) (D:Str→Option Int) (v2 v3:Option L2.V),σ=[some (.ref b),some (.ref c),some (.str g),some (.ref p),some v,v2,v3]∧aB H Hd∧Hd p=some (.dK kvs)∧Tab kvs D∧
    kvs.length≤(hs.map S).countP (fun k=>(D k).isSome)∧M4.Up (toD hs ds g) D g∧(M4.Le D0 D∧∀e∈eds hs (ds.take (j+1)),∀u,D0 e.b=some u→∃w,D e.a=some w∧w≤u+e.t):=by
     intro er σ v3' eσ
     rw [er] at R' U'
     exact ⟨kvs0,D,_,_,eσ,sm,hk,T,len,U',R'⟩
    refine ⟨_,rfl,r,_,_,_,rfl,rfl,SqT.of hrt,rfl,_,rfl,p,_,rfl,gb,_,rfl,?_⟩
    cases hb':D (S (hs.getD d.b [])) with
    | none=>
     refine gw rfl (same_ok ?_ _ _ rfl)
     unfold M4.relax
     rw [show D (ed hs d).b=none from hb']
    | some u=>
     rw [hb'] at gb
     refine eY rfl ⟨_,rfl,_,rfl,r,_,_,_,rfl,rfl,SqT.of hrt,rfl,p,_,rfl,gb,_,rfl,r,_,_,_,rfl,rfl,SqT.of hrt,rfl,_,_,rfl,rfl,?_⟩
     refine ⟨_,rfl,r,_,_,_,rfl,rfl,SqT.of hrt,rfl,_,rfl,p,_,rfl,ga,_,rfl,?_⟩
     cases ha':D (S (hs.getD d.a [])) with
     | none=>
      refine eY rfl (jR ⟨_,rfl,_,rfl,_,rfl,r,_,_,_,rfl,rfl,SqT.of hrt,rfl,p,_,rfl,p8.k (k:=Sum.inr (S (hs.getD d.a []))) hk (aG (by omega)),?_⟩)
      exact put_ok u hb' (fun w' z=>by rw [ha'] at z;cases z) _ rfl
     | some w'=>
      rw [ha'] at ga
      refine gw rfl ⟨_,rfl,_,rfl,_,rfl,r,_,_,_,rfl,rfl,SqT.of hrt,rfl,p,_,rfl,ga,_,_,rfl,rfl,_,rfl,?_⟩
      by_cases lt:u+d.t < w'
      ·refine eY (decide_eq_true lt) ⟨_,rfl,_,rfl,_,rfl,r,_,_,_,rfl,rfl,SqT.of hrt,rfl,p,_,rfl,p8.k (k:=Sum.inr (S (hs.getD d.a []))) hk (aG (by omega)),?_⟩
       exact put_ok u hb' (fun w'' z=>by rw [ha'] at z;cases z;exact lt) _ rfl
      ·refine gw (decide_eq_false lt) (same_ok ?_ _ _ rfl)
       unfold M4.relax
       rw [show D (ed hs d).b=some u from hb',show D (ed hs d).a=some w' from ha']
       exact if_neg lt
   ·rintro σ Hd ⟨kvs,D,v2,v3,rfl,sm,hk,T,len,U',R⟩
    refine ⟨kvs,D,_,v2,v3,rfl,sm,hk,T,len,U',?_⟩
    rw [aN,hlen,List.take_length] at R
    rcases M4.round FA h9 (ns:=hs.map S) (fun e he=>by obtain ⟨d,hd,rfl⟩:=List.mem_map.mp he;exact eZ (hR.ok d hd).b) U U' R with lt | z
    ·rcases bd with y | y
     ·exact .inl (by omega)
     ·omega
    ·exact .inr z
  ·rintro σ Hc ⟨kvs,D,v1,v2,v3,rfl,sm,hk,T,len,U,bd⟩
   have z:(hs.map S).countP (M4.bad (toD hs ds g) D)=0:=by
    rcases bd with y | y
    ·unfold txs at y
     rw [List.length_map] at y
     omega
    ·exact y
   have eD:=xF hR.ok h9 hg U z
   rw [eD] at T
   exact ⟨_,rfl,q p Hc kvs hp sm hk T⟩
end
end K1
namespace L3
open PySem PySem.Spec PyProof.Rows L2
theorem dX:∀(names:List (Str × NameKind)) (n:Nat) (acc:List (Str × Addr)),cellsFrom n names acc=cellsFrom n names []++acc
 | [],_,_=>rfl
 | (x,k)::r,n,acc=>by
  unfold cellsFrom
  split
  ·rw [dX r _ ((x,n)::acc),dX r _ [(x,n)],List.append_assoc]
   rfl
  ·exact dX r n acc
theorem o8 {α:Type} {x:Str} {c:α}:∀{l r:List (Str × α)},l.lookup x=some c→(l++r).lookup x=some c
 | [],_,h=>by simp at h
 | (y,v)::l,r,h=>by
  rw [List.cons_append,List.lookup_cons]
  rw [List.lookup_cons] at h
  cases q:x==y with
  | true=>rw [q] at h;exact h
  | false=>rw [q] at h;exact o8 h
theorem rE {α:Type} {x:Str} {c:α}:∀{l r:List (Str × α)},(l++r).lookup x=some c→l.lookup x=some c∨r.lookup x=some c
 | [],_,h=>.inr h
 | (y,v)::l,r,h=>by
  rw [List.cons_append,List.lookup_cons] at h
  rw [List.lookup_cons]
  cases q:x==y with
  | true=>rw [q] at h;exact .inl h
  | false=>rw [q] at h;exact rE h
theorem rR {M:Model} {A:Around} {E:Value→Shared→Prop} {s:Shared} {scope:Scope} {globals:Addr} {cl:List (Str × Addr)} {qual:Str} {outer:Env} {Q:Env→Shared→Prop}
  (h:∀h1:Heap,h1.Ns s.heap.objs.size (fun _=>none)→(∀b o,s.heap.get? b=some o→h1.get? b=some o)→CellsOk h1 (s.heap.objs.size+1) (cellsFrom (s.heap.objs.size+1) scope.names [])→
   Q (newEnv scope s.heap.objs.size globals (cellsFrom (s.heap.objs.size+1) scope.names cl) qual none .none (some outer) builtinsNs) {s with heap:=h1}):
  wpAny M A (newFunctionEnv scope globals cl [] qual none .none (some outer)) Q E s:=by
 simp only [newFunctionEnv,Option.isSome_some,if_true]
 refine wpAny_bind (wpAny_alloc ?_)
 refine wpAny_bind (wpAny_layCells _ (fun name kind cells=>by cases hkc:kind==NameKind.cell <;> simp [hkc]) _ _ _ _ ?_)
 have ok:=cellsFrom_ok scope.names (s.heap.push {cls:=.type "dict",data:=.dict #[]}) (s.heap.objs.size+1) [] ⟨fun _ _ hm=>(nomatch hm),List.Pairwise.nil⟩ (by rw [Heap.size_push];exact Nat.le_refl _)
 rw [Heap.size_push] at ok
 rw [show ({s with heap:=s.heap.push {cls:=.type "dict",data:=.dict #[]}}:Shared).heap.objs.size=s.heap.objs.size+1 from Heap.size_push ..]
 exact wpAny_bind (wpAny_pure (wpAny_pure (h _ ((Heap.Ns.new s.heap (.type "dict")).keeps (pushCells_keeps _ _)) (fun b o e=>pushCells_keeps _ _ b o (Heap.get?_push_of_some _ e)) ok)))
noncomputable def gZ (X:Cx) (N':List Str) (scope:Scope) (cl:List (Str × Addr)) (C:Addr) (s3:Shared) (H3:Hp) (fp:List Addr) (pn:List (Addr × Obj)):Cx:=
 {eE X N' scope (cellsFrom (C+1) scope.names cl) C s3 H3 fp pn with fn:=fun x=>decide (scope.names.lookup x=some .cell)}
section
variable {X:Cx} {elt tg iter:Expr} {ifs:List Expr} {scope:Scope} {pos:Pos} {N':List Str} {cs:List (Option Nat)} {cl:List (Str × Addr)} {wi:TI} {g:TG} {tt:TT} {te:TE}
theorem JN {use:Option (Value→Sem Unit)} {QQ:Value→Shared→Prop} {pins:List (Addr × Obj)} {s:Shared} {σ:St} {H:Hp} {Q:VK} {fpos:Pos} (hc:X.calm=true) (hi:PI X tg iter wi) (hclos:closureFor scope X.env=pure cl) (hkind:scope.kind=.function)
  (hnames:∀y∈scope.names,y.2=.local→scope.names.lookup y.1=some .local) (hsub:∀x c,cl.lookup x=some c→X.env.cells.lookup x=some c)
  (hok:∀C,Bh (cellsFrom (C+1) scope.names cl) (relabel scope X.env).names=true) (hcaps:∀C,mQ X scope (cellsFrom (C+1) scope.names cl) N' cs)
  (hb:∀(C:Addr) (s3:Shared) (H3:Hp) (fp:List Addr) (pn:List (Addr × Obj)),PG (gZ X N' scope cl C s3 H3 fp pn) tg g∧yh (gZ X N' scope cl C s3 H3 fp pn) ifs tt∧PE (gZ X N' scope cl C s3 H3 fp pn) elt te)
  (hs:∀x,foldedSetIterable iter X.env x=pure x:=by intro _;rfl) (I:Inv X pins σ H s) (h:tLC wi cs g tt te σ H Q)
  (post:∀(D C:Addr) (s4:Shared) (H':Hp) (m:Str→Option Value),Inv X pins σ H' s4→s4.heap.Ns C m→rH X pins H' C→Q (.ref D) H'→compPost (model X.prog X.w) X.A X.xe use QQ (.ref D) C (.ok .next) s4):
  wpAny (model X.prog X.w) X.A (comprehension (.ListComp elt [⟨tg,iter,ifs,0⟩] scope pos) scope X.env fpos (newList []) false (eval iter X.env) use) QQ X.xe s:=by
 refine wpAny_comprehension_free (use:=use) rfl hs hclos hkind hnames (thn (hi pins s σ H _ I h) fun v s1 h1=>thn h1 fun itv s2 h2=>?_)
 obtain ⟨it,fp,tn,J,H2,rfl,I2,T,st2,f2,q2⟩:=h2
 refine wpAny_newObj_type (rR fun h1 hns1 kept0 cok=>?_)
 dsimp only at hns1 kept0 cok ⊢
 have I3:Inv X pins σ (upd H2 s2.heap.objs.size (.lst [])) {s2 with heap:=s2.heap.push {cls:=.type "list",data:=.seq ([]:List Value).toArray},toks:=s2.toks}:=I2.lnew (its:=[]) (ys:=[]) .nil (Nat.zero_le _)
 have hDf:H2 s2.heap.objs.size=none:=I2.fresh
 obtain ⟨W,⟨m0,w0⟩,turn⟩:=q2 _ hDf
 generalize hH3:s2.heap.push {cls:=.type "list",dict:=none,data:=.seq ([]:List Value).toArray}=h3 at hns1 kept0 cok I3 ⊢
 have hsz3:h3.objs.size=s2.heap.objs.size+1:=by rw [←hH3,Heap.size_push]
 generalize hD:s2.heap.objs.size=D at *
 have kept:∀b o,h3.get? b=some o→h1.get? b=some o:=kept0
 have old:∀b o,s2.heap.get? b=some o→h3.get? b=some o:=fun b o e=>by rw [←hH3];exact Heap.get?_push_of_some _ e
 have fpo:∀b∈fp,b < D:=fun b hb'=>by
  obtain ⟨o,e,_⟩:=T.obj 0 _ st2 b hb'
  rw [←hD]
  exact Heap.lt_size e
 have fpfs:∀b∈fp,b∉frs X.stack:=fun b hb' z=>by
  obtain ⟨_,f1,f3,_⟩:=f2 b hb'
  rcases List.mem_cons.mp (I2.stkSub b z) with e | e
  ·exact f1 e
  ·exact f3 e
 have cl3:∀x c,cl.lookup x=some c→c < h3.objs.size:=fun x c e=>by
  obtain ⟨v,o,ho,_⟩:=I3.cell x c (hsub _ _ e)
  exact Heap.lt_size ho
 have cel:∀x c,(cellsFrom (h3.objs.size+1) scope.names cl).lookup x=some c→((x,c)∈cellsFrom (h3.objs.size+1) scope.names []∧h1.IsCell c none∧h3.objs.size < c)∨(cl.lookup x=some c∧c < h3.objs.size):=fun x c e=>by
  rw [dX] at e
  rcases rE e with q | q
  ·exact .inl ⟨mem_of_lookup q,(cok.empty x c (mem_of_lookup q)).1,(cok.empty x c (mem_of_lookup q)).2⟩
  ·exact .inr ⟨q,cl3 x c q⟩
 generalize hX:gZ X N' scope cl h3.objs.size {s2 with heap:=h3,toks:=s2.toks} (upd H2 D (.lst [])) fp (X.pn++pins)=X'
 obtain ⟨hg,hif,he⟩:=hb h3.objs.size {s2 with heap:=h3,toks:=s2.toks} (upd H2 D (.lst [])) fp (X.pn++pins)
 rw [hX] at hg hif he
 have eP:X'.prog=X.prog:=by rw [←hX];rfl
 have eW:X'.w=X.w:=by rw [←hX];rfl
 have eK:X'.K=X.K:=by rw [←hX];rfl
 have eC:X'.calm=X.calm:=by rw [←hX];rfl
 have I4:Inv X' [] (fQ cs σ) (upd H2 D (.lst [])) {s2 with heap:=h1,toks:=s2.toks}:=by
  rw [←hX]
  refine ⟨⟨I3.ok.mod,hkind,I3.ok.glob,I3.ok.blt,Nat.le_refl _,fun x y c e1 e2=>?_,fun x hx=>vO (hok _) hx,fun x c z e=>?_,I3.ok.hd,I3.ok.frames,.inl rfl,
   fun b hb'=>⟨fun e=>?_,fun x c e=>?_⟩,I3.bs,Nat.le_trans I3.ok.bsz I3.sz,fun b o e hb'=>?_,fpfs,I3.stack,I3.stkFree⟩,rfl,I3.bare,Un.kept kept,⟨_,hns1,fun i x v e1 e2 e3=>?_⟩,fun x c e=>?_,I3.hok.fresh (Nat.le_refl _),fun x c e=>?_,
   fun p hp=>?_,I3.hok.kept kept,?_⟩
  ·rcases cel x c e1 with ⟨m1,_,l1⟩ | ⟨m1,l1⟩ <;> rcases cel y c e2 with ⟨m2,_,l2⟩ | ⟨m2,l2⟩
   ·exact name_of_addr cok.apart m1 m2
   ·exact absurd (Nat.lt_trans l1 l2) (Nat.lt_irrefl _)
   ·exact absurd (Nat.lt_trans l2 l1) (Nat.lt_irrefl _)
   ·exact I3.ok.inj x y c (hsub _ _ m1) (hsub _ _ m2)
  ·have own:=PySem.W.cellsFrom_some scope.names (h3.objs.size+1) [] (.inl (of_decide_eq_true (show decide (scope.names.lookup x=some .cell)=true from z)))
   obtain ⟨c',e'⟩:=Option.isSome_iff_exists.mp own
   have e2:(cellsFrom (h3.objs.size+1) scope.names cl).lookup x=some c:=e
   rw [dX,o8 e'] at e2
   cases e2
   exact Nat.le_of_lt (cok.empty x _ (mem_of_lookup e')).2
  ·have l:=fpo b hb'
   rw [show b=h3.objs.size from e,hsz3] at l
   exact Nat.lt_irrefl _ (Nat.lt_of_succ_lt l)
  ·rcases cel x c e with ⟨_,_,l1⟩ | ⟨m1,_⟩
   ·intro z
    have l:=fpo b hb'
    rw [z,hsz3] at l1
    exact absurd (Nat.lt_trans (Nat.lt_of_succ_lt l1) l) (Nat.lt_irrefl _)
   ·exact (f2 b hb').2.2.2.2.1 x c (hsub _ _ m1)
  ·have l:=fpo b hb'
   rcases (f2 b hb').2.2.2.1 with z | z
   ·exact I2.ok.noex b o e z
   ·exact absurd (Nat.lt_of_lt_of_le (Heap.lt_size (I2.ok.bs b o e).1) z) (Nat.lt_irrefl _)
  ·obtain ⟨j,a1,a2,a3,a4,a5⟩:=(hcaps _).get e1 e2
   obtain ⟨m,hn,hl⟩:=I3.loc
   obtain ⟨u,ru,l⟩:=hl j x v a1 a2 (by rcases a3 with z | z;exact .inr (.inl z);exact .inr (.inr z))
   refine ⟨u,ru,.inr ⟨a4,?_⟩⟩
   rcases l with ⟨k,_⟩ | ⟨k,c,e,z⟩
   ·rcases a3 with q | q <;> (rw [k] at q;cases q)
   ·obtain ⟨o,ho,hd⟩:=z
    exact ⟨c,a5.trans e,o,kept c o ho,hd⟩
  ·rcases cel x c e with ⟨_,q,_⟩ | ⟨q,_⟩
   ·exact ⟨none,q⟩
   ·obtain ⟨v,o,ho,hd⟩:=I3.cell x c (hsub _ _ q)
    exact ⟨v,o,kept c o ho,hd⟩
  ·rcases cel x c e with ⟨_,q,l1⟩ | ⟨q,_⟩
   ·exact I3.hok.fresh (Nat.le_of_lt l1)
   ·exact I3.freeC x c (hsub _ _ q)
  ·have hp':p∈X.pn++pins:=by simpa [gZ,eE] using hp
   obtain ⟨e,n,ne,nf,d⟩:=I3.pin p hp'
   refine ⟨kept _ _ e,n,Nat.ne_of_lt (Heap.lt_size e),fun z=>?_,d⟩
   rcases List.mem_cons.mp (I3.stkSub p.1 z) with q | q
   ·exact ne q
   ·exact nf q
  ·show (fQ cs σ).length=N'.length
   rw [fQ,List.length_map]
   exact (hcaps 0).len
 have tn1:tn 0 h1:=T.keep 0 _ _ st2 fun b hb' o e=>kept b o (old b o e)
 have stat:∀{H':Hp},(∀b∈fp,H' b=none)→∀b∈fp,rH X' [] H' b:=fun {H'} hn b hb'=>by
  rw [←hX]
  refine ⟨hn b hb',fun e=>?_,fpfs b hb',.inl hb',fun x c e=>?_,fun p hp=>(f2 b hb').2.2.2.2.2 p (by simpa [gZ,eE] using hp)⟩
  ·have l:=fpo b hb'
   rw [show b=h3.objs.size from e,hsz3] at l
   exact Nat.lt_irrefl _ (Nat.lt_of_succ_lt l)
  ·rcases cel x c e with ⟨_,_,l1⟩ | ⟨m1,_⟩
   ·intro z
    have l:=fpo b hb'
    rw [z,hsz3] at l1
    exact absurd (Nat.lt_trans (Nat.lt_of_succ_lt l1) l) (Nat.lt_irrefl _)
   ·exact (f2 b hb').2.2.2.2.1 x c (hsub _ _ m1)
 have fr0:∀b∈fp,(upd H2 D (.lst [])) b=none:=fun b hb'=>by
  rw [ak (Nat.ne_of_lt (fpo b hb'))]
  exact (f2 b hb').1
 have xA:X'.A=X.A:=by rw [←hX];rfl
 have xE:X'.env=compEnvC scope (cellsFrom (h3.objs.size+1) scope.names cl) h3.objs.size X.env:=by rw [←hX];rfl
 have xX:X'.xe=NoX:=by rw [←hX];rfl
 have loop:codeAny (model X.prog X.w) X.A (.compLoop (.ListComp elt [⟨tg,iter,ifs,0⟩] scope pos) 0 (.ref it) (.ref D) (compEnvC scope (cellsFrom (h3.objs.size+1) scope.names cl) h3.objs.size X.env))
   (compPost (model X.prog X.w) X.A X.xe use QQ (.ref D) h3.objs.size) {s2 with heap:=h1,toks:=s2.toks}:=by
  refine pX (fun n s'=>∃i ys σ' H',Inv X' [] σ' H' s'∧tn i s'.heap∧(∀b∈fp,H' b=none)∧W i n ys σ' H') ?_ m0 ⟨0,[],_,_,I4,tn1,fr0,w0⟩
  rintro n s' ⟨i,ys,σ',H',I',st',fr',w'⟩
  obtain ⟨hHD,hyl,hor⟩:=turn i n ys σ' H' w'
  rcases hor with ⟨stop,q⟩ | ⟨go,step⟩
  ·have hd:=T.done X' eP eW eK (eC.trans hc) i [] s' σ' H' NoX I' (stat fr') st' stop
   rw [xA] at hd
   refine thn hd fun r s4 hr=>?_
   obtain ⟨rfl,I5⟩:=hr
   obtain ⟨m,hn,_⟩:=id I5.loc
   have eL:X'.env.locals=h3.objs.size:=by rw [xE];rfl
   have hfree:H' h3.objs.size=none:=by rw [←eL];exact I5.free
   have bu:=I5.base
   rw [←hX] at bu
   have hos:s4.os=s2.os:=by
    have z:=I5.os
    rw [←hX] at z
    exact z
   have hk5:=I5.hok
   rw [eP,eW] at hk5
   have Iout:Inv X pins σ H' s4:=I3.call' (s':=s4) (ch:=fp) hos ⟨bu.keep,bu.slot,bu.free,bu.there,bu.tups,bu.frzs,bu.tbls⟩ hk5 I5.bare fun b hb'=>by
    obtain ⟨_,g1,_,g3,g4,g5⟩:=f2 b hb'
    exact ⟨g3,g1,g4,g5⟩
   exact post D h3.objs.size s4 H' m Iout (by rw [eL] at hn;exact hn) (I3.fpOk (Nat.le_refl _) hfree) q
  ·have hit:=T.item X' eP eW eK (eC.trans hc) i [] s' σ' H' NoX I' (stat fr') st' go
   rw [xA] at hit
   refine thn hit fun r s4 hr=>?_
   obtain ⟨u,rfl,h4⟩:=hr
   refine thn h4 fun _ s5 h5=>?_
   obtain ⟨x,H5,I5,r5,y5,st5,fr5⟩:=h5
   have I5':=I5.pinned (stat fr5) (T.obj _ _ st5)
   have ha:=hg _ s5 σ' H5 x u _ I5' r5 (step x H5 y5)
   rw [xA,xE,xX,eP,eW] at ha
   refine thn ha fun _ s6 h6=>?_
   obtain ⟨σ6,H6,I6,q6⟩:=h6
   have ht:=hif _ s6 σ6 H6 _ I6 q6
   rw [xA,xE,xX,eP,eW] at ht
   refine thn ht fun ok s7 h7=>?_
   obtain ⟨H7,I7,q7⟩:=h7
   have back:∀{σ8:St} {H8:Hp} {s8:Shared} {ys':List V} {m':Nat},Inv X' ([]++nR fp s5.heap) σ8 H8 s8→m' < n→W (i+1) m' ys' σ8 H8→
     ∃m,m < n∧∃i ys σ' H',Inv X' [] σ' H' s8∧tn i s8.heap∧(∀b∈fp,H' b=none)∧W i m ys σ' H':=fun {σ8 H8 s8 ys' m'} I8 hm w8=>by
    refine ⟨m',hm,i+1,ys',σ8,H8,I8.unpinned,T.keep _ _ _ st5 fun b hb' o e=>(I8.pin (b,o) (List.mem_append_right _ (List.mem_append_right _ (fV hb' e)))).1,fun b hb'=>?_,w8⟩
    obtain ⟨o,e,d⟩:=T.obj _ _ st5 b hb'
    exact (I8.pin (b,o) (List.mem_append_right _ (List.mem_append_right _ (fV hb' e)))).2.1
   cases ok with
   | false=>
    rw [if_neg Bool.false_ne_true] at q7 ⊢
    obtain ⟨m',hm,w7⟩:=q7
    exact back I7 hm w7
   | true=>
    rw [if_pos rfl] at q7 ⊢
    have hel:=he _ s7 σ6 H7 _ I7 q7
    rw [xA,xE,xX,eP,eW] at hel
    refine thn hel fun yv s8 h8=>?_
    obtain ⟨y,H8,I8,r8,hD8,m',hm,w8⟩:=h8
    have hap:=cG (X:=X') _ s8 σ6 H8 (.ref D) [y] (.ref D) [yv] (fun _ H9=>H9=upd H8 D (.lst (ys++[y]))) I8 rfl (.cons r8 .nil) ⟨D,ys,y,rfl,rfl,hD8,hyl,rfl⟩
    rw [xA,xX,eP,eW] at hap
    refine thn hap fun _ s9 h9=>?_
    obtain ⟨_,H9,I9,_,rfl⟩:=h9
    exact back I9 hm w8
 exact codeAny_compStart_list loop (T.self _ 0 _ _ _ tn1 loop)
theorem Cu {i:Nat} {y:Str} {py spos:Pos} (hN:X.N.Nodup) (hiy:X.N[i]?=some y) (hly:X.env.scope.names.lookup y=some .local) (hsw:swapsWith (.ListComp elt [⟨tg,iter,ifs,0⟩] scope pos) (some (.Name y py)) spos.line X.env=pure true)
  (hc:X.calm=true) (hi:PI X tg iter wi) (hclos:closureFor scope X.env=pure cl) (hkind:scope.kind=.function)
  (hnames:∀y∈scope.names,y.2=.local→scope.names.lookup y.1=some .local) (hsub:∀x c,cl.lookup x=some c→X.env.cells.lookup x=some c)
  (hok:∀C,Bh (cellsFrom (C+1) scope.names cl) (relabel scope X.env).names=true) (hcaps:∀C,mQ X scope (cellsFrom (C+1) scope.names cl) N' cs)
  (hb:∀(C:Addr) (s3:Shared) (H3:Hp) (fp:List Addr) (pn:List (Addr × Obj)),PG (gZ X N' scope cl C s3 H3 fp pn) tg g∧yh (gZ X N' scope cl C s3 H3 fp pn) ifs tt∧PE (gZ X N' scope cl C s3 H3 fp pn) elt te)
  (hs:∀x,foldedSetIterable iter X.env x=pure x:=by intro _;rfl):PS X (.Assign [.Name y py] (.ListComp elt [⟨tg,iter,ifs,0⟩] scope pos) spos) (vG (tLC wi cs g tt te) (cJ i)):=by
 intro pins s σ H D0 I h
 rw [exec_Assign_Name_used _ _ _ _ hsw]
 refine wpAny_bind (wpAny_standAt (wpAny_bind ?_))
 show wpAny _ X.A (do let _ ←comprehension (.ListComp elt [⟨tg,iter,ifs,0⟩] scope pos) scope X.env _ (newList []) false (eval iter X.env) (some (assign (.Name y py) X.env))) _ _ s
 refine wpAny_bind (wpAny_mono (JN (use:=some (assign (.Name y py) X.env)) (QQ:=fun _ s'=>SP X pins D0 .next s') hc hi hclos hkind hnames hsub hok hcaps hb hs I h ?_) (fun _ s' hq=>wpAny_pure (wpAny_pure hq)) fun _ _ e=>e)
 intro D C s4 H' m I4 hn fC q
 obtain ⟨f0,f1,f2,f3,f4,f5⟩:=fC
 refine wpAny_assign_Name (nQ I4 hN hiy (.inl hly) (v:=.ref D) rfl (fun s6 I6 ⟨a,sb,ha⟩=>?_) (.inr hly))
 have hCa:C≠a:=by
  rcases ha with rfl | ha
  ·exact f1
  ·exact fun e=>f4 _ _ ha e.symm
 refine ⟨m,hn.sameBut sb hCa,fun h' hsb=>⟨_,H',?_,q⟩⟩
 exact I6.turned (t':=s6.toks) (fun b o hb e=>(hsb.2 b hb).trans e) f0 f1 f3 f4 f5
end
section
variable {X:Cx} {K:PySem.W.Frag} (hK:X.K=K)
include hK
theorem Ha {tg l:Expr} {tl:TE} (hl:PE X l tl):PI X tg l (JR K tl):=by subst hK;exact bC hl
theorem Cv (hc:X.calm=true):eU X (.builtin "sum") (fun xs H Q=>∃(p:Addr) (is:List Int),xs=[.ref p]∧SqL K H p (is.map V.int)∧(∀x∈is,0≤x)∧is.sum < 2 ^ 63∧Q (.int is.sum) H):=by subst hK;exact Ez hc
end
open PySem PySem.Spec PyProof.Rows L2
structure Z2 (n l1 l2:Nat) (i:Nat) (f0:Value) (h:Heap):Prop where
 hz:IsZip h (n+4) (n+2) (n+3) f0
 hTI:IsPair h (n+2) (.ref n) (.ref (n+1))
 hTO:∃a b,IsPair h (n+3) a b
 h1:h.IsListIter n l1 i
 h2:h.IsListIter (n+1) l2 i
noncomputable abbrev z2F (n:Nat):List Addr:=[n+4,n+2,n+3,n,n+1]
theorem rF {n b:Nat}:b∈z2F n↔b=n+4∨b=n+2∨b=n+3∨b=n∨b=n+1:=by simp [z2F]
theorem Z2.keep {n l1 l2:Nat} {i:Nat} {f0:Value} {h h':Heap} (z:Z2 n l1 l2 i f0 h) (k:∀b∈z2F n,∀o,h.get? b=some o→h'.get? b=some o):Z2 n l1 l2 i f0 h':=by
 obtain ⟨hz,hTI,⟨a,b,hTO⟩,h1,h2⟩:=z
 exact ⟨k _ (by simp) _ hz,k _ (by simp) _ hTI,⟨a,b,k _ (by simp) _ hTO⟩,h1.at fun o e=>k _ (by simp) o e,h2.at fun o e=>k _ (by simp) o e⟩
theorem JP:bootBuiltins "zip"=some (.type "zip"):=by decide+kernel
noncomputable def It2 (K:PySem.W.Frag) (a b:Nat):It:=
 ⟨fun i H=>∃xs ys x y,SqL K H a xs∧SqL K H b ys∧xs[i]?=some x∧ys[i]?=some y,
 fun i H u H'=>∃p x y,H p=none∧u=.ref p∧(∀xs,SqL K H a xs→xs[i]?=some x)∧(∀ys,SqL K H b ys→ys[i]?=some y)∧H'=upd H p (.tup [x,y]),
 fun i H=>∃xs ys,SqL K H a xs∧SqL K H b ys∧xs.length≤i⟩
theorem Cw {P:Program} {w:World} {K:PySem.W.Frag} {elts:List Expr} {k:Nat} {pos:Pos} (n a b:Nat) (a1:a < n) (a2:b < n):
  Turn P w K (.Tuple elts k pos) (It2 K a b) (z2F n) (n+4) (fun i h=>Z2 n a b i .none h) where
 mem:=by simp
 obj:=fun i h st d hd=>by
  obtain ⟨hz,hTI,⟨ta,tb,hTO⟩,⟨o1,e1,c1,d1⟩,⟨o2,e2,c2,d2⟩⟩:=st
  rcases rF.mp hd with rfl | rfl | rfl | rfl | rfl
  ·exact ⟨_,hz,fun v z=>by
    have z':Data.fields _=Data.cell v:=z
    cases z'⟩
  ·exact ⟨_,hTI,fun v z=>by
    have z':Data.seq _=Data.cell v:=z
    cases z'⟩
  ·exact ⟨_,hTO,fun v z=>by
    have z':Data.seq _=Data.cell v:=z
    cases z'⟩
  ·exact ⟨o1,e1,fun v z=>by rw [d1] at z;cases z⟩
  ·exact ⟨o2,e2,fun v z=>by rw [d2] at z;cases z⟩
 keep:=fun i h h' st kk=>st.keep kk
 item:=by
  intro X hP hw hK hc i pins s σ H E I hf st hg
  subst hP hw hK
  obtain ⟨xs,ys,x,y,hq1,hq2,hx,hy⟩:=hg
  obtain ⟨its1,rv1,p1,_⟩:=I.list hq1
  obtain ⟨its2,rv2,p2,_⟩:=I.list hq2
  obtain ⟨u1,hu1,ru1⟩:=rv1.get hx
  obtain ⟨u2,hu2,ru2⟩:=rv2.get hy
  obtain ⟨hz,hTI,⟨ta,tb,hTO⟩,g1,g2⟩:=id st
  refine wpAny_pyNext_zip_item (zipApart_new a1 a2) hz hTI hTO g1 g2 p1.isList p2.isList (x:=u1) (y:=u2) (by simpa using hu1) (by simpa using hu2) fun h1 b1 b2 b3 b4 hT hsz hk=>⟨_,rfl,?_⟩
  refine wpAny_letOwnedTupleGo_zip (s:={s with heap:=h1}) b1 fun h2 hz2 hs2=>?_
  have hs2:Heap.SameBut (n+4) h1 h2:=hs2
  have hn:H s.heap.objs.size=none:=I.fresh
  have old2:∀d o,d∉z2F n→s.heap.get? d=some o→h2.get? d=some o:=fun d o hd q=>by
   have hd:=fun z=>hd (rF.mpr z)
   exact (hs2.2 d (fun z=>hd (.inl z))).trans (hk d o (fun z=>hd (.inl z)) (fun z=>hd (.inr (.inr (.inl z)))) (fun z=>hd (.inr (.inr (.inr (.inl z))))) (fun z=>hd (.inr (.inr (.inr (.inr z))))) q)
  have zlt:n+4 < s.heap.objs.size:=Heap.lt_size hz
  have hT2:h2.get? s.heap.objs.size=some {cls:=.type "tuple",data:=.seq #[u1,u2]}:=(hs2.2 _ (Nat.ne_of_gt zlt)).trans hT
  have st2:Z2 n a b (i+1) .none h2:=⟨hz2,(hs2.2 _ (by show @Ne Nat _ _;omega)).trans (hk _ _ (by show @Ne Nat _ _;omega) (by show @Ne Nat _ _;omega) (by show @Ne Nat _ _;omega) (by show @Ne Nat _ _;omega) hTI),⟨_,_,(hs2.2 _ (by show @Ne Nat _ _;omega)).trans b2⟩,b3.at fun o q=>(hs2.2 _ (by show @Ne Nat _ _;omega)).trans q,b4.at fun o q=>(hs2.2 _ (by show @Ne Nat _ _;omega)).trans q⟩
  have nch:∀d q,H d=some q→d∉z2F n:=fun d q hd z=>by
   have:=(hf d z).1
   rw [this] at hd
   cases hd
  refine ⟨.ref s.heap.objs.size,upd H s.heap.objs.size (.tup [x,y]),?_,rfl,⟨s.heap.objs.size,x,y,hn,rfl,(fun ys hy=>by rw [I.list_inj hy hq1];exact hx),(fun ys' hy'=>by rw [I.list_inj hy' hq2];exact hy),rfl⟩,st2,fun d hd=>?_⟩
  ·show Inv X pins σ (upd H s.heap.objs.size (.tup [x,y])) {s with heap:=h2,gens:=s.gens,drawn:=s.drawn,toks:=s.toks}
   refine I.step (g':=s.gens) (d':=s.drawn) (t':=s.toks) (h':=h2) (ch:=z2F n) (fun d hd=>?_) (fun d o _ _ hc q _=>old2 d o hc q) (fun d o _ _ hc q _=>⟨o.slots,old2 d o hc q⟩) (fun d o hc q nn=>?_)
    (fun d o hc q=>⟨o,old2 d o hc q⟩) (fun d ys q=>?_) (fun d o v q=>?_) (fun d ps q=>⟨#[],?_⟩) (fun m hm=>?_) (fun d v q=>?_) I.bare
   ·obtain ⟨f0,f1,f2,f3,f4,f5⟩:=hf d hd
    exact ⟨f3,f1,f4,f5⟩
   ·rw [ak (Nat.ne_of_lt (Heap.lt_size q))]
    exact nn
   ·rw [ak (aA q hn)]
    exact q
   ·rw [ak (aA q hn)]
    exact q
   ·rw [ak (aA q hn),q]
    simp
   ·obtain ⟨o,es,ep,ho',r⟩:=hm
    exact ⟨o,es,ep,old2 _ o (fun z=>(hf _ z).2.1 rfl) ho',r⟩
   ·by_cases hb:d=s.heap.objs.size
    ·subst hb
     rw [aj] at q
     cases q
     exact ⟨(by show 2≤sizeLine;decide),[u1,u2],.cons ru1 (.cons ru2 .nil),_,hT2,rfl,_,rfl⟩
    ·rw [ak hb] at q
     refine (I.hok d v q).stay (fun c y hc z=>old2 c y ?_ z) (fun c z=>by rw [ak (aA z hn)];exact z) fun c ys z=>by rw [ak (aA z hn)];exact z
     rcases hc with rfl | hc
     ·exact nch _ _ q
     ·exact nch _ _ hc
  ·have dl:d≠s.heap.objs.size:=fun z=>by
    have dlt:d < s.heap.objs.size:=by
     rcases rF.mp hd with rfl | rfl | rfl | rfl | rfl
     ·exact zlt
     ·exact Heap.lt_size hTI
     ·exact Heap.lt_size hTO
     ·obtain ⟨_,q,_⟩:=g1
      exact Heap.lt_size q
     ·obtain ⟨_,q,_⟩:=g2
      exact Heap.lt_size q
    exact absurd z (Nat.ne_of_lt dlt)
   rw [ak dl]
   exact (hf d hd).1
 done:=by
  intro X hP hw hK hc i pins s σ H E I hf st hg
  subst hP hw hK
  obtain ⟨xs,ys,hq,hq2,hx⟩:=hg
  obtain ⟨its,rv,p,hz⟩:=I.list hq
  obtain ⟨its2,rv2,p2,_⟩:=I.list hq2
  have hl:=rv.length
  obtain ⟨hz',hTI,⟨ta,tb,hTO⟩,g1,g2⟩:=id st
  refine wpAny_pyNext_zip_end (I.ok.hd hc) (zipApart_new a1 a2) hz' hTI hTO g1 g2 p.isList p2.isList (.inl (by simp;omega)) fun h' eb0=>⟨rfl,?_⟩
  have eb:∀c o,c∉z2F n→s.heap.get? c=some o→h'.get? c=some o:=fun c o hc e=>by
   have hc:=fun z=>hc (rF.mpr z)
   exact eb0 c o (fun z=>hc (.inl z)) (fun z=>hc (.inr (.inr (.inl z)))) (fun z=>hc (.inr (.inr (.inr (.inl z))))) (fun z=>hc (.inr (.inr (.inr (.inr z))))) e
  show Inv X pins σ H {s with heap:=h',gens:=s.gens,drawn:=s.drawn,toks:=s.toks}
  refine I.step (g':=s.gens) (d':=s.drawn) (t':=s.toks) (h':=h') (ch:=z2F n) (fun d hd=>?_) (fun d o _ _ hc q _=>eb d o hc q) (fun d o _ _ hc q _=>⟨o.slots,eb d o hc q⟩) (fun d o hc q nn=>nn)
    (fun d o hc q=>⟨o,eb d o hc q⟩) (fun d ys q=>q) (fun d o v q=>q) (fun d ps q=>⟨#[],?_⟩) (fun m hm=>?_) (fun d v q=>?_) I.bare
  ·obtain ⟨f0,f1,f2,f3,f4,f5⟩:=hf d hd
   exact ⟨f3,f1,f4,f5⟩
  ·rw [q]
   simp
  ·obtain ⟨o,es,ep,ho',r⟩:=hm
   exact ⟨o,es,ep,eb _ o (fun z=>(hf _ z).2.1 rfl) ho',r⟩
  ·refine (I.hok d v q).stay (fun c y hc z=>eb c y (fun w=>?_) z) (fun c z=>z) fun c ys z=>z
   have:=(hf c w).1
   rcases hc with rfl | hc
   ·rw [this] at q;cases q
   ·rw [this] at hc;cases hc
 self:=fun _ _ _ _ _ st h=>wpAny_pyIter_zip st.hz h
section
variable {X:Cx} {elts:List Expr} {k:Nat} {tpos:Pos}
noncomputable def O2 (K:PySem.W.Frag) (ta:TA):TI:=fun σ H R=>ta σ H fun vs H1=>∃a b,vs=[.ref a,.ref b]∧(∃xs,SqL K H1 a xs)∧(∃xs,SqL K H1 b xs)∧R (It2 K a b) H1
theorem JQ {e1 e2:Expr} {ta:TA} {p pos:Pos} (hg:Gl X "zip") (hm:X.mg "zip"=none) (ha:PA X [e1,e2] ta) (he:starEach [e1,e2] X.env=(false,eval e1 X.env)::starEach [e2] X.env:=by rfl) (hpl:(backTo pos (starEach [e2] X.env)).any (·.1)=false:=by rfl):
  PI X (.Tuple elts k tpos) (.Call (.Name "zip" p) [e1,e2] [] pos) (O2 X.K ta):=by
 intro pins s σ H R I h
 refine Call_ (lM I hg hm JP (PyProof.Rows.callWith_type1 (thn (ha pos pins s σ H _ I h) fun us s1 ⟨vs,H1,I1,r1,q1⟩=>?_) he hpl))
 obtain ⟨a,b,e,⟨xs,hq1⟩,⟨ys,hq2⟩,q⟩:=q1
 subst e
 cases r1 with
 | cons r rr=>
  cases rr with
  | cons r' rr=>
   cases rr
   cases r
   cases r'
   obtain ⟨its1,rv1,p1,hz1⟩:=I1.list hq1
   obtain ⟨its2,rv2,p2,hz2⟩:=I1.list hq2
   have a1:a < s1.heap.objs.size:=by obtain ⟨_,e,_⟩:=p1.isList;exact Heap.lt_size e
   have a2:b < s1.heap.objs.size:=by obtain ⟨_,e,_⟩:=p2.isList;exact Heap.lt_size e
   refine call_zip_2 p1.isList p2.isList fun h' b1 b2 b3 b4 b5 hsz kk=>?_
   refine wpAny_pyIter_zip b1 ?_
   refine ⟨s1.heap.objs.size+4,z2F s1.heap.objs.size,_,_,H1,rfl,I1.kept (t':=s1.toks) fun b o e=>kk b o e,Cw _ a b a1 a2,⟨b1,b2,⟨_,_,b3⟩,b4,b5⟩,fun d hd=>?_,q⟩
   have le:s1.heap.objs.size≤d:=by
    rcases rF.mp hd with rfl | rfl | rfl | rfl | rfl <;> first | exact Nat.le_refl _ | exact Nat.le_add_right _ _
   exact I1.fpOk le (I1.hok.fresh le)
theorem xH:∀{ns:List Int} {us:List Value},Vals (ns.map V.int) us→IntsAre us ns
 | [],_,.nil=>.nil
 | _::ns,_,.cons ⟨_,e⟩ t=>by subst e;exact .cons _ _ (xH t)
end
theorem Hf {K:PySem.W.Frag} {a b:Nat} {xs ys:List V} {g:TG} {tb:TS} {D:Ends} {σ:L2.St} {H:Hp} (l2:ys.length=xs.length) (Pv:Nat→L2.St→Hp→Prop) (h0:Pv 0 σ H) (hl:∀i σ H,Pv i σ H→SqL K H a xs∧SqL K H b ys)
  (hs:∀i x y σ H p,xs[i]?=some x→ys[i]?=some y→Pv i σ H→H p=none→g (.ref p) σ (upd H p (.tup [x,y])) fun σ2 H2=>tb {D with nx:=Pv (i+1),ct:=Pv (i+1),bk:=D.nx} σ2 H2) (hd:∀σ H,Pv xs.length σ H→D.nx σ H):
  ∃W:Nat→Nat→L2.St→Hp→Prop,(∃m,W 0 m σ H)∧∀i m σ H,W i m σ H→
   ((It2 K a b).stop i H∧D.nx σ H)∨((It2 K a b).go i H∧∃N:L2.St→Hp→Prop,(∀σ' H',N σ' H'→∃m',m' < m∧W (i+1) m' σ' H')∧∀x H',(It2 K a b).yld i H x H'→g x σ H' fun σ2 H2=>tb {D with nx:=N,ct:=N,bk:=D.nx} σ2 H2):=by
 refine ⟨fun i m σ H=>m=xs.length - i∧i≤xs.length∧Pv i σ H,⟨xs.length,by simp,Nat.zero_le _,h0⟩,?_⟩
 rintro i m σ H ⟨rfl,hi,p⟩
 obtain ⟨q1,q2⟩:=hl i σ H p
 by_cases hlt:i < xs.length
 ·refine .inr ⟨⟨xs,ys,xs[i],ys[i],q1,q2,by simp [hlt],List.getElem?_eq_getElem (by omega)⟩,Pv (i+1),fun σ' H' p'=>⟨xs.length - (i+1),by omega,rfl,hlt,p'⟩,fun u H' y=>?_⟩
  obtain ⟨r,x,y,hr,rfl,hx,hy,rfl⟩:=y
  exact hs i x y σ H r (hx xs q1) (hy ys q2) p hr
 ·have e:i=xs.length:=by omega
  subst e
  exact .inl ⟨⟨xs,ys,q1,q2,Nat.le_refl _⟩,hd σ H p⟩
open PySem PySem.Spec PyProof.Rows
open L2
open PySem PySem.Spec PyProof.Rows L2
theorem Cy {prog:Program} {w:World} {A:Around} {R:Result→Shared→Prop} {I:Addr} {fp wr:List Addr} {n:Nat} {P:Nat→Value→Prop} {St:Nat→Heap→Prop} (W:Walks prog w A.in1 I fp wr n P St) (bt:Nat→Nat→Bool) (hc:CmpOf prog w A.in1 .Gt P bt) (S:Addr) (nS:S∉fp):
  ∀(k j:Nat) (s:Shared) (vb:Value) (c:Nat),n - (j+1)=k→j+1≤n→St (j+1) s.heap→P (argBest bt j) vb→s.heap.get? S=some ⟨.type "list",none,.seq #[vb,vb] c,#[]⟩→
   (∀v h' tk,P (argBest bt (n - 1)) v→(∀b o,b∉wr→b≠S→s.heap.get? b=some o→h'.get? b=some o)→R (.ok (.ret v)) {s with heap:=h',toks:=tk})→
   codeAny (model prog w) A (.builtin "max.loop" ⟨[.ref I,.none,.ref S],[]⟩) R s:=by
 have wS:S∉wr:=fun h=>nS (W.sub _ h)
 have nm:(toString "max"++toString ".loop":String)="max.loop":=by decide
 intro k
 induction k with
 | zero=>
  intro j s vb c hk hj st pb gS hR
  have en:j+1=n:=by omega
  refine codeAny_builtin PySem.F.entry_max_loop ?_
  rw [Around.under_plainId PySem.F.plain_max_loop _]
  refine bnd (seqItems? (.ref S)) (wpAny_seqItems gS rfl (bnd (tryCatch (pyNext (.ref I)) _) (wpAny_tryCatch (W.done s _ _ (en▸st) fun h' tk kk=>?_))))
  refine bnd (updateSeq S (fun _=>#[])) (wpAny_updateSeq (kk S _ wS gS) rfl (wpAny_bind (wpAny_letGo (wpAny_pure ?_))))
  exact hR vb _ tk (by rw [←en];exact pb) fun b o n1 n2 e=>(Heap.get?_update_other _ _ (Ne.symm n2)).trans (kk b o n1 e)
 | succ k ih=>
  intro j s vb c hk hj st pb gS hR
  have lt:j+1 < n:=by omega
  refine codeAny_builtin PySem.F.entry_max_loop ?_
  rw [Around.under_plainId PySem.F.plain_max_loop _]
  refine bnd (seqItems? (.ref S)) (wpAny_seqItems gS rfl (bnd (tryCatch (pyNext (.ref I)) _) (wpAny_tryCatch (W.item (j+1) s _ _ lt st fun v h' tk pv st' kk=>?_))))
  have gS':=kk S _ wS gS
  refine bnd (tryCatch (holding [v,v] (richCompare .Gt v vb >>=_)) _) (wpAny_tryCatch (wpAny_holding (wpAny_bind (hc (j+1) (argBest bt j) v vb _ _ _ pv pb (wpAny_bind (wpAny_holding (wpAny_truthy_bool (wpAny_bind (wpAny_letGo (wpAny_pure ?_))))))))))
  cases hb:bt (j+1) (argBest bt j) with
  | true=>
   simp only [if_true]
   refine wpAny_bind (wpAny_updateSeq gS' rfl (wpAny_bind (wpAny_letGo ?_)))
   rw [nm]
   refine wpAny_pure ⟨plainId_quiet PySem.F.plain_max_loop _,ih (j+1) _ v _ (by omega) lt (W.frame _ _ _ st' fun b bf o e=>(Heap.get?_update_other _ _ (fun h:S=b=>nS (by rw [h];exact bf))).trans e) (by simp only [argBest,hb,if_true];exact pv) (Heap.get?_update_self _ gS' rfl) fun v2 h2 tk2 pv2 kk2=>?_⟩
   exact hR v2 h2 tk2 pv2 fun b o n1 n2 e=>kk2 b o n1 n2 ((Heap.get?_update_other _ _ (Ne.symm n2)).trans (kk b o n1 e))
  | false=>
   simp only [Bool.false_eq_true,if_false]
   refine wpAny_bind (wpAny_letGo ?_)
   rw [nm]
   exact wpAny_pure ⟨plainId_quiet PySem.F.plain_max_loop _,ih (j+1) _ vb c (by omega) lt st' (by simp only [argBest,hb,Bool.false_eq_true,if_false];exact pb) gS' fun v2 h2 tk2 pv2 kk2=>hR v2 h2 tk2 pv2 fun b o n1 n2 e=>kk2 b o n1 n2 (kk b o n1 e)⟩
theorem zb {prog:Program} {w:World} {A:Around} {R:Result→Shared→Prop} {I:Addr} {fp wr:List Addr} {n:Nat} {P:Nat→Value→Prop} {St:Nat→Heap→Prop} (W:Walks prog w A.in1 I fp wr n P St) (bt:Nat→Nat→Bool) (hc:CmpOf prog w A.in1 .Gt P bt) (S:Addr) (nS:S∉fp) {s:Shared} {c:Nat} (st:St 0 s.heap)
  (gS:s.heap.get? S=some ⟨.type "list",none,.seq #[] c,#[]⟩) (hz:0 < n)
  (h1:∀v h' tk,P (argBest bt (n - 1)) v→(∀b o,b∉wr→b≠S→s.heap.get? b=some o→h'.get? b=some o)→R (.ok (.ret v)) {s with heap:=h',toks:=tk}):
  codeAny (model prog w) A (.builtin "max.loop" ⟨[.ref I,.none,.ref S],[]⟩) R s:=by
 have wS:S∉wr:=fun h=>nS (W.sub _ h)
 have nm:(toString "max"++toString ".loop":String)="max.loop":=by decide
 refine codeAny_builtin PySem.F.entry_max_loop ?_
 rw [Around.under_plainId PySem.F.plain_max_loop _]
 refine bnd (seqItems? (.ref S)) (wpAny_seqItems gS rfl ?_)
 refine bnd (tryCatch (pyNext (.ref I)) _) (wpAny_tryCatch (W.item 0 s _ _ hz st fun v h' tk pv st' kk=>?_))
 have gS':=kk S _ wS gS
 refine bnd (updateSeq S (fun _=>#[v,v])) (wpAny_updateSeq gS' rfl ?_)
 rw [nm]
 refine wpAny_pure ⟨plainId_quiet PySem.F.plain_max_loop _,Cy W bt hc S nS _ 0 _ v _ rfl hz (W.frame _ _ _ st' fun b bf o e=>(Heap.get?_update_other _ _ (fun h:S=b=>nS (by rw [h];exact bf))).trans e) pv (Heap.get?_update_self _ gS' rfl) fun v2 h2 tk2 pv2 kk2=>?_⟩
 exact h1 v2 h2 tk2 pv2 fun b o n1 n2 e=>kk2 b o n1 n2 ((Heap.get?_update_other _ _ (Ne.symm n2)).trans (kk b o n1 e))
theorem Cz (a:Value):argsOk "max" ⟨[a],[]⟩:=by unfold argsOk;kernel_rfl
theorem Hg {prog:Program} {w:World} {A:Around} {E:Value→Shared→Prop} {s:Shared} {l:Addr} {items:Array Value} {val:Nat→Int} {Q:Value→Shared→Prop} (hh:A.in1.handled=none) (hl:s.heap.IsList l items) (hv:∀i v,items[i]?=some v→∃t,v=Value.int (val i) t) (hz:0 < items.size)
  (h1:∀t h' tk,(∀b o,s.heap.get? b=some o→h'.get? b=some o)→Q (Value.int (val (argBest (fun i j=>decide (val i > val j)) (items.size - 1))) t) {s with heap:=h',toks:=tk}):
  wpAny (model prog w) A (call (.builtin "max") [.ref l] []) Q E s:=by
 have nm:(toString "max"++toString ".loop":String)="max.loop":=by decide
 obtain ⟨ol,hol,_⟩:=id hl
 have hne:l≠s.heap.objs.size:=Nat.ne_of_lt (Heap.lt_size hol)
 refine PyProof.Rows.kmk_tree PySem.F.kind_max PySem.F.plain_max PySem.F.entry_max (Cz _) ?_
 refine bnd (Builtin.Builtins.bindParams "max" ["key","default"] 0 ⟨[],[]⟩) (wpAny_of_eq (show _=pure [none,none] from rfl) ?_)
 refine wpAny_bind (wpAny_pure ?_)
 refine wpAny_bind (wpAny_pyIter_list hl ?_)
 refine wpAny_bind (wpAny_newObj_type ?_)
 rw [nm]
 have W:=Walks.list (prog:=prog) (w:=w) (A:=A.in1) hh s.heap.objs.size l hne items
 have sz:(s.heap.push {cls:=.type "list_iterator",data:=.fields #[.ref l,.int 0 0]}).objs.size=s.heap.objs.size+1:=Heap.size_push ..
 have hlt:=Heap.lt_size hol
 have gI:(s.heap.push {cls:=.type "list_iterator",data:=.fields #[.ref l,.int 0 0]}).get? s.heap.objs.size=some {cls:=.type "list_iterator",data:=.fields #[.ref l,.int 0 0]}:=Heap.get?_push_size _ rfl
 have hl1:=hl.push {cls:=.type "list_iterator",data:=.fields #[.ref l,.int 0 0]}
 have k1:∀b o,s.heap.get? b=some o→(s.heap.push {cls:=.type "list_iterator",data:=.fields #[.ref l,.int 0 0]}).get? b=some o:=fun b o e=>Heap.get?_push_of_some _ e
 dsimp only
 generalize s.heap.push {cls:=.type "list_iterator",data:=.fields #[.ref l,.int 0 0]}=hp1 at sz gI hl1 k1 ⊢
 refine wpAny_pure ⟨plainId_quiet PySem.F.plain_max_loop _,zb W _ (CmpOf.ints_gt val hv) hp1.objs.size (by rw [sz];simp only [List.mem_cons,List.not_mem_nil,or_false,not_or];exact ⟨Nat.succ_ne_self _,Ne.symm (lZ hol)⟩) ⟨⟨_,Heap.get?_push_of_some _ gI,rfl,rfl⟩,hl1.push _⟩ (Heap.get?_push_size _ rfl) hz fun v h' tk pv kk=>?_⟩
 obtain ⟨t2,rfl⟩:=hv _ v pv
 exact h1 t2 h' tk fun b o e=>kk b o (by simp only [List.mem_cons,List.not_mem_nil,or_false];exact zZ e) (by rw [sz];exact lZ e) (Heap.get?_push_of_some _ (k1 b o e))
theorem CG {X:Cx} (hc:X.calm=true):eU X (.builtin "max") (fun xs H Q=>∃a ns,xs=[.ref a]∧SqL X.K H a (ns.map V.int)∧ns≠[]∧Q (.int (jm ns)) H):=by
 intro pins s σ H xs us Q I r h
 obtain ⟨a,ns,rfl,hq,z',q⟩:=h
 obtain ⟨u,rfl,ru⟩:=vals1 r
 cases ru
 obtain ⟨its,rv,pl,hz⟩:=I.list hq
 have hlen:ns.length=its.length:=by have:=rv.length;rwa [List.length_map] at this
 refine Hg (val:=fun i=>ns.getD i 0) (items:=its.toArray) (I.ok.hd hc) pl.isList (fun i v ev=>?_) (by rw [List.size_toArray,←hlen];exact List.length_pos_iff.mpr z') fun t h' tk kk=>?_
 ·have ev':its[i]?=some v:=by simpa using ev
  have hi:i < ns.length:=by rw [hlen];exact (List.getElem?_eq_some_iff.mp ev').1
  obtain ⟨u',e',r'⟩:=rv.get (x:=V.int (ns.getD i 0)) (i:=i) (by rw [List.getElem?_map,List.getElem?_eq_getElem hi];simp [List.getD,hi])
  rw [ev'] at e'
  cases e'
  exact r'
 ·refine ⟨.int (jm ns),H,I.kept kk,⟨t,?_⟩,q⟩
  unfold jm
  rw [hlen]
  simp
section
variable {X:Cx}
noncomputable def M3 (K:PySem.W.Frag):V→List V→Hp→VK→Prop:=fun x vs H Q=>∃(l:Addr) (ns:List Int) (k:Int),x=.ref l∧vs=[.int k]∧SqL K H l (ns.map V.int)∧k∈ns∧PyData.layable0 (.list (ns.map .int))=true∧Q (.int (ns.idxOf k:Nat)) H
theorem Hh:MtR X "list.index" (M3 X.K):=by
 intro pins s σ H x vs v us Q I rx rv h
 obtain ⟨l,ns,k,rfl,rfl,hl,hk,hy,q⟩:=h
 cases rx
 obtain ⟨u,rfl,t,rfl⟩:=rv.one
 obtain ⟨its,r,p,_⟩:=I.list hl
 exact index_list_ints p.isList (xH r) hy hk ⟨.int (ns.idxOf k:Nat),H,I.tok _,⟨_,rfl⟩,q⟩
end
end L3
namespace K1
open PySem L2 L3 M1
section
variable {P:Program} {w:World} {K:PySem.W.Frag} {mg:Str→Option Value} {base:Heap}
noncomputable def lt3 (hs:List (List Nat)) (d:M1.Lt):Str × Int × Str:=(S (hs.getD d.a []),d.t,S (hs.getD d.b []))
theorem Hi {wi:TI} {cs:List (Option Nat)} {tt:TT} {te:TE} {σ rest:L2.St} {H:Hp} {Q:VK} {D0:Addr} {ts:List Addr} {dd:List (Str × Int × Str)} (hw:∀R:It→Hp→Prop,R (Itl K D0) H→wi σ H R) (hcs:fQ cs σ=none::none::none::rest) (h0:H D0=some (.lst (refs ts))) (tp:cT H ts (dd.map ltT)) (hl:ts.length < sizeLine)
  (p:Str × Int × Str→Bool) (f:Str × Int × Str→Str × Int × Str)
  (test:∀d∈dd,∀(H2:Hp) (R:Bool→Hp→Prop),aB H H2→R (p d) H2→tt (some (.str d.1)::some (.int d.2.1)::some (.str d.2.2)::rest) H2 R)
  (elt:∀d∈dd,∀(H2:Hp) (R:VK),aB H H2→(∀r,H2 r=none→R (.ref r) (upd H2 r (.tup (ltT (f d)))))→te (some (.str d.1)::some (.int d.2.1)::some (.str d.2.2)::rest) H2 R)
  (fin:∀(D:Addr) (H':Hp) (rs:List Addr),H' D=some (.lst (refs rs))→cT H' rs (((dd.filter p).map f).map ltT)→aB H H'→Q (.ref D) H'):
  tLC wi cs (Aq K 3 (lE (cJ 0) (lE (cJ 1) (lE (cJ 2) CT)))) tt te σ H Q:=by
 refine hw _ fun D hD=>?_
 have tl:=tp.len
 rw [List.length_map] at tl
 refine ⟨fun i m ys σ' H'=>m=ts.length - i∧i≤ts.length∧(∃rs,ys=refs rs∧cT H' rs ((((dd.take i).filter p).map f).map ltT))∧(∃o1 o2 o3,σ'=o1::o2::o3::rest)∧aB H H'∧H' D=some (.lst ys),⟨ts.length,by simp,Nat.zero_le _,⟨[],rfl,.nil⟩,⟨none,none,none,hcs⟩,aF hD,aj⟩,?_⟩
 rintro i m ys σ' H' ⟨rfl,hi,⟨rs,rfl,tpr⟩,⟨o1,o2,o3,rfl⟩,sm,hHD⟩
 obtain ⟨w1,w2,w3⟩:=dD (SqL.of h0) H' sm
 rw [aN] at w1 w2 w3
 have ln:=tpr.len
 rw [List.length_map,List.length_map] at ln
 have lf:=List.length_filter_le p (dd.take i)
 rw [List.length_take] at lf
 refine ⟨hHD,Nat.lt_of_le_of_lt (by rw [aN];omega) hl,?_⟩
 by_cases hlt:i < ts.length
 ·refine .inr ⟨w2 i hlt,fun x H2 y=>?_⟩
  obtain ⟨rfl,ex⟩:=w3 i x H2 hlt y
  unfold refs at ex
  rw [List.getElem?_map] at ex
  obtain ⟨r,er,rfl⟩:=Option.map_eq_some_iff.mp ex
  obtain ⟨dv,edv,hdv⟩:=Paired.get tp er
  rw [List.getElem?_map] at edv
  obtain ⟨d,edd,rfl⟩:=Option.map_eq_some_iff.mp edv
  have hdm:=List.mem_of_getElem? edd
  have tk:dd.take (i+1)=dd.take i++[d]:=by rw [List.take_add_one,edd];rfl
  refine ⟨r,_,rfl,SqT.of (sm _ _ hdv),rfl,_,_,rfl,_,_,rfl,_,_,rfl,rfl,?_⟩
  refine test d hdm H2 _ sm ?_
  by_cases hp:p d=true
  ·refine eY hp (elt d hdm H2 _ sm fun q nq=>?_)
   have s5:=aF (o:=.tup (ltT (f d))) nq
   have h5:=s5 _ _ hHD
   refine ⟨h5,ts.length - (i+1),by omega,rfl,hlt,⟨rs++[q],g8 rs q,?_⟩,⟨_,_,_,rfl⟩,aY hD (sm.trans s5),aj⟩
   rw [tk,List.filter_append,List.map_append,List.map_append]
   have e1:List.filter p [d]=[d]:=by simp [hp]
   rw [e1]
   exact cT.upd (Paired.snoc (F:=fun r d=>(upd H2 q (.tup (ltT (f _)))) r=some (.tup d)) aj (tpr.same s5)) h5 (by intro d z;cases z)
  ·refine gw (by simpa using hp) ⟨ts.length - (i+1),by omega,rfl,hlt,⟨rs,rfl,?_⟩,⟨_,_,_,rfl⟩,sm,hHD⟩
   rw [tk,List.filter_append]
   have e1:List.filter p [d]=[]:=by simp [hp]
   rw [e1,List.append_nil]
   exact tpr
 ·have e:i=ts.length:=by omega
  subst e
  rw [tl,List.take_length] at tpr
  exact .inl ⟨w1,fin D H' rs hHD tpr sm⟩
theorem lay_ints:∀ns:List Int,(∀x∈ns,0≤x∧x < 64)→PyData.canLayAll0 (ns.map .int)=true∧PyData.depthAll (ns.map .int)=0∧PyData.weightAll (ns.map .int)≤7 * ns.length
 | [],_=>⟨rfl,rfl,Nat.le_refl _⟩
 | x::r,h=>by
  obtain ⟨a,b,c⟩:=lay_ints r fun y hy=>h y (.tail _ hy)
  obtain ⟨h0,h1⟩:=h x (.head _)
  refine ⟨by simp only [List.map_cons,PyData.canLayAll0,PyData.canLay0,a,Bool.and_self],by simp only [List.map_cons,PyData.depthAll,PyData.depth,b,Nat.max_self],?_⟩
  have:PyData.weight (.int x)≤6:=by
   simp only [PyData.weight]
   split
   ·exact Nat.zero_le _
   ·have:x.natAbs.log2 < 6:=(Nat.log2_lt (by simp_all)).mpr (by omega)
    omega
  simp only [List.map_cons,PyData.weightAll,List.length_cons]
  omega
theorem lay_of {ns:List Int} (h:∀x∈ns,0≤x∧x < 64) (l:ns.length≤100):PyData.layable0 (.list (ns.map .int))=true:=by
 obtain ⟨a,b,c⟩:=lay_ints ns h
 have h1:PyData.weightAll (ns.map .int)≤2 ^ 20:=Nat.le_trans c (Nat.le_trans (Nat.mul_le_mul_left 7 l) (by show 7 * 100≤2 ^ 20;decide))
 simp only [PyData.layable0,PyData.canLay0,PyData.depth,PyData.weight,a,b,Bool.and_eq_true]
 exact ⟨⟨trivial,rfl⟩,decide_eq_true h1⟩
theorem xJ:∀(l:List Int),(∀x∈l,0≤x∧x≤1)→0≤l.sum∧l.sum≤l.length
 | [],_=>⟨Int.le_refl _,Int.le_refl _⟩
 | x::r,h=>by
  have h1:=h x (.head _)
  have h2:=xJ r fun y hy=>h y (.tail _ hy)
  rw [List.sum_cons,List.length_cons]
  omega
theorem Hk {f:List Int→Int} {tl:TE} {σ:L2.St} {H:Hp} {Q:VK} (h:∀Z:VK,(∀(a:Addr) (ns:List Int) (D:Int) (H1:Hp),H1 a=some (.lst (ns.map V.int))→(D=if ns=[] then 0 else f ns)→Q (.int D) H1→Z (.ref a) H1)→tl σ H Z):tMM K f (mG tl Ba) (tC (.int 0)) σ H Q:=
 h _ fun a ns D H1 ha e q=>⟨.int 0,a,ns,rfl,rfl,SqL.of ha,fun z=>by rw [e,if_pos z] at q;exact q,fun z=>by rw [e,if_neg z] at q;exact q⟩
noncomputable abbrev M5:List Str:=["_law_script","_law_names","_law_base","_law_lines","_law_ends","_law_goal","_law_letters","_law_net","_law_homes_here","_law_told","_law_longest","_law_last","_law_letter_here","_law_home"]
noncomputable abbrev CJ:Stmt:=top 43
theorem gP:aH M5 ["_law_script"] (aC CJ):=⟨rfl,rfl,rfl,by decide+kernel,rfl,by decide+kernel,by decide+kernel⟩
theorem M6 {C CW CN f fa fh fl fm fi fs fr fg ff:Addr} {fd fda fdh fdl fdm fdi fds fdr fdg fdf:FuncData} (F:Fun K "law" "law" CJ f fd) (B:Blt mg) (zc:mg "Net"=some (.ref CN))
  (aW:Dn K mg "_law_cell_at" sAt ["_law_script","_law_k"] fa fda) (fM:aD P w K mg base CX0 1 fa fda ["_law_script","_law_k"] (Lb K))
  (dY:Dn K mg "_law_houses" jY ["_law_cell","_law_many"] fh fdh) (rT:aD P w K mg base CX0 1 fh fdh ["_law_cell","_law_many"] oA)
  (gF:Dn K mg "_law_road" FJ ["_law_cell","_law_names"] fl fdl) (xK:aD P w K mg base CX0 1 fl fdl ["_law_cell","_law_names"] Fz)
  (dZ:Dn K mg "_law_letter" ww ["_law_cell","_law_names","_law_base"] fm fdm) (rW:aD P w K mg base CX0 1 fm fdm ["_law_cell","_law_names","_law_base"] yC)
  (vp:Mk K CN fi) (my:Inn K CN "Net.__init__" wF ["self","houses","roads"] fi fdi) (mz:aD P w K mg base CX0 5 fi fdi ["self","houses","roads"] (yw K CN))
  (iG:Dn K mg "shortest" sSh ["net"] fs fds) (zf:aD P w K mg base CX0 4 fs fds ["net"] (Ms CW CN))
  (xM:Dn K mg "run" GX ["net","letters","ways"] fr fdr) (Hl:aD P w K mg base CX0 6 fr fdr ["net","letters","ways"] (GR C CW CN))
  (gG:Dn K mg "_law_fars" xG ["_law_lines","_law_names","_law_goal"] ff fdf) (xN:aD P w K mg base CX0 1 ff fdf ["_law_lines","_law_names","_law_goal"] (za K))
  (fO:Dn K mg "_law_homes" G5 ["_law_lines","_law_letters","_law_plan"] fg fdg) (vq:aD P w K mg base CX0 1 fg fdg ["_law_lines","_law_letters","_law_plan"] (G6 K)):
  aD P w K mg base CX0 8 f fd ["_law_script"] (zL K):=by
 refine F.ok gP (fun vs H Q E h=>?_) (fun cdv A outer s H vs Q E hr h=>?_)
 ·obtain ⟨a,ns,rfl,_⟩:=h
  rfl
 ·obtain ⟨a,ns,rfl,hS,hns,q⟩:=h
  obtain ⟨m,hm⟩:∃m:Nat,2+ns.getD (1:Int).toNat 0 % 11=(m:Int):=⟨(2+ns.getD (1:Int).toNat 0 % 11).toNat,by omega⟩
  have hm2:2≤m∧m≤12:=by omega
  obtain ⟨hs,ehs⟩:∃hs,hs=gQ (ns.getD (0:Int).toNat 0) m:=⟨_,rfl⟩
  have G:Good hs:=by rw [ehs];exact uF hm2.2
  have hl:hs.length=m:=by rw [ehs,jW]
  refine ⟨_,(ao (aL (i:=1) gP.nd rfl (Or.inr rfl) (bc rT (hr.mono (by decide)) (by rfl) dY.at_ dY.fn.kp dY.bd .nil bh (aa (bc fM (hr.mono (by decide)) (by rfl) aW.at_ aW.fn.kp aW.bd .nil bh (aa (pv 0) (aa au aq))) (aa (aM cu au (aM cM (bc fM (hr.mono (by decide)) (by rfl) aW.at_ aW.fn.kp aW.bd .nil bh (aa (pv 0) (aa au aq))) au)) aq))))
   (ao (aL (i:=2) gP.nd rfl (Or.inr rfl) (aM cM (bc fM (hr.mono (by decide)) (by rfl) aW.at_ aW.fn.kp aW.bd .nil bh (aa (pv 0) (aa au aq))) (aM ue (aM Dc au au) au)))
   (ao (aL (i:=3) gP.nd rfl (Or.inr rfl) (mR (N':=["_law_cell","_law_names"]) (cs:=[none,some 1]) rfl (bC (tG (pv 0) (mJ au) (mJ au) au)) rfl (by decide+kernel) rfl (by decide+kernel) (cY (List.forall_mem_cons.mpr ⟨rfl,(fun p hp=>absurd hp (List.not_mem_nil))⟩)) rfl
    (.own (.cap rfl (.inl rfl) (.inl rfl) rfl .nil))
    (fun C s3 H3 fp pn=>⟨(aJ (i:=0) (by show (["_law_cell","_law_names"]:List Str).Nodup;decide+kernel) rfl (.inl rfl)),d7,(bc xK (hr.mono (by decide)) (by rfl) gF.at_ gF.fn.kp gF.bd .nil bh (aa (pv 0) (aa (pv 1) aq)))⟩)))
   (ao (Cu (i:=4) gP.nd rfl rfl rfl (N':=["_law_name","_law_lines"]) (cs:=[none,some 3]) rfl (bC (pv 1)) rfl rfl (by decide+kernel) (cY (List.forall_mem_cons.mpr ⟨rfl,(fun p hp=>absurd hp (List.not_mem_nil))⟩)) (fun _=>rfl)
    (fun _=>(.own (.cap rfl (.inl rfl) (.inl rfl) rfl .nil)))
    (fun C s3 H3 fp pn=>⟨(aJ (i:=0) (by show (["_law_name","_law_lines"]:List Str).Nodup;decide+kernel) rfl (.inr rfl)),d7,(aV (Cv (K:=K) rfl rfl) (by rfl) B.sum Lw (aa ((mR (N':=["_law_line","_law_name"]) (cs:=[none,some 0]) rfl (Ha (K:=K) rfl (pv 1)) rfl (by decide+kernel) rfl (by decide+kernel) (cY (List.forall_mem_cons.mpr ⟨rfl,(fun p hp=>absurd hp (List.not_mem_nil))⟩)) rfl
    (.own (.cap rfl (.inl rfl) (.inl rfl) rfl .nil))
    (fun C s3 H3 fp pn=>⟨(aJ (i:=0) (by show (["_law_line","_law_name"]:List Str).Nodup;decide+kernel) rfl (.inl rfl)),d7,(dB sE (by rfl) B.int yp (aa (c7 mC (aK (mX (K:=K) rfl) (pv 0) au (fun _ _=>rfl)) (pv 1) (bG _)) aq))⟩))) aq))⟩))
   (ao (aL (i:=5) gP.nd rfl (Or.inr rfl) (aK bM (pv 1) (lG PySem.F.plainAttrs_list PySem.F.slot_list_index PySem.F.type_list_index Hh (pv 4) (aa (aV (CG rfl) (by rfl) B.max J3 (aa (pv 4) aq)) aq)) (fun _ _=>rfl)))
   (ao (gr (i:=6) gP.nd rfl rfl rfl (N':=["_law_cell","_law_names","_law_base"]) (cs:=[none,some 1,some 2]) rfl (bC (tG (pv 0) (mJ au) (mJ au) au)) rfl (by decide+kernel) rfl (by decide+kernel) (cY (List.forall_mem_cons.mpr ⟨rfl,(List.forall_mem_cons.mpr ⟨rfl,(fun p hp=>absurd hp (List.not_mem_nil))⟩)⟩)) rfl
    (.own (.cap rfl (.inl rfl) (.inl rfl) rfl (.cap rfl (.inl rfl) (.inl rfl) rfl .nil)))
    (fun C s3 H3 fp pn=>⟨(aJ (i:=0) (by show (["_law_cell","_law_names","_law_base"]:List Str).Nodup;decide+kernel) rfl (.inl rfl)),d7,(bc rW (hr.mono (by decide)) (by rfl) dZ.at_ dZ.fn.kp dZ.bd .nil bh (aa (pv 0) (aa (pv 1) (aa (pv 2) aq))))⟩))
   (ao (gr (i:=6) gP.nd rfl rfl rfl (N':=["_law_house","_law_turn","_law_other","_law_goal"]) (cs:=[none,none,none,some 5]) rfl (bC (pv 6)) rfl (by decide+kernel) rfl (by decide+kernel) (cY (List.forall_mem_cons.mpr ⟨rfl,(fun p hp=>absurd hp (List.not_mem_nil))⟩)) rfl
    (.own (.own (.own (.cap rfl (.inl rfl) (.inl rfl) rfl .nil))))
    (fun C s3 H3 fp pn=>⟨(mY (K:=K) (n:=3) rfl rfl (bQ (aJ (i:=0) (by show (["_law_house","_law_turn","_law_other","_law_goal"]:List Str).Nodup;decide+kernel) rfl (.inl rfl)) (bQ (aJ (i:=1) (by show (["_law_house","_law_turn","_law_other","_law_goal"]:List Str).Nodup;decide+kernel) rfl (.inl rfl)) (bQ (aJ (i:=2) (by show (["_law_house","_law_turn","_law_other","_law_goal"]:List Str).Nodup;decide+kernel) rfl (.inl rfl)) jz)))),(kW (bK sy (pv 0) (pv 3) (bG _))),(iu (aa (pv 0) (aa (pv 1) (aa (pv 3) aq))))⟩))
   (ao (cI (bK mC (aM cM (aM gh (bc fM (hr.mono (by decide)) (by rfl) aW.at_ aW.fn.kp aW.bd .nil bh (aa (pv 0) (aa au aq))) au) au) au (bG _)) (az (gr (i:=6) gP.nd rfl rfl rfl (N':=["_law_house","_law_turn","_law_other","_law_base","_law_goal"]) (cs:=[none,none,none,some 2,some 5]) rfl (bC (pv 6)) rfl (by decide+kernel) rfl (by decide+kernel) (cY (List.forall_mem_cons.mpr ⟨rfl,(List.forall_mem_cons.mpr ⟨rfl,(fun p hp=>absurd hp (List.not_mem_nil))⟩)⟩)) rfl
    (.own (.own (.own (.cap rfl (.inl rfl) (.inl rfl) rfl (.cap rfl (.inl rfl) (.inl rfl) rfl .nil)))))
    (fun C s3 H3 fp pn=>⟨(mY (K:=K) (n:=3) rfl rfl (bQ (aJ (i:=0) (by show (["_law_house","_law_turn","_law_other","_law_base","_law_goal"]:List Str).Nodup;decide+kernel) rfl (.inl rfl)) (bQ (aJ (i:=1) (by show (["_law_house","_law_turn","_law_other","_law_base","_law_goal"]:List Str).Nodup;decide+kernel) rfl (.inl rfl)) (bQ (aJ (i:=2) (by show (["_law_house","_law_turn","_law_other","_law_base","_law_goal"]:List Str).Nodup;decide+kernel) rfl (.inl rfl)) jz)))),d7,(iu (aa (pv 0) (aa (pv 3) (aa (pv 4) aq))))⟩))) bw)
   (ao (aL (i:=7) gP.nd rfl (Or.inl rfl) (uh vp mz (hr.mono (by decide)) (by rfl) zc my.bd .nil bh (aa (pv 1) (aa (pv 3) aq))))
   (ao (aL (i:=8) gP.nd rfl (Or.inl rfl) (bc vq (hr.mono (by decide)) (by rfl) fO.at_ fO.fn.kp fO.bd .nil bh (aa (pv 3) (aa (pv 6) (aa (bc Hl (hr.mono (by decide)) (by rfl) xM.at_ xM.fn.kp xM.bd .nil bh (aa (pv 7) (aa (pv 6) (aa (bc zf (hr.mono (by decide)) (by rfl) iG.at_ iG.fn.kp iG.bd .nil bh (aa (pv 7) aq)) aq)))) aq)))))
   (ao (aL (i:=9) gP.nd rfl (Or.inr rfl) (bc xN (hr.mono (by decide)) (by rfl) gG.at_ gG.fn.kp gG.bd .nil bh (aa (pv 3) (aa (pv 1) (aa (pv 5) aq)))))
   (ao (aL (i:=10) gP.nd rfl (Or.inl rfl) (z7 rfl (by rfl) B.max (aa (mR (N':=["_law_letter_here","_law_told"]) (cs:=[none,some 9]) rfl (bC (pv 6)) rfl (by decide+kernel) rfl (by decide+kernel) (cY (List.forall_mem_cons.mpr ⟨rfl,(fun p hp=>absurd hp (List.not_mem_nil))⟩)) rfl
    (.own (.cap rfl (.inl rfl) (.inl rfl) rfl .nil))
    (fun C s3 H3 fp pn=>⟨(aJ (i:=0) (by show (["_law_letter_here","_law_told"]:List Str).Nodup;decide+kernel) rfl (.inl rfl)),(kW (uc (DK (cQ hr) (aK (mX (K:=K) rfl) (pv 0) au (fun _ _=>rfl)) (pv 1)))),(d8 (cQ hr) (pv 1) (aK (mX (K:=K) rfl) (pv 0) au (fun _ _=>rfl)) (fun _ _=>rfl))⟩)) aq) au))
   (ao (aL (i:=11) gP.nd rfl (Or.inl rfl) (aM ue (aM cu (aM cu (z7 rfl (by rfl) B.max (aa (mR (N':=["_law_letter_here"]) (cs:=[none]) rfl (bC (pv 6)) rfl (by decide+kernel) rfl (by decide+kernel) (cY (fun p hp=>absurd hp (List.not_mem_nil))) rfl
    (.own .nil)
    (fun C s3 H3 fp pn=>⟨(aJ (i:=0) (by show (["_law_letter_here"]:List Str).Nodup;decide+kernel) rfl (.inl rfl)),d7,(aK (mX (K:=K) rfl) (pv 0) au (fun _ _=>rfl))⟩)) aq) au) (pv 10)) (aV bN (by rfl) B.len iw (aa (pv 6) aq))) au))
   (ao (dI PassesOwn.never rfl (JQ rfl B.zip (aa (pv 6) (aa (pv 8) aq))) (xP rfl (bQ (aJ (i:=12) gP.nd rfl (Or.inl rfl)) (bQ (aJ (i:=13) gP.nd rfl (Or.inl rfl)) jz)))
    (ao (cI (bK sy (c7 xT (pv 13) jw (bG _)) (CQ (kY (cQ hr) (aK aP (pv 12) au (fun _ _=>rfl)) (pv 9))) (bG _)) (az (aU jK)) bw)
   (az (cI (PW.pt (Kf (bK ug (pv 13) jw (bG _)) (Hu (iV (mF mD mD (aM cu (aK aP (pv 12) au (fun _ _=>rfl)) (d8 (cQ hr) (pv 9) (aK aP (pv 12) au (fun _ _=>rfl)) (fun _ _=>rfl))) (pv 13) (pv 11)))))) (az (aU jK)) bw))))
   (az (aU jK)))))))))))))))),?_⟩
  refine ⟨_,rfl,a,ns,0,rfl,hS,by decide,_,rfl,a,ns,1,rfl,hS,by decide,_,_,rfl,rfl,(by show (0:Int) < 11;decide),_,_,rfl,rfl,ns.getD (0:Int).toNat 0,m,?_,hm2.2,fun p1 H1 np1 s1 h1=>?_⟩
  ·show [V.int _,V.int (2+ns.getD (1:Int).toNat 0 % 11)]=_
   rw [hm]
  rw [←ehs] at h1
  have hS1:=s1.seq hS
  refine ⟨_,rfl,a,ns,2,rfl,hS1,by decide,_,_,rfl,rfl,⟨by decide,by decide,by decide⟩,_,_,rfl,rfl,_,_,rfl,rfl,(by show (0:Int) < 10 ^ (9:Int).toNat - 29;decide),?_⟩
  have hb0:0≤ns.getD (2:Int).toNat 0 % (10 ^ (9:Int).toNat - 29):=Int.emod_nonneg _ (by decide)
  have hb1:ns.getD (2:Int).toNat 0 % (10 ^ (9:Int).toNat - 29) < 10 ^ (9:Int).toNat - 29:=Int.emod_lt_of_pos _ (by decide)
  have hb2:ns.getD (2:Int).toNat 0 % (10 ^ (9:Int).toNat - 29) < 1000000000:=Int.lt_trans hb1 (by decide)
  dsimp only
  generalize ns.getD (2:Int).toNat 0 % (10 ^ (9:Int).toNat - 29)=bs at hb0 hb2 ⊢
  clear hb1
  obtain ⟨mr,emr⟩:∃mr,mr=stepV ns (some 3) (some 65) 2:=⟨_,rfl⟩
  have lmr:mr.length≤31:=by rw [emr];exact tE ns 3 65
  obtain ⟨ds,eds⟩:∃ds:List M1.Rd,ds=mr.map fun c=>mrd hs.length c:=⟨_,rfl⟩
  have hds:∀d∈ds,d.Ok hs.length:=fun d hd=>by
   rw [eds] at hd
   obtain ⟨c,_,rfl⟩:=List.mem_map.mp hd
   exact LQ (by omega) c
  have lds:ds.length≤31:=by rw [eds,List.length_map];exact lmr
  dsimp only [xO,vG,cJ]
  refine wG (K:=K) (Hs:=H1) (xs:=mr.map V.int) (rest:=[some (.ref p1)]) (fun R hR=>⟨_,rfl,_,rfl,_,rfl,a,_,_,rfl,rfl,(by decide),hS1,fun p np=>⟨p,rfl,⟨_,SqL.of aj⟩,?_⟩⟩) rfl (aG (by rw [List.length_map];omega)) (fun v=>match v with | .int c=>rdV hs (mrd hs.length c) | _=>[]) (fun i y H2 R ey sm kk=>?_) (fun D2 H2 rs hD2 tp s12=>?_)
  ·have:=hR p np
   rw [emr] at this
   rw [tD]
   exact this
  ·obtain ⟨c,_,rfl⟩:=List.mem_map.mp (List.mem_of_getElem? ey)
   exact ⟨_,rfl,_,rfl,c,p1,hs,rfl,sm _ _ h1,by omega,by omega,fun r2 nr2=>kk r2 _ (aF nr2) aj⟩
  have tp2:cT H2 rs (ds.map (rdV hs)):=by
   rw [eds,List.map_map]
   rw [List.map_map] at tp
   exact tp
  have hR:bI H2 hs rs ds:=⟨tp2,hds⟩
  have few:rs.length≤31:=by rw [hR.len];exact lds
  have hS2:=s12.seq hS1
  have h12:=s12 _ _ h1
  clear tp tp2 hS1 h1 s1 s12 np1
  have rl:=hR.len
  obtain ⟨bit,ebit⟩:∃bit:Nat→Nat→Int,bit=fun i j=>if S (hs.getD (ds.getD j d0).b [])=S (hs.getD i []) then 1 else 0:=⟨_,rfl⟩
  obtain ⟨cn,ecn⟩:∃cn:Nat→Int,cn=fun i=>((List.range rs.length).map (bit i)).sum:=⟨_,rfl⟩
  have b01:∀i,∀x∈(List.range rs.length).map (bit i),0≤x∧x≤1:=fun i x hx=>by
   obtain ⟨j,_,rfl⟩:=List.mem_map.mp hx
   rw [ebit]
   dsimp only
   split <;> omega
  have cb:∀i,0≤cn i∧cn i≤31:=fun i=>by
   have h1:=xJ _ (b01 i)
   rw [List.length_map,List.length_range] at h1
   rw [ecn]
   dsimp only
   omega
  refine uG (J:=Itl K p1) (H1:=H2) (xs:=txs hs) (rest:=[some (.ref D2)]) (fun R h=>⟨_,rfl,p1,rfl,⟨_,SqL.of h12⟩,h⟩) rfl (dD (SqL.of h12)) (aG (by unfold txs;rw [List.length_map];omega)) (fun i=>V.int (cn i)) (fun i v H3 R ev s3 kk=>?_) (fun D4 H4 nD4 hD4 s24=>?_)
  ·unfold txs at ev
   rw [List.getElem?_map] at ev
   obtain ⟨hh,ehh,rfl⟩:=Option.map_eq_some_iff.mp ev
   have hD3:=s3 _ _ hD2
   have hR3:=hR.same s3
   dsimp only [tCB,mG,Ba]
   refine uG (J:=Itl K D2) (H1:=H3) (xs:=refs rs) (rest:=[some (.str (S hh))]) (fun R h=>⟨_,rfl,D2,rfl,⟨_,SqL.of hD3⟩,h⟩) rfl (dD (SqL.of hD3)) (aG (by rw [aN];omega)) (fun j=>V.int (bit i j)) (fun j z H5 R' ez s5 kk'=>?_) (fun D5 H5 nD5 hD5 s35=>?_)
   ·unfold refs at ez
    rw [List.getElem?_map] at ez
    obtain ⟨ra,era,rfl⟩:=Option.map_eq_some_iff.mp ez
    obtain ⟨d,ed,okd,hrd⟩:=hR3.get era
    have eb:bit i j=if decide (V.str (S (hs.getD d.b []))=V.str (S hh))=true then 1 else 0:=by
     rw [ebit]
     dsimp only
     rw [gj ed,gO ehh]
     by_cases z:S (hs.getD d.b [])=S hh
     ·rw [if_pos z,if_pos (decide_eq_true (congrArg V.str z))]
     ·rw [if_neg z,if_neg fun y=>z (V.str.inj (of_decide_eq_true y))]
    have k2:=kk' H5 (aB.refl _)
    rw [eb] at k2
    exact ⟨_,rfl,ra,_,_,_,rfl,rfl,SqT.of (s5 _ _ hrd),rfl,_,rfl,rfl,.inr ⟨_,rfl,k2⟩⟩
   ·have e5:((List.range (refs rs).length).map fun j=>V.int (bit i j))=((List.range rs.length).map (bit i)).map V.int:=by
     rw [aN,List.map_map]
     rfl
    rw [e5] at hD5
    have k2:=kk H5 s35
    rw [ecn] at k2
    have c1:=(cb i).2
    rw [ecn] at c1
    exact ⟨D5,_,rfl,SqL.of hD5,fun x hx=>(b01 i x hx).1,Int.lt_of_le_of_lt c1 (by decide),k2⟩
  obtain ⟨es,ees⟩:∃es:List Int,es=(List.range hs.length).map cn:=⟨_,rfl⟩
  have le:es.length=hs.length:=by rw [ees,List.length_map,List.length_range]
  have ne:es≠[]:=fun z=>by rw [z] at le;simp at le;omega
  have hes:∀x∈es,0≤x∧x < 64:=fun x hx=>by
   rw [ees] at hx
   obtain ⟨i,_,rfl⟩:=List.mem_map.mp hx
   have:=cb i
   omega
  have hE4:H4 D4=some (.lst (es.map V.int)):=by
   rw [hD4,ees,List.map_map]
   unfold txs
   rw [List.length_map]
   rfl
  have h14:=s24 _ _ h12
  have hS4:=s24.seq hS2
  have hD24:=s24 _ _ hD2
  have hR4:=hR.same s24
  obtain ⟨ix,eix⟩:∃ix,ix=es.idxOf (jm es):=⟨_,rfl⟩
  have lix:ix < hs.length:=by rw [eix,←le];exact List.idxOf_lt_length_of_mem (uT ne).1
  obtain ⟨g,eg⟩:∃g,g=S (hs.getD ix []):=⟨_,rfl⟩
  have hgm:g∈hs.map S:=by rw [eg];exact eZ lix
  have hat:L2.atI (txs hs) (ix:Int)=some (.str g):=cN (by unfold txs;rw [List.getElem?_map,List.getElem?_eq_getElem lix,eg,List.getD,List.getElem?_eq_getElem lix];rfl)
  clear hD4 hS2 h12 hD2 hR s24 nD4 b01 cb ecn ebit
  refine ⟨_,rfl,_,rfl,.inl ⟨rfl,_,SqL.of hE4⟩,_,rfl,D4,es,rfl,SqL.of hE4,ne,D4,es,jm es,rfl,rfl,SqL.of hE4,(uT ne).1,lay_of hes (by omega),p1,_,_,_,rfl,rfl,SqL.of h14,(by rw [←eix];exact hat),?_⟩
  obtain ⟨ml,eml⟩:∃ml,ml=stepV ns (some 4) (some 66) 2:=⟨_,rfl⟩
  have lml:ml.length≤31:=by rw [eml];exact tE ns 4 66
  obtain ⟨lts,els⟩:∃lts:List (Str × Int × Str),lts=ml.map fun c=>lt3 hs (lt hs.length c bs):=⟨_,rfl⟩
  have oks:∀d∈lts,d.1∈hs.map S∧0≤d.2.1:=fun d hd=>by
   rw [els] at hd
   obtain ⟨c,_,rfl⟩:=List.mem_map.mp hd
   have ok:=Od (n:=hs.length) (by omega) c bs
   refine ⟨eZ ok.a,?_⟩
   have:=ok.lo
   show 0≤(lt hs.length c bs).t
   omega
  have llt:lts.length≤31:=by rw [els,List.length_map];exact lml
  refine wG (K:=K) (Hs:=H4) (xs:=ml.map V.int) (rest:=[some (.ref p1),some (.int bs)]) (fun R hR=>⟨_,rfl,_,rfl,_,rfl,a,_,_,rfl,rfl,(by decide),hS4,fun p np=>⟨p,rfl,⟨_,SqL.of aj⟩,?_⟩⟩) rfl (aG (by rw [List.length_map];omega)) (fun v=>match v with | .int c=>ltV hs (lt hs.length c bs) | _=>[]) (fun i y H5 R ey sm kk=>?_) (fun D5 H5 lr hD5 tp s45=>?_)
  ·have:=hR p np
   rw [eml] at this
   rw [tD]
   exact this
  ·obtain ⟨c,_,rfl⟩:=List.mem_map.mp (List.mem_of_getElem? ey)
   exact ⟨_,rfl,_,rfl,_,rfl,c,bs,p1,hs,rfl,sm _ _ h14,by omega,by omega,fun r2 nr2=>kk r2 _ (aF nr2) aj⟩
  have tpl:cT H5 lr (lts.map ltT):=by
   rw [els,List.map_map]
   rw [List.map_map] at tp
   exact tp
  have lrl:lr.length=lts.length:=by have:=tpl.len;rw [List.length_map] at this;exact this
  have hS5:=s45.seq hS4
  have h15:=s45 _ _ h14
  have hD25:=s45 _ _ hD24
  have hR5:=hR4.same s45
  clear tp hS4 h14 hD24 hR4 s45
  refine Hi (K:=K) (D0:=D5) (rest:=[some (.str g)]) (fun R h=>⟨_,rfl,D5,rfl,⟨_,SqL.of hD5⟩,h⟩) rfl hD5 tpl (aG (by omega)) (fun d=>!decide (V.str d.1=V.str g)) (fun d=>(d.1,d.2.1,g)) (fun d hd H2 R s2 k=>⟨_,rfl,_,rfl,rfl,_,rfl,k⟩) (fun d hd H2 R s2 k=>⟨_,rfl,_,rfl,_,rfl,(by show 3≤sizeLine;decide),fun r nr=>k r nr⟩) (fun D6 H6 lrs hD6 tp6 s56=>?_)
  obtain ⟨ld1,eld1⟩:∃ld1,ld1=(lts.filter fun d=>!decide (V.str d.1=V.str g)).map fun d=>(d.1,d.2.1,g):=⟨_,rfl⟩
  rw [←eld1] at tp6
  have ok1:∀d∈ld1,d.1∈hs.map S∧d.2.2=g∧d.1≠g∧0≤d.2.1:=fun d hd=>by
   rw [eld1] at hd
   obtain ⟨c,hc,rfl⟩:=List.mem_map.mp hd
   obtain ⟨h1,h2⟩:=List.mem_filter.mp hc
   exact ⟨(oks c h1).1,rfl,fun z=>by have z:c.1=g:=z;rw [z] at h2;simp at h2,(oks c h1).2⟩
  have l1:ld1.length≤31:=by
   rw [eld1,List.length_map]
   exact Nat.le_trans (List.length_filter_le _ _) llt
  have hS6:=s56.seq hS5
  have h16:=s56 _ _ h15
  have hD26:=s56 _ _ hD25
  have hR6:=hR5.same s56
  clear s56 hS5 h15 hD25 hR5 tpl hD5
  refine zX (t:=Kh _ _ _) (fun D'=>∀(D7:Addr) (Hx:Hp) (lrs:List Addr) (lds:List (Str × Int × Str)),aB H6 Hx→Hx D7=some (.lst (refs lrs))→cT Hx lrs (lds.map ltT)→(∀d∈lds,d.1∈hs.map S∧d.2.2=g∧d.1≠g∧0≤d.2.1)→lds.length≤31→D'.nx [some (.ref a),some (.ref p1),some (.int bs),some (.ref D2),some (.ref D4),some (.str g),some (.ref D7),none,none,none,none,none,none,none] Hx) ?_ fun D' rest=>?_
  rotate_left
  ·refine ⟨_,rfl,a,ns,2,rfl,hS6,by decide,_,_,rfl,rfl,⟨by decide,by decide⟩,_,_,rfl,rfl,(by show (0:Int) < 3;decide),rfl,_,rfl,?_⟩
   by_cases z:ns.getD (2:Int).toNat 0 / 7 % 3=1
   ·refine eY (decide_eq_true (congrArg V.int z)) ?_
    refine Hi (K:=K) (D0:=D6) (rest:=[some (.int bs),some (.str g)]) (fun R h=>⟨_,rfl,D6,rfl,⟨_,SqL.of hD6⟩,h⟩) rfl hD6 tp6 (aG (by have:=tp6.len;rw [List.length_map] at this;omega)) (fun _=>true) (fun d=>(d.1,bs,g)) (fun d hd H2 R s2 k=>k) (fun d hd H2 R s2 k=>⟨_,rfl,_,rfl,_,rfl,(by show 3≤sizeLine;decide),fun r nr=>k r nr⟩) (fun D7 H7 lrs7 hD7 tp7 s67=>rest D7 H7 lrs7 _ s67 hD7 tp7 (fun d hd=>?_) ?_)
    ·obtain ⟨c,hc,rfl⟩:=List.mem_map.mp hd
     have hc:=(List.mem_filter.mp hc).1
     exact ⟨(ok1 c hc).1,rfl,(ok1 c hc).2.2.1,hb0⟩
    ·rw [List.length_map]
     exact Nat.le_trans (List.length_filter_le _ _) l1
   ·refine gw (decide_eq_false fun y=>z (V.int.inj y)) (rest D6 H6 lrs ld1 (aB.refl _) hD6 tp6 ok1 l1)
  intro D7 H7 lrs lds s67 hD7 tp7 okl lln
  have lrl:=tp7.len
  rw [List.length_map] at lrl
  have hS7:=s67.seq hS6
  have h17:=s67 _ _ h16
  have hD27:=s67 _ _ hD26
  have hR7:=hR6.same s67
  clear s67 hS6 h16 hD26 hR6 tp6 hD6 ok1 l1 eld1
  refine ⟨_,rfl,_,rfl,fun x dx nx ndx nd=>?_⟩
  have mk:∀{b:Addr} {v:HO},H7 b=some v→upd (upd H7 dx (.own x)) x (.ins CN dx []) b=some v:=fun {b v} e=>by
   rw [ak (aA e nx),ak (aA e ndx)]
   exact e
  refine ⟨x,dx,p1,D2,hs,rs,ds,rfl,aj,mk h17,G,mk hD27,hR7.same (fun b v e=>mk e),(by omega),fun H8 a' b' sb hx8 ha8 hb8 na nb=>⟨rfl,?_⟩⟩
  have s78:aB H7 H8:=sX nx ndx sb
  have net:iJ CN H8 x a' b' (txs hs) (refs rs):=⟨⟨dx,hx8⟩,ha8,hb8⟩
  have hD28:=s78 _ _ hD27
  have hD78:=s78 _ _ hD7
  have tp8:=tp7.same s78
  have hR8:=hR7.same s78
  have h18:=s78 _ _ h17
  clear mk hS7 h17 hD27 hD7 tp7 hR7 sb nx ndx nd s78 hx8 ha8 hb8 na nb
  refine ⟨_,rfl,_,rfl,_,rfl,_,rfl,_,rfl,x,a',b',hs,rs,ds,rfl,net,G,hR8,(by omega),fun y t H9 kvs ny nt s89 wy ST=>?_⟩
  have hld:∀d∈lds,d.1∈hs.map S∧d.2.2∈hs.map S∧d.1≠d.2.2:=fun d hd=>by
   obtain ⟨h1,h2,h3,_⟩:=okl d hd
   rw [h2]
   exact ⟨h1,hgm,h3⟩
  refine ⟨x,D7,y,t,a',b',hs,rs,lrs,ds,kvs,lds,rfl,s89 _ _ hD78,tp8.same s89,(by omega),wy,G,hR8.same s89,ST.ok hR8.ok,hld,fun pl H10 as npl s910 hpl bags=>?_⟩
  have s10:=s89.trans s910
  refine ⟨D2,D7,pl,hs,rs,lrs,as,ds,lds,_,rfl,s10 _ _ hD28,hR8.same s10,s10 _ _ hD78,tp8.same s10,(by omega),hpl,bags,fun b hb=>?_,fun hl' H11 vs nhl s1011 hhl lvs hom=>?_⟩
  ·obtain ⟨h1,h2⟩:=G8 _ _ _ _ b hb
   exact ⟨h1,fun n hn=>List.mem_range.mp (List.mem_filter.mp (h2 n hn)).1⟩
  have s11:=s10.trans s1011
  have hD2b:=s11 _ _ hD28
  have hD7b:=s11 _ _ hD78
  have tpb:=tp8.same s11
  have hRb:=hR8.same s11
  have h1b:=s11 _ _ h18
  clear s1011 s910 s89 s10 wy bags hpl hD28 hD78 tp8 hR8 h18 net s11
  refine ⟨_,rfl,_,rfl,_,rfl,D2,p1,hs,rs,ds,g,rfl,SqL.of hD2b,SqL.of h1b,hRb,(by omega),hgm,fun td H12 kv ntd s12 htd Tt=>?_⟩
  have hD7c:=s12 _ _ hD7b
  have tpc:=tpb.same s12
  have hhc:=s12 _ _ hhl
  have atl:∀{i:Nat} {v:L2.V},(refs lrs)[i]?=some v→∃(r:Addr) (d:Str × Int × Str),v=.ref r∧lds[i]?=some d∧H12 r=some (.tup (ltT d)):=fun {i v} ev=>by
   unfold refs at ev
   rw [List.getElem?_map] at ev
   obtain ⟨r,er,rfl⟩:=Option.map_eq_some_iff.mp ev
   obtain ⟨d',ed',hd'⟩:=Paired.get tpc er
   rw [List.getElem?_map] at ed'
   obtain ⟨d,ed,rfl⟩:=Option.map_eq_some_iff.mp ed'
   exact ⟨r,d,rfl,ed,hd'⟩
  have tb_:∀{Hq:Hp},aB H12 Hq→∀k:Str,fX Hq td (.str k) ((toD hs ds g k).map V.int):=fun {Hq} sq k=>by
   have:=fX.k (k:=Sum.inr k) (sq _ _ htd)
   rw [Tt.at_] at this
   exact this
  dsimp only [cJ,xO,vG]
  refine Hk fun Z hZ=>?_
  refine Lx (J:=Itl K D7) (H1:=H12) (xs:=refs lrs) (rest:=[some (.ref td)]) (fun R h=>⟨_,rfl,D7,rfl,⟨_,SqL.of hD7c⟩,h⟩) rfl (dD (SqL.of hD7c)) (aG (by rw [aN];omega)) (fun i=>((toD hs ds g (lds.getD i d00).1).map V.int).isSome) (fun i=>V.int ((toD hs ds g (lds.getD i d00).1).getD 0)) (fun i v Hq R ev sq kk=>?_) (fun i v Hq R ev hp sq kk=>?_) (fun D13 H13 nD13 hD13 s13=>?_)
  ·obtain ⟨r,d,rfl,ed,hd⟩:=atl ev
   have k2:=kk Hq (aB.refl _)
   rw [gO ed] at k2
   exact ⟨_,rfl,r,_,_,_,rfl,rfl,SqT.of (sq _ _ hd),rfl,_,rfl,td,_,rfl,tb_ sq _,_,rfl,k2⟩
  ·obtain ⟨r,d,rfl,ed,hd⟩:=atl ev
   rw [gO ed] at hp
   have k2:=kk Hq (aB.refl _)
   rw [gO ed] at k2
   have dg:=tb_ sq d.1
   cases e:toD hs ds g d.1 with
   | none=>
    rw [e] at hp
    cases hp
   | some u=>
    rw [e] at dg k2
    exact ⟨_,rfl,_,rfl,r,_,_,_,rfl,rfl,SqT.of (sq _ _ hd),rfl,td,_,rfl,dg,k2⟩
  obtain ⟨ns1,ens1⟩:∃ns1:List Int,ns1=((List.range (refs lrs).length).filter fun i=>((toD hs ds g (lds.getD i d00).1).map V.int).isSome).map fun i=>(toD hs ds g (lds.getD i d00).1).getD 0:=⟨_,rfl⟩
  have hD13':H13 D13=some (.lst (ns1.map V.int)):=by
   rw [hD13,ens1,List.map_map]
   rfl
  obtain ⟨D,eD⟩:∃D:Int,D=if ns1=[] then 0 else jm ns1:=⟨_,rfl⟩
  have hD:∀d∈lds,∀v,cZ hs ds d.1 g=some v→v≤D:=fun d hd v e=>by
   obtain ⟨i,hi,rfl⟩:=List.getElem_of_mem hd
   have m:v∈ns1:=by
    rw [ens1]
    refine List.mem_map.mpr ⟨i,List.mem_filter.mpr ⟨List.mem_range.mpr (by rw [aN];omega),?_⟩,?_⟩
    ·rw [gO (List.getElem?_eq_getElem hi)]
     show ((cZ hs ds _ g).map V.int).isSome=true
     rw [e]
     rfl
    ·rw [gO (List.getElem?_eq_getElem hi)]
     show (cZ hs ds _ g).getD 0=v
     rw [e]
     rfl
   have ne1:ns1≠[]:=fun z=>by rw [z] at m;cases m
   rw [eD,if_neg ne1]
   exact (uT ne1).2 _ m
  refine hZ D13 ns1 D H13 hD13' eD ?_
  clear hZ Z
  dsimp only [tOp]
  refine Hk fun Z hZ=>?_
  refine uG (J:=Itl K D7) (H1:=H13) (xs:=refs lrs) (rest:=[]) (fun R h=>⟨_,rfl,D7,rfl,⟨_,SqL.of (s13 _ _ hD7c)⟩,h⟩) rfl (dD (SqL.of (s13 _ _ hD7c))) (aG (by rw [aN];omega)) (fun i=>V.int (lds.getD i d00).2.1) (fun i v Hq R ev sq kk=>?_) (fun D14 H14 nD14 hD14 s14=>?_)
  ·obtain ⟨r,d,rfl,ed,hd⟩:=atl ev
   have k2:=kk Hq (aB.refl _)
   rw [gO ed] at k2
   exact ⟨_,rfl,r,_,_,_,rfl,rfl,SqT.of (sq _ _ (s13 _ _ hd)),rfl,k2⟩
  obtain ⟨ns2,ens2⟩:∃ns2:List Int,ns2=(List.range (refs lrs).length).map fun i=>(lds.getD i d00).2.1:=⟨_,rfl⟩
  have hD14':H14 D14=some (.lst (ns2.map V.int)):=by
   rw [hD14,ens2,List.map_map]
   rfl
  obtain ⟨Rm,eRm⟩:∃Rm:Int,Rm=if ns2=[] then 0 else jm ns2:=⟨_,rfl⟩
  have hRm:∀d∈lds,d.2.1≤Rm:=fun d hd=>by
   obtain ⟨i,hi,rfl⟩:=List.getElem_of_mem hd
   have m:lds[i].2.1∈ns2:=by
    rw [ens2]
    exact List.mem_map.mpr ⟨i,List.mem_range.mpr (by rw [aN];omega),by rw [gO (List.getElem?_eq_getElem hi)]⟩
   have ne1:ns2≠[]:=fun z=>by rw [z] at m;cases m
   rw [eRm,if_neg ne1]
   exact (uT ne1).2 _ m
  refine hZ D14 ns2 Rm H14 hD14' eRm ?_
  clear hZ Z
  have s1e:=s13.trans s14
  have hD7e:=s1e _ _ hD7c
  have hhe:=s1e _ _ hhc
  refine ⟨_,rfl,_,_,rfl,rfl,_,rfl,D7,_,rfl,.inl (SqL.of hD7e),_,_,rfl,rfl,_,_,rfl,rfl,?_⟩
  refine ⟨_,rfl,_,rfl,D7,hl',rfl,⟨_,SqL.of hD7e⟩,⟨_,SqL.of hhe⟩,?_⟩
  refine Hf (K:=K) (a:=D7) (b:=hl') (xs:=refs lrs) (ys:=vs) (by rw [aN];omega) (fun i σ Hc=>aB H14 Hc∧∃v12 v13,σ=[some (.ref a),some (.ref p1),some (.int bs),some (.ref D2),some (.ref D4),some (.str g),some (.ref D7),some (.ref x),some (.ref hl'),some (.ref td),some (.int D),some (.int (Rm+D+((refs lrs).length:Int) - 1)),v12,v13]) ⟨aB.refl _,none,none,rfl⟩ (fun i σ Hc h=>⟨SqL.of (h.1 _ _ hD7e),SqL.of (h.1 _ _ hhe)⟩) (fun i u v σ Hc p eu ev hP np=>?_) (fun σ Hc hP=>?_)
  ·obtain ⟨sm,v12,v13,rfl⟩:=hP
   obtain ⟨r,d,rfl,ed,hd⟩:=atl eu
   have sp:aB Hc (upd Hc p (.tup [V.ref r,v])):=aF np
   have sq:=s1e.trans (sm.trans sp)
   have hl1:(refs lrs).length=lds.length:=by rw [aN];omega
   refine ⟨p,_,rfl,SqT.of aj,rfl,_,_,rfl,_,_,rfl,rfl,?_⟩
   have hn:=JL hRb.ok ST (by omega) (by omega) hld (fun d hd=>⟨(okl d hd).2.1,(okl d hd).2.2.2⟩) hRm hD (n:=i) (v:=v) (by have:=(List.getElem?_eq_some_iff.mp ed).1;omega) (hom i v ev)
   rw [gO ed] at hn
   have dg:=tb_ sq d.1
   have hdq:=sq _ _ hd
   have nx:aB H14 (upd Hc p (.tup [V.ref r,v])):=sm.trans sp
   generalize upd Hc p (.tup [V.ref r,v])=Hd at sp sq dg hdq nx ⊢
   rw [show toD hs ds g d.1=cZ hs ds d.1 g from rfl] at dg
   rcases hn with ⟨rfl,nf⟩ | ⟨u,h,hu,rfl,l1,l2⟩
   ·rw [nf] at dg
    refine ⟨_,rfl,rfl,_,rfl,r,_,_,_,rfl,rfl,SqT.of hdq,rfl,_,rfl,td,_,rfl,dg,rfl,_,rfl,?_⟩
    refine gw rfl ?_
    refine ⟨_,rfl,rfl,_,rfl,?_⟩
    exact gw rfl ⟨nx,_,_,rfl⟩
   ·rw [hu] at dg
    refine ⟨_,rfl,rfl,_,rfl,r,_,_,_,rfl,rfl,SqT.of hdq,rfl,_,rfl,td,_,rfl,dg,rfl,_,rfl,?_⟩
    refine gw rfl ?_
    refine ⟨_,rfl,rfl,_,rfl,?_⟩
    refine eY rfl ?_
    refine ⟨_,rfl,r,_,_,_,rfl,rfl,SqT.of hdq,rfl,_,rfl,_,rfl,r,_,_,_,rfl,rfl,SqT.of hdq,rfl,td,_,rfl,dg,_,_,rfl,rfl,_,rfl,_,_,rfl,rfl,_,rfl,?_⟩
    rw [if_pos (decide_eq_true l1)]
    exact ⟨_,rfl,_,_,rfl,rfl,_,rfl,gw (by rw [hl1,decide_eq_true l2];rfl) ⟨nx,_,_,rfl⟩⟩
  ·obtain ⟨sm,v12,v13,rfl⟩:=hP
   exact q _
end
end K1
namespace L3
open PySem PySem.Spec PyProof.Rows L2
end L3
namespace K1
open PySem L2 L3 M1
theorem rG {us:List Value} (h:us.length=1):∃a0,us=[a0]:=by
 rcases us with _ | ⟨a0,_ | ⟨b,r⟩⟩
 ·simp at h
 ·exact ⟨a0,rfl⟩
 ·simp at h
theorem fP {us:List Value} (h:us.length=2):∃a0 a1,us=[a0,a1]:=by
 rcases us with _ | ⟨a0,_ | ⟨a1,_ | ⟨b,r⟩⟩⟩
 ·simp at h
 ·simp at h
 ·exact ⟨a0,a1,rfl⟩
 ·simp at h
theorem ju {us:List Value} (h:us.length=3):∃a0 a1 a2,us=[a0,a1,a2]:=by
 rcases us with _ | ⟨a0,_ | ⟨a1,_ | ⟨a2,_ | ⟨b,r⟩⟩⟩⟩
 ·simp at h
 ·simp at h
 ·simp at h
 ·exact ⟨a0,a1,a2,rfl⟩
 ·simp at h
theorem J8 {us:List Value} (h:us.length=4):∃a0 a1 a2 a3,us=[a0,a1,a2,a3]:=by
 rcases us with _ | ⟨a0,_ | ⟨a1,_ | ⟨a2,_ | ⟨a3,_ | ⟨b,r⟩⟩⟩⟩⟩
 ·simp at h
 ·simp at h
 ·simp at h
 ·simp at h
 ·exact ⟨a0,a1,a2,a3,rfl⟩
 ·simp at h
theorem O3 {us:List Value} (h:us.length=5):∃a0 a1 a2 a3 a4,us=[a0,a1,a2,a3,a4]:=by
 rcases us with _ | ⟨a0,_ | ⟨a1,_ | ⟨a2,_ | ⟨a3,_ | ⟨a4,_ | ⟨b,r⟩⟩⟩⟩⟩⟩
 ·simp at h
 ·simp at h
 ·simp at h
 ·simp at h
 ·simp at h
 ·exact ⟨a0,a1,a2,a3,a4,rfl⟩
 ·simp at h
theorem all_mk {l:PySem.W.OpenLaw} {w:World} {K:PySem.W.Frag} {h:Heap} {mg:Str→Option Value} {fa CNet fNet_init fNet_houses fNet_roads fNet_road fNet_out_of fNet_need_house CWays fWays_init fWays_set_way fWays_way fWays_route fWays_need_pair CWalk fWalk_init fWalk_take_in fWalk_send fWalk_goal fWalk_last_house fWalk_last_turn fWalk_home_turn fis_whole fis_whole_within fis_tuple_of fare_unlike_houses fis_name fare_houses fis_road fare_roads fis_shorter_by fleast_turns_from fbegins_shortest fshortest fhas_route fqueues_at fbags_at frun f_law_cell_at f_law_houses f_law_road f_law_letter f_law_fars f_law_homes flaw CRoadError CNoWay CNoHouse CNoRoad fNoWay_init:Addr} {dNet_init dNet_houses dNet_roads dNet_road dNet_out_of dNet_need_house dWays_init dWays_set_way dWays_way dWays_route dWays_need_pair dWalk_init dWalk_take_in dWalk_send dWalk_goal dWalk_last_house dWalk_last_turn dWalk_home_turn dis_whole dis_whole_within dis_tuple_of dare_unlike_houses dis_name dare_houses dis_road dare_roads dis_shorter_by dleast_turns_from dbegins_shortest dshortest dhas_route dqueues_at dbags_at drun d_law_cell_at d_law_houses d_law_road d_law_letter d_law_fars d_law_homes dlaw dNoWay_init:FuncData} (X:K.In h) (G:h.Ns mainGlobals mg) (hfa:mg "law"=some (.ref fa))
  (aCNet:PySem.W.nsIn K mainGlobals "Net"=some (some (.ref CNet)))
  (pgNet:PySem.W.plainGet K CNet Str.empty=true) (hdNet:PySem.W.hasDictIn K CNet=true) (poNet:PySem.W.plainOver K CNet=true) (saNet:PySem.W.findIn K (.ref CNet) "__setattr__"=some (some (.builtin "object.__setattr__"))) (mkNet:PySem.W.makesIn K CNet=true) (kcNet:PySem.W.keepIn K (.ref CNet)=true)
  (nNet_kept_houses:PySem.W.findIn K (.ref CNet) "kept_houses"=some none)
  (nNet_kept_roads:PySem.W.findIn K (.ref CNet) "kept_roads"=some none)
  (aNet_init:PySem.W.findIn K (.ref CNet) "__init__"=some (some (.ref fNet_init))) (iNet_init:PySem.W.isFn K (.ref fNet_init)=true)
  (FNet_init:Fun K "__init__" "Net.__init__" wF fNet_init dNet_init)
  (aNet_houses:PySem.W.findIn K (.ref CNet) "houses"=some (some (.ref fNet_houses))) (iNet_houses:PySem.W.isFn K (.ref fNet_houses)=true)
  (FNet_houses:Fun K "houses" "Net.houses" jk fNet_houses dNet_houses)
  (aNet_roads:PySem.W.findIn K (.ref CNet) "roads"=some (some (.ref fNet_roads))) (iNet_roads:PySem.W.isFn K (.ref fNet_roads)=true)
  (FNet_roads:Fun K "roads" "Net.roads" nj fNet_roads dNet_roads)
  (aNet_road:PySem.W.findIn K (.ref CNet) "road"=some (some (.ref fNet_road))) (iNet_road:PySem.W.isFn K (.ref fNet_road)=true)
  (FNet_road:Fun K "road" "Net.road" j4 fNet_road dNet_road)
  (aNet_out_of:PySem.W.findIn K (.ref CNet) "out_of"=some (some (.ref fNet_out_of))) (iNet_out_of:PySem.W.isFn K (.ref fNet_out_of)=true)
  (FNet_out_of:Fun K "out_of" "Net.out_of" BR fNet_out_of dNet_out_of)
  (aNet_need_house:PySem.W.findIn K (.ref CNet) "need_house"=some (some (.ref fNet_need_house))) (iNet_need_house:PySem.W.isFn K (.ref fNet_need_house)=true)
  (FNet_need_house:Fun K "need_house" "Net.need_house" tQ fNet_need_house dNet_need_house)
  (aCWays:PySem.W.nsIn K mainGlobals "Ways"=some (some (.ref CWays)))
  (pgWays:PySem.W.plainGet K CWays Str.empty=true) (hdWays:PySem.W.hasDictIn K CWays=true) (poWays:PySem.W.plainOver K CWays=true) (saWays:PySem.W.findIn K (.ref CWays) "__setattr__"=some (some (.builtin "object.__setattr__"))) (mkWays:PySem.W.makesIn K CWays=true) (kcWays:PySem.W.keepIn K (.ref CWays)=true)
  (nWays_net:PySem.W.findIn K (.ref CWays) "net"=some none)
  (nWays_told:PySem.W.findIn K (.ref CWays) "told"=some none)
  (aWays_init:PySem.W.findIn K (.ref CWays) "__init__"=some (some (.ref fWays_init))) (iWays_init:PySem.W.isFn K (.ref fWays_init)=true)
  (FWays_init:Fun K "__init__" "Ways.__init__" sWI fWays_init dWays_init)
  (aWays_set_way:PySem.W.findIn K (.ref CWays) "set_way"=some (some (.ref fWays_set_way))) (iWays_set_way:PySem.W.isFn K (.ref fWays_set_way)=true)
  (FWays_set_way:Fun K "set_way" "Ways.set_way" sSW fWays_set_way dWays_set_way)
  (aWays_way:PySem.W.findIn K (.ref CWays) "way"=some (some (.ref fWays_way))) (iWays_way:PySem.W.isFn K (.ref fWays_way)=true)
  (FWays_way:Fun K "way" "Ways.way" sWy fWays_way dWays_way)
  (aWays_route:PySem.W.findIn K (.ref CWays) "route"=some (some (.ref fWays_route))) (iWays_route:PySem.W.isFn K (.ref fWays_route)=true)
  (FWays_route:Fun K "route" "Ways.route" sRt fWays_route dWays_route)
  (aWays_need_pair:PySem.W.findIn K (.ref CWays) "need_pair"=some (some (.ref fWays_need_pair))) (iWays_need_pair:PySem.W.isFn K (.ref fWays_need_pair)=true)
  (FWays_need_pair:Fun K "need_pair" "Ways.need_pair" sNP fWays_need_pair dWays_need_pair)
  (aCWalk:PySem.W.nsIn K mainGlobals "Walk"=some (some (.ref CWalk)))
  (pgWalk:PySem.W.plainGet K CWalk Str.empty=true) (hdWalk:PySem.W.hasDictIn K CWalk=true) (poWalk:PySem.W.plainOver K CWalk=true) (saWalk:PySem.W.findIn K (.ref CWalk) "__setattr__"=some (some (.builtin "object.__setattr__"))) (mkWalk:PySem.W.makesIn K CWalk=true) (kcWalk:PySem.W.keepIn K (.ref CWalk)=true)
  (nWalk_net:PySem.W.findIn K (.ref CWalk) "net"=some none)
  (nWalk_goals:PySem.W.findIn K (.ref CWalk) "goals"=some none)
  (nWalk_steps:PySem.W.findIn K (.ref CWalk) "steps"=some none)
  (aWalk_init:PySem.W.findIn K (.ref CWalk) "__init__"=some (some (.ref fWalk_init))) (iWalk_init:PySem.W.isFn K (.ref fWalk_init)=true)
  (FWalk_init:Fun K "__init__" "Walk.__init__" Ff fWalk_init dWalk_init)
  (aWalk_take_in:PySem.W.findIn K (.ref CWalk) "take_in"=some (some (.ref fWalk_take_in))) (iWalk_take_in:PySem.W.isFn K (.ref fWalk_take_in)=true)
  (FWalk_take_in:Fun K "take_in" "Walk.take_in" wH fWalk_take_in dWalk_take_in)
  (aWalk_send:PySem.W.findIn K (.ref CWalk) "send"=some (some (.ref fWalk_send))) (iWalk_send:PySem.W.isFn K (.ref fWalk_send)=true)
  (FWalk_send:Fun K "send" "Walk.send" wL fWalk_send dWalk_send)
  (aWalk_goal:PySem.W.findIn K (.ref CWalk) "goal"=some (some (.ref fWalk_goal))) (iWalk_goal:PySem.W.isFn K (.ref fWalk_goal)=true)
  (FWalk_goal:Fun K "goal" "Walk.goal" wM fWalk_goal dWalk_goal)
  (aWalk_last_house:PySem.W.findIn K (.ref CWalk) "last_house"=some (some (.ref fWalk_last_house))) (iWalk_last_house:PySem.W.isFn K (.ref fWalk_last_house)=true)
  (FWalk_last_house:Fun K "last_house" "Walk.last_house" oH fWalk_last_house dWalk_last_house)
  (aWalk_last_turn:PySem.W.findIn K (.ref CWalk) "last_turn"=some (some (.ref fWalk_last_turn))) (iWalk_last_turn:PySem.W.isFn K (.ref fWalk_last_turn)=true)
  (FWalk_last_turn:Fun K "last_turn" "Walk.last_turn" lX fWalk_last_turn dWalk_last_turn)
  (aWalk_home_turn:PySem.W.findIn K (.ref CWalk) "home_turn"=some (some (.ref fWalk_home_turn))) (iWalk_home_turn:PySem.W.isFn K (.ref fWalk_home_turn)=true)
  (FWalk_home_turn:Fun K "home_turn" "Walk.home_turn" qC fWalk_home_turn dWalk_home_turn)
  (ais_whole:PySem.W.nsIn K mainGlobals "is_whole"=some (some (.ref fis_whole)))
  (Fis_whole:Fun K "is_whole" "is_whole" qy fis_whole dis_whole)
  (ais_whole_within:PySem.W.nsIn K mainGlobals "is_whole_within"=some (some (.ref fis_whole_within)))
  (Fis_whole_within:Fun K "is_whole_within" "is_whole_within" m9 fis_whole_within dis_whole_within)
  (ais_tuple_of:PySem.W.nsIn K mainGlobals "is_tuple_of"=some (some (.ref fis_tuple_of)))
  (Fis_tuple_of:Fun K "is_tuple_of" "is_tuple_of" qz fis_tuple_of dis_tuple_of)
  (aare_unlike_houses:PySem.W.nsIn K mainGlobals "are_unlike_houses"=some (some (.ref fare_unlike_houses)))
  (Fare_unlike_houses:Fun K "are_unlike_houses" "are_unlike_houses" jF fare_unlike_houses dare_unlike_houses)
  (ais_name:PySem.W.nsIn K mainGlobals "is_name"=some (some (.ref fis_name)))
  (Fis_name:Fun K "is_name" "is_name" wz fis_name dis_name)
  (aare_houses:PySem.W.nsIn K mainGlobals "are_houses"=some (some (.ref fare_houses)))
  (Fare_houses:Fun K "are_houses" "are_houses" wA fare_houses dare_houses)
  (ais_road:PySem.W.nsIn K mainGlobals "is_road"=some (some (.ref fis_road)))
  (Fis_road:Fun K "is_road" "is_road" wB fis_road dis_road)
  (aare_roads:PySem.W.nsIn K mainGlobals "are_roads"=some (some (.ref fare_roads)))
  (Fare_roads:Fun K "are_roads" "are_roads" wC fare_roads dare_roads)
  (ais_shorter_by:PySem.W.nsIn K mainGlobals "is_shorter_by"=some (some (.ref fis_shorter_by)))
  (Fis_shorter_by:Fun K "is_shorter_by" "is_shorter_by" qN fis_shorter_by dis_shorter_by)
  (aleast_turns_from:PySem.W.nsIn K mainGlobals "least_turns_from"=some (some (.ref fleast_turns_from)))
  (Fleast_turns_from:Fun K "least_turns_from" "least_turns_from" qO fleast_turns_from dleast_turns_from)
  (abegins_shortest:PySem.W.nsIn K mainGlobals "begins_shortest"=some (some (.ref fbegins_shortest)))
  (Fbegins_shortest:Fun K "begins_shortest" "begins_shortest" Gh fbegins_shortest dbegins_shortest)
  (ashortest:PySem.W.nsIn K mainGlobals "shortest"=some (some (.ref fshortest)))
  (Fshortest:Fun K "shortest" "shortest" sSh fshortest dshortest)
  (ahas_route:PySem.W.nsIn K mainGlobals "has_route"=some (some (.ref fhas_route)))
  (Fhas_route:Fun K "has_route" "has_route" sHR fhas_route dhas_route)
  (aqueues_at:PySem.W.nsIn K mainGlobals "queues_at"=some (some (.ref fqueues_at)))
  (Fqueues_at:Fun K "queues_at" "queues_at" sQs fqueues_at dqueues_at)
  (abags_at:PySem.W.nsIn K mainGlobals "bags_at"=some (some (.ref fbags_at)))
  (Fbags_at:Fun K "bags_at" "bags_at" sBa fbags_at dbags_at)
  (arun:PySem.W.nsIn K mainGlobals "run"=some (some (.ref frun)))
  (Frun:Fun K "run" "run" GX frun drun)
  (a_law_cell_at:PySem.W.nsIn K mainGlobals "_law_cell_at"=some (some (.ref f_law_cell_at)))
  (F_law_cell_at:Fun K "_law_cell_at" "_law_cell_at" sAt f_law_cell_at d_law_cell_at)
  (a_law_houses:PySem.W.nsIn K mainGlobals "_law_houses"=some (some (.ref f_law_houses)))
  (F_law_houses:Fun K "_law_houses" "_law_houses" jY f_law_houses d_law_houses)
  (a_law_road:PySem.W.nsIn K mainGlobals "_law_road"=some (some (.ref f_law_road)))
  (F_law_road:Fun K "_law_road" "_law_road" FJ f_law_road d_law_road)
  (a_law_letter:PySem.W.nsIn K mainGlobals "_law_letter"=some (some (.ref f_law_letter)))
  (F_law_letter:Fun K "_law_letter" "_law_letter" ww f_law_letter d_law_letter)
  (a_law_fars:PySem.W.nsIn K mainGlobals "_law_fars"=some (some (.ref f_law_fars)))
  (F_law_fars:Fun K "_law_fars" "_law_fars" xG f_law_fars d_law_fars)
  (a_law_homes:PySem.W.nsIn K mainGlobals "_law_homes"=some (some (.ref f_law_homes)))
  (F_law_homes:Fun K "_law_homes" "_law_homes" G5 f_law_homes d_law_homes)
  (alaw:PySem.W.nsIn K mainGlobals "law"=some (some (.ref flaw)))
  (Flaw:Fun K "law" "law" CJ flaw dlaw)
  {ddRoadError:Option Addr} {cdRoadError:ClassData} {slRoadError:Array (Option Value)} (aCRoadError:PySem.W.nsIn K mainGlobals "RoadError"=some (some (.ref CRoadError))) (lCRoadError:K.lookup CRoadError=some ⟨.type "type",ddRoadError,.cls cdRoadError,slRoadError⟩)
  {ddNoWay:Option Addr} {cdNoWay:ClassData} {slNoWay:Array (Option Value)} (aCNoWay:PySem.W.nsIn K mainGlobals "NoWay"=some (some (.ref CNoWay))) (lCNoWay:K.lookup CNoWay=some ⟨.type "type",ddNoWay,.cls cdNoWay,slNoWay⟩)
  {ddNoHouse:Option Addr} {cdNoHouse:ClassData} {slNoHouse:Array (Option Value)} (aCNoHouse:PySem.W.nsIn K mainGlobals "NoHouse"=some (some (.ref CNoHouse))) (lCNoHouse:K.lookup CNoHouse=some ⟨.type "type",ddNoHouse,.cls cdNoHouse,slNoHouse⟩)
  {ddNoRoad:Option Addr} {cdNoRoad:ClassData} {slNoRoad:Array (Option Value)} (aCNoRoad:PySem.W.nsIn K mainGlobals "NoRoad"=some (some (.ref CNoRoad))) (lCNoRoad:K.lookup CNoRoad=some ⟨.type "type",ddNoRoad,.cls cdNoRoad,slNoRoad⟩)
  (aNoWay_init:PySem.W.findIn K (.ref CNoWay) "__init__"=some (some (.ref fNoWay_init))) (iNoWay_init:PySem.W.isFn K (.ref fNoWay_init)=true)
  (FNoWay_init:Fun K "__init__" "NoWay.__init__" sIW fNoWay_init dNoWay_init)
  (xiRoadError:PySem.W.excIn K CRoadError [.type "ValueError",.type "Exception",.type "BaseException",.type "object"] "ValueError.__new__"=true)
  (xiNoHouse:PySem.W.excIn K CNoHouse [.type "ValueError",.type "Exception",.type "BaseException",.type "object"] "ValueError.__new__"=true)
  (xiNoRoad:PySem.W.excIn K CNoRoad [.type "ValueError",.type "Exception",.type "BaseException",.type "object"] "ValueError.__new__"=true)
  (xsNoWay_NoWay:Eg cdNoWay slNoWay CNoWay CNoWay=true)
  {tMOST_HOUSES:Tok} (vMOST_HOUSES:PySem.W.nsIn K mainGlobals "MOST_HOUSES"=some (some (.int 12 tMOST_HOUSES)))
  {tMOST_ROADS:Tok} (vMOST_ROADS:PySem.W.nsIn K mainGlobals "MOST_ROADS"=some (some (.int 40 tMOST_ROADS)))
  {tMOST_SIGNS:Tok} (vMOST_SIGNS:PySem.W.nsIn K mainGlobals "MOST_SIGNS"=some (some (.int 8 tMOST_SIGNS)))
  {tMOST_TURNS:Tok} (vMOST_TURNS:PySem.W.nsIn K mainGlobals "MOST_TURNS"=some (some (.int 9 tMOST_TURNS)))
  {tMOST_ROOM:Tok} (vMOST_ROOM:PySem.W.nsIn K mainGlobals "MOST_ROOM"=some (some (.int 1000000000 tMOST_ROOM)))
  (zlen:PySem.W.nsIn K mainGlobals "len"=some none)
  (zrange:PySem.W.nsIn K mainGlobals "range"=some none)
  (zisinstance:PySem.W.nsIn K mainGlobals "isinstance"=some none)
  (zall:PySem.W.nsIn K mainGlobals "all"=some none)
  (zint:PySem.W.nsIn K mainGlobals "int"=some none)
  (zbool:PySem.W.nsIn K mainGlobals "bool"=some none)
  (zstr:PySem.W.nsIn K mainGlobals "str"=some none)
  (zlist:PySem.W.nsIn K mainGlobals "list"=some none)
  (ztuple:PySem.W.nsIn K mainGlobals "tuple"=some none)
  (zset:PySem.W.nsIn K mainGlobals "set"=some none)
  (zValueError:PySem.W.nsIn K mainGlobals "ValueError"=some none)
  (zenumerate:PySem.W.nsIn K mainGlobals "enumerate"=some none)
  (zmax:PySem.W.nsIn K mainGlobals "max"=some none)
  (zmin:PySem.W.nsIn K mainGlobals "min"=some none)
  (zsum:PySem.W.nsIn K mainGlobals "sum"=some none)
  (zany:PySem.W.nsIn K mainGlobals "any"=some none)
  (zdict:PySem.W.nsIn K mainGlobals "dict"=some none)
  (zsorted:PySem.W.nsIn K mainGlobals "sorted"=some none)
  (zzip:PySem.W.nsIn K mainGlobals "zip"=some none)
  (xkNoWay:uD cdNoWay cdRoadError slNoWay CNoWay "ValueError.__new__"=true)
  (xdNoWay:cdNoWay.hasDict=true)
  (sxNoWay:PySem.W.findIn K (.ref CNoWay) "__setattr__"=some (some (.builtin "object.__setattr__")))
  (obNoWay:PySem.W.subIn K (.ref CNoWay) (.type "object")=some true)
  (hyNoWay:PySem.W.hasDictIn K CNoWay=true)
  (kpNoWay:PySem.W.keepIn K (.ref CNoWay)=true)
  (gaNoWay:PySem.W.findIn K (.ref CNoWay) "__getattribute__"=some (some (.builtin "BaseException.__getattribute__")))
  (noNoWay:PySem.W.findIn K (.ref CNoWay) "__getattr__"=some none)
  (haNoWay:PySem.W.findIn K (.ref CNoWay) "__class__"=some (some (.builtin "object.__class__")))
  (hnNoWay:PySem.W.specialIn K (.builtin "object.__class__") "__get__"=some (some (.builtin "getset_descriptor.__get__")))
  (htNoWay:PySem.W.takesIn K (.builtin "object.__class__")=some true)
  (hmNoWay:PySem.W.mroIn K CNoWay (.type "object")=some true)
  (hbNoWay:PySem.W.mroIn K CNoWay (.type "BaseException")=some true)
  (rdRE:PySem.W.readsIn K CRoadError (.type "type")=true)
  (fcRE:PySem.W.findCls K (.ref CRoadError) (.type "type") "__init__"=some (.val (.builtin "ValueError.__init__")))
  (sgRE:PySem.W.specialIn K (.ref CRoadError) "__getattribute__"=some (some (.builtin "type.__getattribute__")))
  (hrea:PySem.W.findIn K (.ref CNoWay) "reason"=some none)
  (hsee:PySem.W.findIn K (.ref CNoWay) "seen"=some none):
  ∃fd:FuncData,(∀(s:Shared) (v:Value),BindsTo s fd ⟨[v],[]⟩ [("_law_script",v)])∧∀base:Heap,K.In base→base.Ns mainGlobals mg→aD l.prog w K mg base CX0 8 fa fd ["_law_script"] (zL K):=by
 have e:=hfa.symm.trans (PySem.W.mg_of X G alaw)
 cases e
 have bR:Cls K CNet:=⟨pgNet,hdNet,poNet,saNet⟩
 have zc:=PySem.W.mg_of X G aCNet
 have bNet_init:=FNet_init.binds (ps:=["self","houses","roads"]) fun _ _ _ _ _ _ us hl=>by (obtain ⟨_,_,_,rfl⟩:=ju hl);rfl
 have vp:Mk K CNet fNet_init:=⟨mkNet,aNet_init,iNet_init,kcNet⟩
 have my:Inn K CNet "Net.__init__" wF ["self","houses","roads"] fNet_init _:=⟨FNet_init,vp,bNet_init⟩
 have bNet_houses:=FNet_houses.binds (ps:=["self"]) fun _ _ _ _ _ _ us hl=>by (obtain ⟨_,rfl⟩:=rG hl);rfl
 have bO:Mn K CNet "houses" "Net.houses" jk ["self"] fNet_houses _:=⟨FNet_houses,⟨aNet_houses,iNet_houses,FNet_houses.kp⟩,bNet_houses⟩
 have bNet_roads:=FNet_roads.binds (ps:=["self"]) fun _ _ _ _ _ _ us hl=>by (obtain ⟨_,rfl⟩:=rG hl);rfl
 have iQ:Mn K CNet "roads" "Net.roads" nj ["self"] fNet_roads _:=⟨FNet_roads,⟨aNet_roads,iNet_roads,FNet_roads.kp⟩,bNet_roads⟩
 have bNet_road:=FNet_road.binds (ps:=["self","number"]) fun _ _ _ _ _ _ us hl=>by (obtain ⟨_,_,rfl⟩:=fP hl);rfl
 have bT:Mn K CNet "road" "Net.road" j4 ["self","number"] fNet_road _:=⟨FNet_road,⟨aNet_road,iNet_road,FNet_road.kp⟩,bNet_road⟩
 have bNet_out_of:=FNet_out_of.binds (ps:=["self","house"]) fun _ _ _ _ _ _ us hl=>by (obtain ⟨_,_,rfl⟩:=fP hl);rfl
 have cA:Mn K CNet "out_of" "Net.out_of" BR ["self","house"] fNet_out_of _:=⟨FNet_out_of,⟨aNet_out_of,iNet_out_of,FNet_out_of.kp⟩,bNet_out_of⟩
 have bNet_need_house:=FNet_need_house.binds (ps:=["self","house"]) fun _ _ _ _ _ _ us hl=>by (obtain ⟨_,_,rfl⟩:=fP hl);rfl
 have aX:Mn K CNet "need_house" "Net.need_house" tQ ["self","house"] fNet_need_house _:=⟨FNet_need_house,⟨aNet_need_house,iNet_need_house,FNet_need_house.kp⟩,bNet_need_house⟩
 have d9:Cls K CWays:=⟨pgWays,hdWays,poWays,saWays⟩
 have uV:=PySem.W.mg_of X G aCWays
 have bWays_init:=FWays_init.binds (ps:=["self","net"]) fun _ _ _ _ _ _ us hl=>by (obtain ⟨_,_,rfl⟩:=fP hl);rfl
 have pI:Mk K CWays fWays_init:=⟨mkWays,aWays_init,iWays_init,kcWays⟩
 have kh:Inn K CWays "Ways.__init__" sWI ["self","net"] fWays_init _:=⟨FWays_init,pI,bWays_init⟩
 have bWays_set_way:=FWays_set_way.binds (ps:=["self","house","goal","road"]) fun _ _ _ _ _ _ us hl=>by (obtain ⟨_,_,_,_,rfl⟩:=J8 hl);rfl
 have fJ:Mn K CWays "set_way" "Ways.set_way" sSW ["self","house","goal","road"] fWays_set_way _:=⟨FWays_set_way,⟨aWays_set_way,iWays_set_way,FWays_set_way.kp⟩,bWays_set_way⟩
 have bWays_way:=FWays_way.binds (ps:=["self","house","goal"]) fun _ _ _ _ _ _ us hl=>by (obtain ⟨_,_,_,rfl⟩:=ju hl);rfl
 have jH:Mn K CWays "way" "Ways.way" sWy ["self","house","goal"] fWays_way _:=⟨FWays_way,⟨aWays_way,iWays_way,FWays_way.kp⟩,bWays_way⟩
 have bWays_route:=FWays_route.binds (ps:=["self","house","goal"]) fun _ _ _ _ _ _ us hl=>by (obtain ⟨_,_,_,rfl⟩:=ju hl);rfl
 have gY:Mn K CWays "route" "Ways.route" sRt ["self","house","goal"] fWays_route _:=⟨FWays_route,⟨aWays_route,iWays_route,FWays_route.kp⟩,bWays_route⟩
 have bWays_need_pair:=FWays_need_pair.binds (ps:=["self","house","goal"]) fun _ _ _ _ _ _ us hl=>by (obtain ⟨_,_,_,rfl⟩:=ju hl);rfl
 have bF:Mn K CWays "need_pair" "Ways.need_pair" sNP ["self","house","goal"] fWays_need_pair _:=⟨FWays_need_pair,⟨aWays_need_pair,iWays_need_pair,FWays_need_pair.kp⟩,bWays_need_pair⟩
 have di:Cls K CWalk:=⟨pgWalk,hdWalk,poWalk,saWalk⟩
 have u9:=PySem.W.mg_of X G aCWalk
 have bWalk_init:=FWalk_init.binds (ps:=["self","net","letters"]) fun _ _ _ _ _ _ us hl=>by (obtain ⟨_,_,_,rfl⟩:=ju hl);rfl
 have pO:Mk K CWalk fWalk_init:=⟨mkWalk,aWalk_init,iWalk_init,kcWalk⟩
 have kO:Inn K CWalk "Walk.__init__" Ff ["self","net","letters"] fWalk_init _:=⟨FWalk_init,pO,bWalk_init⟩
 have bWalk_take_in:=FWalk_take_in.binds (ps:=["self","letter"]) fun _ _ _ _ _ _ us hl=>by (obtain ⟨_,_,rfl⟩:=fP hl);rfl
 have fG:Mn K CWalk "take_in" "Walk.take_in" wH ["self","letter"] fWalk_take_in _:=⟨FWalk_take_in,⟨aWalk_take_in,iWalk_take_in,FWalk_take_in.kp⟩,bWalk_take_in⟩
 have bWalk_send:=FWalk_send.binds (ps:=["self","bag"]) fun _ _ _ _ _ _ us hl=>by (obtain ⟨_,_,rfl⟩:=fP hl);rfl
 have iT:Mn K CWalk "send" "Walk.send" wL ["self","bag"] fWalk_send _:=⟨FWalk_send,⟨aWalk_send,iWalk_send,FWalk_send.kp⟩,bWalk_send⟩
 have bWalk_goal:=FWalk_goal.binds (ps:=["self","number"]) fun _ _ _ _ _ _ us hl=>by (obtain ⟨_,_,rfl⟩:=fP hl);rfl
 have iR:Mn K CWalk "goal" "Walk.goal" wM ["self","number"] fWalk_goal _:=⟨FWalk_goal,⟨aWalk_goal,iWalk_goal,FWalk_goal.kp⟩,bWalk_goal⟩
 have bWalk_last_house:=FWalk_last_house.binds (ps:=["self","number"]) fun _ _ _ _ _ _ us hl=>by (obtain ⟨_,_,rfl⟩:=fP hl);rfl
 have bz:Mn K CWalk "last_house" "Walk.last_house" oH ["self","number"] fWalk_last_house _:=⟨FWalk_last_house,⟨aWalk_last_house,iWalk_last_house,FWalk_last_house.kp⟩,bWalk_last_house⟩
 have bWalk_last_turn:=FWalk_last_turn.binds (ps:=["self","number"]) fun _ _ _ _ _ _ us hl=>by (obtain ⟨_,_,rfl⟩:=fP hl);rfl
 have aR:Mn K CWalk "last_turn" "Walk.last_turn" lX ["self","number"] fWalk_last_turn _:=⟨FWalk_last_turn,⟨aWalk_last_turn,iWalk_last_turn,FWalk_last_turn.kp⟩,bWalk_last_turn⟩
 have bWalk_home_turn:=FWalk_home_turn.binds (ps:=["self","number"]) fun _ _ _ _ _ _ us hl=>by (obtain ⟨_,_,rfl⟩:=fP hl);rfl
 have dH:Mn K CWalk "home_turn" "Walk.home_turn" qC ["self","number"] fWalk_home_turn _:=⟨FWalk_home_turn,⟨aWalk_home_turn,iWalk_home_turn,FWalk_home_turn.kp⟩,bWalk_home_turn⟩
 have bis_whole:=Fis_whole.binds (ps:=["thing"]) fun _ _ _ _ _ _ us hl=>by (obtain ⟨_,rfl⟩:=rG hl);rfl
 have iz:Dn K mg "is_whole" qy ["thing"] fis_whole _:=⟨Fis_whole,PySem.W.mg_of X G ais_whole,bis_whole⟩
 have bis_whole_within:=Fis_whole_within.binds (ps:=["thing","least","greatest"]) fun _ _ _ _ _ _ us hl=>by (obtain ⟨_,_,_,rfl⟩:=ju hl);rfl
 have bx:Dn K mg "is_whole_within" m9 ["thing","least","greatest"] fis_whole_within _:=⟨Fis_whole_within,PySem.W.mg_of X G ais_whole_within,bis_whole_within⟩
 have bis_tuple_of:=Fis_tuple_of.binds (ps:=["thing","length"]) fun _ _ _ _ _ _ us hl=>by (obtain ⟨_,_,rfl⟩:=fP hl);rfl
 have dO:Dn K mg "is_tuple_of" qz ["thing","length"] fis_tuple_of _:=⟨Fis_tuple_of,PySem.W.mg_of X G ais_tuple_of,bis_tuple_of⟩
 have bare_unlike_houses:=Fare_unlike_houses.binds (ps:=["houses","one","other"]) fun _ _ _ _ _ _ us hl=>by (obtain ⟨_,_,_,rfl⟩:=ju hl);rfl
 have aO:Dn K mg "are_unlike_houses" jF ["houses","one","other"] fare_unlike_houses _:=⟨Fare_unlike_houses,PySem.W.mg_of X G aare_unlike_houses,bare_unlike_houses⟩
 have bis_name:=Fis_name.binds (ps:=["thing"]) fun _ _ _ _ _ _ us hl=>by (obtain ⟨_,rfl⟩:=rG hl);rfl
 have ji:Dn K mg "is_name" wz ["thing"] fis_name _:=⟨Fis_name,PySem.W.mg_of X G ais_name,bis_name⟩
 have bare_houses:=Fare_houses.binds (ps:=["things"]) fun _ _ _ _ _ _ us hl=>by (obtain ⟨_,rfl⟩:=rG hl);rfl
 have fB:Dn K mg "are_houses" wA ["things"] fare_houses _:=⟨Fare_houses,PySem.W.mg_of X G aare_houses,bare_houses⟩
 have bis_road:=Fis_road.binds (ps:=["houses","thing"]) fun _ _ _ _ _ _ us hl=>by (obtain ⟨_,_,rfl⟩:=fP hl);rfl
 have jj:Dn K mg "is_road" wB ["houses","thing"] fis_road _:=⟨Fis_road,PySem.W.mg_of X G ais_road,bis_road⟩
 have bare_roads:=Fare_roads.binds (ps:=["houses","things"]) fun _ _ _ _ _ _ us hl=>by (obtain ⟨_,_,rfl⟩:=fP hl);rfl
 have gA:Dn K mg "are_roads" wC ["houses","things"] fare_roads _:=⟨Fare_roads,PySem.W.mg_of X G aare_roads,bare_roads⟩
 have bis_shorter_by:=Fis_shorter_by.binds (ps:=["road","found"]) fun _ _ _ _ _ _ us hl=>by (obtain ⟨_,_,rfl⟩:=fP hl);rfl
 have cV:Dn K mg "is_shorter_by" qN ["road","found"] fis_shorter_by _:=⟨Fis_shorter_by,PySem.W.mg_of X G ais_shorter_by,bis_shorter_by⟩
 have bleast_turns_from:=Fleast_turns_from.binds (ps:=["roads","house"]) fun _ _ _ _ _ _ us hl=>by (obtain ⟨_,_,rfl⟩:=fP hl);rfl
 have b8:Dn K mg "least_turns_from" qO ["roads","house"] fleast_turns_from _:=⟨Fleast_turns_from,PySem.W.mg_of X G aleast_turns_from,bleast_turns_from⟩
 have bbegins_shortest:=Fbegins_shortest.binds (ps:=["road","far_from","goal"]) fun _ _ _ _ _ _ us hl=>by (obtain ⟨_,_,_,rfl⟩:=ju hl);rfl
 have cB:Dn K mg "begins_shortest" Gh ["road","far_from","goal"] fbegins_shortest _:=⟨Fbegins_shortest,PySem.W.mg_of X G abegins_shortest,bbegins_shortest⟩
 have bshortest:=Fshortest.binds (ps:=["net"]) fun _ _ _ _ _ _ us hl=>by (obtain ⟨_,rfl⟩:=rG hl);rfl
 have iG:Dn K mg "shortest" sSh ["net"] fshortest _:=⟨Fshortest,PySem.W.mg_of X G ashortest,bshortest⟩
 have bhas_route:=Fhas_route.binds (ps:=["letter","ways"]) fun _ _ _ _ _ _ us hl=>by (obtain ⟨_,_,rfl⟩:=fP hl);rfl
 have gD:Dn K mg "has_route" sHR ["letter","ways"] fhas_route _:=⟨Fhas_route,PySem.W.mg_of X G ahas_route,bhas_route⟩
 have bqueues_at:=Fqueues_at.binds (ps:=["walk","going","ways","turn"]) fun _ _ _ _ _ _ us hl=>by (obtain ⟨_,_,_,_,rfl⟩:=J8 hl);rfl
 have gC:Dn K mg "queues_at" sQs ["walk","going","ways","turn"] fqueues_at _:=⟨Fqueues_at,PySem.W.mg_of X G aqueues_at,bqueues_at⟩
 have bbags_at:=Fbags_at.binds (ps:=["net","walk","going","ways","turn"]) fun _ _ _ _ _ _ us hl=>by (obtain ⟨_,_,_,_,_,rfl⟩:=O3 hl);rfl
 have jr:Dn K mg "bags_at" sBa ["net","walk","going","ways","turn"] fbags_at _:=⟨Fbags_at,PySem.W.mg_of X G abags_at,bbags_at⟩
 have brun:=Frun.binds (ps:=["net","letters","ways"]) fun _ _ _ _ _ _ us hl=>by (obtain ⟨_,_,_,rfl⟩:=ju hl);rfl
 have xM:Dn K mg "run" GX ["net","letters","ways"] frun _:=⟨Frun,PySem.W.mg_of X G arun,brun⟩
 have b_law_cell_at:=F_law_cell_at.binds (ps:=["_law_script","_law_k"]) fun _ _ _ _ _ _ us hl=>by (obtain ⟨_,_,rfl⟩:=fP hl);rfl
 have aW:Dn K mg "_law_cell_at" sAt ["_law_script","_law_k"] f_law_cell_at _:=⟨F_law_cell_at,PySem.W.mg_of X G a_law_cell_at,b_law_cell_at⟩
 have b_law_houses:=F_law_houses.binds (ps:=["_law_cell","_law_many"]) fun _ _ _ _ _ _ us hl=>by (obtain ⟨_,_,rfl⟩:=fP hl);rfl
 have dY:Dn K mg "_law_houses" jY ["_law_cell","_law_many"] f_law_houses _:=⟨F_law_houses,PySem.W.mg_of X G a_law_houses,b_law_houses⟩
 have b_law_road:=F_law_road.binds (ps:=["_law_cell","_law_names"]) fun _ _ _ _ _ _ us hl=>by (obtain ⟨_,_,rfl⟩:=fP hl);rfl
 have gF:Dn K mg "_law_road" FJ ["_law_cell","_law_names"] f_law_road _:=⟨F_law_road,PySem.W.mg_of X G a_law_road,b_law_road⟩
 have b_law_letter:=F_law_letter.binds (ps:=["_law_cell","_law_names","_law_base"]) fun _ _ _ _ _ _ us hl=>by (obtain ⟨_,_,_,rfl⟩:=ju hl);rfl
 have dZ:Dn K mg "_law_letter" ww ["_law_cell","_law_names","_law_base"] f_law_letter _:=⟨F_law_letter,PySem.W.mg_of X G a_law_letter,b_law_letter⟩
 have b_law_fars:=F_law_fars.binds (ps:=["_law_lines","_law_names","_law_goal"]) fun _ _ _ _ _ _ us hl=>by (obtain ⟨_,_,_,rfl⟩:=ju hl);rfl
 have gG:Dn K mg "_law_fars" xG ["_law_lines","_law_names","_law_goal"] f_law_fars _:=⟨F_law_fars,PySem.W.mg_of X G a_law_fars,b_law_fars⟩
 have b_law_homes:=F_law_homes.binds (ps:=["_law_lines","_law_letters","_law_plan"]) fun _ _ _ _ _ _ us hl=>by (obtain ⟨_,_,_,rfl⟩:=ju hl);rfl
 have fO:Dn K mg "_law_homes" G5 ["_law_lines","_law_letters","_law_plan"] f_law_homes _:=⟨F_law_homes,PySem.W.mg_of X G a_law_homes,b_law_homes⟩
 have blaw:=Flaw.binds (ps:=["_law_script"]) fun _ _ _ _ _ _ us hl=>by (obtain ⟨_,rfl⟩:=rG hl);rfl
 have gU:=PySem.W.mg_of X G aCRoadError
 have iD:=PySem.W.mg_of X G aCNoWay
 have zg:=PySem.W.mg_of X G aCNoHouse
 have CK:=PySem.W.mg_of X G aCNoRoad
 have bNoWay_init:=FNoWay_init.binds (ps:=["self","reason","seen"]) fun _ _ _ _ _ _ us hl=>by (obtain ⟨_,_,_,rfl⟩:=ju hl);rfl
 have vy:Exc K mg "RoadError" CRoadError _ _:=⟨gU,xiRoadError⟩
 have fZ:Exc K mg "NoHouse" CNoHouse _ _:=⟨zg,xiNoHouse⟩
 have ie:Exc K mg "NoRoad" CNoRoad _ _:=⟨CK,xiNoRoad⟩
 have xsNoWay_NoWay:=Bp lCNoWay xsNoWay_NoWay
 have Cn:Ef mg:=⟨⟨_,PySem.W.mg_of X G vMOST_HOUSES⟩,⟨_,PySem.W.mg_of X G vMOST_ROADS⟩,⟨_,PySem.W.mg_of X G vMOST_SIGNS⟩,⟨_,PySem.W.mg_of X G vMOST_TURNS⟩,⟨_,PySem.W.mg_of X G vMOST_ROOM⟩⟩
 have B:Blt mg:=⟨PySem.W.mg_none_of X G zlen,PySem.W.mg_none_of X G zrange,PySem.W.mg_none_of X G zisinstance,PySem.W.mg_none_of X G zall,PySem.W.mg_none_of X G zint,PySem.W.mg_none_of X G zbool,PySem.W.mg_none_of X G zstr,PySem.W.mg_none_of X G zlist,PySem.W.mg_none_of X G ztuple,PySem.W.mg_none_of X G zset,PySem.W.mg_none_of X G zValueError,PySem.W.mg_none_of X G zenumerate,PySem.W.mg_none_of X G zmax,PySem.W.mg_none_of X G zmin,PySem.W.mg_none_of X G zsum,PySem.W.mg_none_of X G zany,PySem.W.mg_none_of X G zdict,PySem.W.mg_none_of X G zsorted,PySem.W.mg_none_of X G zzip⟩
 obtain ⟨_,_,kV,dc,pm,an,cd,ct,_,rfl,_,_⟩:=id Flaw.ex
 refine ⟨PySem.W.fnOf "law" "law" (mO CJ) (iH CJ) (aC CJ) .none kV dc pm an cd ct,fun s v=>.of_eq rfl,fun base _ _=>?_⟩
 have NC:wg K CNet:=⟨bR,nNet_kept_houses,nNet_kept_roads⟩
 have KT:Kit K:=⟨Ld K⟩
 have lW:aD l.prog w K mg base CX0 1 fis_whole _ ["thing"] uw:=Eu Fis_whole B KT
 have dh:aD l.prog w K mg base CX0 2 fis_whole_within _ ["thing","least","greatest"] ql:=Bv Fis_whole_within iz lW
 have jc:aD l.prog w K mg base CX0 1 fis_tuple_of _ ["thing","length"] ux:=Ex Fis_tuple_of B
 have bU:aD l.prog w K mg base CX0 1 fare_unlike_houses _ ["houses","one","other"] (qm K):=Bw Fare_unlike_houses
 have oE:aD l.prog w K mg base CX0 1 fis_name _ ["thing"] yq:=IW Fis_name B Cn
 have jG:aD l.prog w K mg base CX0 2 fare_houses _ ["things"] yr:=Ja Fare_houses B Cn ji oE
 have oF:aD l.prog w K mg base CX0 3 fis_road _ ["houses","thing"] (yt K):=Jb Fis_road Cn dO jc aO bU bx dh
 have jZ:aD l.prog w K mg base CX0 4 fare_roads _ ["houses","things"] (yu K):=Jc Fare_roads B Cn jj oF
 have mz:aD l.prog w K mg base CX0 5 fNet_init _ ["self","houses","roads"] (yw K CNet):=Jd FNet_init B NC fB jG gA jZ
 have Gu:aD l.prog w K mg base CX0 1 fare_unlike_houses _ ["houses","one","other"] oO:=yN Fare_unlike_houses
 have kE:XC K mg "RoadError" CNoWay CRoadError:=⟨vy,⟨_,_,_,_,_,_,lCNoWay,lCRoadError,xkNoWay,xdNoWay⟩,sxNoWay,obNoWay,rdRE,fcRE,sgRE,⟨gaNoWay,noNoWay,haNoWay,hnNoWay,htNoWay,hmNoWay,hbNoWay⟩,hyNoWay⟩
 have WW:oZ K CWays:=⟨d9,nWays_net,nWays_told⟩
 have WC:lJ K CWalk:=⟨di,nWalk_net,nWalk_goals,nWalk_steps⟩
 have cO:aD l.prog w K mg base CX0 1 fNet_houses _ ["self"] (lg CNet):=yE FNet_houses B NC
 have j9:aD l.prog w K mg base CX0 1 fNet_roads _ ["self"] (qp CNet):=By FNet_roads B NC
 have bJ:aD l.prog w K mg base (CXe l.prog w) 1 fNet_need_house _ ["self","house"] (uM CNet CNoHouse):=Jq FNet_need_house NC PySem.F.excBase_ValueError fZ
 have eN:aD l.prog w K mg base (CXe l.prog w) 1 fNet_road _ ["self","number"] (uy CNet CNoRoad):=Fg FNet_road B NC PySem.F.excBase_ValueError ie
 have O4:aD l.prog w K mg base CX0 1 fNet_road _ ["self","number"] (pG CNet):=Fy FNet_road B NC
 have dG:aD l.prog w K mg base (CXe l.prog w) 2 fNet_out_of _ ["self","house"] (zY CNet CNoHouse (·.a)):=Mf FNet_out_of B NC aX bJ
 have gM:aD l.prog w K mg base CX0 1 fis_shorter_by _ ["road","found"] uP:=FQ Fis_shorter_by
 have eO:aD l.prog w K mg base CX0 2 fleast_turns_from _ ["roads","house"] (uQ K):=FT Fleast_turns_from cV gM
 have kj:aD l.prog w K mg base CX0 1 fWays_init _ ["self","net"] (Mg CWays):=Ol FWays_init WW
 have bY:aD l.prog w K mg base (CXe l.prog w) 2 fWays_need_pair _ ["self","house","goal"] (Jr CWays CNet CNoHouse):=Om FWays_need_pair WW bR PySem.F.excBase_ValueError fZ bO cO aO Gu
 have iC:aD l.prog w K mg base (CXe l.prog w) 3 fWays_set_way _ ["self","house","goal","road"] (Mh CWays CNet CNoHouse CNoRoad):=Oo FWays_set_way WW bR PySem.F.excBase_ValueError ie cA dG bF bY
 have mj:aD l.prog w K mg base (CXe l.prog w) 3 fWays_way _ ["self","house","goal"] (Ml CWays CNet CNoHouse):=Oq FWays_way WW bF bY
 have gW:aD l.prog w K mg base CX0 1 fNoWay_init _ ["self","reason","seen"] (Jt CNoWay):=Ox FNoWay_init B kE gU hrea hsee
 have jJ:aD l.prog w K mg base (CXd l.prog w) 3 fWays_route _ ["self","house","goal"] (Mj CWays CNet CNoHouse CNoWay):=Oz FWays_route WW bR aX bJ bT eN kE iD kpNoWay aNoWay_init iNoWay_init gW bNoWay_init
 have O5:aD l.prog w K mg base CX0 1 fbegins_shortest _ ["road","far_from","goal"] Ge:=Mr Fbegins_shortest
 have Qs:aD l.prog w K mg base CX0 4 fshortest _ ["net"] (Ms CWays CNet):=Ou Fshortest B WW bR uV bO cO iQ j9 cA dG b8 eO cB O5 pI kh kj fJ iC
 have Qt:aD l.prog w K mg base CX0 1 fWalk_take_in _ ["self","letter"] (yG CWalk):=Jk FWalk_take_in WC
 have Qu:aD l.prog w K mg base CX0 2 fWalk_init _ ["self","net","letters"] (Fe CWalk):=Lz FWalk_init WC fG Qt
 have Qv:aD l.prog w K mg base CX0 1 fWalk_goal _ ["self","number"] (yF CWalk):=Jp FWalk_goal WC
 have O6:aD l.prog w K mg base CX0 1 fWalk_last_house _ ["self","number"] (pF CWalk):=EY FWalk_last_house WC
 have M7:aD l.prog w K mg base CX0 1 fWalk_last_turn _ ["self","number"] (nu CWalk):=Fb FWalk_last_turn WC
 have Qw:aD l.prog w K mg base CX0 2 fWalk_home_turn _ ["self","number"] (uI CWalk):=Fd FWalk_home_turn WC bz O6 aR M7
 have Qx:aD l.prog w K mg base CX0 2 fWalk_send _ ["self","bag"] (yL CWalk CNet):=Jo FWalk_send WC bR bT O4
 have Qy:aD l.prog w K mg base CX0 4 fhas_route _ ["letter","ways"] (MF CWays CNet):=OJ Fhas_route d9 xsNoWay_NoWay iD gY jJ
 have Qz:aD l.prog w K mg base CX0 4 fqueues_at _ ["walk","going","ways","turn"] (Mu K CWalk CWays CNet):=Ov Fqueues_at WC WW aR M7 bz O6 iR Qv jH mj
 have QB:aD l.prog w K mg base CX0 5 fbags_at _ ["net","walk","going","ways","turn"] (JF K CWalk CWays CNet):=Ow (Mx Fbags_at B bR gC Qz bT O4)
 have Hl:aD l.prog w K mg base CX0 6 frun _ ["net","letters","ways"] (GR CWalk CWays CNet):=MN Frun B WC u9 pO kO Qu gD Qy aR M7 jr QB iT Qx dH Qw
 have QC:aD l.prog w K mg base CX0 1 f_law_cell_at _ ["_law_script","_law_k"] (Lb K):=Oh F_law_cell_at B.len
 have QD:aD l.prog w K mg base CX0 1 f_law_houses _ ["_law_cell","_law_many"] oA:=yD F_law_houses B
 have QF:aD l.prog w K mg base CX0 1 f_law_road _ ["_law_cell","_law_names"] Fz:=LR F_law_road B
 have QG:aD l.prog w K mg base CX0 1 f_law_letter _ ["_law_cell","_law_names","_law_base"] yC:=Iz F_law_letter B
 have QH:aD l.prog w K mg base CX0 1 f_law_fars _ ["_law_lines","_law_names","_law_goal"] (za K):=JM F_law_fars
 have QJ:aD l.prog w K mg base CX0 1 f_law_homes _ ["_law_lines","_law_letters","_law_plan"] (G6 K):=MP F_law_homes B
 exact M6 Flaw B zc aW QC dY QD gF QF dZ QG vp my mz iG Qs xM Hl gG QH fO QJ
theorem walk {l:PySem.W.OpenLaw} {q:Program} {loose:List Str} {XP:(Str→Option Value)→Heap→Prop} {YP:World→Heap→Prop} {d:DefRec} {K:Params→PySem.W.Frag} (hn:l.most=some 63) (hdf:d.params.defaults=[])
  (hY:∀(w:World) (h:Heap),YP w h→(K w.params).In h)
  (F:∀(w:World) (mg:Str→Option Value) (fa:Addr) (h:Heap),(K w.params).In h→h.Ns mainGlobals mg→mg d.name=some (.ref fa)→
   ∃fd:FuncData,(∀(s:Shared) (u:Value),BindsTo s fd ⟨[u],[]⟩ [("_law_script",u)])∧∀base:Heap,(K w.params).In base→base.Ns mainGlobals mg→aD l.prog w (K w.params) mg base CX0 8 fa fd ["_law_script"] (zL (K w.params))):
  PySem.W.WalkO q loose XP YP l.row.toRowW d [] (fun f vs=>PySem.call f vs):=
 L2.walk_of (n:=63) (k:=8) (x:="_law_script") (CX:=fun _=>CX0) (sp:=fun w=>zL (K w.params)) hn (by decide) hdf ⟨rfl,by decide,by decide⟩ hY F (fun _ _ a ns hl _ hS=>⟨a,ns,rfl,hS,hl,fun _=>rfl⟩) fun _ _ _ _ _ z=>z
end K1
noncomputable def PySem.W.Fast.tw6307039332767251756:Unit:=()
noncomputable def PySem.W.Fast.tw12478109093871753383:Unit:=()
noncomputable def PySem.W.Fast.tw3831068186529293469:Unit:=()
noncomputable def PySem.W.Fast.tw4456662342219827338:Unit:=()
noncomputable def PySem.W.Fast.tw5875850965344957874:Unit:=()
noncomputable def PySem.W.Fast.tw4676928470905575938:Unit:=()
noncomputable def PySem.W.Fast.tw3840460837749807590:Unit:=()
noncomputable def PySem.W.Fast.tw12543825193712423362:Unit:=()
noncomputable def PySem.W.Fast.tw6218640420697355571:Unit:=()
noncomputable def PySem.W.Fast.tw14579427930932642469:Unit:=()
noncomputable def PySem.W.Fast.tw18368724973295387106:Unit:=()
noncomputable def PySem.W.Fast.tw7994186488870530681:Unit:=()
noncomputable def PySem.W.Fast.tw13821849765815099571:Unit:=()
noncomputable def PySem.W.Fast.tw128668519869722186:Unit:=()
noncomputable def PySem.W.Fast.tw17163418508623335065:Unit:=()
noncomputable def PySem.W.Fast.tw5972713775371375913:Unit:=()
noncomputable def PySem.W.Fast.tw7173546336401161907:Unit:=()
noncomputable def PySem.W.Fast.tw8356992364608659076:Unit:=()
noncomputable def PySem.W.Fast.tw14696016344082246990:Unit:=()
noncomputable def PySem.W.Fast.tw5534300244688125987:Unit:=()
noncomputable def PySem.W.Fast.tw3338835994837677763:Unit:=()
noncomputable def PySem.W.Fast.tw11080192121589882867:Unit:=()
noncomputable def PySem.W.Fast.tw10475589811879364963:Unit:=()
noncomputable def PySem.W.Fast.tw880622323289938459:Unit:=()
noncomputable def PySem.W.Fast.tw6253466226518687565:Unit:=()
noncomputable def PySem.W.Fast.tw13672086032609379213:Unit:=()
noncomputable def PySem.W.Fast.tw9826660774049438138:Unit:=()
noncomputable def PySem.W.Fast.tw4142704858066719669:Unit:=()
noncomputable def PySem.W.Fast.tw7185931857727657254:Unit:=()
noncomputable def PySem.W.Fast.tw15607924084200296850:Unit:=()
noncomputable def PySem.W.Fast.tw13533302835865157533:Unit:=()
noncomputable def PySem.W.Fast.tw16318436845469388144:Unit:=()
noncomputable def PySem.W.Fast.tw8478829525138316059:Unit:=()
noncomputable def PySem.W.Fast.tw14987611794558936895:Unit:=()
noncomputable def PySem.W.Fast.tw14565259467605773335:Unit:=()
noncomputable def PySem.W.Fast.tw15884247424771935377:Unit:=()
noncomputable def PySem.W.Fast.tw11536196190498742647:Unit:=()
noncomputable def PySem.W.Fast.tw16671591978087775187:Unit:=()
noncomputable def PySem.W.Fast.tw4119330807873629458:Unit:=()
noncomputable def PySem.W.Fast.tw18429866757167933222:Unit:=()
noncomputable def PySem.W.Fast.tw13950871438568680680:Unit:=()
noncomputable def PySem.W.Fast.tw18114441084679644435:Unit:=()
noncomputable def PySem.W.Fast.tw13201822035996620915:Unit:=()
noncomputable def PySem.W.Fast.tw7741971960890204137:Unit:=()
noncomputable def PySem.W.Fast.tw14285975621855148098:Unit:=()
open PySem PySem.W PyProof.Rows
set_option maxRecDepth 100000 in
set_option maxHeartbeats 0 in
theorem PySem.Challenge.cw_postroad_k33_whole_one_goal_in_time_holds : PySem.Challenge.rw_postroad_k33_whole_one_goal_in_time.Holds := by
 w_on;o_law;k_head;(case hw=>w_witness2)
 k_fill
 refine K1.walk (l:=PySem.Challenge.rw_postroad_k33_whole_one_goal_in_time) rfl rfl (fun w h Y=>PySem.W.kIn_of Y) ?F
 case F=>
  intro w mg fa h KX G hmg
  refine' K1.all_mk KX G hmg ?aCNet ?pgNet ?hdNet ?poNet ?saNet ?mkNet ?kcNet ?nNet_kept_houses ?nNet_kept_roads ?aNet_init ?iNet_init ?FNet_init ?aNet_houses ?iNet_houses ?FNet_houses ?aNet_roads ?iNet_roads ?FNet_roads ?aNet_road ?iNet_road ?FNet_road ?aNet_out_of ?iNet_out_of ?FNet_out_of ?aNet_need_house ?iNet_need_house ?FNet_need_house ?aCWays ?pgWays ?hdWays ?poWays ?saWays ?mkWays ?kcWays ?nWays_net ?nWays_told ?aWays_init ?iWays_init ?FWays_init ?aWays_set_way ?iWays_set_way ?FWays_set_way ?aWays_way ?iWays_way ?FWays_way ?aWays_route ?iWays_route ?FWays_route ?aWays_need_pair ?iWays_need_pair ?FWays_need_pair ?aCWalk ?pgWalk ?hdWalk ?poWalk ?saWalk ?mkWalk ?kcWalk ?nWalk_net ?nWalk_goals ?nWalk_steps ?aWalk_init ?iWalk_init ?FWalk_init ?aWalk_take_in ?iWalk_take_in ?FWalk_take_in ?aWalk_send ?iWalk_send ?FWalk_send ?aWalk_goal ?iWalk_goal ?FWalk_goal ?aWalk_last_house ?iWalk_last_house ?FWalk_last_house ?aWalk_last_turn ?iWalk_last_turn ?FWalk_last_turn ?aWalk_home_turn ?iWalk_home_turn ?FWalk_home_turn ?ais_whole ?Fis_whole ?ais_whole_within ?Fis_whole_within ?ais_tuple_of ?Fis_tuple_of ?aare_unlike_houses ?Fare_unlike_houses ?ais_name ?Fis_name ?aare_houses ?Fare_houses ?ais_road ?Fis_road ?aare_roads ?Fare_roads ?ais_shorter_by ?Fis_shorter_by ?aleast_turns_from ?Fleast_turns_from ?abegins_shortest ?Fbegins_shortest ?ashortest ?Fshortest ?ahas_route ?Fhas_route ?aqueues_at ?Fqueues_at ?abags_at ?Fbags_at ?arun ?Frun ?a_law_cell_at ?F_law_cell_at ?a_law_houses ?F_law_houses ?a_law_road ?F_law_road ?a_law_letter ?F_law_letter ?a_law_fars ?F_law_fars ?a_law_homes ?F_law_homes ?alaw ?Flaw ?aCRoadError ?lCRoadError ?aCNoWay ?lCNoWay ?aCNoHouse ?lCNoHouse ?aCNoRoad ?lCNoRoad ?aNoWay_init ?iNoWay_init ?FNoWay_init ?xiRoadError ?xiNoHouse ?xiNoRoad ?xsNoWay_NoWay ?vMOST_HOUSES ?vMOST_ROADS ?vMOST_SIGNS ?vMOST_TURNS ?vMOST_ROOM ?zlen ?zrange ?zisinstance ?zall ?zint ?zbool ?zstr ?zlist ?ztuple ?zset ?zValueError ?zenumerate ?zmax ?zmin ?zsum ?zany ?zdict ?zsorted ?zzip ?xkNoWay ?xdNoWay ?sxNoWay ?obNoWay ?hyNoWay ?kpNoWay ?gaNoWay ?noNoWay ?haNoWay ?hnNoWay ?htNoWay ?hmNoWay ?hbNoWay ?rdRE ?fcRE ?sgRE ?hrea ?hsee
  (case aCNet=>k_is)
  (case pgNet=>k_is)
  (case hdNet=>k_is)
  (case poNet=>k_is)
  (case saNet=>k_is)
  (case mkNet=>k_is)
  (case kcNet=>k_is)
  (case nNet_kept_houses=>k_is)
  (case nNet_kept_roads=>k_is)
  (case aNet_init=>k_is)
  (case iNet_init=>k_is)
  (case FNet_init=>refine' L2.fun_mk ?z ?y ?x;(case z=>k_is);(case y=>k_is);(case x=>k_is))
  (case aNet_houses=>k_is)
  (case iNet_houses=>k_is)
  (case FNet_houses=>refine' L2.fun_mk ?z ?y ?x;(case z=>k_is);(case y=>k_is);(case x=>k_is))
  (case aNet_roads=>k_is)
  (case iNet_roads=>k_is)
  (case FNet_roads=>refine' L2.fun_mk ?z ?y ?x;(case z=>k_is);(case y=>k_is);(case x=>k_is))
  (case aNet_road=>k_is)
  (case iNet_road=>k_is)
  (case FNet_road=>refine' L2.fun_mk ?z ?y ?x;(case z=>k_is);(case y=>k_is);(case x=>k_is))
  (case aNet_out_of=>k_is)
  (case iNet_out_of=>k_is)
  (case FNet_out_of=>refine' L2.fun_mk ?z ?y ?x;(case z=>k_is);(case y=>k_is);(case x=>k_is))
  (case aNet_need_house=>k_is)
  (case iNet_need_house=>k_is)
  (case FNet_need_house=>refine' L2.fun_mk ?z ?y ?x;(case z=>k_is);(case y=>k_is);(case x=>k_is))
  (case aCWays=>k_is)
  (case pgWays=>k_is)
  (case hdWays=>k_is)
  (case poWays=>k_is)
  (case saWays=>k_is)
  (case mkWays=>k_is)
  (case kcWays=>k_is)
  (case nWays_net=>k_is)
  (case nWays_told=>k_is)
  (case aWays_init=>k_is)
  (case iWays_init=>k_is)
  (case FWays_init=>refine' L2.fun_mk ?z ?y ?x;(case z=>k_is);(case y=>k_is);(case x=>k_is))
  (case aWays_set_way=>k_is)
  (case iWays_set_way=>k_is)
  (case FWays_set_way=>refine' L2.fun_mk ?z ?y ?x;(case z=>k_is);(case y=>k_is);(case x=>k_is))
  (case aWays_way=>k_is)
  (case iWays_way=>k_is)
  (case FWays_way=>refine' L2.fun_mk ?z ?y ?x;(case z=>k_is);(case y=>k_is);(case x=>k_is))
  (case aWays_route=>k_is)
  (case iWays_route=>k_is)
  (case FWays_route=>refine' L2.fun_mk ?z ?y ?x;(case z=>k_is);(case y=>k_is);(case x=>k_is))
  (case aWays_need_pair=>k_is)
  (case iWays_need_pair=>k_is)
  (case FWays_need_pair=>refine' L2.fun_mk ?z ?y ?x;(case z=>k_is);(case y=>k_is);(case x=>k_is))
  (case aCWalk=>k_is)
  (case pgWalk=>k_is)
  (case hdWalk=>k_is)
  (case poWalk=>k_is)
  (case saWalk=>k_is)
  (case mkWalk=>k_is)
  (case kcWalk=>k_is)
  (case nWalk_net=>k_is)
  (case nWalk_goals=>k_is)
  (case nWalk_steps=>k_is)
  (case aWalk_init=>k_is)
  (case iWalk_init=>k_is)
  (case FWalk_init=>refine' L2.fun_mk ?z ?y ?x;(case z=>k_is);(case y=>k_is);(case x=>k_is))
  (case aWalk_take_in=>k_is)
  (case iWalk_take_in=>k_is)
  (case FWalk_take_in=>refine' L2.fun_mk ?z ?y ?x;(case z=>k_is);(case y=>k_is);(case x=>k_is))
  (case aWalk_send=>k_is)
  (case iWalk_send=>k_is)
  (case FWalk_send=>refine' L2.fun_mk ?z ?y ?x;(case z=>k_is);(case y=>k_is);(case x=>k_is))
  (case aWalk_goal=>k_is)
  (case iWalk_goal=>k_is)
  (case FWalk_goal=>refine' L2.fun_mk ?z ?y ?x;(case z=>k_is);(case y=>k_is);(case x=>k_is))
  (case aWalk_last_house=>k_is)
  (case iWalk_last_house=>k_is)
  (case FWalk_last_house=>refine' L2.fun_mk ?z ?y ?x;(case z=>k_is);(case y=>k_is);(case x=>k_is))
  (case aWalk_last_turn=>k_is)
  (case iWalk_last_turn=>k_is)
  (case FWalk_last_turn=>refine' L2.fun_mk ?z ?y ?x;(case z=>k_is);(case y=>k_is);(case x=>k_is))
  (case aWalk_home_turn=>k_is)
  (case iWalk_home_turn=>k_is)
  (case FWalk_home_turn=>refine' L2.fun_mk ?z ?y ?x;(case z=>k_is);(case y=>k_is);(case x=>k_is))
  (case ais_whole=>k_is)
  (case Fis_whole=>refine' L2.fun_mk ?z ?y ?x;(case z=>k_is);(case y=>k_is);(case x=>k_is))
  (case ais_whole_within=>k_is)
  (case Fis_whole_within=>refine' L2.fun_mk ?z ?y ?x;(case z=>k_is);(case y=>k_is);(case x=>k_is))
  (case ais_tuple_of=>k_is)
  (case Fis_tuple_of=>refine' L2.fun_mk ?z ?y ?x;(case z=>k_is);(case y=>k_is);(case x=>k_is))
  (case aare_unlike_houses=>k_is)
  (case Fare_unlike_houses=>refine' L2.fun_mk ?z ?y ?x;(case z=>k_is);(case y=>k_is);(case x=>k_is))
  (case ais_name=>k_is)
  (case Fis_name=>refine' L2.fun_mk ?z ?y ?x;(case z=>k_is);(case y=>k_is);(case x=>k_is))
  (case aare_houses=>k_is)
  (case Fare_houses=>refine' L2.fun_mk ?z ?y ?x;(case z=>k_is);(case y=>k_is);(case x=>k_is))
  (case ais_road=>k_is)
  (case Fis_road=>refine' L2.fun_mk ?z ?y ?x;(case z=>k_is);(case y=>k_is);(case x=>k_is))
  (case aare_roads=>k_is)
  (case Fare_roads=>refine' L2.fun_mk ?z ?y ?x;(case z=>k_is);(case y=>k_is);(case x=>k_is))
  (case ais_shorter_by=>k_is)
  (case Fis_shorter_by=>refine' L2.fun_mk ?z ?y ?x;(case z=>k_is);(case y=>k_is);(case x=>k_is))
  (case aleast_turns_from=>k_is)
  (case Fleast_turns_from=>refine' L2.fun_mk ?z ?y ?x;(case z=>k_is);(case y=>k_is);(case x=>k_is))
  (case abegins_shortest=>k_is)
  (case Fbegins_shortest=>refine' L2.fun_mk ?z ?y ?x;(case z=>k_is);(case y=>k_is);(case x=>k_is))
  (case ashortest=>k_is)
  (case Fshortest=>refine' L2.fun_mk ?z ?y ?x;(case z=>k_is);(case y=>k_is);(case x=>k_is))
  (case ahas_route=>k_is)
  (case Fhas_route=>refine' L2.fun_mk ?z ?y ?x;(case z=>k_is);(case y=>k_is);(case x=>k_is))
  (case aqueues_at=>k_is)
  (case Fqueues_at=>refine' L2.fun_mk ?z ?y ?x;(case z=>k_is);(case y=>k_is);(case x=>k_is))
  (case abags_at=>k_is)
  (case Fbags_at=>refine' L2.fun_mk ?z ?y ?x;(case z=>k_is);(case y=>k_is);(case x=>k_is))
  (case arun=>k_is)
  (case Frun=>refine' L2.fun_mk ?z ?y ?x;(case z=>k_is);(case y=>k_is);(case x=>k_is))
  (case a_law_cell_at=>k_is)
  (case F_law_cell_at=>refine' L2.fun_mk ?z ?y ?x;(case z=>k_is);(case y=>k_is);(case x=>k_is))
  (case a_law_houses=>k_is)
  (case F_law_houses=>refine' L2.fun_mk ?z ?y ?x;(case z=>k_is);(case y=>k_is);(case x=>k_is))
  (case a_law_road=>k_is)
  (case F_law_road=>refine' L2.fun_mk ?z ?y ?x;(case z=>k_is);(case y=>k_is);(case x=>k_is))
  (case a_law_letter=>k_is)
  (case F_law_letter=>refine' L2.fun_mk ?z ?y ?x;(case z=>k_is);(case y=>k_is);(case x=>k_is))
  (case a_law_fars=>k_is)
  (case F_law_fars=>refine' L2.fun_mk ?z ?y ?x;(case z=>k_is);(case y=>k_is);(case x=>k_is))
  (case a_law_homes=>k_is)
  (case F_law_homes=>refine' L2.fun_mk ?z ?y ?x;(case z=>k_is);(case y=>k_is);(case x=>k_is))
  (case alaw=>k_is)
  (case Flaw=>refine' L2.fun_mk ?z ?y ?x;(case z=>k_is);(case y=>k_is);(case x=>k_is))
  (case aCRoadError=>k_is)
  (case lCRoadError=>k_is)
  (case aCNoWay=>k_is)
  (case lCNoWay=>k_is)
  (case aCNoHouse=>k_is)
  (case lCNoHouse=>k_is)
  (case aCNoRoad=>k_is)
  (case lCNoRoad=>k_is)
  (case aNoWay_init=>k_is)
  (case iNoWay_init=>k_is)
  (case FNoWay_init=>refine' L2.fun_mk ?z ?y ?x;(case z=>k_is);(case y=>k_is);(case x=>k_is))
  (case xiRoadError=>k_exc)
  (case xiNoHouse=>k_exc)
  (case xiNoRoad=>k_exc)
  (case xsNoWay_NoWay=>decide+kernel)
  (case vMOST_HOUSES=>k_is)
  (case vMOST_ROADS=>k_is)
  (case vMOST_SIGNS=>k_is)
  (case vMOST_TURNS=>k_is)
  (case vMOST_ROOM=>k_is)
  (case zlen=>k_is)
  (case zrange=>k_is)
  (case zisinstance=>k_is)
  (case zall=>k_is)
  (case zint=>k_is)
  (case zbool=>k_is)
  (case zstr=>k_is)
  (case zlist=>k_is)
  (case ztuple=>k_is)
  (case zset=>k_is)
  (case zValueError=>k_is)
  (case zenumerate=>k_is)
  (case zmax=>k_is)
  (case zmin=>k_is)
  (case zsum=>k_is)
  (case zany=>k_is)
  (case zdict=>k_is)
  (case zsorted=>k_is)
  (case zzip=>k_is)
  (case xkNoWay=>decide+kernel)
  (case xdNoWay=>decide+kernel)
  (case sxNoWay=>k_is)
  (case obNoWay=>k_is)
  (case hyNoWay=>k_is)
  (case kpNoWay=>k_is)
  (case gaNoWay=>k_is)
  (case noNoWay=>k_is)
  (case haNoWay=>k_is)
  (case hnNoWay=>k_is)
  (case htNoWay=>k_is)
  (case hmNoWay=>k_is)
  (case hbNoWay=>k_is)
  (case rdRE=>k_is)
  (case fcRE=>k_is)
  (case sgRE=>k_is)
  (case hrea=>k_is)
  (case hsee=>k_is)
