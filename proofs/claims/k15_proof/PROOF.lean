import PyProof.Rows.All
import Wide.All
import OpenK.AllK
import Wide.FinOn
import Lean
import PyProof.EqAt
import PyProof.EqKinds
import PyProof.TupleCall
import PySem.Challenge.RW_postroad_k15_the_bag_amiss
set_option Elab.async false
set_option linter.all false
set_option maxRecDepth 100000
set_option maxHeartbeats 4000000
namespace L2
open PySem PySem.Spec PyProof.Rows
noncomputable abbrev Key:=Sum Int Str
noncomputable def uf:Key→Value→Bool
 | .inl k,v=>Value.isInt k v
 | .inr x,v=>Value.isStrOf x v
noncomputable def Tg (w:World):Key→Int
 | .inl k=>hashInt k
 | .inr x=>hashStr w x
theorem cY:∀{k:Key} {v:Value},uf k v=true→(∃i t,k=Sum.inl i∧v=Value.int i t)∨(∃x t,k=Sum.inr x∧v=Value.str x t)
 | .inl i,v,h=>by
  obtain ⟨t,e⟩:=Value.isInt_shape (k:=i) (v:=v) h
  exact .inl ⟨i,t,rfl,e⟩
 | .inr x,v,h=>by
  obtain ⟨t,e⟩:=Value.isStrOf_shape (x:=x) (v:=v) h
  exact .inr ⟨x,t,rfl,e⟩
theorem BX (i:Int) (t:Tok):uf (.inl i) (.int i t)=true:=by simp [uf,Value.isInt]
theorem BZ (x:Str) (t:Tok):uf (.inr x) (.str x t)=true:=by simp [uf,Value.isStrOf]
theorem Nv (a b:Int):decide ((Sum.inl a:Key)=Sum.inl b)=(a==b):=by
 by_cases e:a=b
 ·subst e;simp
 ·have h:¬(Sum.inl a:Key)=Sum.inl b:=fun q=>e (Sum.inl.inj q)
  rw [decide_eq_false h]
  exact (beq_eq_false_iff_ne.mpr e).symm
theorem Nx (a b:Str):decide ((Sum.inr a:Key)=Sum.inr b)=decide (a=b):=by
 by_cases e:a=b
 ·subst e;simp
 ·have h:¬(Sum.inr a:Key)=Sum.inr b:=fun q=>e (Sum.inr.inj q)
  rw [decide_eq_false h,decide_eq_false e]
theorem Ny (a:Int) (b:Str):decide ((Sum.inl a:Key)=Sum.inr b)=false:=decide_eq_false (fun q=>nomatch q)
theorem Nz (a:Str) (b:Int):decide ((Sum.inr a:Key)=Sum.inl b)=false:=decide_eq_false (fun q=>nomatch q)
noncomputable def cZ (prog:Program) (w:World):PySem.KeyKind prog w Key where
 is:=uf
 hash:=Tg w
 inj:=fun v a b ha hb=>by
  rcases cY ha with ⟨i,t,rfl,rfl⟩ | ⟨x,t,rfl,rfl⟩
  ·rcases cY hb with ⟨j,u,rfl,e⟩ | ⟨y,u,rfl,e⟩
   ·injection e with e1 _;rw [e1]
   ·exact nomatch e
  ·rcases cY hb with ⟨j,u,rfl,e⟩ | ⟨y,u,rfl,e⟩
   ·exact nomatch e
   ·injection e with e1 _;rw [e1]
 byValue:=fun k v h=>by
  rcases cY h with ⟨i,t,rfl,rfl⟩ | ⟨x,t,rfl,rfl⟩ <;> rfl
 pyHash:=fun hv h=>by
  rcases cY hv with ⟨i,t,rfl,rfl⟩ | ⟨x,t,rfl,rfl⟩
  ·exact wpAny_pyHash_int h
  ·exact wpAny_pyHash_str h
 eqBool:=fun hu hv h=>by
  rcases cY hu with ⟨i,t,rfl,rfl⟩ | ⟨x,t,rfl,rfl⟩
  ·rcases cY hv with ⟨j,u,rfl,rfl⟩ | ⟨y,u,rfl,rfl⟩
   ·rw [Nv] at h;exact wpAny_eqBool_int h
   ·rw [Ny] at h;exact SeqAt.EqAt.int_str i t y u _ _ _ _ h
  ·rcases cY hv with ⟨j,u,rfl,rfl⟩ | ⟨y,u,rfl,rfl⟩
   ·rw [Nz] at h;exact SeqAt.EqAt.str_int x t j u _ _ _ _ h
   ·rw [Nx] at h;exact wpAny_eqBool_str h
 «strs»:=fun k x t v h=>by
  rcases cY h with ⟨i,u,rfl,e⟩ | ⟨y,u,rfl,e⟩
  ·exact nomatch e
  ·injection e with e1 _
   subst e1
   cases v <;> rfl
theorem wg (prog:Program) (w:World) (i:Int) (t:Tok):(cZ prog w).is (.inl i) (.int i t)=true:=BX i t
theorem wu (prog:Program) (w:World) (x:Str) (t:Tok):(cZ prog w).is (.inr x) (.str x t)=true:=BZ x t
inductive V where
 | non | bl (b:Bool) | int (i:Int) | str (x:Str) | byt (b:Array UInt8) | flt (b:UInt64) | ref (a:Addr) | ty (n:String)
 deriving DecidableEq
noncomputable def RelV:V→Value→Prop
 | .non,u=>u=Value.none
 | .bl b,u=>u=Value.bool b
 | .int i,u=>∃t,u=Value.int i t
 | .str x,u=>∃t,u=Value.str x t
 | .byt b,u=>∃t,u=Value.bytes b t
 | .flt b,u=>∃t,u=Value.float b t
 | .ref a,u=>u=Value.ref a
 | .ty n,u=>u=Value.type n
noncomputable abbrev Vals:List V→List Value→Prop:=Paired RelV
theorem Vals.length {xs:List V} {us:List Value} (r:Vals xs us):xs.length=us.length:=Paired.length r
theorem Vals.get:∀{xs:List V} {us:List Value} {i:Nat} {x:V},Vals xs us→xs[i]?=some x→∃u,us[i]?=some u∧RelV x u
 | _,_,_,_,.nil,e=>by simp at e
 | _,_,0,_,.cons r _,e=>by simp at e;subst e;exact ⟨_,rfl,r⟩
 | _,_,i+1,x,.cons _ t,e=>by
  obtain ⟨u,h1,h2⟩:=Vals.get (i:=i) (x:=x) t (by simpa using e)
  exact ⟨u,by simpa using h1,h2⟩
theorem Vals.append:∀{xs ys:List V} {us ws:List Value},Vals xs us→Vals ys ws→Vals (xs++ys) (us++ws)
 | _,_,_,_,.nil,s=>s
 | _,_,_,_,.cons r t,s=>.cons r (Vals.append t s)
theorem Vals.take:∀{xs:List V} {us:List Value} (n:Nat),Vals xs us→Vals (xs.take n) (us.take n)
 | _,_,0,_=>.nil
 | _,_,_+1,.nil=>.nil
 | _,_,n+1,.cons r t=>.cons r (Vals.take n t)
theorem Vals.drop:∀{xs:List V} {us:List Value} (n:Nat),Vals xs us→Vals (xs.drop n) (us.drop n)
 | _,_,0,r=>r
 | _,_,_+1,.nil=>.nil
 | _,_,n+1,.cons _ t=>Vals.drop n t
theorem Vals.none_of:∀{xs:List V} {us:List Value} {i:Nat},Vals xs us→xs[i]?=none→us[i]?=none:=fun {xs us i} r e=>by
 have h1:=r.length
 have h2:xs.length≤i:=List.getElem?_eq_none_iff.mp e
 exact List.getElem?_eq_none_iff.mpr (by omega)
noncomputable def jk:Option V→Option Value→Prop
 | some v,some u=>RelV v u
 | none,none=>True
 | _,_=>False
noncomputable def KV {κ:Type}:List (κ × V)→List (κ × Value)→Prop:=Paired fun (p:κ × V) (q:κ × Value)=>p.1=q.1∧RelV p.2 q.2
noncomputable def kV:Key→V
 | .inl i=>.int i
 | .inr x=>.str x
inductive HO where
  | lst (xs:List V)
  | tup (xs:List V)
  | dK (kvs:List (Key × V)) | dT (kvs:List (List Key × V))
  | set (S:Int→Bool) (n:Nat)
  | ins (C dx:Addr) (fs:List (Str × V))
  | own (x:Addr)
  | xd (fs:List (Str × V))
  | met (f x:Addr)
  | rng (lo hi:Int)
  | frz (o:Obj) (u:HO)
  | tbl (ps:Array Value)
  | ext (φ:Heap→Prop)
noncomputable abbrev Hp:=Addr→Option HO
noncomputable def upd (H:Hp) (a:Addr) (o:HO):Hp:=fun b=>if b=a then some o else H b
theorem aq {H:Hp} {a:Addr} {o:HO}:upd H a o a=some o:=by unfold upd;rw [if_pos rfl]
theorem aA {H:Hp} {a b:Addr} {o:HO} (h:b≠a):upd H a o b=H b:=by unfold upd;rw [if_neg h]
theorem qj {H:Hp} {a:Addr} {o u:HO}:upd (upd H a o) a u=upd H a u:=by
 funext b;unfold upd;split <;> rfl
theorem iz {H:Hp} {a b:Addr} {o u:HO} (h:H a=some o) (h':H b=some u) (d:o≠u):a≠b:=by
 intro e;subst e;rw [h] at h';exact d (Option.some.inj h')
theorem aF {H:Hp} {a b:Addr} {o:HO} (h:H a=some o) (h':H b=none):a≠b:=by
 intro e;subst e;rw [h] at h';cases h'
section
variable (P:Program) (w:World)
noncomputable def bQ (H:Hp) (h:Heap) (a:Addr):HO→Prop
 | .lst xs=>xs.length≤sizeLine∧∃(its:List Value) (n:Nat),Vals xs its∧h.get? a=some {cls:=.type "list",data:=.seq its.toArray n}
 | .tup xs=>xs.length≤sizeLine∧∃its:List Value,Vals xs its∧IsTup h a its.toArray
 | .dK kvs=>kvs.length≤sizeLine∧(a==sysModules)=false∧∃vs,KV kvs vs∧h.DictOf (cZ P w) a vs
 | .dT kvs=>kvs.length≤sizeLine∧(a==sysModules)=false∧∃xs:List (List Key × Addr × Value),
   Paired (fun (p:List Key × V) (q:List Key × Addr × Value)=>p.1=q.1∧H q.2.1=some (.tup (p.1.map kV))∧RelV p.2 q.2.2) kvs xs∧
   ∃o es ep,h.get? a=some o∧o.ExactDict∧o.data=.dict es ep∧es.toList=xs.map (entryOfKey (tupleKind (cZ P w)))∧(xs.map (·.1)).Nodup
 | .set S n=>h.SetOf (intKind P w) a S n
 | .ins C dx fs=>H dx=some (.own a)∧fs.length≤1000∧dx≠a∧h.get? a=some (PySem.W.instObj C dx)∧
   ∃mA,h.Ns1 dx mA∧(∀f,jk (fs.lookup f) (mA f))∧PySem.Within mA (fs.map (·.1))
 | .own _=>∃o,h.get? a=some o
 | .xd fs=>∃mA,h.Ns1 a mA∧∀f,jk (fs.lookup f) (mA f)
 | .rng lo hi=>∃t u v,h.get? a=some {cls:=.type "range",data:=.fields #[.int lo t,.int hi u,.int 1 v]}
 | .frz o u=>h.get? a=some o∧bQ H h a u
 | .tbl ps=>h.get? a=some {cls:=.none,data:=.fields ps}
 | .met f x=>h.get? a=some (PySem.W.methodObj (.ref f) (.ref x))
 | .ext φ=>φ h∧(∃o,h.get? a=some o)∧∀h1 h2:Heap,φ h1→(∀o,h1.get? a=some o→h2.get? a=some o)→φ h2
noncomputable def HOk (H:Hp) (h:Heap):Prop:=∀a o,H a=some o→bQ P w H h a o
end
section
variable {P:Program} {w:World} {H H':Hp} {h h':Heap} {a:Addr} {o:HO}
theorem bQ.lt (x:bQ P w H h a o):a < h.objs.size:=by
 cases o with
 | lst xs=>obtain ⟨_,_,_,_,e⟩:=x;exact Heap.lt_size e
 | tup xs=>obtain ⟨_,_,_,p⟩:=x;exact p.lt
 | dK kvs=>obtain ⟨_,_,_,_,o,_,_,e,_⟩:=x;exact Heap.lt_size e
 | dT kvs=>obtain ⟨_,_,_,_,o,_,_,e,_⟩:=x;exact Heap.lt_size e
 | set S n=>obtain ⟨o,_,_,_,e,_⟩:=x;exact Heap.lt_size e
 | ins C dx fs=>obtain ⟨_,_,_,e,_⟩:=x;exact Heap.lt_size e
 | own y=>obtain ⟨_,e⟩:=x;exact Heap.lt_size e
 | xd fs=>obtain ⟨_,⟨_,_,_,e,_⟩,_⟩:=x;exact Heap.lt_size e
 | rng lo hi=>obtain ⟨_,_,_,e⟩:=x;exact Heap.lt_size e
 | frz ob u=>obtain ⟨e,_⟩:=x;exact Heap.lt_size e
 | tbl ps=>exact Heap.lt_size (show h.get? a=some _ from x)
 | met f y=>exact Heap.lt_size (show h.get? a=some _ from x)
 | ext φ=>obtain ⟨_,⟨_,e⟩,_⟩:=x;exact Heap.lt_size e
theorem Paired.mapP {α β:Type} {F G:α→β→Prop}:∀{l₁:List α} {l₂:List β},Paired F l₁ l₂→(∀a b,F a b→G a b)→Paired G l₁ l₂
 | _,_,.nil,_=>.nil
 | _,_,.cons r t,f=>.cons (f _ _ r) (Paired.mapP t f)
theorem bQ.stay (x:bQ P w H h a o) (k:∀b u,(b=a∨H b=some (.own a))→h.get? b=some u→h'.get? b=some u)
  (ho:∀b,H b=some (.own a)→H' b=some (.own a)) (ht:∀b xs,H b=some (.tup xs)→H' b=some (.tup xs)):bQ P w H' h' a o:=by
 induction o with
 | lst xs=>obtain ⟨z,its,n,r,e⟩:=x;exact ⟨z,its,n,r,k _ _ (.inl rfl) e⟩
 | tup xs=>obtain ⟨z,its,r,ob,e,c⟩:=x;exact ⟨z,its,r,ob,k _ _ (.inl rfl) e,c⟩
 | dK kvs=>obtain ⟨z,y,vs,r,ob,es,ep,e,c⟩:=x;exact ⟨z,y,vs,r,ob,es,ep,k _ _ (.inl rfl) e,c⟩
 | dT kvs=>
  obtain ⟨z,y,xs,r,ob,es,ep,e,c⟩:=x
  exact ⟨z,y,xs,Paired.mapP r fun p q z=>⟨z.1,ht _ _ z.2.1,z.2.2⟩,ob,es,ep,k _ _ (.inl rfl) e,c⟩
 | set S n=>obtain ⟨ob,es,ep,t,e,c⟩:=x;exact ⟨ob,es,ep,t,k _ _ (.inl rfl) e,c⟩
 | ins C dx fs=>
  obtain ⟨d,z,ne,e,mA,⟨od,es,ep,e2,c⟩,r⟩:=x
  exact ⟨ho _ d,z,ne,k _ _ (.inl rfl) e,mA,⟨od,es,ep,k _ _ (.inr d) e2,c⟩,r⟩
 | own y=>obtain ⟨ob,e⟩:=x;exact ⟨ob,k _ _ (.inl rfl) e⟩
 | xd fs=>obtain ⟨mA,⟨od,es,ep,e,c⟩,r⟩:=x;exact ⟨mA,⟨od,es,ep,k _ _ (.inl rfl) e,c⟩,r⟩
 | rng lo hi=>obtain ⟨t,u,v,e⟩:=x;exact ⟨t,u,v,k _ _ (.inl rfl) e⟩
 | frz ob u ih=>obtain ⟨e,q⟩:=x;exact ⟨k _ _ (.inl rfl) e,ih q⟩
 | tbl ps=>
  have e:h.get? a=some {cls:=.none,data:=.fields ps}:=x
  show h'.get? a=some {cls:=.none,data:=.fields ps}
  exact k a _ (.inl rfl) e
 | met f y=>
  have e:h.get? a=some (PySem.W.methodObj (.ref f) (.ref y)):=x
  show h'.get? a=some (PySem.W.methodObj (.ref f) (.ref y))
  exact k a _ (.inl rfl) e
 | ext φ=>obtain ⟨p,⟨o,e⟩,st⟩:=x;exact ⟨st _ _ p fun o q=>k _ _ (.inl rfl) q,⟨o,k _ _ (.inl rfl) e⟩,st⟩
theorem HOk.lt (x:HOk P w H h) (e:H a=some o):a < h.objs.size:=(x a o e).lt
theorem HOk.fresh (x:HOk P w H h) (e:h.objs.size≤a):H a=none:=by
 cases q:H a with
 | none=>rfl
 | some u=>exact absurd (Nat.lt_of_lt_of_le (x.lt q) e) (Nat.lt_irrefl _)
theorem HOk.kept (x:HOk P w H h) (k:∀b u,h.get? b=some u→h'.get? b=some u):HOk P w H h':=fun a o e=>
 (x a o e).stay (fun b u _ q=>k b u q) (fun _ q=>q) fun _ _ q=>q
theorem HOk.laid (x:HOk P w H h) (k:∀b u,h.get? b=some u→h'.get? b=some u) (hp:h.objs.size≤a) (new:bQ P w (upd H a o) h' a o):HOk P w (upd H a o) h':=fun b u e=>by
 have hn:=x.fresh hp
 by_cases hb:b=a
 ·subst hb;rw [aq] at e;cases e;exact new
 ·rw [aA hb] at e
  exact (x b u e).stay (fun c v _ q=>k c v q) (fun c q=>by rw [aA (aF q hn)];exact q) fun c xs q=>by rw [aA (aF q hn)];exact q
end
noncomputable def Rd (H:Hp) (a:Addr) (u:HO):Prop:=H a=some u∨∃o,H a=some (.frz o u)
theorem Rd.ok {P:Program} {w:World} {H:Hp} {h:Heap} {a:Addr} {u:HO} (r:Rd H a u) (x:HOk P w H h):bQ P w H h a u:=by
 rcases r with r | ⟨o,r⟩
 ·exact x a u r
 ·obtain ⟨_,q⟩:=x a _ r
  exact q
noncomputable def Mut:Option HO→Prop
 | some (.lst _)=>True
 | some (.dK _)=>True
 | some (.dT _)=>True
 | some (.set _ _)=>True
 | some (.ins _ _ _)=>True
 | some (.ext _)=>True
 | _=>False
section
variable {P:Program} {w:World} {H:Hp} {h h':Heap} {x e:Addr} {o':HO}
theorem HOk.write (ok:HOk P w H h) (mu:Mut (H x)) (he:e=x∨H e=some (.own x)) (k:∀b u,b≠e→h.get? b=some u→h'.get? b=some u) (heo:∃u,h'.get? e=some u)
  (new:bQ P w (upd H x o') h' x o'):HOk P w (upd H x o') h':=fun b u q=>by
 have nown:∀c y,H c=some (.own y)→c≠x:=fun c y r z=>by subst z;rw [r] at mu;exact mu
 have ntup:∀c xs,H c=some (.tup xs)→c≠x:=fun c xs r z=>by subst z;rw [r] at mu;exact mu
 by_cases hb:b=x
 ·subst hb;rw [aq] at q;cases q;exact new
 ·rw [aA hb] at q
  by_cases hbe:b=e
  ·have q':H b=some (.own x):=by
    rcases he with z | z
    ·exact absurd (hbe.trans z) hb
    ·rw [hbe];exact z
   rw [q] at q';cases q'
   obtain ⟨v,hv⟩:=heo
   exact ⟨v,by rw [hbe];exact hv⟩
  ·refine (ok b u q).stay (fun c v hc r=>k c v ?_ r) (fun c r=>by rw [aA (nown c b r)];exact r) fun c xs r=>by rw [aA (ntup c xs r)];exact r
   rcases hc with rfl | hc
   ·exact hbe
   ·rintro rfl
    rcases he with z | z
    ·exact nown c b hc z
    ·rw [hc] at z;cases z;exact hb rfl
end
structure Un (fs ex:List Addr) (H H':Hp) (h h':Heap):Prop where
 keep:∀b o,h.get? b=some o→H b=none→b∉fs→b∉ex→h'.get? b=some o
 slot:∀b o,h.get? b=some o→H b=none→b∈fs→b∉ex→∃sl,h'.get? b=some {o with slots:=sl}
 free:∀b o,h.get? b=some o→H b=none→b∉ex→H' b=none
 there:∀b o,h.get? b=some o→b∉ex→∃o',h'.get? b=some o'
 tups:∀b xs,H b=some (.tup xs)→H' b=some (.tup xs)
 frzs:∀b o u,H b=some (.frz o u)→H' b=some (.frz o u)
 tbls:∀b ps,H b=some (.tbl ps)→∃more,H' b=some (.tbl (ps++more))
section
variable {fs fs' ex ex':List Addr} {H H1 H2:Hp} {h h1 h2 h':Heap} {a x e:Addr} {o:HO}
theorem Un.any (u:Un fs ex H H1 h h1) {b:Addr} {ob:Obj} (q:h.get? b=some ob) (n:H b=none) (hx:b∉ex):∃sl,h1.get? b=some {ob with slots:=sl}:=by
 by_cases hb:b∈fs
 ·exact u.slot b ob q n hb hx
 ·exact ⟨ob.slots,u.keep b ob q n hb hx⟩
theorem Un.kept (k:∀b u,h.get? b=some u→h'.get? b=some u):Un fs ex H H h h':=
 ⟨fun b ob q _ _ _=>k b ob q,fun b ob q _ _ _=>⟨ob.slots,k b ob q⟩,fun _ _ _ n _=>n,fun b ob q _=>⟨ob,k b ob q⟩,fun _ _ q=>q,fun _ _ _ q=>q,fun _ ps q=>⟨#[],by rw [q];simp⟩⟩
theorem Un.refl:Un fs ex H H h h:=Un.kept fun _ _ q=>q
theorem Un.laid (k:∀b u,h.get? b=some u→h'.get? b=some u) (hp:h.objs.size≤a) (hn:H a=none):Un fs ex H (upd H a o) h h' where
 keep:=fun b u q _ _ _=>k b u q
 slot:=fun b u q _ _ _=>⟨u.slots,k b u q⟩
 free:=fun b u q n _=>by rw [aA (Nat.ne_of_lt (Nat.lt_of_lt_of_le (Heap.lt_size q) hp))];exact n
 there:=fun b u q _=>⟨u,k b u q⟩
 tups:=fun b xs q=>by rw [aA (aF q hn)];exact q
 frzs:=fun b u xs q=>by rw [aA (aF q hn)];exact q
 tbls:=fun b ps q=>⟨#[],by rw [aA (aF q hn),q];simp⟩
theorem Un.write (mu:Mut (H x)) (he:e=x∨H e=some (.own x)) (k:∀b u,b≠e→h.get? b=some u→h'.get? b=some u) (heo:∃u,h'.get? e=some u):Un fs ex H (upd H x o) h h':=by
 have hx:∀b,H b=none→b≠x:=fun b n z=>by subst z;rw [n] at mu;exact mu
 have hb:∀b,H b=none→b≠e:=fun b n z=>by
  subst z
  rcases he with r | r
  ·exact hx b n r
  ·rw [n] at r;cases r
 have hm:∀b u,H b=some u→¬Mut (some u)→b≠x:=fun b u q nm z=>by subst z;rw [q] at mu;exact nm mu
 refine ⟨fun b u q n _ _=>k b u (hb b n) q,fun b u q n _ _=>⟨u.slots,k b u (hb b n) q⟩,fun b u q n _=>by rw [aA (hx b n)];exact n,fun b u q _=>?_,
  fun b xs q=>by rw [aA (hm b _ q fun z=>z)];exact q,fun b u xs q=>by rw [aA (hm b _ q fun z=>z)];exact q,fun b ps q=>⟨#[],by rw [aA (hm b _ q fun z=>z),q];simp⟩⟩
 by_cases hbe:b=e
 ·subst hbe;exact heo
 ·exact ⟨u,k b u hbe q⟩
end
noncomputable def trk (h:Heap) (H:Hp):List Addr:=(List.range h.objs.size).filter fun a=>(H a).isSome
noncomputable def uR (h:Heap) (H:Hp):Heap:=PySem.W.hideAll h (trk h H)
theorem Ca (h:Heap) (H:Hp):(uR h H).objs.size=h.objs.size:=PySem.W.hideAll_size _ _
theorem Em {h:Heap} {H:Hp} {b:Addr} {o:Obj} (e:h.get? b=some o) (n:H b=none):(uR h H).get? b=some o:=
 PySem.W.hideAll_get _ e fun hm=>by
  have q:(H b).isSome=true:=(List.mem_filter.mp hm).2
  rw [n] at q;simp at q
theorem J1 {h:Heap} {H:Hp} {b:Addr} {o:Obj} (e:(uR h H).get? b=some o):h.get? b=some o∧H b=none:=by
 have e':h.get? b=some o:=PySem.W.of_hideAll (trk h H) e
 refine ⟨e',?_⟩
 cases q:H b with
 | none=>rfl
 | some x=>
  have hm:b∈trk h H:=List.mem_filter.mpr ⟨List.mem_range.mpr (Heap.lt_size e'),by simp [q]⟩
  have z:(uR h H).get? b=none:=PySem.W.hideAll_none (trk h H) hm
  rw [z] at e;cases e
open PySem PySem.Spec PyProof.Rows
structure Mod (K:PySem.W.Frag) (mg:Str→Option Value) (base:Heap):Prop where
 kin:K.In base
 glob:base.Ns mainGlobals mg
 blt:∃mb,base.Ns builtinsNs mb∧∀x:Str,x≠"__name__"→mb x=bootBuiltins x
 nolimit:base.NoLimit
structure Cx where
 prog:Program
 w:World
 K:PySem.W.Frag
 mg:Str→Option Value
 base:Heap
 A:Around
 N:List Str
 s₀:Shared
 H₀:Hp
 env:Env
 outer:List Env
 stack:List Env
 ex:List Addr
 fn:Str→Bool
 calm:Bool
 pn:List (Addr × Obj)
 xe:Value→Shared→Prop
noncomputable def frs (l:List Env):List Addr:=l.filterMap (·.frame)
noncomputable abbrev Cx.fs (X:Cx):List Addr:=frs X.outer
noncomputable def Vis (sc:Scope) (x:Str):Prop:=sc.names.lookup x=some .local∨sc.names.lookup x=some .cell∨sc.names.lookup x=some .free
noncomputable def Loc (sc:Scope) (x:Str):Prop:=sc.names.lookup x=some .local∨sc.names.lookup x=some .cell
noncomputable def Look (env:Env) (h:Heap) (m:Str→Option Value) (x:Str) (u:Value):Prop:=
 (env.kindOf x=some .local∧m x=some u)∨((env.kindOf x=some .cell∨env.kindOf x=some .free)∧∃c,env.cells.lookup x=some c∧h.IsCell c (some u))
structure Cx.Ok (X:Cx):Prop where
 mod:Mod X.K X.mg X.base
 kind:X.env.scope.kind=.function
 glob:X.env.globals=mainGlobals
 blt:X.env.builtins=builtinsNs
 above:X.s₀.heap.objs.size≤X.env.locals
 inj:∀x y c,X.env.cells.lookup x=some c→X.env.cells.lookup y=some c→x=y
 has:∀x,(X.env.kindOf x=some .cell∨X.env.kindOf x=some .free)→∃c,X.env.cells.lookup x=some c
 cab:∀x c,X.fn x=true→X.env.cells.lookup x=some c→X.s₀.heap.objs.size≤c
 hd:X.calm=true→X.A.handled=none
 frames:X.A.frames=some X.stack
 stk:X.stack=X.outer∨(X.stack=X.env::X.outer∧X.env.frame=some X.env.locals)
 exf:∀b∈X.ex,b≠X.env.locals∧∀x c,X.env.cells.lookup x=some c→c≠b
 bs:∀b o,X.base.get? b=some o→X.s₀.heap.get? b=some o∧X.H₀ b=none
 bsz:X.base.objs.size≤X.s₀.heap.objs.size
 noex:∀b o,X.base.get? b=some o→b∉X.ex
 exfs:∀b∈X.ex,b∉X.fs
 funs:X.s₀.heap.FunFrames X.base X.outer
 frf:∀b∈X.fs,X.H₀ b=none
structure Inv (X:Cx) (pins:List (Addr × Obj)) (σ:List (Option V)) (H:Hp) (s:Shared):Prop where
 ok:X.Ok
 os:s.os=X.s₀.os
 bare:AllBare s.gens
 base:Un X.fs X.ex X.H₀ H X.s₀.heap s.heap
 loc:∃m,s.heap.Ns X.env.locals m∧∀(i:Nat) (x:Str) (v:V),X.N[i]?=some x→σ[i]?=some (some v)→Vis X.env.scope x→∃u,RelV v u∧Look X.env s.heap m x u
 cell:∀x c,X.env.cells.lookup x=some c→∃v,s.heap.IsCell c v
 free:H X.env.locals=none
 freeC:∀x c,X.env.cells.lookup x=some c→H c=none
 pin:∀p∈X.pn++pins,s.heap.get? p.1=some p.2∧H p.1=none∧p.1≠X.env.locals∧p.1∉X.fs∧∀v,p.2.data≠.cell v
 hok:HOk X.prog X.w H s.heap
 len:σ.length=X.N.length
section
variable {X:Cx} {pins:List (Addr × Obj)} {σ:List (Option V)} {H H':Hp} {s:Shared} {h':Heap}
theorem Cx.Ok.nofr (ok:X.Ok) {b:Addr} {o:Obj} (e:X.base.get? b=some o):b∉X.fs:=fun hb=>by
 have:=(ok.funs.mem hb).1
 rw [e] at this;cases this
theorem Inv.bs (I:Inv X pins σ H s):∀b o,X.base.get? b=some o→s.heap.get? b=some o∧H b=none:=fun b o e=>
 ⟨I.base.keep b o (I.ok.bs b o e).1 (I.ok.bs b o e).2 (I.ok.nofr e) (I.ok.noex b o e),I.base.free b o (I.ok.bs b o e).1 (I.ok.bs b o e).2 (I.ok.noex b o e)⟩
theorem Inv.bk (I:Inv X pins σ H s):∀b o,X.base.get? b=some o→s.heap.get? b=some o:=fun b o e=>(I.bs b o e).1
theorem Inv.mod (I:Inv X pins σ H s):Mod X.K X.mg X.base:=I.ok.mod
theorem Inv.kIn (I:Inv X pins σ H s):X.K.In s.heap:=I.ok.mod.kin.keeps I.bk
theorem Inv.lt (I:Inv X pins σ H s):X.env.locals < s.heap.objs.size:=let ⟨_,hn,_⟩:=I.loc;hn.lt
theorem Inv.sz (I:Inv X pins σ H s):X.s₀.heap.objs.size≤s.heap.objs.size:=Nat.le_trans I.ok.above (Nat.le_of_lt I.lt)
theorem Inv.nofs (I:Inv X pins σ H s) {a:Addr} (h:s.heap.objs.size≤a):a∉X.fs:=fun hb=>by
 obtain ⟨_,o,ho,_⟩:=I.ok.funs.mem hb
 exact absurd (Nat.lt_of_lt_of_le (Heap.lt_size ho) (Nat.le_trans I.sz h)) (Nat.lt_irrefl _)
theorem Inv.cne (I:Inv X pins σ H s):∀x c,X.env.cells.lookup x=some c→c≠X.env.locals:=fun x c e z=>by
 obtain ⟨v,o,ho,hd⟩:=I.cell x c e
 obtain ⟨m,⟨o',es,ep,ho',hd',_⟩,_⟩:=I.loc
 rw [z,ho'] at ho;cases ho;rw [hd'] at hd;cases hd
theorem Inv.funs (I:Inv X pins σ H s):s.heap.FunFrames X.base X.outer:=by
 have all:∀(l:List Env),(∀b∈frs l,b∈X.fs)→X.s₀.heap.FunFrames X.base l→s.heap.FunFrames X.base l:=by
  intro l
  induction l with
  | nil=>intro _ _;trivial
  | cons env r ih=>
   intro hs hl
   obtain ⟨hk,⟨L,o,hf,hn,ho,hd⟩,hr⟩:=hl
   have hL:L∈X.fs:=hs L (by unfold frs;rw [List.filterMap_cons,hf];exact List.mem_cons_self)
   obtain ⟨sl,e⟩:=I.base.slot L o ho (I.ok.frf L hL) hL fun z=>I.ok.exfs L z hL
   exact ⟨hk,⟨L,_,hf,hn,e,hd⟩,ih (fun b hb=>hs b (by unfold frs;rw [List.filterMap_cons,hf];exact List.mem_cons_of_mem _ hb)) hr⟩
 exact all X.outer (fun _ hb=>hb) I.ok.funs
theorem Inv.stack (I:Inv X pins σ H s):s.heap.FunFrames X.base X.stack:=by
 rcases I.ok.stk with e | ⟨e,hf⟩
 ·rw [e];exact I.funs
 ·rw [e]
  obtain ⟨m,hn,_⟩:=I.loc
  refine .cons (by rw [I.ok.kind];decide) hf hn ?_ I.funs
  exact Heap.get?_none_of_le (Nat.le_trans I.ok.bsz I.ok.above)
theorem Inv.stkSub (I:Inv X pins σ H s):∀b∈frs X.stack,b∈X.env.locals::X.fs:=fun b hb=>by
 rcases I.ok.stk with e | ⟨e,hf⟩
 ·rw [e] at hb;exact List.mem_cons_of_mem _ hb
 ·rw [e] at hb
  unfold frs at hb
  rw [List.filterMap_cons,hf] at hb
  exact hb
theorem Inv.stkFree (I:Inv X pins σ H s):∀b∈frs X.stack,H b=none:=fun b hb=>by
 rcases List.mem_cons.mp (I.stkSub b hb) with e | hb
 ·rw [e];exact I.free
 ·obtain ⟨_,o,ho,_⟩:=I.ok.funs.mem hb
  exact I.base.free b o ho (I.ok.frf b hb) fun z=>I.ok.exfs b z hb
theorem Inv.step {g':Array GenState} {t':Nat} {d':Drawn} {ch:List Addr} (I:Inv X pins σ H s)
  (hch:∀b∈ch,(b∈X.ex∨X.s₀.heap.objs.size≤b)∧b≠X.env.locals∧(∀x c,X.env.cells.lookup x=some c→c≠b)∧∀p∈X.pn++pins,p.1≠b)
  (keep:∀b o,b≠X.env.locals→b∉X.fs→b∉ch→s.heap.get? b=some o→H b=none→h'.get? b=some o)
  (slot:∀b o,b≠X.env.locals→b∈X.fs→b∉ch→s.heap.get? b=some o→H b=none→∃sl,h'.get? b=some {o with slots:=sl}) (free:∀b o,b∉ch→s.heap.get? b=some o→H b=none→H' b=none)
  (there:∀b o,b∉ch→s.heap.get? b=some o→∃o',h'.get? b=some o')
  (tups:∀b xs,H b=some (.tup xs)→H' b=some (.tup xs)) (frzs:∀b o u,H b=some (.frz o u)→H' b=some (.frz o u)) (tbls:∀b ps,H b=some (.tbl ps)→∃more,H' b=some (.tbl (ps++more)))
  (ns:∀m,s.heap.Ns X.env.locals m→h'.Ns X.env.locals m) (hok:HOk X.prog X.w H' h') (hg:AllBare g'):
  Inv X pins σ H' {s with heap:=h',gens:=g',drawn:=d',toks:=t'}:=by
 have neL:∀b o,X.s₀.heap.get? b=some o→b≠X.env.locals:=fun b o e=>Nat.ne_of_lt (Nat.lt_of_lt_of_le (Heap.lt_size e) I.ok.above)
 have neC:∀b o,X.s₀.heap.get? b=some o→b∉X.ex→b∉ch:=fun b o e hx hb=>by
  rcases (hch b hb).1 with z | z
  ·exact hx z
  ·exact absurd (Nat.lt_of_lt_of_le (Heap.lt_size e) z) (Nat.lt_irrefl _)
 have cellK:∀x c,X.env.cells.lookup x=some c→∀v,s.heap.IsCell c v→h'.IsCell c v:=fun x c e v ⟨o,ho,hd⟩=>by
  have nch:c∉ch:=fun z=>(hch c z).2.2.1 x c e rfl
  by_cases hc:c∈X.fs
  ·obtain ⟨sl,q⟩:=slot c o (I.cne x c e) hc nch ho (I.freeC x c e)
   exact ⟨_,q,hd⟩
  ·exact ⟨o,keep c o (I.cne x c e) hc nch ho (I.freeC x c e),hd⟩
 refine ⟨I.ok,I.os,hg,⟨fun b o e n hb hx=>?_,fun b o e n hb hx=>?_,fun b o e n hx=>?_,fun b o e hx=>?_,fun b xs e=>tups b xs (I.base.tups b xs e),fun b o xs e=>frzs b o xs (I.base.frzs b o xs e),fun b ps e=>?_⟩,?_,fun x c e=>?_,?_,fun x c e=>?_,fun p hp=>?_,hok,I.len⟩
 ·exact keep b o (neL b o e) hb (neC b o e hx) (I.base.keep b o e n hb hx) (I.base.free b o e n hx)
 ·obtain ⟨sl,e1⟩:=I.base.slot b o e n hb hx
  obtain ⟨sl',e2⟩:=slot b _ (neL b o e) hb (neC b o e hx) e1 (I.base.free b o e n hx)
  exact ⟨sl',e2⟩
 ·obtain ⟨o',e1⟩:=I.base.there b o e hx
  exact free b o' (neC b o e hx) e1 (I.base.free b o e n hx)
 ·obtain ⟨o',e1⟩:=I.base.there b o e hx
  exact there b o' (neC b o e hx) e1
 ·obtain ⟨m1,e1⟩:=I.base.tbls b ps e
  obtain ⟨m2,e2⟩:=tbls b _ e1
  exact ⟨m1++m2,by rw [e2,Array.append_assoc]⟩
 ·obtain ⟨m,hn,hl⟩:=I.loc
  refine ⟨m,ns m hn,fun i x v e1 e2 e3=>?_⟩
  obtain ⟨u,r,l⟩:=hl i x v e1 e2 e3
  refine ⟨u,r,?_⟩
  rcases l with l | ⟨k,c,e,z⟩
  ·exact .inl l
  ·exact .inr ⟨k,c,e,cellK x c e _ z⟩
 ·obtain ⟨v,z⟩:=I.cell x c e
  exact ⟨v,cellK x c e v z⟩
 ·obtain ⟨m,⟨o,_,_,ho,_⟩,_⟩:=I.loc
  exact free _ o (fun z=>(hch _ z).2.1 rfl) ho I.free
 ·obtain ⟨v,o,ho,hd⟩:=I.cell x c e
  exact free c o (fun z=>(hch c z).2.2.1 x c e rfl) ho (I.freeC x c e)
 ·obtain ⟨e,n,ne,nf,d⟩:=I.pin p hp
  have nch:p.1∉ch:=fun z=>(hch p.1 z).2.2.2 p hp rfl
  exact ⟨keep p.1 p.2 ne nf nch e n,free p.1 p.2 nch e n,ne,nf,d⟩
theorem Inv.un {t':Nat} (I:Inv X pins σ H s) (u:Un X.fs [] H H' s.heap h') (hok:HOk X.prog X.w H' h'):Inv X pins σ H' {s with heap:=h',toks:=t'}:=by
 obtain ⟨m,⟨o,es,ep,ho,r⟩,_⟩:=id I.loc
 obtain ⟨sl,hL⟩:=u.any ho I.free (by simp)
 exact I.step (g':=s.gens) (d':=s.drawn) (ch:=[]) (fun _ z=>nomatch z) (fun b o _ hb _ e n=>u.keep b o e n hb (by simp)) (fun b o _ hb _ e n=>u.slot b o e n hb (by simp)) (fun b o _ e n=>u.free b o e n (by simp)) (fun b o _ e=>u.there b o e (by simp)) u.tups u.frzs u.tbls (fun m' hm=>by
  obtain ⟨o',es',ep',ho',r'⟩:=hm
  rw [ho] at ho';cases ho'
  exact ⟨_,es',ep',hL,r'⟩) hok I.bare
theorem Inv.call {g':Array GenState} {t':Nat} {d':Drawn} {ch:List Addr} (I:Inv X pins σ H s) (u:Un (frs X.stack) ch H H' s.heap h') (hok:HOk X.prog X.w H' h') (hg:AllBare g')
  (hch:∀b∈ch,(b∈X.ex∨X.s₀.heap.objs.size≤b)∧b≠X.env.locals∧(∀x c,X.env.cells.lookup x=some c→c≠b)∧∀p∈X.pn++pins,p.1≠b):
  Inv X pins σ H' {s with heap:=h',gens:=g',drawn:=d',toks:=t'}:=by
 obtain ⟨m,⟨o,es,ep,ho,r⟩,_⟩:=id I.loc
 obtain ⟨sl,hL⟩:=u.any ho I.free fun z=>(hch _ z).2.1 rfl
 exact I.step (ch:=ch) hch (fun b o hL hb hc e n=>u.keep b o e n (fun z=>(List.mem_cons.mp (I.stkSub b z)).elim hL hb) hc) (fun b o _ _ hc e n=>u.any e n hc) (fun b o hc e n=>u.free b o e n hc) (fun b o hc e=>u.there b o e hc) u.tups u.frzs u.tbls (fun m' hm=>by
  obtain ⟨o',es',ep',ho',r'⟩:=hm
  rw [ho] at ho';cases ho'
  exact ⟨_,es',ep',hL,r'⟩) hok hg
theorem Inv.turned {t':Nat} {it:Addr} (I:Inv X pins σ H s) (k:∀b o,b≠it→s.heap.get? b=some o→h'.get? b=some o) (hn:H it=none) (hL:it≠X.env.locals)
  (h1:it∈X.ex∨X.s₀.heap.objs.size≤it) (h2:∀x c,X.env.cells.lookup x=some c→c≠it) (h3:∀p∈X.pn++pins,p.1≠it):Inv X pins σ H {s with heap:=h',toks:=t'}:=by
 have nit:∀b u,H b=some u→b≠it:=fun b u e z=>by rw [z,hn] at e;cases e
 refine I.step (g':=s.gens) (d':=s.drawn) (ch:=[it]) (fun b hb=>?_) (fun b o _ _ hc e _=>k b o (fun z=>hc (by simp [z])) e) (fun b o _ _ hc e _=>⟨o.slots,k b o (fun z=>hc (by simp [z])) e⟩) (fun _ _ _ _ n=>n)
  (fun b o hc e=>⟨o,k b o (fun z=>hc (by simp [z])) e⟩) (fun _ _ e=>e) (fun _ _ _ e=>e) (fun b ps e=>⟨#[],by rw [e];simp⟩) (fun m hm=>?_) (fun b u e=>?_) I.bare
 ·have e:b=it:=by simpa using hb
  subst e
  exact ⟨h1,hL,h2,h3⟩
 ·obtain ⟨o,es,ep,ho,r⟩:=hm
  exact ⟨o,es,ep,k _ o (Ne.symm hL) ho,r⟩
 ·refine (I.hok b u e).stay (fun c v hc q=>k c v ?_ q) (fun _ q=>q) fun _ _ q=>q
  rcases hc with z | z
  ·rw [z];exact nit b u e
  ·exact nit c _ z
theorem Inv.tok (I:Inv X pins σ H s) (t:Nat):Inv X pins σ H {s with toks:=t}:=I.un (h':=s.heap) (t':=t) Un.refl I.hok
theorem Inv.kept {t':Nat} (I:Inv X pins σ H s) (k:∀b u,s.heap.get? b=some u→h'.get? b=some u):Inv X pins σ H {s with heap:=h',toks:=t'}:=I.un (Un.kept k) (I.hok.kept k)
theorem Inv.laid {a:Addr} {o:HO} {t':Nat} (I:Inv X pins σ H s) (k:∀b u,s.heap.get? b=some u→h'.get? b=some u) (hp:s.heap.objs.size≤a) (new:bQ X.prog X.w (upd H a o) h' a o):
  Inv X pins σ (upd H a o) {s with heap:=h',toks:=t'}:=I.un (Un.laid k hp (I.hok.fresh hp)) (I.hok.laid k hp new)
theorem Inv.write {x e:Addr} {o:HO} {t':Nat} (I:Inv X pins σ H s) (mu:Mut (H x)) (he:e=x∨H e=some (.own x)) (k:∀b u,b≠e→s.heap.get? b=some u→h'.get? b=some u) (heo:∃u,h'.get? e=some u)
  (new:bQ X.prog X.w (upd H x o) h' x o):Inv X pins σ (upd H x o) {s with heap:=h',toks:=t'}:=I.un (Un.write mu he k heo) (I.hok.write mu he k heo new)
theorem Inv.pins_of {pins':List (Addr × Obj)} (I:Inv X pins σ H s) (h:∀p∈pins',s.heap.get? p.1=some p.2∧H p.1=none∧p.1≠X.env.locals∧p.1∉X.fs∧∀v,p.2.data≠.cell v):Inv X pins' σ H s:=
 ⟨I.ok,I.os,I.bare,I.base,I.loc,I.cell,I.free,I.freeC,fun p hp=>(List.mem_append.mp hp).elim (fun z=>I.pin p (List.mem_append_left _ z)) (h p),I.hok,I.len⟩
theorem qH {N:List Str} (hN:N.Nodup) {i j:Nat} {x:Str} (a:N[i]?=some x) (b:N[j]?=some x):i=j:=by
 obtain ⟨h1,e1⟩:=List.getElem?_eq_some_iff.mp a
 obtain ⟨h2,e2⟩:=List.getElem?_eq_some_iff.mp b
 exact (List.getElem_inj hN).mp (e1.trans e2.symm)
theorem ug {M:Model} {A:Around} {E:Value→Shared→Prop} {i:Nat} {x:Str} {v:V} {u:Value} {Q:Unit→Shared→Prop} (I:Inv X pins σ H s) (hN:X.N.Nodup) (hi:X.N[i]?=some x) (hx:Loc X.env.scope x) (r:RelV v u)
  (h:∀s',Inv X pins (σ.set i (some v)) H s'→(∃a,Heap.SameBut a s.heap s'.heap∧(a=X.env.locals∨X.env.cells.lookup x=some a))→Q () s') (hf:X.fn x=true∨X.env.scope.names.lookup x=some .local:=by first | exact .inl rfl | exact .inr rfl | assumption):wpAny M A (storeName X.env x u) Q E s:=by
 obtain ⟨m,hn,hl⟩:=id I.loc
 have hcls:(X.env.scope.kind==.class || (X.env.scope.kind==.module && X.env.locals !=X.env.globals))=false:=by rw [I.ok.kind];rfl
 have hiσ:i < σ.length:=by rw [I.len];exact (List.getElem?_eq_some_iff.mp hi).1
 have cne:=I.cne
 have tracked:∀{a:Addr} {h':Heap},(∃o,s.heap.get? a=some o∧H a=none)→Heap.SameBut a s.heap h'→HOk X.prog X.w H h':=fun {a h'} ha hs b ob e=>by
  obtain ⟨_,_,hfree⟩:=ha
  refine (I.hok b ob e).stay (fun c w' hc q=>(hs.2 c ?_).trans q) (fun _ q=>q) fun _ _ q=>q
  rintro rfl
  rcases hc with rfl | hc
  ·rw [hfree] at e;cases e
  ·rw [hfree] at hc;cases hc
 rcases hx with hk | hk
 ·refine wpAny_storeName_local hk hn (fun h' hn' hs=>?_) hcls
  obtain ⟨oL,_,_,hoL,_⟩:=id hn
  refine h _ ⟨I.ok,I.os,I.bare,⟨fun b o e n hb hx=>?_,fun b o e n hb hx=>?_,I.base.free,fun b o e hx=>?_,I.base.tups,I.base.frzs,I.base.tbls⟩,⟨_,hn',fun j y v' e1 e2 e3=>?_⟩,fun y c e=>?_,I.free,I.freeC,fun p hp=>?_,tracked ⟨oL,hoL,I.free⟩ hs,by simpa using I.len⟩ ⟨_,hs,.inl rfl⟩
  ·exact (hs.2 b (Nat.ne_of_lt (Nat.lt_of_lt_of_le (Heap.lt_size e) I.ok.above))).trans (I.base.keep b o e n hb hx)
  ·obtain ⟨sl,e1⟩:=I.base.slot b o e n hb hx
   exact ⟨sl,(hs.2 b (Nat.ne_of_lt (Nat.lt_of_lt_of_le (Heap.lt_size e) I.ok.above))).trans e1⟩
  ·obtain ⟨o',e1⟩:=I.base.there b o e hx
   exact ⟨o',(hs.2 b (Nat.ne_of_lt (Nat.lt_of_lt_of_le (Heap.lt_size e) I.ok.above))).trans e1⟩
  ·by_cases hj:j=i
   ·subst hj
    rw [hi] at e1;cases e1
    rw [List.getElem?_set_self hiσ] at e2
    cases e2
    exact ⟨u,r,.inl ⟨hk,by simp⟩⟩
   ·rw [List.getElem?_set_ne (Ne.symm hj)] at e2
    obtain ⟨u',r',q⟩:=hl j y v' e1 e2 e3
    refine ⟨u',r',?_⟩
    rcases q with ⟨k,e⟩ | ⟨k,c,e,z⟩
    ·refine .inl ⟨k,?_⟩
     have:y≠x:=fun e=>hj (qH hN e1 (e▸hi))
     simp [this,e]
    ·exact .inr ⟨k,c,e,z.sameBut hs (cne y c e)⟩
  ·obtain ⟨w',z⟩:=I.cell y c e
   exact ⟨w',z.sameBut hs (cne y c e)⟩
  ·obtain ⟨e,n,ne,nf,d⟩:=I.pin p hp
   exact ⟨(hs.2 p.1 ne).trans e,n,ne,nf,d⟩
 ·have hfn:X.fn x=true:=by
   rcases hf with z | z
   ·exact z
   ·rw [z] at hk;cases hk
  obtain ⟨c,hc⟩:=I.ok.has x (.inl hk)
  obtain ⟨w',z⟩:=I.cell x c hc
  refine wpAny_storeName_cell I.ok.kind hk hc z (fun h' hc' hs=>?_)
  obtain ⟨oc,hoc,hocd⟩:=id z
  refine h {s with heap:=h'} ⟨I.ok,I.os,I.bare,⟨fun b o e n hb hx=>?_,fun b o e n hb hx=>?_,I.base.free,fun b o e hx=>?_,I.base.tups,I.base.frzs,I.base.tbls⟩,⟨m,hn.sameBut hs (Ne.symm (cne x c hc)),fun j y v' e1 e2 e3=>?_⟩,fun y c' e=>?_,I.free,I.freeC,fun p hp=>?_,tracked ⟨oc,hoc,I.freeC x c hc⟩ hs,by simpa using I.len⟩ ⟨c,hs,.inr hc⟩
  ·exact (hs.2 b (Nat.ne_of_lt (Nat.lt_of_lt_of_le (Heap.lt_size e) (I.ok.cab x c hfn hc)))).trans (I.base.keep b o e n hb hx)
  ·obtain ⟨sl,e1⟩:=I.base.slot b o e n hb hx
   exact ⟨sl,(hs.2 b (Nat.ne_of_lt (Nat.lt_of_lt_of_le (Heap.lt_size e) (I.ok.cab x c hfn hc)))).trans e1⟩
  ·obtain ⟨o',e1⟩:=I.base.there b o e hx
   exact ⟨o',(hs.2 b (Nat.ne_of_lt (Nat.lt_of_lt_of_le (Heap.lt_size e) (I.ok.cab x c hfn hc)))).trans e1⟩
  ·by_cases hj:j=i
   ·subst hj
    rw [hi] at e1;cases e1
    rw [List.getElem?_set_self hiσ] at e2
    cases e2
    exact ⟨u,r,.inr ⟨.inl hk,c,hc,hc'⟩⟩
   ·rw [List.getElem?_set_ne (Ne.symm hj)] at e2
    obtain ⟨u',r',q⟩:=hl j y v' e1 e2 e3
    refine ⟨u',r',?_⟩
    rcases q with q | ⟨k,c',e,z'⟩
    ·exact .inl q
    ·refine .inr ⟨k,c',e,z'.sameBut hs ?_⟩
     rintro rfl
     exact hj (qH hN e1 (I.ok.inj _ _ _ e hc▸hi))
  ·by_cases hcc:c'=c
   ·subst hcc;exact ⟨_,hc'⟩
   ·obtain ⟨w2,z2⟩:=I.cell y c' e
    exact ⟨w2,z2.sameBut hs hcc⟩
  ·obtain ⟨e,n,ne,nf,d⟩:=I.pin p hp
   refine ⟨(hs.2 p.1 ?_).trans e,n,ne,nf,d⟩
   intro q
   rw [q,hoc] at e
   have q':oc=p.2:=Option.some.inj e
   exact d w' (by rw [←q'];exact hocd)
theorem qI {M:Model} {A:Around} {E:Value→Shared→Prop} {i:Nat} {x:Str} {v:V} {u:Value} {Q:Unit→Shared→Prop} (I:Inv X pins σ H s) (hN:X.N.Nodup) (hi:X.N[i]?=some x) (hx:Loc X.env.scope x) (r:RelV v u)
  (h:∀s',Inv X pins (σ.set i (some v)) H s'→Q () s') (hf:X.fn x=true∨X.env.scope.names.lookup x=some .local:=by first | exact .inl rfl | exact .inr rfl | assumption):wpAny M A (storeName X.env x u) Q E s:=
 ug I hN hi hx r (fun s' I' _=>h s' I') hf
theorem Inv.call' {s':Shared} {ch:List Addr} (I:Inv X pins σ H s) (ho:s'.os=s.os) (u:Un (frs X.stack) ch H H' s.heap s'.heap) (hok:HOk X.prog X.w H' s'.heap) (hg:AllBare s'.gens)
  (hch:∀b∈ch,(b∈X.ex∨X.s₀.heap.objs.size≤b)∧b≠X.env.locals∧(∀x c,X.env.cells.lookup x=some c→c≠b)∧∀p∈X.pn++pins,p.1≠b):Inv X pins σ H' s':=by
 obtain ⟨h',g',d',t',o'⟩:=s'
 have e:o'=s.os:=ho
 subst e
 exact I.call (g':=g') (t':=t') (d':=d') u hok hg hch
end
noncomputable abbrev XK:=Value→Option Addr→Hp→Prop
noncomputable abbrev St:=List (Option V)
noncomputable abbrev VK:=V→Hp→Prop
noncomputable abbrev TE:=St→Hp→VK→Prop
noncomputable abbrev TT:=St→Hp→(Bool→Hp→Prop)→Prop
noncomputable abbrev TA:=St→Hp→(List V→Hp→Prop)→Prop
structure Ends where
 nx:St→Hp→Prop
 rt:VK
 bk:St→Hp→Prop:=fun _ _=>False
 ct:St→Hp→Prop:=fun _ _=>False
noncomputable abbrev TS:=Ends→St→Hp→Prop
noncomputable def EP (X:Cx) (pins:List (Addr × Obj)) (σ:St) (Q:VK) (u:Value) (s':Shared):Prop:=∃v H',Inv X pins σ H' s'∧RelV v u∧Q v H'
noncomputable def TP (X:Cx) (pins:List (Addr × Obj)) (σ:St) (Q:Bool→Hp→Prop) (b:Bool) (s':Shared):Prop:=∃H',Inv X pins σ H' s'∧Q b H'
noncomputable def AP (X:Cx) (pins:List (Addr × Obj)) (σ:St) (Q:List V→Hp→Prop) (us:List Value) (s':Shared):Prop:=∃vs H',Inv X pins σ H' s'∧Vals vs us∧Q vs H'
noncomputable def SP (X:Cx) (pins:List (Addr × Obj)) (D:Ends) (f:Flow) (s':Shared):Prop:=
 match f with
 | .next=>∃σ' H',Inv X pins σ' H' s'∧D.nx σ' H'
 | .brk=>∃σ' H',Inv X pins σ' H' s'∧D.bk σ' H'
 | .cont=>∃σ' H',Inv X pins σ' H' s'∧D.ct σ' H'
 | .ret u=>∃v σ' H',Inv X pins σ' H' s'∧RelV v u∧D.rt v H'
noncomputable def PE (X:Cx) (e:Expr) (t:TE):Prop:=
 ∀(pins:List (Addr × Obj)) (s:Shared) (σ:St) (H:Hp) (Q:VK),Inv X pins σ H s→t σ H Q→wpAny (model X.prog X.w) X.A (eval e X.env) (EP X pins σ Q) X.xe s
noncomputable def PT (X:Cx) (e:Expr) (t:TT):Prop:=
 ∀(pins:List (Addr × Obj)) (s:Shared) (σ:St) (H:Hp) (Q:Bool→Hp→Prop),Inv X pins σ H s→t σ H Q→wpAny (model X.prog X.w) X.A (isTrue e X.env (eval e X.env)) (TP X pins σ Q) X.xe s
noncomputable def PW (X:Cx) (e:Expr) (t:TT):Prop:=
 ∀(whole:Sem Value) (pins:List (Addr × Obj)) (s:Shared) (σ:St) (H:Hp) (Q:Bool→Hp→Prop),Inv X pins σ H s→t σ H Q→wpAny (model X.prog X.w) X.A (isTrue e X.env whole) (TP X pins σ Q) X.xe s
theorem PW.pt {X:Cx} {e:Expr} {t:TT} (h:PW X e t):PT X e t:=h _
noncomputable def PA (X:Cx) (es:List Expr) (t:TA):Prop:=
 ∀(pos:Pos) (pins:List (Addr × Obj)) (s:Shared) (σ:St) (H:Hp) (Q:List V→Hp→Prop),Inv X pins σ H s→t σ H Q→wpAny (model X.prog X.w) X.A (spliced (backTo pos (starEach es X.env))) (AP X pins σ Q) X.xe s
noncomputable def PS (X:Cx) (st:Stmt) (t:TS):Prop:=
 ∀(pins:List (Addr × Obj)) (s:Shared) (σ:St) (H:Hp) (D:Ends),Inv X pins σ H s→t D σ H→wpAny (model X.prog X.w) X.A (exec st X.env) (SP X pins D) X.xe s
noncomputable def PSs (X:Cx) (st:List Stmt) (t:TS):Prop:=
 ∀(pins:List (Addr × Obj)) (s:Shared) (σ:St) (H:Hp) (D:Ends),Inv X pins σ H s→t D σ H→wpAny (model X.prog X.w) X.A (execs st X.env) (SP X pins D) X.xe s
theorem thn {α:Type} {t:Sem α} {Q Q':α→Shared→Prop} {M:Model} {A:Around} {E:Value→Shared→Prop} {s:Shared} (h:wpAny M A t Q E s) (hQ:∀a s,Q a s→Q' a s):wpAny M A t Q' E s:=wpAny_mono h hQ fun _ _ x=>x
open PySem PySem.Spec PyProof.Rows
section
variable {X:Cx}
theorem bin {a b:Expr} {ta tb:TE} (ha:PE X a ta) (hb:PE X b tb) {pins:List (Addr × Obj)} {s:Shared} {σ:St} {H:Hp} {R:V→V→Hp→Prop} (I:Inv X pins σ H s) (h:ta σ H fun x H1=>tb σ H1 fun y H2=>R x y H2)
  {α:Type} {Q:α→Shared→Prop} {f:Value→Value→Sem α}
  (hf:∀v u s2 x y H2,Inv X pins σ H2 s2→RelV x v→RelV y u→R x y H2→wpAny (model X.prog X.w) X.A (f v u) Q X.xe s2):
  wpAny (model X.prog X.w) X.A (eval a X.env) (fun v s₁=>wpAny (model X.prog X.w) X.A (eval b X.env) (fun u s₂=>wpAny (model X.prog X.w) X.A (f v u) Q X.xe s₂) X.xe s₁) X.xe s:=by
 refine thn (ha pins s σ H _ I h) fun v s1 ⟨x,H1,I1,r1,q1⟩=>?_
 refine thn (hb pins s1 σ H1 _ I1 q1) fun u s2 ⟨y,H2,I2,r2,q2⟩=>?_
 exact hf v u s2 x y H2 I2 r1 r2 q2
inductive Qx (i:Nat) (σ:L2.St) (H:Hp) (Q:VK):Prop where
 | mk (v:_) (z1:σ[i]?=some (some v)) (z2:Q v H)
noncomputable def ym (i:Nat):TE:=fun σ H Q=>Qx i σ H Q
noncomputable def tC (v:V):TE:=fun _ H Q=>Q v H
theorem NB {i:Nat} {x:Str} {pos:Pos} (hN:X.N[i]?=some x) (hv:Vis X.env.scope x) (hd:(x==("__debug__":Str))=false:=by decide) (hcd:(x==("__classdict__":Str))=false:=by decide):PE X (.Name x pos) (ym i):=by
 intro pins s σ H Q I h
 obtain ⟨v,e,h⟩:=h
 obtain ⟨m,hn,hl⟩:=I.loc
 obtain ⟨u,r,l⟩:=hl i x v hN e hv
 have fin:EP X pins σ Q u s:=⟨v,H,I,r,h⟩
 rcases l with ⟨hk,hm⟩ | ⟨hk,c,hc,hcell⟩
 ·exact wpAny_Name (wpAny_loadName_local I.ok.kind hk hn hm fin) hd
 ·rcases hk with hk | hk
  ·exact wpAny_Name (wpAny_loadName_cell I.ok.kind hk hc hcell fin) hd
  ·exact wpAny_Name (wpAny_loadName_free I.ok.kind hk hc hcell fin hcd) hd
theorem az {i j pos}:PE X (.Constant (.int i) j pos) (tC (.int i)):=fun _ _ _ H _ I h=>wpAny_Constant_int ⟨.int i,H,I.tok _,⟨_,rfl⟩,h⟩
theorem nG {b j pos}:PE X (.Constant (.bool b) j pos) (tC (.bl b)):=fun _ _ _ H _ I h=>Constant_bool ⟨.bl b,H,I,rfl,h⟩
theorem iH {j pos}:PE X (.Constant .none j pos) (tC .non):=fun _ _ _ H _ I h=>Constant_none ⟨.non,H,I,rfl,h⟩
theorem cI {x j pos}:PE X (.Constant (.str x) j pos) (tC (.str x)):=fun _ _ _ H _ I h=>Calls.Constant_str ⟨.str x,H,I.tok _,⟨_,rfl⟩,h⟩
noncomputable def Gl (X:Cx) (x:Str):Prop:=X.env.kindOf x=some .globalImplicit
theorem jh {E:Value→Shared→Prop} {pins:List (Addr × Obj)} {s:Shared} {σ:St} {H:Hp} {x:Str} {u:Value} {pos:Pos} {Q:Value→Shared→Prop} (I:Inv X pins σ H s) (hg:Gl X x) (hm:X.mg x=some u) (h:Q u s)
  (hd:(x==("__debug__":Str))=false:=by decide):wpAny (model X.prog X.w) X.A (eval (.Name x pos) X.env) Q E s:=
 Calls.Name_function_global I.ok.kind hg (Calls.loadGlobal_global (by rw [I.ok.glob];exact I.mod.glob.keeps I.bk) hm h) hd
theorem kO {E:Value→Shared→Prop} {pins:List (Addr × Obj)} {s:Shared} {σ:St} {H:Hp} {x:Str} {u:Value} {pos:Pos} {Q:Value→Shared→Prop} (I:Inv X pins σ H s) (hg:Gl X x) (hm:X.mg x=none) (hv:bootBuiltins x=some u) (h:Q u s)
  (hn:x≠"__name__":=by decide) (hd:(x==("__debug__":Str))=false:=by decide):wpAny (model X.prog X.w) X.A (eval (.Name x pos) X.env) Q E s:=by
 obtain ⟨mb,h1,h2⟩:=I.mod.blt
 exact Calls.Name_function_global I.ok.kind hg (Calls.loadGlobal_builtin (by rw [I.ok.glob];exact I.mod.glob.keeps I.bk) hm (by rw [I.ok.blt];exact h1.keeps I.bk) ((h2 x hn).trans hv) h) hd
theorem zR {x:Str} {v:V} {u:Value} {pos:Pos} (hg:Gl X x) (hm:X.mg x=some u) (r:RelV v u) (hd:(x==("__debug__":Str))=false:=by decide):PE X (.Name x pos) (tC v):=
 fun _ _ _ H _ I h=>jh I hg hm ⟨v,H,I,r,h⟩ hd
theorem J3 {x:Str} {v:V} {u:Value} {pos:Pos} (hg:Gl X x) (hm:X.mg x=none) (hv:bootBuiltins x=some u) (r:RelV v u) (hn:x≠"__name__":=by decide) (hd:(x==("__debug__":Str))=false:=by decide):PE X (.Name x pos) (tC v):=
 fun _ _ _ H _ I h=>kO I hg hm hv ⟨v,H,I,r,h⟩ hn hd
variable {a b:Expr} {ta tb:TE} {pos:Pos}
noncomputable def PC (X:Cx) (op:CmpOp) (a b:Expr) (t:TE):Prop:=
 ∀(pins:List (Addr × Obj)) (s:Shared) (σ:St) (H:Hp) (Q:VK),Inv X pins σ H s→t σ H Q→
  wpAny (model X.prog X.w) X.A (eval a X.env) (fun v s₁=>wpAny (model X.prog X.w) X.A (eval b X.env) (fun u s₂=>wpAny (model X.prog X.w) X.A (compareOp op v u) (EP X pins σ Q) X.xe s₂) X.xe s₁) X.xe s
theorem En (b:Expr) {op:CmpOp} (h:op≠.In) (h2:op≠.NotIn):behindInMarks op b=false:=by
 have e1:(op==CmpOp.In)=false:=by cases op <;> first | rfl | exact absurd rfl h
 have e2:(op==CmpOp.NotIn)=false:=by cases op <;> first | rfl | exact absurd rfl h2
 cases b <;> simp [behindInMarks,e1,e2]
inductive JBl (x:V) (H1:Hp) (Q:Bool→Hp→Prop):Prop where
 | mk (c:_) (z1:x=.bl c) (z2:Q c H1)
noncomputable def tB (t:TE):TT:=fun σ H Q=>t σ H fun x H1=>JBl x H1 Q
theorem Ti {op:CmpOp} {t:TE} (h:PC X op a b t) (h1:behindInMarks op b=false:=by first | exact En _ (by decide) (by decide) | rfl):PT X (.Compare a [op] [b] pos) (tB t):=by
 intro pins s σ H Q I hw
 refine wpAny_isTrue_Compare1 (thn (h pins s σ H _ I hw) fun v s1 h1=>thn h1 fun u s2 h2=>thn h2 fun c s3 ⟨x,H1,I1,r1,q1⟩=>?_) h1
 obtain ⟨d,rfl,q⟩:=q1
 cases r1
 exact wpAny_truthy_bool ⟨H1,I1,q⟩
theorem eE {e:Expr} {t:TE} (h:PE X e t) (he:∀whole,isTrue e X.env whole=(do let v ←whole;standAt e.pos;holding [v] (truthy v)):=by intro _;rfl):PT X e (tB t):=by
 intro pins s σ H Q I hw
 refine isTrue_plain (thn (h pins s σ H _ I hw) fun v s1 ⟨x,H1,I1,r1,q1⟩=>?_) (he _)
 obtain ⟨d,rfl,q⟩:=q1
 cases r1
 exact wpAny_truthy_bool ⟨H1,I1,q⟩
variable {tA tB':TT} {rest:List Expr}
noncomputable def Tj (t u:TT):TT:=fun σ H Q=>t σ H fun c H1=>if c=true then u σ H1 Q else Q false H1
noncomputable def tOr (t u:TT):TT:=fun σ H Q=>t σ H fun c H1=>if c=true then Q true H1 else u σ H1 Q
noncomputable def Qy (t:TT):TT:=fun σ H Q=>t σ H fun c H1=>Q (!c) H1
theorem ql (ha:PT X a tA):PW X (.BoolOp .And [a] pos) tA:=by
 intro wh pins s σ H Q I h
 refine isTrue_and (thn (ha pins s σ H Q I h) fun c s1 e=>?_)
 cases c with
 | true=>exact isTrue_and_nil e
 | false=>exact e
theorem kW (ha:PT X a tA):PW X (.BoolOp .Or [a] pos) tA:=by
 intro wh pins s σ H Q I h
 refine isTrue_or (thn (ha pins s σ H Q I h) fun c s1 e=>?_)
 cases c with
 | false=>exact isTrue_or_nil e
 | true=>exact e
theorem uT (ha:PT X a tA) (hb:PW X (.BoolOp .And (b::rest) pos) tB'):PW X (.BoolOp .And (a::b::rest) pos) (Tj tA tB'):=by
 intro wh pins s σ H Q I h
 refine isTrue_and (thn (ha pins s σ H _ I h) fun c s1 ⟨H1,I1,q1⟩=>?_)
 cases c with
 | true=>exact hb wh pins s1 σ H1 Q I1 q1
 | false=>exact ⟨H1,I1,q1⟩
theorem jo (ha:PT X a tA) (hb:PW X (.BoolOp .Or (b::rest) pos) tB'):PW X (.BoolOp .Or (a::b::rest) pos) (tOr tA tB'):=by
 intro wh pins s σ H Q I h
 refine isTrue_or (thn (ha pins s σ H _ I h) fun c s1 ⟨H1,I1,q1⟩=>?_)
 cases c with
 | true=>exact ⟨H1,I1,q1⟩
 | false=>exact hb wh pins s1 σ H1 Q I1 q1
theorem du (ha:PT X a tA):PT X (.UnaryOp .Not a pos) (Qy tA):=by
 intro pins s σ H Q I h
 exact isTrue_not (ha pins s σ H (fun c H1=>Q (!c) H1) I h)
noncomputable def zT (ta tb:TE):TE:=fun σ H Q=>ta σ H fun x H1=>∃c,x=.bl c∧if c=true then tb σ H1 Q else Q (.bl false) H1
noncomputable def Tn (ta tb:TE):TE:=fun σ H Q=>ta σ H fun x H1=>∃c,x=.bl c∧if c=true then Q (.bl true) H1 else tb σ H1 Q
noncomputable def Qz (ta:TE):TE:=fun σ H Q=>ta σ H fun x H1=>∃c,x=.bl c∧Q (.bl (!c)) H1
theorem dN {op} {t:TE} (h:PE X a t):PE X (.BoolOp op [a] pos) t:=fun pins s σ H Q I hw=>BoolOp_one (h pins s σ H Q I hw)
theorem cz (ha:PE X a ta) (hb:PE X (.BoolOp .And (b::rest) pos) tb):PE X (.BoolOp .And (a::b::rest) pos) (zT ta tb):=by
 intro pins s σ H Q I h
 refine BoolOp_and (thn (ha pins s σ H _ I h) fun v s1 ⟨x,H1,I1,r1,q1⟩=>?_)
 obtain ⟨c,rfl,q1⟩:=q1
 cases r1
 refine wpAny_truthy_bool ?_
 cases c with
 | true=>exact hb pins s1 σ H1 Q I1 q1
 | false=>exact ⟨.bl false,H1,I1,rfl,q1⟩
theorem zU (ha:PE X a ta) (hb:PE X (.BoolOp .Or (b::rest) pos) tb):PE X (.BoolOp .Or (a::b::rest) pos) (Tn ta tb):=by
 intro pins s σ H Q I h
 refine BoolOp_or (thn (ha pins s σ H _ I h) fun v s1 ⟨x,H1,I1,r1,q1⟩=>?_)
 obtain ⟨c,rfl,q1⟩:=q1
 cases r1
 refine wpAny_truthy_bool ?_
 cases c with
 | false=>exact hb pins s1 σ H1 Q I1 q1
 | true=>exact ⟨.bl true,H1,I1,rfl,q1⟩
theorem yo (ha:PE X a ta):PE X (.UnaryOp .Not a pos) (Qz ta):=by
 intro pins s σ H Q I h
 refine UnaryOp_ (thn (ha pins s σ H _ I h) fun v s1 ⟨x,H1,I1,r1,q1⟩=>?_)
 obtain ⟨c,rfl,q1⟩:=q1
 cases r1
 exact not_of (wpAny_truthy_bool ⟨.bl (!c),H1,I1,rfl,q1⟩)
end
open PySem PySem.Spec PyProof.Rows
noncomputable def SqL (K:PySem.W.Frag) (H:Hp) (a:Addr) (xs:List V):Prop:=
 Rd H a (.lst xs)∨
  ∃(o:Obj) (its:Array Value) (n:Nat),K.lookup a=some o∧o.cls=.type "list"∧o.dict=none∧o.data=.seq its n∧its.size≤sizeLine∧Vals xs its.toList
noncomputable def SqT (K:PySem.W.Frag) (H:Hp) (a:Addr) (xs:List V):Prop:=
 Rd H a (.tup xs)∨
  ∃(o:Obj) (its:Array Value) (n:Nat),K.lookup a=some o∧o.cls=.type "tuple"∧o.data=.seq its n∧its.size≤sizeLine∧Vals xs its.toList
noncomputable def Tp:Value→Option V
 | .none=>some .non
 | .bool b=>some (.bl b)
 | .int i _=>some (.int i)
 | .str x _=>some (.str x)
 | .bytes b _=>some (.byt b)
 | .float b _=>some (.flt b)
 | .ref a=>some (.ref a)
 | .type n=>some (.ty n)
 | _=>none
theorem RelV.abs {x:V} {u:Value} (r:RelV x u):Tp u=some x:=by
 cases x with
 | non=>cases r;rfl
 | bl _=>cases r;rfl
 | int _=>obtain ⟨t,rfl⟩:=r;rfl
 | str _=>obtain ⟨t,rfl⟩:=r;rfl
 | byt _=>obtain ⟨t,rfl⟩:=r;rfl
 | flt _=>obtain ⟨t,rfl⟩:=r;rfl
 | ref _=>cases r;rfl
 | ty _=>cases r;rfl
theorem RelV.inj {x y:V} {u:Value} (r:RelV x u) (q:RelV y u):x=y:=Option.some.inj (r.abs.symm.trans q.abs)
theorem Vals.inj:∀{xs ys:List V} {us:List Value},Vals xs us→Vals ys us→xs=ys
 | _,_,_,.nil,.nil=>rfl
 | _,_,_,.cons r t,.cons r' t'=>by rw [r.inj r',Vals.inj t t']
section
variable {X:Cx} {pins:List (Addr × Obj)} {σ:St} {H:Hp} {s:Shared} {a:Addr} {xs ys:List V}
theorem SqL.of {K:PySem.W.Frag} (h:H a=some (.lst xs)):SqL K H a xs:=.inl (.inl h)
theorem SqT.of {K:PySem.W.Frag} (h:H a=some (.tup xs)):SqT K H a xs:=.inl (.inl h)
theorem Inv.list (I:Inv X pins σ H s) (h:SqL X.K H a xs):∃its:List Value,Vals xs its∧PlainL s.heap a its.toArray∧xs.length≤sizeLine:=by
 rcases h with h | ⟨o,its,n,hk,hc,hd,hs,hz,r⟩
 ·obtain ⟨z,its,n,r,e⟩:=h.ok I.hok
  exact ⟨its,r,⟨_,n,e,rfl,rfl,rfl⟩,z⟩
 ·refine ⟨its.toList,r,⟨o,n,I.kIn a o hk,hc,hd,by simpa using hs⟩,?_⟩
  have e:=r.length
  simp only [Array.length_toList] at e
  omega
theorem Inv.tuple (I:Inv X pins σ H s) (h:SqT X.K H a xs):∃its:List Value,Vals xs its∧IsTup s.heap a its.toArray∧xs.length≤sizeLine:=by
 rcases h with h | ⟨o,its,n,hk,hc,hs,hz,r⟩
 ·obtain ⟨z,its,r,p⟩:=h.ok I.hok
  exact ⟨its,r,p,z⟩
 ·refine ⟨its.toList,r,⟨o,I.kIn a o hk,hc,n,by simpa using hs⟩,?_⟩
  have e:=r.length
  simp only [Array.length_toList] at e
  omega
theorem Inv.list_inj (I:Inv X pins σ H s) (h:SqL X.K H a xs) (h':SqL X.K H a ys):xs=ys:=by
 obtain ⟨its,r,⟨o,n,e,_,_,d⟩,_⟩:=I.list h
 obtain ⟨its',r',⟨o',n',e',_,_,d'⟩,_⟩:=I.list h'
 rw [e] at e';cases e'
 rw [d] at d'
 injection d' with d1 _
 have:its=its':=by simpa using congrArg Array.toList d1
 subst this
 exact r.inj r'
theorem Inv.tuple_inj (I:Inv X pins σ H s) (h:SqT X.K H a xs) (h':SqT X.K H a ys):xs=ys:=by
 obtain ⟨its,r,⟨o,e,_,n,d⟩,_⟩:=I.tuple h
 obtain ⟨its',r',⟨o',e',_,n',d'⟩,_⟩:=I.tuple h'
 rw [e] at e';cases e'
 rw [d] at d'
 injection d' with d1 _
 have:its=its':=by simpa using congrArg Array.toList d1
 subst this
 exact r.inj r'
end
noncomputable abbrev Cx.wish (X:Cx) (E:Value→Shared→Prop):Cx:={X with xe:=E}
noncomputable abbrev Cx.nox (X:Cx):Cx:=X.wish fun _ _=>False
theorem Cx.Ok.wish {X:Cx} (ok:X.Ok) (E:Value→Shared→Prop):(X.wish E).Ok:=
 ⟨ok.mod,ok.kind,ok.glob,ok.blt,ok.above,ok.inj,ok.has,ok.cab,ok.hd,ok.frames,ok.stk,ok.exf,ok.bs,ok.bsz,ok.noex,ok.exfs,ok.funs,ok.frf⟩
theorem Cx.Ok.unwish {X:Cx} {E:Value→Shared→Prop} (ok:(X.wish E).Ok):X.Ok:=
 ⟨ok.mod,ok.kind,ok.glob,ok.blt,ok.above,ok.inj,ok.has,ok.cab,ok.hd,ok.frames,ok.stk,ok.exf,ok.bs,ok.bsz,ok.noex,ok.exfs,ok.funs,ok.frf⟩
section
variable {X:Cx} {pins:List (Addr × Obj)} {σ:St} {H:Hp} {s:Shared} {E:Value→Shared→Prop}
theorem Inv.wish (I:Inv X pins σ H s) (E:Value→Shared→Prop):Inv (X.wish E) pins σ H s:=⟨I.ok.wish E,I.os,I.bare,I.base,I.loc,I.cell,I.free,I.freeC,I.pin,I.hok,I.len⟩
theorem Inv.unwish (I:Inv (X.wish E) pins σ H s):Inv X pins σ H s:=⟨I.ok.unwish,I.os,I.bare,I.base,I.loc,I.cell,I.free,I.freeC,I.pin,I.hok,I.len⟩
theorem SP.unwish {D:Ends} {f:Flow} {s':Shared} (h:SP (X.wish E) pins D f s'):SP X pins D f s':=by
 cases f with
 | next=>obtain ⟨σ',H',I,q⟩:=h;exact ⟨σ',H',I.unwish,q⟩
 | brk=>obtain ⟨σ',H',I,q⟩:=h;exact ⟨σ',H',I.unwish,q⟩
 | cont=>obtain ⟨σ',H',I,q⟩:=h;exact ⟨σ',H',I.unwish,q⟩
 | ret u=>obtain ⟨v,σ',H',I,r,q⟩:=h;exact ⟨v,σ',H',I.unwish,r,q⟩
theorem PSs.nox {st:List Stmt} {t:TS} (h:PSs X.nox st t):PSs X st t:=fun pins s σ H D I hw=>
 wpAny_mono (h pins s σ H D (I.wish _) hw) (fun _ _ q=>q.unwish) fun _ _ z=>False.elim z
end
section
variable {X:Cx} {st:Stmt} {rest:List Stmt} {t u:TS} {e:Expr} {te:TE} {pos:Pos}
noncomputable def uh:TS:=fun D σ H=>D.nx σ H
noncomputable def oU (t u:TS):TS:=fun D σ H=>t {D with nx:=u D} σ H
theorem bF:PSs X [] uh:=fun _ _ σ H _ I h=>wpAny_execs_nil ⟨σ,H,I,h⟩
theorem au (h1:PS X st t) (h2:PSs X rest u):PSs X (st::rest) (oU t u):=by
 intro pins s σ H D I h
 refine wpAny_execs_cons (thn (h1 pins s σ H {D with nx:=u D} I h) fun f s1 q=>?_)
 cases f with
 | next=>
  obtain ⟨σ',H',I',q⟩:=q
  exact h2 pins s1 σ' H' D I' q
 | ret v=>exact q
 | brk=>exact q
 | cont=>exact q
theorem aB (h1:PS X st t):PSs X [st] t:=by
 intro pins s σ H D I h
 refine wpAny_execs_cons (thn (h1 pins s σ H D I h) fun f s1 q=>?_)
 cases f with
 | next=>exact wpAny_execs_nil q
 | ret v=>exact q
 | brk=>exact q
 | cont=>exact q
theorem Inv.quiet {pins:List (Addr × Obj)} {σ:St} {H:Hp} {s:Shared} (I:Inv X pins σ H s):interactive X.env=false:=by simp [interactive,I.ok.kind]
noncomputable def QB (te:TE):TS:=fun D σ H=>te σ H fun _ H1=>D.nx σ H1
theorem iu (he:PE X e te) (hs:swapsWith e none pos.line X.env=pure false:=by rfl):PS X (.Expr e pos) (QB te):=by
 intro pins s σ H D I h
 exact wpAny_Expr_any (thn (he pins s σ H _ I h) fun v s1 ⟨x,H1,I1,r1,q1⟩=>⟨σ,H1,I1,q1⟩) I.quiet hs
noncomputable def yp (te:TE):TS:=fun D σ H=>te σ H D.rt
theorem aR (he:PE X e te):PS X (.Return (some e) pos) (yp te):=by
 intro pins s σ H D I h
 exact wpAny_Return_some (thn (he pins s σ H _ I h) fun v s1 ⟨x,H1,I1,r1,q1⟩=>⟨x,σ,H1,I1,r1,q1⟩)
noncomputable def Eo (c:TT) (t u:TS):TS:=fun D σ H=>c σ H fun b H1=>if b=true then t D σ H1 else u D σ H1
theorem cF {c:Expr} {a b:List Stmt} {tc:TT} (hc:PT X c tc) (ha:PSs X a t) (hb:PSs X b u):PS X (.If c a b pos) (Eo tc t u):=by
 intro pins s σ H D I h
 refine wpAny_If (thn (hc pins s σ H _ I h) fun d s1 ⟨H1,I1,q1⟩=>?_)
 cases d with
 | true=>exact ha pins s1 σ H1 D I1 q1
 | false=>exact hb pins s1 σ H1 D I1 q1
noncomputable def NK:TS:=fun _ _ _=>False
theorem qJ:PS X st NK:=fun _ _ _ _ _ _ h=>h.elim
end
noncomputable abbrev TG:=V→St→Hp→(St→Hp→Prop)→Prop
noncomputable abbrev TGs:=List V→St→Hp→(St→Hp→Prop)→Prop
noncomputable def PG (X:Cx) (target:Expr) (t:TG):Prop:=
 ∀(pins:List (Addr × Obj)) (s:Shared) (σ:St) (H:Hp) (v:V) (u:Value) (Q:St→Hp→Prop),Inv X pins σ H s→RelV v u→t v σ H Q→
  wpAny (model X.prog X.w) X.A (assign target X.env u) (fun _ s'=>∃σ' H',Inv X pins σ' H' s'∧Q σ' H') X.xe s
noncomputable def PGs (X:Cx) (ts:List Expr) (t:TGs):Prop:=
 ∀(pins:List (Addr × Obj)) (s:Shared) (σ:St) (H:Hp) (vs:List V) (us:List Value) (Q:St→Hp→Prop),Inv X pins σ H s→Vals vs us→t vs σ H Q→
  wpAny (model X.prog X.w) X.A (assignInOrder ((assignEach ts X.env).map (·.2)) us) (fun _ s'=>∃σ' H',Inv X pins σ' H' s'∧Q σ' H') X.xe s
section
variable {X:Cx} {pos:Pos}
noncomputable def dX (i:Nat):TG:=fun v σ H Q=>Q (σ.set i (some v)) H
theorem bw {i:Nat} {x:Str} (hN:X.N.Nodup) (hi:X.N[i]?=some x) (hx:Loc X.env.scope x) (hf:X.fn x=true∨X.env.scope.names.lookup x=some .local:=by first | exact .inl rfl | exact .inr rfl | assumption):PG X (.Name x pos) (dX i):=by
 intro pins s σ H v u Q I r h
 exact wpAny_assign_Name (qI I hN hi hx r (fun s' I'=>⟨_,H,I',h⟩) hf)
noncomputable def Tq:TGs:=fun vs σ H Q=>vs=[]∧Q σ H
inductive NP (t:TG) (u:TGs) (vs:(List L2.V)) (σ:L2.St) (H:Hp) (Q:(L2.St→Hp→Prop)):Prop where
 | mk (v:_) (r:_) (z1:vs=v::r) (z2:t v σ H fun σ' H'=>u r σ' H' Q)
noncomputable def QC (t:TG) (u:TGs):TGs:=fun vs σ H Q=>NP t u vs σ H Q
theorem jJ:PGs X [] Tq:=by
 intro pins s σ H vs us Q I r h
 obtain ⟨e,h⟩:=h
 subst e
 cases r
 exact assignInOrder_nil ⟨σ,H,I,h⟩
theorem cG {e:Expr} {es:List Expr} {t:TG} {u:TGs} (h1:PG X e t) (h2:PGs X es u)
  (hs:(assignEach (e::es) X.env).map (·.2)=assign e X.env::(assignEach es X.env).map (·.2):=by rfl):PGs X (e::es) (QC t u):=by
 intro pins s σ H vs us Q I r h
 obtain ⟨v,vr,e1,h⟩:=h
 subst e1
 cases r with
 | cons r rr=>
  rw [hs]
  refine assignInOrder_cons (thn (h1 pins s σ H _ _ _ I r h) fun _ s1 ⟨σ1,H1,I1,q1⟩=>?_)
  exact h2 pins s1 σ1 H1 _ _ Q I1 rr q1
inductive QD (K:PySem.W.Frag) (n:Nat) (t:TGs) (v:L2.V) (σ:L2.St) (H:Hp) (Q:(L2.St→Hp→Prop)):Prop where
 | mk (a:_) (xs:_) (z1:v=.ref a) (z2:SqT K H a xs) (z3:xs.length=n) (z4:t xs σ H Q)
noncomputable def Tr (K:PySem.W.Frag) (n:Nat) (t:TGs):TG:=fun v σ H Q=>QD K n t v σ H Q
theorem mX {es:List Expr} {k:Nat} {t:TGs} {n:Nat} (hc:X.calm=true) (h:PGs X es t)
  (hn:(assignEach es X.env).length=n:=by rfl) (hst:(assignEach es X.env).findIdx? (·.1)=none:=by rfl):PG X (.Tuple es k pos) (Tr X.K n t):=by
 intro pins s σ H v u Q I r hw
 obtain ⟨a,xs,e1,hq,hl,hw⟩:=hw
 subst e1
 cases r
 obtain ⟨its,rv,ht,hz⟩:=I.tuple hq
 refine assign_Tuple_tuple (I.ok.hd hc) ht (by simp [hn,←hl,rv.length]) hst fun h' hx=>?_
 have I1:Inv X pins σ H {s with heap:=h'}:=I.kept (t':=s.toks) fun b o e=>hx b o (Nat.ne_of_lt (Heap.lt_size e)) e
 exact h pins _ σ H xs _ Q I1 (by simpa using rv) hw
noncomputable def yq (te:TE) (g:TG):TS:=fun D σ H=>te σ H fun x H1=>g x σ H1 D.nx
theorem Ep {tg e:Expr} {te:TE} {g:TG} (he:PE X e te) (hg:PG X tg g) (hs:swapsWithSole [tg] e pos.line X.env=pure false:=by rfl) (hw:swappedStores [tg] e X.env=pure none:=by rfl)
  (h1:(assignEach [tg] X.env).map (·.2)=[assign tg X.env]:=by rfl):PS X (.Assign [tg] e pos) (yq te g):=by
 intro pins s σ H D I h
 refine wpAny_Assign_stores (thn (he pins s σ H _ I h) fun v s1 ⟨x,H1,I1,r1,q1⟩=>?_) hs hw
 rw [h1]
 exact thn (hg pins s1 σ H1 x v _ I1 r1 q1) fun _ s2 q=>q
theorem aP {i:Nat} {x:Str} {e:Expr} {te:TE} {pos':Pos} (hN:X.N.Nodup) (hi:X.N[i]?=some x) (hx:Loc X.env.scope x) (he:PE X e te) (hs:swapsWith e (some (.Name x pos')) pos.line X.env=pure false:=by rfl) (hf:X.fn x=true∨X.env.scope.names.lookup x=some .local:=by first | exact .inl rfl | exact .inr rfl | assumption):
  PS X (.Assign [.Name x pos'] e pos) (yq te (dX i)):=by
 intro pins s σ H D I h
 refine wpAny_Assign_Name (thn (he pins s σ H _ I h) fun v s1 ⟨y,H1,I1,r1,q1⟩=>?_) hs
 exact qI I1 hN hi hx r1 (fun s2 I2=>⟨_,H1,I2,q1⟩) hf
end
section
variable {X:Cx} {pos:Pos}
noncomputable def NQ (c:TT) (tb:TS):TS:=fun D σ H=>∃W:Nat→St→Hp→Prop,(∃m,W m σ H)∧∀m σ H,W m σ H→
 c σ H fun b H1=>if b=true then ∃N:St→Hp→Prop,(∀σ' H',N σ' H'→∃m',m' < m∧W m' σ' H')∧tb {D with nx:=N,ct:=N,bk:=D.nx} σ H1 else D.nx σ H1
theorem Er {c:Expr} {body:List Stmt} {tc:TT} {tb:TS} (hp:PassesOwn (model X.prog X.w) X.A X.env X.xe) (hc:PT X c tc) (hb:PSs X body tb):PS X (.While c body [] pos) (NQ tc tb):=by
 intro pins s σ H D I h
 obtain ⟨W,⟨m0,w0⟩,turn⟩:=h
 refine wpAny_While (codeAny_whileLoop (fun n s'=>∃σ' H',Inv X pins σ' H' s'∧W n σ' H') ?_ m0 ⟨σ,H,I,w0⟩)
 rintro n s1 ⟨σ1,H1,I1,w1⟩
 refine wpAny_passesOwn hp (thn (hc pins s1 σ1 H1 _ I1 (turn n σ1 H1 w1)) fun b s2 ⟨H2,I2,q2⟩=>?_)
 cases b with
 | true=>
  obtain ⟨N,hN,q2⟩:=q2
  rw [if_pos rfl]
  refine wpAny_passesOwn hp (thn (hb pins s2 σ1 H2 _ I2 q2) fun f s3 q3=>?_)
  cases f with
  | next=>
   obtain ⟨σ3,H3,I3,n3⟩:=q3
   obtain ⟨m',hm,w3⟩:=hN σ3 H3 n3
   exact ⟨m',hm,σ3,H3,I3,w3⟩
  | cont=>
   obtain ⟨σ3,H3,I3,n3⟩:=q3
   obtain ⟨m',hm,w3⟩:=hN σ3 H3 n3
   exact ⟨m',hm,σ3,H3,I3,w3⟩
  | brk=>exact q3
  | ret v=>exact q3
 | false=>
  rw [if_neg Bool.false_ne_true]
  exact wpAny_execs_nil ⟨σ1,H2,I2,q2⟩
end
structure It where
 go:Nat→Hp→Prop
 yld:Nat→Hp→V→Hp→Prop
 stop:Nat→Hp→Prop
noncomputable def ww (X:Cx) (pins:List (Addr × Obj)) (H:Hp) (b:Addr):Prop:=
 H b=none∧b≠X.env.locals∧b∉X.fs∧(b∈X.ex∨X.s₀.heap.objs.size≤b)∧(∀x c,X.env.cells.lookup x=some c→c≠b)∧∀p∈X.pn++pins,p.1≠b
theorem Inv.fpOk {X:Cx} {pins:List (Addr × Obj)} {σ:St} {H H':Hp} {s:Shared} {b:Addr} (I:Inv X pins σ H s) (hb:s.heap.objs.size≤b) (hn:H' b=none):ww X pins H' b:=by
 refine ⟨hn,Nat.ne_of_gt (Nat.lt_of_lt_of_le I.lt hb),I.nofs hb,.inr (Nat.le_trans I.sz hb),fun x c e z=>?_,fun p hp z=>?_⟩
 ·obtain ⟨v,q⟩:=I.cell x c e
  exact absurd (Nat.lt_of_lt_of_le q.lt (by rw [z];exact hb)) (Nat.lt_irrefl _)
 ·exact absurd (Nat.lt_of_lt_of_le (Heap.lt_size (I.pin p hp).1) (by rw [z];exact hb)) (Nat.lt_irrefl _)
structure Turn (P:Program) (w:World) (K:PySem.W.Frag) (tg:Expr) (J:It) (fp:List Addr) (it:Addr) (tn:Nat→Heap→Prop):Prop where
 mem:it∈fp
 obj:∀i h,tn i h→∀b∈fp,∃o,h.get? b=some o∧∀v,o.data≠.cell v
 keep:∀i h h',tn i h→(∀b∈fp,∀o,h.get? b=some o→h'.get? b=some o)→tn i h'
 item:∀(X:Cx),X.prog=P→X.w=w→X.K=K→X.calm=true→∀(i:Nat) (pins:List (Addr × Obj)) (s:Shared) (σ:St) (H:Hp) (E:Value→Shared→Prop),Inv X pins σ H s→(∀b∈fp,ww X pins H b)→tn i s.heap→J.go i H→
  wpAny (model P w) X.A (pyNext (.ref it)) (fun r s1=>∃u,r=some u∧
   wpAny (model P w) X.A (letOwnedTupleGo tg (.ref it) u) (fun _ s2=>∃x H',Inv X pins σ H' s2∧RelV x u∧J.yld i H x H'∧tn (i+1) s2.heap∧∀b∈fp,H' b=none) E s1) E s
 done:∀(X:Cx),X.prog=P→X.w=w→X.K=K→X.calm=true→∀(i:Nat) (pins:List (Addr × Obj)) (s:Shared) (σ:St) (H:Hp) (E:Value→Shared→Prop),Inv X pins σ H s→(∀b∈fp,ww X pins H b)→tn i s.heap→J.stop i H→
  wpAny (model P w) X.A (pyNext (.ref it)) (fun r s1=>r=none∧Inv X pins σ H s1) E s
 self:∀(A:Around) (i:Nat) (s:Shared) (Q:Value→Shared→Prop) (E:Value→Shared→Prop),tn i s.heap→Q (.ref it) s→wpAny (model P w) A (pyIter (.ref it)) Q E s
noncomputable abbrev TI:=St→Hp→(It→Hp→Prop)→Prop
noncomputable def PIE (X:Cx) (pins:List (Addr × Obj)) (σ:St) (tg:Expr) (R:It→Hp→Prop) (itv:Value) (s2:Shared):Prop:=
 ∃(it:Addr) (fp:List Addr) (tn:Nat→Heap→Prop) (J:It) (H':Hp),itv=.ref it∧Inv X pins σ H' s2∧Turn X.prog X.w X.K tg J fp it tn∧tn 0 s2.heap∧(∀b∈fp,ww X pins H' b)∧R J H'
noncomputable def PI (X:Cx) (tg iter:Expr) (wi:TI):Prop:=
 ∀(pins:List (Addr × Obj)) (s:Shared) (σ:St) (H:Hp) (R:It→Hp→Prop),Inv X pins σ H s→wi σ H R→
  wpAny (model X.prog X.w) X.A (eval iter X.env) (fun v s1=>wpAny (model X.prog X.w) X.A (pyIter v) (PIE X pins σ tg R) X.xe s1) X.xe s
theorem wy {M:Model} {A:Around} {E:Value→Shared→Prop} {s:Shared} {tg:Expr} {it:Addr} {u:Value} {o:Obj} {n:String} {vs:Array Value} {Q:Unit→Shared→Prop} (ho:s.heap.get? it=some o) (hc:o.cls=.type n) (hd:o.data=.fields vs)
    (hn:["enumerate","zip","dict_itemiterator","dict_reverseitemiterator","odict_iterator","itertools.zip_longest","itertools.pairwise"].contains n=false) (hQ:Q () s):wpAny M A (letOwnedTupleGo tg (.ref it) u) Q E s:=by
  unfold letOwnedTupleGo
  cases tg <;> first
    | exact wpAny_pure hQ
    | (cases u <;> first
        | exact wpAny_pure hQ
        | (refine wpAny_bind (wpAny_load ho ?_)
           rw [hc,hd]
           show wpAny M A (if (["enumerate","zip","dict_itemiterator","dict_reverseitemiterator","odict_iterator","itertools.zip_longest","itertools.pairwise"].contains n && vs[0]?==some (rawInt _))=true then _ else _) Q E s
           rw [if_neg (by intro h;rw [hn,Bool.false_and] at h;cases h)]
           exact wpAny_pure hQ))
noncomputable def Itl (K:PySem.W.Frag) (a:Addr):It:=
 ⟨fun i H=>∃xs x,SqL K H a xs∧xs[i]?=some x,fun i H x H'=>H'=H∧∀xs,SqL K H a xs→xs[i]?=some x,fun i H=>∃xs,SqL K H a xs∧xs.length≤i⟩
noncomputable def Itt (K:PySem.W.Frag) (a:Addr):It:=
 ⟨fun i H=>∃xs x,SqT K H a xs∧xs[i]?=some x,fun i H x H'=>H'=H∧∀xs,SqT K H a xs→xs[i]?=some x,fun i H=>∃xs,SqT K H a xs∧xs.length≤i⟩
noncomputable def Itr (lo:Int) (n:Nat):It:=⟨fun i _=>i < n,fun i H x H'=>H'=H∧x=.int (lo+i),fun i _=>n≤i⟩
theorem Cd {P:Program} {w:World} {K:PySem.W.Frag} {tg:Expr} (a it:Addr):Turn P w K tg (Itl K a) [it] it (fun i h=>h.IsListIter it a i) where
 mem:=by simp
 obj:=fun i h st b hb=>by
  have e:b=it:=by simpa using hb
  subst e
  obtain ⟨o,e,c,d⟩:=st
  exact ⟨o,e,fun v z=>by rw [d] at z;cases z⟩
 keep:=fun i h h' st k=>st.at fun o e=>k it (by simp) o e
 item:=by
  intro X hP hw hK hc i pins s σ H E I hf st hg
  subst hP hw hK
  obtain ⟨xs,x,hq,hx⟩:=hg
  obtain ⟨its,rv,p,hz⟩:=I.list hq
  obtain ⟨u,hu,ru⟩:=rv.get hx
  obtain ⟨f0,f1,f2,f3,f4,f5⟩:=hf it (by simp)
  refine wpAny_pyNext_list_item st p.isList (x:=u) (by simpa using hu) fun h' st' sb=>?_
  have I1:Inv X pins σ H {s with heap:=h'}:=I.turned (t':=s.toks) (fun b o hb e=>(sb.2 b hb).trans e) f0 f1 f3 f4 f5
  obtain ⟨o,e,c,d⟩:=id st'
  exact ⟨u,rfl,wy (s:={s with heap:=h'}) e c d (by decide) ⟨x,H,I1,ru,⟨rfl,fun ys hy=>by rw [I.list_inj hy hq];exact hx⟩,st',fun b hb=>(hf b hb).1⟩⟩
 done:=by
  intro X hP hw hK hc i pins s σ H E I hf st hg
  subst hP hw hK
  obtain ⟨xs,hq,hx⟩:=hg
  obtain ⟨its,rv,p,hz⟩:=I.list hq
  obtain ⟨f0,f1,f2,f3,f4,f5⟩:=hf it (by simp)
  have hl:=rv.length
  exact wpAny_pyNext_list_end (I.ok.hd hc) st p.isList (by simp;omega) fun h' eb=>⟨rfl,I.turned (t':=s.toks) (fun b o hb e=>eb b o hb e) f0 f1 f3 f4 f5⟩
 self:=fun _ _ _ _ _ st h=>wpAny_pyIter_listiter st h
theorem yr {P:Program} {w:World} {K:PySem.W.Frag} {tg:Expr} (a it:Addr):Turn P w K tg (Itt K a) [it] it (fun i h=>h.IsTupleIter it a i) where
 mem:=by simp
 obj:=fun i h st b hb=>by
  have e:b=it:=by simpa using hb
  subst e
  obtain ⟨o,e,c,d⟩:=st
  exact ⟨o,e,fun v z=>by rw [d] at z;cases z⟩
 keep:=fun i h h' st k=>st.at fun o e=>k it (by simp) o e
 item:=by
  intro X hP hw hK hc i pins s σ H E I hf st hg
  subst hP hw hK
  obtain ⟨xs,x,hq,hx⟩:=hg
  obtain ⟨its,rv,p,hz⟩:=I.tuple hq
  obtain ⟨u,hu,ru⟩:=rv.get hx
  obtain ⟨f0,f1,f2,f3,f4,f5⟩:=hf it (by simp)
  refine wpAny_pyNext_tuple_item st (show s.heap.IsTuple a its.toArray from p) (x:=u) (by simpa using hu) fun h' st' sb=>?_
  have I1:Inv X pins σ H {s with heap:=h'}:=I.turned (t':=s.toks) (fun b o hb e=>(sb.2 b hb).trans e) f0 f1 f3 f4 f5
  obtain ⟨o,e,c,d⟩:=id st'
  exact ⟨u,rfl,wy (s:={s with heap:=h'}) e c d (by decide) ⟨x,H,I1,ru,⟨rfl,fun ys hy=>by rw [I.tuple_inj hy hq];exact hx⟩,st',fun b hb=>(hf b hb).1⟩⟩
 done:=by
  intro X hP hw hK hc i pins s σ H E I hf st hg
  subst hP hw hK
  obtain ⟨xs,hq,hx⟩:=hg
  obtain ⟨its,rv,p,hz⟩:=I.tuple hq
  obtain ⟨f0,f1,f2,f3,f4,f5⟩:=hf it (by simp)
  have hl:=rv.length
  exact wpAny_pyNext_tuple_end (I.ok.hd hc) st (show s.heap.IsTuple a its.toArray from p) (by simp;omega) fun h' eb=>⟨rfl,I.turned (t':=s.toks) (fun b o hb e=>eb b o hb e) f0 f1 f3 f4 f5⟩
 self:=fun _ _ _ _ _ st h=>wpAny_pyIter_tupleiter st h
theorem yt {P:Program} {w:World} {K:PySem.W.Frag} {tg:Expr} (it:Addr) (lo:Int) (n:Nat):Turn P w K tg (Itr lo n) [it] it (fun i h=>IsRangeIter h it (lo+(i:Nat) * 1) ((n:Int) - (i:Nat)) 1) where
 mem:=by simp
 obj:=fun i h st b hb=>by
  have e:b=it:=by simpa using hb
  subst e
  exact ⟨_,st,fun v z=>by
   have z':Data.fields _=Data.cell v:=z
   cases z'⟩
 keep:=fun i h h' st k=>k it (by simp) _ st
 item:=by
  intro X hP hw hK hc i pins s σ H E I hf st hg
  subst hP hw hK
  obtain ⟨f0,f1,f2,f3,f4,f5⟩:=hf it (by simp)
  have W:=Walks.range (prog:=X.prog) (w:=X.w) (I.ok.hd hc) it lo 1 n
  refine W.item i s _ _ hg st fun v h' tk hv st' kk=>?_
  obtain ⟨t,rfl⟩:=hv
  have I1:Inv X pins σ H {s with heap:=h',toks:=tk}:=I.turned (fun b o hb e=>kk b o (by simpa using hb) e) f0 f1 f3 f4 f5
  refine ⟨_,rfl,wy (s:={s with heap:=h',toks:=tk}) (n:="range_iterator") st' rfl rfl (by decide) ⟨.int (lo+i),H,I1,⟨t,?_⟩,⟨rfl,rfl⟩,st',fun b hb=>(hf b hb).1⟩⟩
  rw [Int.mul_one]
 done:=by
  intro X hP hw hK hc i pins s σ H E I hf st hg
  subst hP hw hK
  obtain ⟨f0,f1,f2,f3,f4,f5⟩:=hf it (by simp)
  exact wpAny_pyNext_range_end (I.ok.hd hc) st (by have:n≤i:=hg;omega) fun h' eb=>⟨rfl,I.turned (t':=s.toks) (fun b o hb e=>eb b o hb e) f0 f1 f3 f4 f5⟩
 self:=fun _ _ _ _ _ st h=>wpAny_pyIter_rangeiter st h
open PySem PySem.Spec PyProof.Rows
section
variable {X:Cx} {tg:Expr}
inductive Tt (K:PySem.W.Frag) (x:V) (H1:Hp) (R:It→Hp→Prop):Prop where
 | mk (a:_) (z1:x=.ref a) (z2:(∃xs,SqL K H1 a xs)) (z3:R (Itl K a) H1)
noncomputable def QF (K:PySem.W.Frag) (tl:TE):TI:=fun σ H R=>tl σ H fun x H1=>Tt K x H1 R
noncomputable def Tu (K:PySem.W.Frag) (tl:TE):TI:=fun σ H R=>tl σ H fun x H1=>∃a,x=.ref a∧(∃xs,SqT K H1 a xs)∧R (Itt K a) H1
theorem iw {l:Expr} {tl:TE} (hl:PE X l tl):PI X tg l (QF X.K tl):=by
 intro pins s σ H R I h
 refine thn (hl pins s σ H _ I h) fun v s1 ⟨x,H1,I1,r1,q1⟩=>?_
 obtain ⟨a,e,⟨xs,hq⟩,q⟩:=q1
 subst e
 cases r1
 obtain ⟨its,rv,p,hz⟩:=I1.list hq
 refine wpAny_pyIter_list p.isList ?_
 refine ⟨s1.heap.objs.size,[s1.heap.objs.size],_,_,H1,rfl,I1.kept (t':=s1.toks) fun b o e=>Heap.get?_push_of_some _ e,Cd a _,⟨_,Heap.get?_push_size _ rfl,rfl,rfl⟩,fun b hb=>?_,q⟩
 have e:b=s1.heap.objs.size:=by simpa using hb
 subst e
 exact I1.fpOk (Nat.le_refl _) (I1.hok.fresh (Nat.le_refl _))
theorem oV {l:Expr} {tl:TE} (hl:PE X l tl):PI X tg l (Tu X.K tl):=by
 intro pins s σ H R I h
 refine thn (hl pins s σ H _ I h) fun v s1 ⟨x,H1,I1,r1,q1⟩=>?_
 obtain ⟨a,e,⟨xs,hq⟩,q⟩:=q1
 subst e
 cases r1
 obtain ⟨its,rv,p,hz⟩:=I1.tuple hq
 refine wpAny_pyIter_tuple (show s1.heap.IsTuple a its.toArray from p) ?_
 refine ⟨s1.heap.objs.size,[s1.heap.objs.size],_,_,H1,rfl,I1.kept (t':=s1.toks) fun b o e=>Heap.get?_push_of_some _ e,yr a _,⟨_,Heap.get?_push_size _ rfl,rfl,rfl⟩,fun b hb=>?_,q⟩
 have e:b=s1.heap.objs.size:=by simpa using hb
 subst e
 exact I1.fpOk (Nat.le_refl _) (I1.hok.fresh (Nat.le_refl _))
theorem Es {pins:List (Addr × Obj)} {σ:St} {H:Hp} {s:Shared} {R:It→Hp→Prop} {E:Value→Shared→Prop} {lo hi:Int} {t u v:Tok} {tk:Nat} (I:Inv X pins σ H s) (h1:-(2 ^ 62)≤lo) (h2:lo < 2 ^ 62) (h3:-(2 ^ 62)≤hi) (h4:hi < 2 ^ 62)
  (q:R (Itr lo (hi - lo).toNat) H):wpAny (model X.prog X.w) X.A (pyIter (.ref s.heap.objs.size)) (PIE X pins σ tg R) E {s with heap:=s.heap.push {cls:=.type "range",data:=.fields #[.int lo t,.int hi u,.int 1 v]},toks:=tk}:=by
 refine wpAny_pyIter_range (IsRange.new ..) (small_one h1 h2 h3 h4) ?_
 have I1:Inv X pins σ H {s with heap:=s.heap.push {cls:=.type "range",data:=.fields #[.int lo t,.int hi u,.int 1 v]},toks:=tk}:=I.kept fun b o e=>Heap.get?_push_of_some _ e
 refine ⟨(s.heap.push {cls:=.type "range",data:=.fields #[.int lo t,.int hi u,.int 1 v]}).objs.size,[(s.heap.push {cls:=.type "range",data:=.fields #[.int lo t,.int hi u,.int 1 v]}).objs.size],_,_,H,rfl,
  I1.kept (t':=tk) fun b o e=>Heap.get?_push_of_some _ e,yt _ lo (hi - lo).toNat,?_,fun b hb=>?_,q⟩
 ·have e1:lo+((0:Nat):Int) * 1=lo:=by simp
  have e2:(((hi - lo).toNat:Nat):Int) - ((0:Nat):Int)=Builtin.Range.rangeSize lo hi 1:=by rw [rangeSize_one];split <;> omega
  show IsRangeIter _ _ (lo+((0:Nat):Int) * 1) ((((hi - lo).toNat:Nat):Int) - ((0:Nat):Int)) 1
  rw [e1,e2]
  exact Heap.get?_push_size _ rfl
 ·have e:b=(s.heap.push {cls:=.type "range",data:=.fields #[.int lo t,.int hi u,.int 1 v]}).objs.size:=by simpa using hb
  subst e
  exact I1.fpOk (Nat.le_refl _) (I1.hok.fresh (Nat.le_refl _))
noncomputable def QG (ta:TA):TI:=fun σ H R=>ta σ H fun vs H1=>∃j:Int,vs=[.int j]∧-(2 ^ 62)≤j∧j < 2 ^ 62∧R (Itr 0 j.toNat) H1
theorem gV {a:Expr} {ta:TA} {p pos:Pos} (hg:Gl X "range") (hm:X.mg "range"=none) (ha:PA X [a] ta) (hs:starEach [a] X.env=[(false,eval a X.env)]:=by rfl):PI X tg (.Call (.Name "range" p) [a] [] pos) (QG ta):=by
 intro pins s σ H R I h
 refine Call_ (kO I hg hm boot_range (PyProof.Rows.callWith_type1 (thn (ha pos pins s σ H _ I h) fun us s1 ⟨vs,H1,I1,r1,q1⟩=>?_) hs rfl))
 obtain ⟨j,e,q1,q2,q⟩:=q1
 subst e
 cases r1 with
 | cons r rr=>
  cases rr
  obtain ⟨t,rfl⟩:=r
  exact call_range_1 (Es I1 (by omega) (by omega) q1 q2 (by simpa using q))
noncomputable def Tv (wi:TI) (g:TG) (tb:TS):TS:=fun D σ H=>wi σ H fun J H1=>∃W:Nat→Nat→St→Hp→Prop,(∃m,W 0 m σ H1)∧∀i m σ H,W i m σ H→
 (J.stop i H∧D.nx σ H)∨(J.go i H∧∃N:St→Hp→Prop,(∀σ' H',N σ' H'→∃m',m' < m∧W (i+1) m' σ' H')∧∀x H',J.yld i H x H'→g x σ H' fun σ2 H2=>tb {D with nx:=N,ct:=N,bk:=D.nx} σ2 H2)
noncomputable def qK (fp:List Addr) (h:Heap):List (Addr × Obj):=fp.filterMap fun b=>(h.get? b).map fun o=>(b,o)
theorem jK {fp:List Addr} {h:Heap} {b:Addr} {o:Obj} (hb:b∈fp) (e:h.get? b=some o):(b,o)∈qK fp h:=List.mem_filterMap.mpr ⟨b,hb,by rw [e];rfl⟩
theorem Ce {fp:List Addr} {h:Heap} {p:Addr × Obj} (hp:p∈qK fp h):p.1∈fp∧h.get? p.1=some p.2:=by
 obtain ⟨b,hb,e⟩:=List.mem_filterMap.mp hp
 cases q:h.get? b with
 | none=>rw [q] at e;cases e
 | some o=>
  rw [q] at e
  have e':(b,o)=p:=Option.some.inj e
  subst e'
  exact ⟨hb,q⟩
theorem Inv.pinned {pins:List (Addr × Obj)} {σ:St} {H:Hp} {s:Shared} {fp:List Addr} (I:Inv X pins σ H s) (hf:∀b∈fp,ww X pins H b) (ho:∀b∈fp,∃o,s.heap.get? b=some o∧∀v,o.data≠.cell v):Inv X (pins++qK fp s.heap) σ H s:=
 I.pins_of fun p hp=>(List.mem_append.mp hp).elim (fun z=>I.pin p (List.mem_append_right _ z)) fun z=>by
  obtain ⟨hb,e⟩:=Ce z
  obtain ⟨f0,f1,f2,_⟩:=hf p.1 hb
  obtain ⟨o,e',d⟩:=ho p.1 hb
  rw [e] at e';cases e'
  exact ⟨e,f0,f1,f2,d⟩
theorem Inv.unpinned {pins pl:List (Addr × Obj)} {σ:St} {H:Hp} {s:Shared} (I:Inv X (pins++pl) σ H s):Inv X pins σ H s:=I.pins_of fun p hp=>I.pin p (List.mem_append_right _ (List.mem_append_left _ hp))
theorem fY {iter:Expr} {body:List Stmt} {wi:TI} {g:TG} {tb:TS} {pos:Pos} (hp:PassesOwn (model X.prog X.w) X.A X.env X.xe) (hc:X.calm=true) (hi:PI X tg iter wi) (hg:PG X tg g) (hb:PSs X body tb)
  (hs:∀x,foldedSetIterable iter X.env x=pure x:=by intro _;rfl):PS X (.For tg iter body [] pos) (Tv wi g tb):=by
 intro pins s σ H D I h
 refine wpAny_For (thn (hi pins s σ H _ I h) fun v s1 h1=>thn h1 fun itv s2 h2=>?_) hs
 obtain ⟨it,fp,tn,J,H2,e,I2,T,st2,f2,W,⟨m0,w0⟩,turn⟩:=h2
 subst e
 have stat:∀{H':Hp},(∀b∈fp,H' b=none)→∀b∈fp,ww X pins H' b:=fun hn b hb=>⟨hn b hb,(f2 b hb).2⟩
 refine codeAny_forLoop_any (fun n s'=>∃i σ' H',Inv X pins σ' H' s'∧tn i s'.heap∧(∀b∈fp,H' b=none)∧W i n σ' H') ?_ m0 ⟨0,σ,H2,I2,st2,fun b hb=>(f2 b hb).1,w0⟩
 rintro n s3 ⟨i,σ3,H3,I3,st3,fr3,w3⟩
 rcases turn i n σ3 H3 w3 with ⟨stop,qn⟩ | ⟨go,N,hN,step⟩
 ·refine wpAny_passesOwn hp (thn (T.done X rfl rfl rfl hc i pins s3 σ3 H3 X.xe I3 (stat fr3) st3 stop) fun r s4 ⟨hr,I4⟩=>?_)
  subst hr
  exact wpAny_execs_nil ⟨σ3,H3,I4,qn⟩
 ·refine wpAny_passesOwn hp (thn (T.item X rfl rfl rfl hc i pins s3 σ3 H3 X.xe I3 (stat fr3) st3 go) fun r s4 ⟨u,hr,h4⟩=>?_)
  subst hr
  refine wpAny_passesOwn hp (thn h4 fun _ s5 ⟨x,H5,I5,r5,y5,st5,fr5⟩=>?_)
  have I5':=I5.pinned (stat fr5) (T.obj _ _ st5)
  refine wpAny_passesOwn hp (thn (hg _ s5 σ3 H5 x u _ I5' r5 (step x H5 y5)) fun _ s6 ⟨σ6,H6,I6,q6⟩=>?_)
  refine wpAny_passesOwn hp (thn (hb _ s6 σ6 H6 _ I6 q6) fun f s7 q7=>?_)
  have again:∀{σ7:St} {H7:Hp},Inv X (pins++qK fp s5.heap) σ7 H7 s7→N σ7 H7→∃m,m < n∧∃i σ' H',Inv X pins σ' H' s7∧tn i s7.heap∧(∀b∈fp,H' b=none)∧W i m σ' H':=fun {σ7 H7} I7 n7=>by
   obtain ⟨m',hm,w7⟩:=hN σ7 H7 n7
   refine ⟨m',hm,i+1,σ7,H7,I7.unpinned,T.keep _ _ _ st5 fun b hb o e=>(I7.pin (b,o) (List.mem_append_right _ (List.mem_append_right _ (jK hb e)))).1,fun b hb=>?_,w7⟩
   obtain ⟨o,e,d⟩:=T.obj _ _ st5 b hb
   exact (I7.pin (b,o) (List.mem_append_right _ (List.mem_append_right _ (jK hb e)))).2.1
  cases f with
  | next=>obtain ⟨σ7,H7,I7,n7⟩:=q7;exact again I7 n7
  | cont=>obtain ⟨σ7,H7,I7,n7⟩:=q7;exact again I7 n7
  | brk=>obtain ⟨σ7,H7,I7,q7⟩:=q7;exact ⟨σ7,H7,I7.unpinned,q7⟩
  | ret v=>obtain ⟨x7,σ7,H7,I7,r7,q7⟩:=q7;exact ⟨x7,σ7,H7,I7.unpinned,r7,q7⟩
end
theorem nH {K:PySem.W.Frag} {a:Addr} {xs:List V} {g:TG} {tb:TS} {D:Ends} {σ:St} {H:Hp} (Pv:Nat→St→Hp→Prop) (h0:Pv 0 σ H) (hl:∀i σ H,i≤xs.length→Pv i σ H→SqL K H a xs)
  (hs:∀i x σ H,xs[i]?=some x→Pv i σ H→g x σ H fun σ2 H2=>tb {D with nx:=Pv (i+1),ct:=Pv (i+1),bk:=D.nx} σ2 H2) (hd:∀σ H,Pv xs.length σ H→D.nx σ H):
  ∃W:Nat→Nat→St→Hp→Prop,(∃m,W 0 m σ H)∧∀i m σ H,W i m σ H→
   ((Itl K a).stop i H∧D.nx σ H)∨((Itl K a).go i H∧∃N:St→Hp→Prop,(∀σ' H',N σ' H'→∃m',m' < m∧W (i+1) m' σ' H')∧∀x H',(Itl K a).yld i H x H'→g x σ H' fun σ2 H2=>tb {D with nx:=N,ct:=N,bk:=D.nx} σ2 H2):=by
 refine ⟨fun i m σ H=>m=xs.length - i∧i≤xs.length∧Pv i σ H,⟨xs.length,by simp,Nat.zero_le _,h0⟩,?_⟩
 rintro i m σ H ⟨rfl,hi,p⟩
 have q:=hl i σ H hi p
 by_cases hlt:i < xs.length
 ·refine .inr ⟨⟨xs,xs[i],q,by simp [hlt]⟩,Pv (i+1),fun σ' H' p'=>⟨xs.length - (i+1),by omega,rfl,hlt,p'⟩,fun x H' y=>?_⟩
  obtain ⟨e,y⟩:=y
  subst e
  exact hs i x σ _ (y xs q) p
 ·have e:i=xs.length:=by omega
  subst e
  exact .inl ⟨⟨xs,q,Nat.le_refl _⟩,hd σ H p⟩
theorem uU {K:PySem.W.Frag} {a:Addr} {xs:List V} {g:TG} {tb:TS} {D:Ends} {σ:St} {H:Hp} (Pv:Nat→St→Hp→Prop) (h0:Pv 0 σ H) (hl:∀i σ H,i≤xs.length→Pv i σ H→SqT K H a xs)
  (hs:∀i x σ H,xs[i]?=some x→Pv i σ H→g x σ H fun σ2 H2=>tb {D with nx:=Pv (i+1),ct:=Pv (i+1),bk:=D.nx} σ2 H2) (hd:∀σ H,Pv xs.length σ H→D.nx σ H):
  ∃W:Nat→Nat→St→Hp→Prop,(∃m,W 0 m σ H)∧∀i m σ H,W i m σ H→
   ((Itt K a).stop i H∧D.nx σ H)∨((Itt K a).go i H∧∃N:St→Hp→Prop,(∀σ' H',N σ' H'→∃m',m' < m∧W (i+1) m' σ' H')∧∀x H',(Itt K a).yld i H x H'→g x σ H' fun σ2 H2=>tb {D with nx:=N,ct:=N,bk:=D.nx} σ2 H2):=by
 refine ⟨fun i m σ H=>m=xs.length - i∧i≤xs.length∧Pv i σ H,⟨xs.length,by simp,Nat.zero_le _,h0⟩,?_⟩
 rintro i m σ H ⟨rfl,hi,p⟩
 have q:=hl i σ H hi p
 by_cases hlt:i < xs.length
 ·refine .inr ⟨⟨xs,xs[i],q,by simp [hlt]⟩,Pv (i+1),fun σ' H' p'=>⟨xs.length - (i+1),by omega,rfl,hlt,p'⟩,fun x H' y=>?_⟩
  obtain ⟨e,y⟩:=y
  subst e
  exact hs i x σ _ (y xs q) p
 ·have e:i=xs.length:=by omega
  subst e
  exact .inl ⟨⟨xs,q,Nat.le_refl _⟩,hd σ H p⟩
theorem mq {lo:Int} {n:Nat} {g:TG} {tb:TS} {D:Ends} {σ:St} {H:Hp} (Pv:Nat→St→Hp→Prop) (h0:Pv 0 σ H)
  (hs:∀i σ H,i < n→Pv i σ H→g (.int (lo+i)) σ H fun σ2 H2=>tb {D with nx:=Pv (i+1),ct:=Pv (i+1),bk:=D.nx} σ2 H2) (hd:∀σ H,Pv n σ H→D.nx σ H):
  ∃W:Nat→Nat→St→Hp→Prop,(∃m,W 0 m σ H)∧∀i m σ H,W i m σ H→
   ((Itr lo n).stop i H∧D.nx σ H)∨((Itr lo n).go i H∧∃N:St→Hp→Prop,(∀σ' H',N σ' H'→∃m',m' < m∧W (i+1) m' σ' H')∧∀x H',(Itr lo n).yld i H x H'→g x σ H' fun σ2 H2=>tb {D with nx:=N,ct:=N,bk:=D.nx} σ2 H2):=by
 refine ⟨fun i m σ H=>m=n - i∧i≤n∧Pv i σ H,⟨n,by simp,Nat.zero_le _,h0⟩,?_⟩
 rintro i m σ H ⟨rfl,hi,p⟩
 by_cases hlt:i < n
 ·refine .inr ⟨hlt,Pv (i+1),fun σ' H' p'=>⟨n - (i+1),by omega,rfl,hlt,p'⟩,fun x H' y=>?_⟩
  obtain ⟨e,y⟩:=y
  subst e y
  exact hs i σ _ hlt p
 ·have e:i=n:=by omega
  subst e
  exact .inl ⟨Nat.le_refl _,hd σ H p⟩
open PySem PySem.Spec PyProof.Rows
noncomputable abbrev R2:=V→V→Hp→VK→Prop
noncomputable def OpR (X:Cx) (f:Value→Value→Sem Value) (r:R2):Prop:=
 ∀(pins:List (Addr × Obj)) (s:Shared) (σ:St) (H:Hp) (x y:V) (v u:Value) (Q:VK),Inv X pins σ H s→RelV x v→RelV y u→r x y H Q→
  wpAny (model X.prog X.w) X.A (f v u) (EP X pins σ Q) X.xe s
noncomputable def UnR (X:Cx) (f:Value→Sem Value) (r:V→Hp→VK→Prop):Prop:=
 ∀(pins:List (Addr × Obj)) (s:Shared) (σ:St) (H:Hp) (x:V) (v:Value) (Q:VK),Inv X pins σ H s→RelV x v→r x H Q→
  wpAny (model X.prog X.w) X.A (f v) (EP X pins σ Q) X.xe s
noncomputable def fK (X:Cx) (f:Value) (r:List V→Hp→VK→Prop):Prop:=
 ∀(pins:List (Addr × Obj)) (s:Shared) (σ:St) (H:Hp) (xs:List V) (us:List Value) (Q:VK),Inv X pins σ H s→Vals xs us→r xs H Q→
  wpAny (model X.prog X.w) X.A (call f us) (EP X pins σ Q) X.xe s
noncomputable def Tw (X:Cx) (r:V→Hp→(Bool→Hp→Prop)→Prop):Prop:=
 ∀(pins:List (Addr × Obj)) (s:Shared) (σ:St) (H:Hp) (x:V) (v:Value) (Q:Bool→Hp→Prop),Inv X pins σ H s→RelV x v→r x H Q→
  wpAny (model X.prog X.w) X.A (truthy v) (TP X pins σ Q) X.xe s
noncomputable def tOp (r:R2) (ta tb:TE):TE:=fun σ H Q=>ta σ H fun x H1=>tb σ H1 fun y H2=>r x y H2 Q
noncomputable def tUn (r:V→Hp→VK→Prop) (ta:TE):TE:=fun σ H Q=>ta σ H fun x H1=>r x H1 Q
inductive JRI (C:Int→Int→Prop) (g:Int→Int→V) (x:L2.V) (y:L2.V) (H:Hp) (Q:VK):Prop where
 | mk (i:_) (j:_) (z1:x=.int i) (z2:y=.int j) (z3:C i j) (z4:Q (g i j) H)
noncomputable def rI (C:Int→Int→Prop) (g:Int→Int→V):R2:=fun x y H Q=>JRI C g x y H Q
inductive Tz (g:Int→Int→V) (x:L2.V) (y:L2.V) (H:Hp) (Q:VK):Prop where
 | mk (i:_) (j:_) (z1:x=.int i) (z2:y=.int j) (z3:Q (g i j) H)
noncomputable def rI0 (g:Int→Int→V):R2:=fun x y H Q=>Tz g x y H Q
inductive JRU (g:Int→V) (x:V) (H:Hp) (Q:VK):Prop where
 | mk (i:_) (z1:x=.int i) (z2:Q (g i) H)
noncomputable def rU (g:Int→V):V→Hp→VK→Prop:=fun x H Q=>JRU g x H Q
section
variable {X:Cx} {a b c:Expr} {ta tb tc:TE} {pos:Pos}
theorem NT (ha:PE X a ta) (hb:PE X b tb) {pins:List (Addr × Obj)} {s:Shared} {σ:St} {H:Hp} {R:V→V→Hp→Prop} (I:Inv X pins σ H s)
  (h:ta σ H fun x H1=>tb σ H1 fun y H2=>R x y H2) {Q:Value→Shared→Prop} {f:Value→Value→Sem Value}
  (hf:∀v u s2 x y H2,Inv X pins σ H2 s2→RelV x v→RelV y u→R x y H2→wpAny (model X.prog X.w) X.A (f v u) Q X.xe s2):
  wpAny (model X.prog X.w) X.A (eval a X.env) (fun v s₁=>wpAny (model X.prog X.w) X.A (eval b X.env) (fun u s₂=>wpAny (model X.prog X.w) X.A (f v u) Q X.xe s₂) X.xe s₁) X.xe s:=by
 refine thn (ha pins s σ H _ I h) fun v s1 ⟨x,H1,I1,r1,q1⟩=>?_
 refine thn (hb pins s1 σ H1 _ I1 q1) fun u s2 ⟨y,H2,I2,r2,q2⟩=>?_
 exact hf v u s2 x y H2 I2 r1 r2 q2
theorem aL {op:Operator} {r:R2} (ho:OpR X (binaryOp op) r) (ha:PE X a ta) (hb:PE X b tb):PE X (.BinOp a op b pos) (tOp r ta tb):=by
 intro pins s σ H Q I h
 exact wpAny_BinOp (NT ha hb I h fun v u s2 x y H2 I2 rx ry q=>ho pins s2 σ H2 x y v u Q I2 rx ry q)
theorem qL {op:UnaryOp} {r:V→Hp→VK→Prop} (ho:UnR X (unaryOp op) r) (ha:PE X a ta):PE X (.UnaryOp op a pos) (tUn r ta):=by
 intro pins s σ H Q I h
 exact UnaryOp_ (thn (ha pins s σ H _ I h) fun v s1 ⟨x,H1,I1,r1,q1⟩=>ho pins s1 σ H1 x v Q I1 r1 q1)
theorem opI {f:Value→Value→Sem Value} {C:Int→Int→Prop} {g:Int→Int→Int}
  (rule:∀(i j:Int) (t u:Tok) (s:Shared) (Q:Value→Shared→Prop) (E:Value→Shared→Prop),C i j→Q (.int (g i j) s.toks) {s with toks:=s.toks+1}→wpAny (model X.prog X.w) X.A (f (.int i t) (.int j u)) Q E s):
  OpR X f (rI C fun i j=>.int (g i j)):=by
 intro pins s σ H x y v u Q I rx ry h
 obtain ⟨i,j,rfl,rfl,hc,q⟩:=h
 obtain ⟨t,rfl⟩:=rx
 obtain ⟨t',rfl⟩:=ry
 exact rule i j t t' s _ _ hc ⟨.int (g i j),H,I.tok _,⟨_,rfl⟩,q⟩
theorem QH {f:Value→Value→Sem Value} {g:Int→Int→Int}
  (rule:∀(i j:Int) (t u:Tok) (s:Shared) (Q:Value→Shared→Prop) (E:Value→Shared→Prop),Q (.int (g i j) s.toks) {s with toks:=s.toks+1}→wpAny (model X.prog X.w) X.A (f (.int i t) (.int j u)) Q E s):
  OpR X f (rI0 fun i j=>.int (g i j)):=by
 intro pins s σ H x y v u Q I rx ry h
 obtain ⟨i,j,rfl,rfl,q⟩:=h
 obtain ⟨t,rfl⟩:=rx
 obtain ⟨t',rfl⟩:=ry
 exact rule i j t t' s _ _ ⟨.int (g i j),H,I.tok _,⟨_,rfl⟩,q⟩
theorem J4 {f:Value→Value→Sem Value} {g:Int→Int→Bool}
  (rule:∀(i j:Int) (t u:Tok) (s:Shared) (Q:Value→Shared→Prop) (E:Value→Shared→Prop),Q (.bool (g i j)) s→wpAny (model X.prog X.w) X.A (f (.int i t) (.int j u)) Q E s):
  OpR X f (rI0 fun i j=>.bl (g i j)):=by
 intro pins s σ H x y v u Q I rx ry h
 obtain ⟨i,j,rfl,rfl,q⟩:=h
 obtain ⟨t,rfl⟩:=rx
 obtain ⟨t',rfl⟩:=ry
 exact rule i j t t' s _ _ ⟨.bl (g i j),H,I,rfl,q⟩
noncomputable def TF (i j:Int):Prop:=0 < j∧j < 1073741824
noncomputable def TJ (i j:Int):Prop:=0≤j∧j≤1000000∧i.natAbs < 2 ^ 64
noncomputable def NZ (i j:Int):Prop:=(-(2 ^ 64) < i∧i < 2 ^ 64)∨(-(2 ^ 64) < j∧j < 2 ^ 64)
theorem NZ.ok {i j:Int} (h:NZ i j):IntMulOk i j:=by
 rcases h with ⟨h1,h2⟩ | ⟨h1,h2⟩
 ·exact .of_left (intBits_le_64 h1 h2)
 ·exact .of_right (intBits_le_64 h1 h2)
theorem cg:OpR X (binaryOp .Add) (rI0 fun i j=>.int (i+j)):=QH fun _ _ _ _ _ _ _ q=>add_int q
theorem jL:OpR X (binaryOp .Sub) (rI0 fun i j=>.int (i - j)):=QH fun _ _ _ _ _ _ _ q=>sub_int q
theorem jM:OpR X (binaryOp .Mult) (rI NZ fun i j=>.int (i * j)):=opI fun _ _ _ _ _ _ _ hc q=>mul_int q hc.ok
theorem eG:OpR X (binaryOp .FloorDiv) (rI TF fun i j=>.int (i / j)):=opI fun i j _ _ _ _ _ hc q=>by
 have h1:(0:Int) < j:=hc.1
 have h2:j < 1073741824:=hc.2
 exact floordiv_int (by omega) (by rw [Int.fdiv_eq_ediv_of_nonneg i (by omega)];exact q) (.inl (PyProof.noPylong_small (by omega)))
theorem bR:OpR X (binaryOp .Mod) (rI (fun _ j=>0 < j) fun i j=>.int (i % j)):=opI fun i j _ _ _ _ _ hc q=>by
 have h1:(0:Int) < j:=hc
 exact mod_int' (by omega) (by rw [Int.fmod_eq_emod_of_nonneg i (by omega)];exact q)
theorem yu:OpR X (binaryOp .Pow) (rI TJ fun i j=>.int (i ^ j.toNat)):=opI fun _ _ _ _ _ _ _ hc q=>pow_int_small hc.1 hc.2.1 hc.2.2 q
theorem unI {f:Value→Sem Value} {g:Int→Int}
  (rule:∀(i:Int) (t:Tok) (s:Shared) (Q:Value→Shared→Prop) (E:Value→Shared→Prop),Q (.int (g i) s.toks) {s with toks:=s.toks+1}→wpAny (model X.prog X.w) X.A (f (.int i t)) Q E s):
  UnR X f (rU fun i=>.int (g i)):=by
 intro pins s σ H x v Q I rx h
 obtain ⟨i,rfl,q⟩:=h
 obtain ⟨t,rfl⟩:=rx
 exact rule i t s _ _ ⟨.int (g i),H,I.tok _,⟨_,rfl⟩,q⟩
theorem mY:UnR X (unaryOp .USub) (rU fun i=>.int (-i)):=unI fun _ _ _ _ _ q=>neg_int q
end
noncomputable def QJ:V→V→Bool
 | .non,.non=>true | .non,.int _=>true | .int _,.non=>true | .non,.bl _=>true | .bl _,.non=>true | .non,.str _=>true | .str _,.non=>true
 | .int _,.int _=>true | .bl _,.bl _=>true | .str _,.str _=>true | .byt _,.byt _=>true
 | .int _,.str _=>true | .str _,.int _=>true | .bl _,.str _=>true | .str _,.bl _=>true
 | _,_=>false
noncomputable def rEq:R2:=fun x y H Q=>QJ x y=true∧Q (.bl (decide (x=y))) H
noncomputable def rNe:R2:=fun x y H Q=>QJ x y=true∧Q (.bl (!decide (x=y))) H
theorem qm {i j:Int}:decide (V.int i=V.int j)=(i==j):=by
 rw [Bool.eq_iff_iff]
 simp
theorem Et {i j:Bool}:decide (V.bl i=V.bl j)=(i==j):=by
 rw [Bool.eq_iff_iff]
 simp
theorem zV {i j:Str}:decide (V.str i=V.str j)=(i==j):=by
 rw [Bool.eq_iff_iff]
 simp
theorem zW {i j:Array UInt8}:decide (V.byt i=V.byt j)=(i.toList==j.toList):=by
 rw [Bool.eq_iff_iff]
 cases i
 cases j
 simp
section
variable {X:Cx} {a b c:Expr} {ta tb tc:TE} {pos:Pos}
theorem bV {pins:List (Addr × Obj)} {σ:St} {H:Hp} {s:Shared} {Q:VK} {k k':Bool} (I:Inv X pins σ H s) (q:Q (.bl k) H) (e:k=k'):EP X pins σ Q (.bool k') s:=by
 subst e
 exact ⟨.bl k,H,I,rfl,q⟩
theorem j9:OpR X (compareOp .Eq) rEq:=by
 intro pins s σ H x y v u Q I rx ry h
 obtain ⟨hs,q⟩:=h
 cases x with
 | non=>
  cases rx
  cases y with
  | non=>cases ry;exact PySem.EqNone.eq_none_none (bV I q (by simp))
  | bl j=>cases ry;exact PySem.EqNone.eq_none_bool (bV I q (by simp))
  | int j=>obtain ⟨t',rfl⟩:=ry;exact PySem.EqNone.eq_none_int (bV I q (by simp))
  | str j=>obtain ⟨t',rfl⟩:=ry;exact PySem.EqNone.eq_none_str (bV I q (by simp))
  | _=>exact absurd (show false=true from hs) Bool.false_ne_true
 | bl i=>
  cases rx
  cases y with
  | non=>cases ry;exact PySem.EqNone.eq_bool_none (bV I q (by simp))
  | bl j=>cases ry;exact eq_bool (bV I q Et)
  | str j=>obtain ⟨t',rfl⟩:=ry;exact PySem.EqMixed.eq_bool_str (bV I q (by simp))
  | _=>exact absurd (show false=true from hs) Bool.false_ne_true
 | int i=>
  obtain ⟨t,rfl⟩:=rx
  cases y with
  | non=>cases ry;exact PySem.EqNone.eq_int_none (bV I q (by simp))
  | int j=>obtain ⟨t',rfl⟩:=ry;exact eq_int (bV I q qm)
  | str j=>obtain ⟨t',rfl⟩:=ry;exact PySem.EqMixed.eq_int_str (bV I q (by simp))
  | _=>exact absurd (show false=true from hs) Bool.false_ne_true
 | str i=>
  obtain ⟨t,rfl⟩:=rx
  cases y with
  | non=>cases ry;exact PySem.EqNone.eq_str_none (bV I q (by simp))
  | bl j=>cases ry;exact PySem.EqMixed.eq_str_bool (bV I q (by simp))
  | int j=>obtain ⟨t',rfl⟩:=ry;exact PySem.EqMixed.eq_str_int (bV I q (by simp))
  | str j=>obtain ⟨t',rfl⟩:=ry;exact eq_str (bV I q zV)
  | _=>exact absurd (show false=true from hs) Bool.false_ne_true
 | byt i=>
  obtain ⟨t,rfl⟩:=rx
  cases y with
  | byt j=>obtain ⟨t',rfl⟩:=ry;exact PySem.W.eq_bytes (bV I q zW)
  | _=>exact absurd (show false=true from hs) Bool.false_ne_true
 | _=>cases y <;> exact absurd (show false=true from hs) Bool.false_ne_true
theorem wz:OpR X (compareOp .NotEq) rNe:=by
 intro pins s σ H x y v u Q I rx ry h
 obtain ⟨hs,q⟩:=h
 cases x with
 | non=>
  cases rx
  cases y with
  | non=>cases ry;exact PySem.EqNone.ne_none_none (bV I q (by simp))
  | bl j=>cases ry;exact PySem.EqNone.ne_none_bool (bV I q (by simp))
  | int j=>obtain ⟨t',rfl⟩:=ry;exact PySem.EqNone.ne_none_int (bV I q (by simp))
  | str j=>obtain ⟨t',rfl⟩:=ry;exact PySem.EqNone.ne_none_str (bV I q (by simp))
  | _=>exact absurd (show false=true from hs) Bool.false_ne_true
 | bl i=>
  cases rx
  cases y with
  | non=>cases ry;exact PySem.EqNone.ne_bool_none (bV I q (by simp))
  | bl j=>cases ry;exact ne_bool (bV I q (congrArg not Et))
  | str j=>obtain ⟨t',rfl⟩:=ry;exact PySem.EqMixed.ne_bool_str (bV I q (by simp))
  | _=>exact absurd (show false=true from hs) Bool.false_ne_true
 | int i=>
  obtain ⟨t,rfl⟩:=rx
  cases y with
  | non=>cases ry;exact PySem.EqNone.ne_int_none (bV I q (by simp))
  | int j=>obtain ⟨t',rfl⟩:=ry;exact ne_int (bV I q (congrArg not qm))
  | str j=>obtain ⟨t',rfl⟩:=ry;exact PySem.EqMixed.ne_int_str (bV I q (by simp))
  | _=>exact absurd (show false=true from hs) Bool.false_ne_true
 | str i=>
  obtain ⟨t,rfl⟩:=rx
  cases y with
  | non=>cases ry;exact PySem.EqNone.ne_str_none (bV I q (by simp))
  | bl j=>cases ry;exact PySem.EqMixed.ne_str_bool (bV I q (by simp))
  | int j=>obtain ⟨t',rfl⟩:=ry;exact PySem.EqMixed.ne_str_int (bV I q (by simp))
  | str j=>obtain ⟨t',rfl⟩:=ry;exact ne_str (bV I q (congrArg not zV))
  | _=>exact absurd (show false=true from hs) Bool.false_ne_true
 | byt i=>
  obtain ⟨t,rfl⟩:=rx
  cases y with
  | byt j=>obtain ⟨t',rfl⟩:=ry;exact PySem.W.ne_bytes (bV I q (congrArg not zW))
  | _=>exact absurd (show false=true from hs) Bool.false_ne_true
 | _=>cases y <;> exact absurd (show false=true from hs) Bool.false_ne_true
theorem qM:OpR X (compareOp .Lt) (rI0 fun i j=>.bl (decide (i < j))):=J4 fun _ _ _ _ _ _ _ q=>lt_int q
theorem kY:OpR X (compareOp .LtE) (rI0 fun i j=>.bl (decide (i≤j))):=J4 fun _ _ _ _ _ _ _ q=>le_int q
theorem qN:OpR X (compareOp .Gt) (rI0 fun i j=>.bl (decide (j < i))):=J4 fun _ _ _ _ _ _ _ q=>gt_int q
theorem zX:OpR X (compareOp .GtE) (rI0 fun i j=>.bl (decide (j≤i))):=J4 fun _ _ _ _ _ _ _ q=>ge_int q
theorem N5:OpR X (compareOp .Is) (fun x y H Q=>y=.non∧Q (.bl (decide (x=.non))) H):=by
 intro pins s σ H x y v u Q I rx ry h
 obtain ⟨rfl,q⟩:=h
 cases ry
 refine is_none_gen (bV I q ?_)
 cases x <;> first
  | (cases rx;rfl)
  | (obtain ⟨t,rfl⟩:=rx;rfl)
theorem zY:OpR X (compareOp .IsNot) (fun x y H Q=>y=.non∧Q (.bl (!decide (x=.non))) H):=by
 intro pins s σ H x y v u Q I rx ry h
 obtain ⟨rfl,q⟩:=h
 cases ry
 refine isnot_none_gen (bV I q ?_)
 cases x <;> first
  | (cases rx;rfl)
  | (obtain ⟨t,rfl⟩:=rx;rfl)
theorem bA (b:Expr) {op:CmpOp} (h:op≠.In:=by decide) (h2:op≠.NotIn:=by decide):behindInMarks op b=false:=by
 have e1:(op==CmpOp.In)=false:=by cases op <;> first | rfl | exact absurd rfl h
 have e2:(op==CmpOp.NotIn)=false:=by cases op <;> first | rfl | exact absurd rfl h2
 cases b <;> simp [behindInMarks,e1,e2]
theorem cJ {op:CmpOp} {r:R2} (ho:OpR X (compareOp op) r) (ha:PE X a ta) (hb:PE X b tb) (hm:behindInMarks op b=false):PE X (.Compare a [op] [b] pos) (tOp r ta tb):=by
 intro pins s σ H Q I h
 exact wpAny_Compare1 (NT ha hb I h fun v u s2 x y H2 I2 rx ry q=>ho pins s2 σ H2 x y v u Q I2 rx ry q) hm
noncomputable def MK (t:TE):TT:=fun σ H Q=>t σ H fun x H'=>JBl x H' Q
theorem bL {op:CmpOp} {r:R2} (ho:OpR X (compareOp op) r) (ha:PE X a ta) (hb:PE X b tb) (hm:behindInMarks op b=false):PT X (.Compare a [op] [b] pos) (MK (tOp r ta tb)):=by
 intro pins s σ H Q I h
 refine wpAny_isTrue_Compare1 (thn (ha pins s σ H _ I h) fun v s1 ⟨x,H1,I1,r1,q1⟩=>thn (hb pins s1 σ H1 _ I1 q1) fun u s2 ⟨y,H2,I2,r2,q2⟩=>
  thn (ho pins s2 σ H2 x y v u _ I2 r1 r2 q2) fun c s3 ⟨z,H3,I3,r3,k,e,q3⟩=>?_) hm
 subst e
 cases r3
 exact wpAny_truthy_bool ⟨H3,I3,q3⟩
noncomputable def Eu (r r':R2) (ta tb tc:TE):TE:=fun σ H Q=>ta σ H fun x H1=>tb σ H1 fun y H2=>r x y H2 fun z H3=>∃k,z=.bl k∧
 (if k=true then tc σ H3 fun w' H4=>r' y w' H4 Q else Q (.bl false) H3)
theorem qO {op op':CmpOp} {r r':R2} (ho:OpR X (compareOp op) r) (ho':OpR X (compareOp op') r') (ha:PE X a ta) (hb:PE X b tb) (hc:PE X c tc)
  (hm:lastMarks [op,op'] [b,c]=false:=by with_unfolding_all rfl):PE X (.Compare a [op,op'] [b,c] pos) (Eu r r' ta tb tc):=by
 intro pins s σ H Q I h
 refine Compare_chain (thn (ha pins s σ H _ I h) fun v s1 ⟨x,H1,I1,r1,q1⟩=>chain_link (thn (hb pins s1 σ H1 _ I1 q1) fun u s2 ⟨y,H2,I2,r2,q2⟩=>
  thn (ho pins s2 σ H2 x y v u _ I2 r1 r2 q2) fun d s3 ⟨z,H3,I3,r3,k,e,q3⟩=>?_)) hm
 subst e
 cases r3
 refine wpAny_truthy_bool ?_
 cases k with
 | false=>exact ite_ff ⟨.bl false,H3,I3,rfl,q3⟩
 | true=>exact ite_tt (chain_last (thn (hc pins s3 σ H3 _ I3 q3) fun w' s4 ⟨z',H4,I4,r4,q4⟩=>ho' pins s4 σ H4 y z' u w' Q I4 r2 r4 q4))
theorem nJ {op op':CmpOp} {r r':R2} (ho:OpR X (compareOp op) r) (ho':OpR X (compareOp op') r') (ha:PE X a ta) (hb:PE X b tb) (hc:PE X c tc)
  (hm:lastMarks [op,op'] [b,c]=false:=by with_unfolding_all rfl):PT X (.Compare a [op,op'] [b,c] pos) (MK (Eu r r' ta tb tc)):=by
 intro pins s σ H Q I h
 refine isTrue_chain (thn (ha pins s σ H _ I h) fun v s1 ⟨x,H1,I1,r1,q1⟩=>test_link (thn (hb pins s1 σ H1 _ I1 q1) fun u s2 ⟨y,H2,I2,r2,q2⟩=>
  thn (ho pins s2 σ H2 x y v u _ I2 r1 r2 q2) fun d s3 ⟨z,H3,I3,r3,k,e,q3⟩=>?_)) hm
 subst e
 cases r3
 refine wpAny_truthy_bool ?_
 cases k with
 | false=>
  obtain ⟨k',e',q'⟩:=q3
  cases e'
  exact ite_ff ⟨H3,I3,q'⟩
 | true=>
  refine ite_tt (test_last (thn (hc pins s3 σ H3 _ I3 q3) fun w' s4 ⟨z',H4,I4,r4,q4⟩=>thn (ho' pins s4 σ H4 y z' u w' _ I4 r2 r4 q4) fun d' s5 ⟨z2,H5,I5,r5,k2,e2,q5⟩=>?_))
  subst e2
  cases r5
  exact wpAny_truthy_bool ⟨H5,I5,q5⟩
noncomputable def QK (K:PySem.W.Frag) (x:V) (H:Hp) (k:Bool):Prop:=
 match x with
 | .non=>k=false
 | .bl b=>k=b
 | .int i=>k=(i !=0)
 | .str y=>y.length≤sizeLine∧k=((y.length:Int) !=0)
 | .byt y=>y.size≤sizeLine∧k=((y.size:Int) !=0)
 | .ref p=>(∃xs,SqL K H p xs∧k=!xs.isEmpty)∨(∃xs,SqT K H p xs∧k=!xs.isEmpty)∨∃kvs,H p=some (.dK kvs)∧k=!kvs.isEmpty
 | _=>False
theorem yw {κ:Type} {kvs:List (κ × V)} {vs:List (κ × Value)} (r:KV kvs vs):(!vs.isEmpty)=!kvs.isEmpty:=by
 cases r <;> rfl
theorem qP {xs:List V} {its:List Value} (r:Vals xs its):(!its.toArray.isEmpty)=!xs.isEmpty:=by
 cases r <;> simp
theorem oW:(sizeLine:Nat) < 2 ^ 63:=by rw [sizeLine_eq];decide
theorem N6:Tw X (fun x H Q=>∃k,QK X.K x H k∧Q k H):=by
 intro pins s σ H x v Q I rx h
 obtain ⟨k,e,q⟩:=h
 have hl:=oW
 have hs:sizeLine=16777216:=sizeLine_eq
 cases x with
 | non=>
  cases rx
  have e':k=false:=e
  subst e'
  exact truthy_none ⟨H,I,q⟩
 | bl b=>
  cases rx
  have e':k=b:=e
  subst e'
  exact wpAny_truthy_bool ⟨H,I,q⟩
 | int i=>
  obtain ⟨t,rfl⟩:=rx
  have e':k=(i !=0):=e
  subst e'
  exact PySem.P.truthy_int ⟨H,I,q⟩
 | str y=>
  obtain ⟨t,rfl⟩:=rx
  obtain ⟨hy,e'⟩:y.length≤sizeLine∧k=((y.length:Int) !=0):=e
  subst e'
  exact PySem.P.truthy_str (by omega) ⟨H,I.tok _,q⟩
 | byt y=>
  obtain ⟨t,rfl⟩:=rx
  obtain ⟨hy,e'⟩:y.size≤sizeLine∧k=((y.size:Int) !=0):=e
  subst e'
  exact PySem.W.truthy_bytes (by omega) ⟨H,I.tok _,q⟩
 | ref p=>
  cases rx
  have e':(∃xs,SqL X.K H p xs∧k=!xs.isEmpty)∨(∃xs,SqT X.K H p xs∧k=!xs.isEmpty)∨∃kvs,H p=some (.dK kvs)∧k=!kvs.isEmpty:=e
  rcases e' with ⟨xs,hx,e'⟩ | ⟨xs,hx,e'⟩ | ⟨kvs,hx,e'⟩
  ·subst e'
   obtain ⟨its,r,pl,hz⟩:=I.list hx
   have hlen:=r.length
   exact wpAny_truthy_list pl.isList (by simp only [List.size_toArray];omega) ⟨H,I.tok _,by rw [qP r];exact q⟩
  ·subst e'
   obtain ⟨its,r,pl,hz⟩:=I.tuple hx
   have hlen:=r.length
   exact truthy_tuple pl (by simp only [List.size_toArray];omega) ⟨H,I.tok _,by rw [qP r];exact q⟩
  ·subst e'
   obtain ⟨hz,hS,vs,r,m⟩:kvs.length≤sizeLine∧(p==sysModules)=false∧∃vs,KV kvs vs∧s.heap.DictOf (cZ X.prog X.w) p vs:=I.hok p _ hx
   have hlen:kvs.length=vs.length:=Paired.length r
   exact wpAny_truthy_dict hS m (by omega) ⟨H,I.tok _,by rw [yw r];exact q⟩
 | _=>exact (show False from e).elim
theorem Ew (ha:PE X a ta) (he:∀whole,isTrue a X.env whole=(do let v ←whole;standAt a.pos;holding [v] (truthy v))):
  PT X a (fun σ H Q=>ta σ H fun x H'=>∃k,QK X.K x H' k∧Q k H'):=by
 intro pins s σ H Q I h
 exact isTrue_plain (thn (ha pins s σ H _ I h) fun v s1 ⟨x,H1,I1,r1,q1⟩=>N6 pins s1 σ H1 x v Q I1 r1 q1) (he _)
theorem yx:OpR X (binaryOp .Add) (fun x y H Q=>∃i j,x=.str i∧y=.str j∧i.length+j.length≤sizeLine∧Q (.str (i++j)) H):=by
 intro pins s σ H x y v u Q I rx ry h
 obtain ⟨i,j,rfl,rfl,hz,q⟩:=h
 obtain ⟨t,rfl⟩:=rx
 obtain ⟨t',rfl⟩:=ry
 exact add_str (fun t' tk=>⟨.str (i++j),H,I.tok _,⟨_,rfl⟩,q⟩) hz
theorem vals1 {x:V} {us:List Value} (r:Vals [x] us):∃u,us=[u]∧RelV x u:=by
 cases r with
 | cons r1 r2=>cases r2;exact ⟨_,rfl,r1⟩
theorem vals2 {x y:V} {us:List Value} (r:Vals [x,y] us):∃u w',us=[u,w']∧RelV x u∧RelV y w':=by
 cases r with
 | cons r1 r2=>
  cases r2 with
  | cons r3 r4=>cases r4;exact ⟨_,_,rfl,r1,r3⟩
theorem Cg (hc:X.calm=true):fK X (.builtin "max") (fun xs H Q=>∃i j,xs=[.int i,.int j]∧Q (.int (if j > i then j else i)) H):=by
 intro pins s σ H xs us Q I r h
 obtain ⟨i,j,rfl,q⟩:=h
 obtain ⟨u,w',rfl,⟨t,rfl⟩,⟨t',rfl⟩⟩:=vals2 r
 refine max_two_ints (I.ok.hd hc) fun h' tk k=>⟨_,H,I.kept k,?_,q⟩
 by_cases hj:j > i
 ·rw [if_pos hj,if_pos hj];exact ⟨_,rfl⟩
 ·rw [if_neg hj,if_neg hj];exact ⟨_,rfl⟩
theorem Ci (hc:X.calm=true):fK X (.builtin "min") (fun xs H Q=>∃i j,xs=[.int i,.int j]∧Q (.int (if j < i then j else i)) H):=by
 intro pins s σ H xs us Q I r h
 obtain ⟨i,j,rfl,q⟩:=h
 obtain ⟨u,w',rfl,⟨t,rfl⟩,⟨t',rfl⟩⟩:=vals2 r
 refine min_two_ints (I.ok.hd hc) fun h' tk k=>⟨_,H,I.kept k,?_,q⟩
 by_cases hj:j < i
 ·rw [if_pos hj,if_pos hj];exact ⟨_,rfl⟩
 ·rw [if_neg hj,if_neg hj];exact ⟨_,rfl⟩
theorem Cj:fK X (.type "int") (fun xs H Q=>(∃i,xs=[.int i]∧Q (.int i) H)∨∃k,xs=[.bl k]∧Q (.int (if k then 1 else 0)) H):=by
 intro pins s σ H xs us Q I r h
 rcases h with ⟨i,rfl,q⟩ | ⟨k,rfl,q⟩
 ·obtain ⟨u,rfl,t,rfl⟩:=vals1 r
  exact call_int_int ⟨.int i,H,I,⟨_,rfl⟩,q⟩
 ·obtain ⟨u,rfl,r1⟩:=vals1 r
  cases r1
  exact call_int_bool ⟨.int (if k then 1 else 0),H,I.tok _,⟨_,rfl⟩,q⟩
theorem uV:fK X (.type "str") (fun xs H Q=>∃i,xs=[.int i]∧i.natAbs.log2 < 1920∧Q (.str (toString i)) H):=by
 intro pins s σ H xs us Q I r h
 obtain ⟨i,rfl,hz,q⟩:=h
 obtain ⟨u,rfl,t,rfl⟩:=vals1 r
 exact PySem.P.str_of_int hz ⟨.str _,H,I.tok _,⟨_,rfl⟩,q⟩
end
open PySem PySem.Spec PyProof.Rows
structure yz (h:Heap) (x dx C:Addr) (mA:Str→Option Value):Prop where
 obj:h.get? x=some (PySem.W.instObj C dx)
 ns:h.Ns1 dx mA
 ne:dx≠x
theorem Ck {h:Heap} {dx:Addr} {mA:Str→Option Value} (n:h.Ns1 dx mA):∃od,h.get? dx=some od∧∀name,PySem.W.lookIn name od=some (mA name):=by
 obtain ⟨o,es,ep,ho,hd,hk,_,hm⟩:=n
 refine ⟨o,ho,fun name=>?_⟩
 have e:=hm name
 unfold nsFind findBy at e
 rw [←Array.find?_toList] at e
 unfold PySem.W.lookIn
 rw [hd]
 dsimp only
 split
 ·rename_i y q
  rw [q] at e
  exact congrArg some e
 ·rename_i q
  rw [q] at e
  have a:es.toList.any (·.refKey)=false:=by
   rw [List.any_eq_false]
   intro y hy
   obtain ⟨z,t,hkey⟩:=hk y (Array.mem_toList_iff.mp hy)
   simp [DictEntry.refKey,hkey]
  have a':¬es.toList.any (·.refKey)=true:=by rw [a];exact Bool.false_ne_true
  rw [if_neg a']
  exact congrArg some e
theorem yz.look {h:Heap} {x dx C:Addr} {mA:Str→Option Value} (I:yz h x dx C mA):∃od,PySem.W.InstAt h x (PySem.W.instObj C dx) C (some od)∧∀name,PySem.W.lookIn name od=some (mA name):=
 let ⟨od,ho,hl⟩:=Ck I.ns
 ⟨od,⟨I.obj,rfl,rfl,ho⟩,hl⟩
section
variable {prog:Program} {w:World} {A:Around} {E:Value→Shared→Prop} {s:Shared} {K:PySem.W.Frag} {x dx C f:Addr} {mA:Str→Option Value} {name:Str} {v:Value}
theorem J5 {expr:Bool} {Q:Value→Shared→Prop} (X:K.In s.heap) (I:yz s.heap x dx C mA) (hg:PySem.W.plainGet K C name=true) (hh:PySem.W.hasDictIn K C=true)
  (ha:PySem.W.findIn K (.ref C) name=some none) (hv:mA name=some v) (hv':PySem.W.handedIn v=true) (h:Q v {s with toks:=s.toks+1}):
  wpAny (model prog w) A (getAttr (.ref x) name expr) Q E s:=by
 obtain ⟨od,J,hl⟩:=I.look
 exact PySem.W.get_value X J (PySem.W.plainGet_of hg).1 (PySem.W.findObj_own hh ha rfl (by rw [hl,hv])) hv' h
theorem Ex {pl:Sem Bool} {Q:Value × List Value→Shared→Prop} (X:K.In s.heap) (I:yz s.heap x dx C mA) (hg:PySem.W.plainGet K C name=true)
  (hf:PySem.W.findIn K (.ref C) name=some (some (.ref f))) (ht:PySem.W.isFn K (.ref f)=true) (hv:mA name=none) (h:Q (.ref f,[.ref x]) s):
  wpAny (model prog w) A (getMethod (.ref x) name pl) Q E s:=by
 obtain ⟨od,J,hl⟩:=I.look
 exact PySem.W.method_fn X J (PySem.W.plainGet_of hg).1 (PySem.W.plainGet_of hg).2 hf (beq_iff_eq.mp ht) (by show (PySem.W.lookIn name od).map (·.isSome)=some false;rw [hl,hv];rfl) h
theorem J6 {ns:List Str} {Q:Unit→Shared→Prop} (X:K.In s.heap) (I:yz s.heap x dx C mA)
  (hs:PySem.W.findIn K (.ref C) "__setattr__"=some (some (.builtin "object.__setattr__"))) (hp:PySem.W.plainOver K C=true) (ht:PySem.W.takerIn K C name=some none) (hh:PySem.W.hasDictIn K C=true)
  (hw:PySem.Within mA ns) (hsz:ns.length≤sizeLine)
  (h:∀h',yz h' x dx C (fun y=>if y=name then some v else mA y)→Heap.SameBut dx s.heap h'→Q () {s with heap:=h',toks:=s.toks+2}):
  wpAny (model prog w) A (setAttr (.ref x) name v) Q E s:=by
 obtain ⟨od,J,hl⟩:=I.look
 refine PySem.W.set_plain X J hs (PySem.W.osa_open (s:={s with toks:=s.toks+1}) (r:=none) X J hp ht fun b=>?_)
 obtain ⟨cd,hc,hd'⟩:=PySem.W.any_some hh
 have hx:s.heap.get? x=some ⟨.ref C,some dx,.plain,#[]⟩:=I.obj
 refine wpAny_bind (wpAny_pure (wpAny_bind (wpAny_bind (wpAny_loadPart hx (wpAny_bind (PySem.W.Looks.here (s:={s with toks:=s.toks+1}) (PySem.W.looks_clsIn X hc) ?_))))))
 rw [hd']
 refine wpAny_pure (a:=some dx) (wpAny_bind (wpAny_pure (wpAny_bind ?_)))
 refine wpAny_nsSet1 (s:={s with toks:=s.toks+1}) I.ns fun h' hn2 hs2=>?_
 obtain ⟨oD,esD,epD,hoD,hdD,hcD⟩:=hn2.count (PySem.Within.cons name v hw)
 refine wpAny_bind (wpAny_lookBehind hoD (by rw [hdD];exact pastItsLine_dict (Nat.le_trans hcD (by rw [List.length_cons];omega))) ?_)
 exact wpAny_pure (h _ ⟨(hs2.2 _ (Ne.symm I.ne)).trans I.obj,hn2,I.ne⟩ hs2)
theorem Ey {R:Result→Shared→Prop} {vs:List Value} {kw:List (Str × Value)} (X:K.In s.heap) (hm:PySem.W.makesIn K C=true)
  (hi:PySem.W.findIn K (.ref C) "__init__"=some (some (.ref f))) (hf:PySem.W.typeIn K (.ref f)=some (.type "function"))
  (h:codeAny (model prog w) (A.under (.builtin "type.__call__" ⟨.ref C::vs,kw⟩)) (.call (.ref f) ⟨.ref (s.heap.objs.size+1)::vs,kw⟩) (PySem.W.InitBack (s.heap.objs.size+1) R)
   {s with heap:=(s.heap.push PySem.W.emptyDict).push (PySem.W.instObj C s.heap.objs.size)}):
  codeAny (model prog w) A (.call (.ref C) ⟨vs,kw⟩) R s:=by
 obtain ⟨hh,g,d,t,os⟩:=s
 exact PySem.W.make_core (PySem.W.makes_of X hm) (PySem.W.looks_findIn X hi) (fun self=>PySem.W.bind_fn X self hf) (.inl rfl) h
theorem Cm {R:Result→Shared→Prop} (X:K.In s.heap) (hm:PySem.W.makesIn K C=true)
  (hi:PySem.W.findIn K (.ref C) "__init__"=some (some (.builtin "object.__init__")))
  (hb:∀self,PySem.W.Looks (model prog w) s.heap (bindSpecial (.builtin "object.__init__") self) (.builtin "object.__init__",[self]))
  (h:codeAny (model prog w) (A.under (.builtin "type.__call__" ⟨[.ref C],[]⟩)) (.call (.builtin "object.__init__") ⟨[.ref (s.heap.objs.size+1)],[]⟩) (PySem.W.InitBack (s.heap.objs.size+1) R)
   {s with heap:=(s.heap.push PySem.W.emptyDict).push (PySem.W.instObj C s.heap.objs.size)}):
  codeAny (model prog w) A (.call (.ref C) ⟨[],[]⟩) R s:=by
 obtain ⟨hh,g,d,t,os⟩:=s
 exact PySem.W.make_core (PySem.W.makes_of X hm) (PySem.W.looks_findIn X hi) hb (.inr ⟨rfl,rfl⟩) h
end
noncomputable def jN (f:Str) (v:V):List (Str × V)→List (Str × V)
 | []=>[(f,v)]
 | (g,x)::r=>if g=f then (g,v)::r else (g,x)::jN f v r
theorem kZ (f g:Str) (v:V):∀fs:List (Str × V),(jN f v fs).lookup g=if g=f then some v else fs.lookup g
 | []=>by
  show List.lookup g [(f,v)]=_
  by_cases h:g=f
  ·have hb:(g==f)=true:=beq_iff_eq.mpr h
   simp only [List.lookup,hb,if_pos h]
  ·have hb:(g==f)=false:=beq_eq_false_iff_ne.mpr h
   simp only [List.lookup,hb,if_neg h]
 | (k,x)::r=>by
  have ih:=kZ f g v r
  rw [show jN f v ((k,x)::r)=(if k=f then (k,v)::r else (k,x)::jN f v r) from rfl]
  by_cases hk:k=f
  ·rw [if_pos hk]
   by_cases h:g=k
   ·have hb:(g==k)=true:=beq_iff_eq.mpr h
    simp only [List.lookup,hb,if_pos (h.trans hk)]
   ·have hb:(g==k)=false:=beq_eq_false_iff_ne.mpr h
    simp only [List.lookup,hb,if_neg (fun e:g=f=>h (e.trans hk.symm))]
  ·rw [if_neg hk]
   by_cases h:g=k
   ·have hb:(g==k)=true:=beq_iff_eq.mpr h
    simp only [List.lookup,hb,if_neg (fun e:g=f=>hk (h.symm.trans e))]
   ·have hb:(g==k)=false:=beq_eq_false_iff_ne.mpr h
    simp only [List.lookup,hb]
    exact ih
theorem jq (f:Str) (v:V):∀fs:List (Str × V),f∈(jN f v fs).map (·.1)∧∀g,g∈fs.map (·.1)→g∈(jN f v fs).map (·.1)
 | []=>⟨by simp [jN],fun g h=>by simp at h⟩
 | (k,x)::r=>by
  obtain ⟨i1,i2⟩:=jq f v r
  rw [show jN f v ((k,x)::r)=(if k=f then (k,v)::r else (k,x)::jN f v r) from rfl]
  by_cases hk:k=f
  ·rw [if_pos hk]
   subst hk
   exact ⟨by simp,fun g h=>by simpa using h⟩
  ·rw [if_neg hk]
   refine ⟨?_,fun g h=>?_⟩
   ·rw [List.map_cons]
    exact List.mem_cons_of_mem _ i1
   ·rw [List.map_cons] at h ⊢
    rcases List.mem_cons.mp h with e | e
    ·exact List.mem_cons.mpr (.inl e)
    ·exact List.mem_cons_of_mem _ (i2 g e)
theorem lw (f:Str) (v:V):∀fs:List (Str × V),(jN f v fs).length≤fs.length+1
 | []=>by simp [jN]
 | (k,x)::r=>by
  have ih:=lw f v r
  rw [show jN f v ((k,x)::r)=(if k=f then (k,v)::r else (k,x)::jN f v r) from rfl]
  by_cases hk:k=f
  ·rw [if_pos hk,List.length_cons,List.length_cons];omega
  ·rw [if_neg hk,List.length_cons,List.length_cons];omega
theorem jk.some_of {v:V} {o:Option Value} (r:jk (some v) o):∃u,o=some u∧RelV v u:=by
 cases o with
 | none=>exact (show False from r).elim
 | some u=>exact ⟨u,rfl,r⟩
theorem jk.none_of {o:Option Value} (r:jk none o):o=none:=by
 cases o with
 | none=>rfl
 | some u=>exact (show False from r).elim
theorem ul {v:V} {u:Value} (r:RelV v u):PySem.W.handedIn u=true:=by
 cases v with
 | non=>cases (show u=Value.none from r);rfl
 | bl b=>cases (show u=Value.bool b from r);rfl
 | int i=>obtain ⟨t,e⟩:=(show ∃t,u=Value.int i t from r);cases e;rfl
 | str x=>obtain ⟨t,e⟩:=(show ∃t,u=Value.str x t from r);cases e;rfl
 | byt b=>obtain ⟨t,e⟩:=(show ∃t,u=Value.bytes b t from r);cases e;rfl
 | flt b=>obtain ⟨t,e⟩:=(show ∃t,u=Value.float b t from r);cases e;rfl
 | ref a=>cases (show u=Value.ref a from r);rfl
 | ty n=>cases (show u=Value.type n from r);rfl
section
variable {P:Program} {w:World} {H H':Hp} {h h':Heap} {a C dx:Addr} {fs fs':List (Str × V)}
theorem qp (hok:HOk P w H h) (e:H a=some (.ins C dx fs)):∃mA,yz h a dx C mA∧(∀f,jk (fs.lookup f) (mA f))∧PySem.Within mA (fs.map (·.1))∧fs.length≤1000∧H dx=some (.own a):=by
 obtain ⟨d,z,ne,ob,mA,n,r,q⟩:=(show bQ P w H h a (.ins C dx fs) from hok a _ e)
 exact ⟨mA,⟨ob,n,ne⟩,r,q,z,d⟩
end
structure Cls (K:PySem.W.Frag) (C:Addr):Prop where
 pg:PySem.W.plainGet K C Str.empty=true
 hd:PySem.W.hasDictIn K C=true
 po:PySem.W.plainOver K C=true
 sa:PySem.W.findIn K (.ref C) "__setattr__"=some (some (.builtin "object.__setattr__"))
theorem Cls.get {K:PySem.W.Frag} {C:Addr} (c:Cls K C) (f:Str):PySem.W.plainGet K C f=true:=c.pg
noncomputable def lz (K:PySem.W.Frag) (C:Addr) (f:Str):Prop:=PySem.W.findIn K (.ref C) f=some none
theorem lz.taker {K:PySem.W.Frag} {C:Addr} {f:Str} (n:lz K C f):PySem.W.takerIn K C f=some none:=by
 unfold PySem.W.takerIn
 rw [show PySem.W.findIn K (.ref C) f=some none from n]
 rfl
structure Meth (K:PySem.W.Frag) (C:Addr) (m:Str) (f:Addr):Prop where
 at_:PySem.W.findIn K (.ref C) m=some (some (.ref f))
 fn:PySem.W.isFn K (.ref f)=true
 kp:PySem.W.keepIn K (.ref f)=true
section
variable {X:Cx} {pins:List (Addr × Obj)} {σ:St} {H:Hp} {s:Shared} {a C dx:Addr} {fs:List (Str × V)} {f:Str} {v:V} {A:Around} {E:Value→Shared→Prop}
theorem yC {b:Bool} {Q:Value→Shared→Prop} (I:Inv X pins σ H s) (e:H a=some (.ins C dx fs)) (c:Cls X.K C) (n:lz X.K C f) (l:fs.lookup f=some v)
  (h:∀u s',Inv X pins σ H s'→RelV v u→Q u s'):wpAny (model X.prog X.w) A (getAttr (.ref a) f b) Q E s:=by
 obtain ⟨mA,O,r,_,_,_⟩:=qp I.hok e
 obtain ⟨u,hu,ru⟩:=jk.some_of (v:=v) (o:=mA f) (by rw [←l];exact r f)
 exact J5 I.kIn O (c.get f) c.hd n hu (ul ru) (h u _ (I.tok _) ru)
theorem mZ {m:Str} {g:Addr} {pl:Sem Bool} {Q:Value × List Value→Shared→Prop} (I:Inv X pins σ H s) (e:H a=some (.ins C dx fs)) (c:Cls X.K C) (k:Meth X.K C m g) (l:fs.lookup m=none)
  (h:Q (.ref g,[.ref a]) s):wpAny (model X.prog X.w) A (getMethod (.ref a) m pl) Q E s:=by
 obtain ⟨mA,O,r,_,_,_⟩:=qp I.hok e
 have hn:mA m=none:=jk.none_of (by rw [←l];exact r m)
 exact Ex I.kIn O (c.get m) k.at_ k.fn hn h
theorem yD {y:V} {u:Value} {Q:Unit→Shared→Prop} (I:Inv X pins σ H s) (e:H a=some (.ins C dx fs)) (c:Cls X.K C) (n:lz X.K C f) (hl:fs.length < 1000) (ry:RelV y u)
  (h:∀s',Inv X pins σ (upd H a (.ins C dx (jN f y fs))) s'→Q () s'):wpAny (model X.prog X.w) A (setAttr (.ref a) f u) Q E s:=by
 obtain ⟨mA,O,r,wi,_,ho⟩:=qp I.hok e
 have hz:(fs.map (·.1)).length≤sizeLine:=by rw [List.length_map,sizeLine_eq];omega
 refine J6 I.kIn O c.sa c.po n.taker c.hd wi hz fun h' O' sb=>h _ ?_
 have hd:∃o,h'.get? dx=some o:=let ⟨o,_,_,e',_⟩:=O'.ns;⟨o,e'⟩
 refine I.write (x:=a) (e:=dx) (by rw [e];exact True.intro) (.inr ho) (fun b q hb z=>(sb.2 b hb).trans z) hd ?_
 refine ⟨by rw [aA O.ne];exact ho,?_,O.ne,O'.obj,_,O'.ns,fun g=>?_,fun g hg=>?_⟩
 ·have:=lw f y fs;omega
 ·show jk ((jN f y fs).lookup g) (if g=f then some u else mA g)
  rw [kZ]
  by_cases q:g=f
  ·rw [if_pos q,if_pos q];exact ry
  ·rw [if_neg q,if_neg q];exact r g
 ·by_cases q:g=f
  ·rw [q];exact (jq f y fs).1
  ·refine (jq f y fs).2 g (wi g fun z=>hg ?_)
   show (if g=f then some u else mA g)=none
   rw [if_neg q];exact z
theorem Inv.made (I:Inv X pins σ H s):Inv X pins σ (upd (upd H s.heap.objs.size (.own (s.heap.objs.size+1))) (s.heap.objs.size+1) (.ins C s.heap.objs.size []))
  {s with heap:=(s.heap.push PySem.W.emptyDict).push (PySem.W.instObj C s.heap.objs.size)}:=by
 have e1:(s.heap.push PySem.W.emptyDict).get? s.heap.objs.size=some PySem.W.emptyDict:=Heap.get?_push_size s.heap rfl
 have e2:((s.heap.push PySem.W.emptyDict).push (PySem.W.instObj C s.heap.objs.size)).get? (s.heap.objs.size+1)=some (PySem.W.instObj C s.heap.objs.size):=by
  have:=Heap.get?_push_size (s.heap.push PySem.W.emptyDict) (o:=PySem.W.instObj C s.heap.objs.size) rfl
  rwa [Heap.size_push] at this
 have e3:(s.heap.push PySem.W.emptyDict).Ns s.heap.objs.size (fun _=>none):=⟨PySem.W.emptyDict,#[],_,e1,rfl,(fun e he=>absurd he (by simp)),fun _=>rfl⟩
 have I1:=I.laid (a:=s.heap.objs.size) (o:=.own (s.heap.objs.size+1)) (h':=s.heap.push PySem.W.emptyDict) (t':=s.toks) (fun b u q=>Heap.get?_push_of_some _ q) (Nat.le_refl _) ⟨_,e1⟩
 refine I1.laid (a:=s.heap.objs.size+1) (o:=.ins C s.heap.objs.size []) (t':=s.toks) (fun b u q=>Heap.get?_push_of_some _ q) (Nat.le_of_eq (Heap.size_push _ _)) ?_
 have ne:s.heap.objs.size≠s.heap.objs.size+1:=Nat.ne_of_lt (Nat.lt_succ_self _)
 refine ⟨by rw [aA ne,aq],Nat.zero_le _,ne,e2,fun _=>none,(Heap.Ns1.of_empty e3).at fun o q=>Heap.get?_push_of_some _ q,fun _=>True.intro,fun y hy=>absurd rfl hy⟩
theorem zZ {prog:Program} {w:World} {env:Env} {e:Expr} {f:Str} {pos:Pos} {s:Shared} {Q:Value→Shared→Prop} (hb:attributeBase e f env (eval e env)=eval e env)
  (h:wpAny (model prog w) A (eval e env) (fun o s₁=>wpAny (model prog w) A (getAttr o f true) Q E s₁) E s):wpAny (model prog w) A (eval (.Attribute e f pos) env) Q E s:=
 Attribute_any_ h (by rw [arm_eval_Attribute,hb])
end
inductive TQ (K:PySem.W.Frag) (f:Str) (x:V) (H1:Hp) (Q:VK):Prop where
 | mk (a:_) (C:_) (dx:_) (fs:_) (v:_) (z1:x=.ref a) (z2:H1 a=some (.ins C dx fs)) (z3:Cls K C) (z4:lz K C f) (z5:fs.lookup f=some v) (z6:Q v H1)
noncomputable def TV (K:PySem.W.Frag) (ta:TE) (f:Str):TE:=fun σ H Q=>ta σ H fun x H1=>TQ K f x H1 Q
noncomputable def TX (K:PySem.W.Frag) (ta tv:TE) (f:Str):TS:=fun D σ H=>tv σ H fun y H1=>ta σ H1 fun x H2=>∃a C dx fs,x=.ref a∧H2 a=some (.ins C dx fs)∧Cls K C∧lz K C f∧fs.length < 1000∧
 D.nx σ (upd H2 a (.ins C dx (jN f y fs)))
section
variable {X:Cx} {o e value:Expr} {f:Str} {pos pos' tpos:Pos} {ta tv:TE}
theorem iI (he:PE X e ta) (hb:attributeBase e f X.env (eval e X.env)=eval e X.env):PE X (.Attribute e f pos) (TV X.K ta f):=by
 intro pins s σ H Q I h
 refine zZ hb (thn (he pins s σ H _ I h) fun u s1 ⟨x,H1,I1,rx,a,C,dx,fs,v,ex,ea,c,n,l,q⟩=>?_)
 subst ex
 obtain rfl:u=Value.ref a:=rx
 exact yC I1 ea c n l fun u' s2 I2 ru=>⟨v,H1,I2,ru,q⟩
theorem jm (ha:PE X o ta) (hv:PE X value tv) (hs:swapsWith value (some (.Attribute o f pos')) pos.line X.env=pure false):PS X (.Assign [.Attribute o f pos'] value pos) (TX X.K ta tv f):=by
 intro pins s σ H D I h
 refine plainObj_wpAny_Assign_Attribute (thn (hv pins s σ H _ I h) fun u s1 ⟨y,H1,I1,ry,q⟩=>thn (ha pins s1 σ H1 _ I1 q) fun ov s2 ⟨x,H2,I2,rx,a,C,dx,fs,ex,ea,c,n,l,q2⟩=>?_) hs
 subst ex
 obtain rfl:ov=Value.ref a:=rx
 exact yD I2 ea c n l ry fun s3 I3=>⟨σ,_,I3,q2⟩
theorem MN {pl:Sem Bool} {m:Str} {apos:Pos} {args:List Expr} {pins:List (Addr × Obj)} {s:Shared} {σ:St} {H:Hp} {Q:Value→Shared→Prop} {te:TE} (he:PE X e te) (I:Inv X pins σ H s)
  (h:te σ H fun x H1=>∃a C dx fs g,x=.ref a∧H1 a=some (.ins C dx fs)∧Cls X.K C∧Meth X.K C m g∧fs.lookup m=none∧
   ∀s1,Inv X pins σ H1 s1→wpAny (model X.prog X.w) X.A (callWith pos (.ref g) [.ref a] (backTo pos (starEach args X.env)) (backToKw pos (keywordEach [] X.env))) Q X.xe s1)
  (ht:eval (.Call (.Attribute e m apos) args [] pos) X.env=(do
   let ov ←eval e X.env
   standAt apos.atName
   let (f,first) ←holding [ov] (getMethod ov m pl)
   callWith pos f first (backTo pos (starEach args X.env)) (backToKw pos (keywordEach [] X.env)))):
  wpAny (model X.prog X.w) X.A (eval (.Call (.Attribute e m apos) args [] pos) X.env) Q X.xe s:=by
 refine PySem.W.methodCall_KW (pl:=pl) (thn (he pins s σ H _ I h) fun u s1 ⟨x,H1,I1,rx,a,C,dx,fs,g,ex,ea,c,k,l,q⟩=>?_) ht
 subst ex
 obtain rfl:u=Value.ref a:=rx
 exact mZ I1 ea c k l (q s1 I1)
end
section
variable {X:Cx} {pins:List (Addr × Obj)} {σ:St} {H:Hp} {s:Shared} {A:Around} {E:Value→Shared→Prop} {Q:Value→Shared→Prop} {c:Value} {b:Bool}
inductive nM (K:PySem.W.Frag) (H:Hp):V→Value→Prop where
 | non:nM K H .non (.type "NoneType")
 | bl (x:Bool):nM K H (.bl x) (.type "bool")
 | int (i:Int):nM K H (.int i) (.type "int")
 | str (x:Str):nM K H (.str x) (.type "str")
 | flt (x:UInt64):nM K H (.flt x) (.type "float")
 | lst {a:Addr} {xs:List V} (e:H a=some (.lst xs)):nM K H (.ref a) (.type "list")
 | frz {a:Addr} {o:Obj} {xs:List V} (e:H a=some (.frz o (.lst xs))):nM K H (.ref a) (.type "list")
 | tup {a:Addr} {xs:List V} (e:H a=some (.tup xs)):nM K H (.ref a) (.type "tuple")
 | dK {a:Addr} {kvs:List (Key × V)} (e:H a=some (.dK kvs)):nM K H (.ref a) (.type "dict")
 | dT {a:Addr} {kvs:List (List Key × V)} (e:H a=some (.dT kvs)):nM K H (.ref a) (.type "dict")
 | ins {a C dx:Addr} {fs:List (Str × V)} (e:H a=some (.ins C dx fs)) (cl:Cls K C) (ha:PySem.W.findIn K (.ref C) "__class__"=some (some (.builtin "object.__class__")))
   (hn:PySem.W.specialIn K (.builtin "object.__class__") "__get__"=some (some (.builtin "getset_descriptor.__get__"))) (htk:PySem.W.takesIn K (.builtin "object.__class__")=some true)
   (hm:PySem.W.mroIn K C (.type "object")=some true):nM K H (.ref a) (.ref C)
theorem Cp {x:V} {u t:Value} (I:Inv X pins σ H s) (rx:RelV x u) (ty:nM X.K H x t) (e:PySem.W.kitOne X.K t c=some b) (h:∀tk,Q (.bool b) {s with toks:=tk}):
  wpAny (model X.prog X.w) A (call (.builtin "isinstance") [u,c]) Q E s:=by
 cases ty with
 | non=>cases (show u=Value.none from rx);exact PySem.W.kia_one PySem.W.kitx_none I.kIn True.intro e (fun z=>nomatch z) h
 | bl y=>cases (show u=Value.bool y from rx);exact PySem.W.kia_one PySem.W.kitx_bool I.kIn True.intro e (fun z=>nomatch z) h
 | int i=>obtain ⟨t,q⟩:=(show ∃t,u=Value.int i t from rx);cases q;exact PySem.W.kia_one PySem.W.kitx_int I.kIn True.intro e (fun z=>nomatch z) h
 | str y=>obtain ⟨t,q⟩:=(show ∃t,u=Value.str y t from rx);cases q;exact PySem.W.kia_one PySem.W.kitx_str I.kIn True.intro e (fun z=>nomatch z) h
 | flt y=>obtain ⟨t,q⟩:=(show ∃t,u=Value.float y t from rx);cases q;exact PySem.W.kia_one PySem.W.kitx_float I.kIn True.intro e (fun z=>nomatch z) h
 | @lst a xs ea=>
  cases (show u=Value.ref a from rx)
  obtain ⟨_,_,n,_,h1⟩:=(show bQ X.prog X.w H s.heap a (.lst xs) from I.hok a _ ea)
  exact PySem.W.kia_one PySem.W.kitx_list I.kIn ⟨_,h1,rfl⟩ e (fun z=>nomatch z) h
 | @frz a ob xs ea=>
  cases (show u=Value.ref a from rx)
  obtain ⟨_,_,_,n,_,h1⟩:=(show bQ X.prog X.w H s.heap a (.frz ob (.lst xs)) from I.hok a _ ea)
  exact PySem.W.kia_one PySem.W.kitx_list I.kIn ⟨_,h1,rfl⟩ e (fun z=>nomatch z) h
 | @tup a xs ea=>
  cases (show u=Value.ref a from rx)
  obtain ⟨_,_,_,p⟩:=(show bQ X.prog X.w H s.heap a (.tup xs) from I.hok a _ ea)
  obtain ⟨o,h1,h2,_⟩:=p
  exact PySem.W.kia_one PySem.W.kitx_tuple I.kIn ⟨o,h1,h2⟩ e (fun z=>nomatch z) h
 | @dK a kvs ea=>
  cases (show u=Value.ref a from rx)
  obtain ⟨_,_,vs,_,p⟩:=(show bQ X.prog X.w H s.heap a (.dK kvs) from I.hok a _ ea)
  obtain ⟨o,es,ep,h1,h2,_⟩:=p
  exact PySem.W.kia_one PySem.W.kitx_dict I.kIn ⟨o,h1,h2.1⟩ e (fun z=>nomatch z) h
 | @dT a kvs ea=>
  cases (show u=Value.ref a from rx)
  obtain ⟨_,_,xs,_,o,es,ep,h1,h2,_⟩:=(show bQ X.prog X.w H s.heap a (.dT kvs) from I.hok a _ ea)
  exact PySem.W.kia_one PySem.W.kitx_dict I.kIn ⟨o,h1,h2.1⟩ e (fun z=>nomatch z) h
 | @ins a C dx fs ea cl ha hn htk hm=>
  cases (show u=Value.ref a from rx)
  obtain ⟨mA,O,_⟩:=qp I.hok ea
  obtain ⟨od,J,_⟩:=O.look
  exact PySem.W.kia_one (PySem.W.kitx_own (cl.get _) cl.hd ha hn htk hm) I.kIn J e (fun z=>nomatch z) h
end
open PySem PySem.Spec PyProof.Rows
structure fZ (k:Nat) (A:Around):Prop where
 hd:A.handled=none
 dp:A.depth+3 * k+5 < recursionLimit
 un:A.units+16 * k+200 < cLine
theorem fZ.mono {j k:Nat} {A:Around} (r:fZ k A) (h:j≤k):fZ j A:=⟨r.hd,by have:=r.dp;omega,by have:=r.un;omega⟩
theorem fZ.deeper {k:Nat} {A:Around} (r:fZ (k+1) A) (env:Env):fZ k (A.deeper env):=
 ⟨r.hd,by have:=r.dp;show A.depth+1+3 * k+5 < _;omega,by have:=r.un;show A.units+3+16 * k+200 < _;omega⟩
theorem yE {A:Around} {C:Addr} {us:List Value} {kw:List (Str × Value)}:(A.under (.builtin "type.__call__" ⟨.ref C::us,kw⟩)).depth=A.depth+1:=by
 first | rfl | simp [Around.under,Code.weight,Code.isCreation,Code.isGuard,Code.isCaller,Code.frames,Code.isFrame,guardIds]
theorem yF {A:Around} {C:Addr} {us:List Value} {kw:List (Str × Value)}:(A.under (.builtin "type.__call__" ⟨.ref C::us,kw⟩)).units=A.units+1:=by
 first | rfl | simp [Around.under,Code.cUnits,Code.frames,Code.isFrame]
theorem fZ.make {k:Nat} {A:Around} (r:fZ (k+1) A) (C:Addr) (us:List Value) (kw:List (Str × Value)):fZ k (A.under (.builtin "type.__call__" ⟨.ref C::us,kw⟩)):=
 ⟨r.hd,by have:=r.dp;rw [yE];omega,by have:=r.un;rw [yF];omega⟩
theorem fZ.depth {k:Nat} {A:Around} (r:fZ k A):A.depth < recursionLimit:=by have:=r.dp;omega
theorem fZ.units {k:Nat} {A:Around} (r:fZ k A):A.units+64 < cLine:=by have:=r.un;omega
noncomputable def Ez:TA:=fun _ H Q=>Q [] H
noncomputable def kh (ta:TE) (tr:TA):TA:=fun σ H Q=>ta σ H fun x H1=>tr σ H1 fun xs H2=>Q (x::xs) H2
section
variable {X:Cx} {e:Expr} {es:List Expr} {te:TE} {t:TA} {pos:Pos}
theorem ao:PA X [] Ez:=fun _ _ _ _ H Q I h=>Calls.spliced_nil ⟨[],H,I,.nil,h⟩
theorem aa (ha:PE X e te) (hr:PA X es t) (hs:starEach (e::es) X.env=(false,eval e X.env)::starEach es X.env:=by rfl):PA X (e::es) (kh te t):=by
 intro pos pins s σ H Q I h
 rw [hs]
 show wpAny _ _ (spliced ((false,eval e X.env)::backTo pos (starEach es X.env))) _ _ s
 refine Calls.spliced_cons (thn (ha pins s σ H _ I h) fun u s1 ⟨x,H1,I1,r1,q1⟩=>?_)
 exact thn (hr pos pins s1 σ H1 _ I1 q1) fun us s2 ⟨xs,H2,I2,r2,q2⟩=>⟨x::xs,H2,I2,.cons r1 r2,q2⟩
noncomputable def J7 (t:TA):TE:=fun σ H Q=>t σ H fun xs H1=>xs.length≤sizeLine∧∀p,H1 p=none→Q (.ref p) (upd H1 p (.tup xs))
noncomputable def N7 (t:TA):TE:=fun σ H Q=>t σ H fun xs H1=>xs.length≤sizeLine∧∀p,H1 p=none→Q (.ref p) (upd H1 p (.lst xs))
theorem bN {x1} (h:PA X es t):PE X (.Tuple es x1 pos) (J7 t):=by
 intro pins s σ H Q I hq
 refine wpAny_Tuple_spliced (thn (h pos pins s σ H _ I hq) fun us s1 ⟨xs,H1,I1,r,z,q⟩=>⟨by rw [←r.length];exact z,?_⟩)
 have hf:H1 s1.heap.objs.size=none:=I1.hok.fresh (Nat.le_refl _)
 refine ⟨.ref s1.heap.objs.size,upd H1 s1.heap.objs.size (.tup xs),I1.laid (t':=s1.toks) (fun b u e=>Heap.get?_push_of_some _ e) (Nat.le_refl _) ?_,rfl,q _ hf⟩
 exact ⟨z,us,r,⟨_,Heap.get?_push_size _ rfl,rfl,_,rfl⟩⟩
theorem cj (h:PA X es t):PE X (.List es pos) (N7 t):=by
 intro pins s σ H Q I hq
 refine wpAny_List_spliced (thn (h pos pins s σ H _ I hq) fun us s1 ⟨xs,H1,I1,r,z,q⟩=>⟨by rw [←r.length];exact z,?_⟩)
 have hf:H1 s1.heap.objs.size=none:=I1.hok.fresh (Nat.le_refl _)
 refine ⟨.ref s1.heap.objs.size,upd H1 s1.heap.objs.size (.lst xs),I1.laid (t':=s1.toks) (fun b u e=>Heap.get?_push_of_some _ e) (Nat.le_refl _) ?_,rfl,q _ hf⟩
 exact ⟨z,us,0,r,Heap.get?_push_size _ rfl⟩
end
noncomputable abbrev Sp:=List V→Hp→VK→XK→Prop
noncomputable abbrev CXT:=List Env→Hp→Shared→XK→Value→Shared→Prop
structure yG (P:Program) (w:World) (K:PySem.W.Frag) (mg:Str→Option Value) (base:Heap) (A:Around) (outer:List Env) (s:Shared) (H:Hp):Prop where
 frames:A.frames=some outer
 mod:Mod K mg base
 bs:∀b o,base.get? b=some o→s.heap.get? b=some o∧H b=none
 bsz:base.objs.size≤s.heap.objs.size
 funs:s.heap.FunFrames base outer
 frf:∀b∈frs outer,H b=none
 hok:HOk P w H s.heap
 bare:AllBare s.gens
noncomputable def CE (outer:List Env) (P:Program) (w:World) (H:Hp) (s:Shared) (Q:VK) (u:Value) (s':Shared):Prop:=
 ∃v H',s'.os=s.os∧AllBare s'.gens∧Un (frs outer) [] H H' s.heap s'.heap∧HOk P w H' s'.heap∧RelV v u∧Q v H'
noncomputable def CR (CX:CXT) (outer:List Env) (P:Program) (w:World) (H:Hp) (s:Shared) (Q:VK) (E:XK) (r:Result) (s':Shared):Prop:=
 match r with
 | .ok (.ret u)=>CE outer P w H s Q u s'
 | .ok _=>False
 | .error e=>CX outer H s E e s'
structure aY (P:Program) (w:World) (K:PySem.W.Frag) (mg:Str→Option Value) (base:Heap) (CX:CXT) (k:Nat) (f:Addr) (fd:FuncData) (ps:List Str) (sp:Sp):Prop where
 len:∀vs H Q E,sp vs H Q E→vs.length=ps.length
 run:∀(A:Around) (outer:List Env) (s:Shared) (H:Hp) (args:Args) (us:List Value) (vs:List V) (Q:VK) (E:XK),fZ k A→yG P w K mg base A outer s H→BindsTo s fd args (ps.zip us)→Vals vs us→sp vs H Q E→
  codeAny (model P w) A (.call (.ref f) args) (CR CX outer P w H s Q E) s
theorem yG.make {P:Program} {w:World} {K:PySem.W.Frag} {mg:Str→Option Value} {base:Heap} {A:Around} {outer:List Env} {s:Shared} {H:Hp} (e:yG P w K mg base A outer s H) (C:Addr) (us:List Value) (kw:List (Str × Value)):
  yG P w K mg base (A.under (.builtin "type.__call__" ⟨.ref C::us,kw⟩)) outer s H:=⟨by first | exact e.frames | (simpa [Around.under,Code.envs,Code.isFrame,pushEnvs] using e.frames),e.mod,e.bs,e.bsz,e.funs,e.frf,e.hok,e.bare⟩
section
variable {X:Cx} {pins:List (Addr × Obj)} {σ:St} {H:Hp} {s s':Shared}
theorem Inv.env0 (I:Inv X pins σ H s):yG X.prog X.w X.K X.mg X.base X.A X.stack s H:=
 ⟨I.ok.frames,I.ok.mod,I.bs,Nat.le_trans I.ok.bsz I.sz,I.stack,I.stkFree,I.hok,I.bare⟩
theorem Inv.after {Q:VK} {u:Value} (I:Inv X pins σ H s) (h:CE X.stack X.prog X.w H s Q u s'):EP X pins σ Q u s':=by
 obtain ⟨v,H',os,bare,un,hok,r,q⟩:=h
 obtain ⟨hh,g,d,t,os'⟩:=s'
 obtain rfl:os'=s.os:=os
 exact ⟨v,H',I.call (h':=hh) (g':=g) (d':=d) (t':=t) (ch:=[]) un hok bare (fun b z=>absurd z (by simp)),r,q⟩
end
noncomputable def QL (sp:Sp) (dvs:List V) (E:XK) (t:TA):TE:=fun σ H Q=>t σ H fun vs H1=>sp (vs++dvs) H1 Q E
inductive QM (C:Addr) (m:Str) (x:V) (H1:Hp) (R:Prop):Prop where
 | mk (a:_) (dx:_) (fs:_) (z1:x=.ref a) (z2:H1 a=some (.ins C dx fs)) (z3:fs.lookup m=none) (z4:R)
noncomputable def MP (C:Addr) (m:Str) (sp:Sp) (dvs:List V) (E:XK) (ta:TE) (t:TA):TE:=fun σ H Q=>ta σ H fun x H1=>QM C m x H1 (t σ H1 fun vs H2=>sp (x::(vs++dvs)) H2 Q E)
noncomputable def QR (C:Addr) (sp:Sp) (dvs:List V) (E:XK) (t:TA):TE:=fun σ H Q=>t σ H fun vs H1=>∀x dx,H1 x=none→H1 dx=none→dx≠x→
 sp (.ref x::(vs++dvs)) (upd (upd H1 dx (.own x)) x (.ins C dx [])) (fun v H2=>v=.non∧Q (.ref x) H2) E
noncomputable def Binds (K:PySem.W.Frag) (fd:FuncData) (ps:List Str) (ds:List Value):Prop:=
 ∀(s:Shared) (us:List Value),K.In s.heap→(us++ds).length=ps.length→BindsTo s fd ⟨us,[]⟩ (ps.zip (us++ds))
theorem Binds.all {K:PySem.W.Frag} {fd:FuncData} {ps:List Str} (h:∀us:List Value,us.length=ps.length→bindArgs fd ⟨us,[]⟩=pure (ps.zip us)):Binds K fd ps []:=fun s us _ hl=>by
 rw [List.append_nil] at hl ⊢
 exact .of_eq (h us hl)
noncomputable def jO (CX:CXT) (X:Cx) (E:XK):Prop:=∀(pins:List (Addr × Obj)) (σ:St) (H:Hp) (s:Shared) (e:Value) (s':Shared),Inv X pins σ H s→CX X.stack H s E e s'→X.xe e s'
section
variable {X:Cx} {CX:CXT} {k:Nat} {f C:Addr} {fd:FuncData} {ps:List Str} {sp:Sp} {dvs:List V} {ds:List Value} {E:XK} {x m:Str} {p pos apos:Pos} {e o:Expr} {es:List Expr} {ta:TE} {t:TA}
theorem yH {pins:List (Addr × Obj)} {σ:St} {H:Hp} {s:Shared} {Q:VK} {us:List Value} {vs:List V} (F:aY X.prog X.w X.K X.mg X.base CX k f fd ps sp) (hr:fZ k X.A) (hb:Binds X.K fd ps ds) (hd:Vals dvs ds) (hx:jO CX X E)
  (I:Inv X pins σ H s) (r:Vals vs us) (h:sp (vs++dvs) H Q E):wpAny (model X.prog X.w) X.A (call (.ref f) us) (EP X pins σ Q) X.xe s:=by
 have r2:Vals (vs++dvs) (us++ds):=r.append hd
 have hl:(us++ds).length=ps.length:=by rw [←r2.length];exact F.len _ _ _ _ h
 refine wpAny_call (codeAny_mono (F.run X.A X.stack s H ⟨us,[]⟩ (us++ds) (vs++dvs) Q E hr I.env0 (hb s us I.kIn hl) r2 h) fun r s' hq=>?_)
 cases r with
 | error e=>exact hx pins σ H s e s' I hq
 | ok fl=>
  cases fl with
  | ret u=>exact I.after hq
  | next=>exact False.elim hq
  | brk=>exact False.elim hq
  | cont=>exact False.elim hq
theorem aZ (F:aY X.prog X.w X.K X.mg X.base CX k f fd ps sp) (hr:fZ k X.A) (hg:Gl X x) (hm:X.mg x=some (.ref f)) (hk:PySem.W.keepIn X.K (.ref f)=true) (hb:Binds X.K fd ps ds) (hd:Vals dvs ds) (hx:jO CX X E)
  (ha:PA X (e::es) t) (hdb:(x==("__debug__":Str))=false:=by decide) (he:starEach (e::es) X.env=(false,eval e X.env)::starEach es X.env:=by rfl) (hpl:(backTo pos (starEach es X.env)).any (·.1)=false:=by rfl):
  PE X (.Call (.Name x p) (e::es) [] pos) (QL sp dvs E t):=by
 intro pins s σ H Q I h
 refine wpAny_Call_Name_kw (jh I hg hm ?_ hdb)
 refine PySem.W.callWith_K (h₀:=X.base) I.ok.mod.kin hk (thn (ha pos pins s σ H _ I h) fun us s1 ⟨vs,H1,I1,r,q⟩=>⟨I1.kIn,?_⟩) he hpl
 exact yH F hr hb hd hx I1 r q
theorem gG {pl:Sem Bool} (he:PE X o ta) (c:Cls X.K C) (hm:Meth X.K C m f) (F:aY X.prog X.w X.K X.mg X.base CX k f fd ps sp) (hr:fZ k X.A) (hb:Binds X.K fd ps ds) (hd:Vals dvs ds) (hx:jO CX X E) (ha:PA X (e::es) t)
  (hst:starEach (e::es) X.env=(false,eval e X.env)::starEach es X.env:=by rfl) (hpl:(backTo pos (starEach es X.env)).any (·.1)=false:=by rfl)
  (ht:eval (.Call (.Attribute o m apos) (e::es) [] pos) X.env=(do
   let ov ←eval o X.env
   standAt apos.atName
   let (f,first) ←holding [ov] (getMethod ov m pl)
   callWith pos f first (backTo pos (starEach (e::es) X.env)) (backToKw pos (keywordEach [] X.env))):=by rfl):
  PE X (.Call (.Attribute o m apos) (e::es) [] pos) (MP C m sp dvs E ta t):=by
 intro pins s σ H Q I h
 refine PySem.W.methodCall_KW (pl:=pl) (thn (he pins s σ H _ I h) fun u s1 ⟨x,H1,I1,rx,a,dx,fs,ex,ea,l,q⟩=>?_) ht
 subst ex
 obtain rfl:u=Value.ref a:=rx
 refine mZ I1 ea c hm l ?_
 refine PySem.W.callWith_K (first:=[.ref a]) (h₀:=X.base) I.ok.mod.kin hm.kp (thn (ha pos pins s1 σ H1 _ I1 q) fun us s2 ⟨vs,H2,I2,r,q2⟩=>⟨I2.kIn,?_⟩) hst hpl
 exact yH (us:=.ref a::us) (vs:=.ref a::vs) F hr hb hd hx I2 (.cons rfl r) q2
theorem EY {pl:Sem Bool} (he:PE X o ta) (c:Cls X.K C) (hm:Meth X.K C m f) (F:aY X.prog X.w X.K X.mg X.base CX k f fd ps sp) (hr:fZ k X.A) (hb:Binds X.K fd ps ds) (hd:Vals dvs ds) (hx:jO CX X E)
  (ht:eval (.Call (.Attribute o m apos) [] [] pos) X.env=(do
   let ov ←eval o X.env
   standAt apos.atName
   let (f,first) ←holding [ov] (getMethod ov m pl)
   callWith pos f first (backTo pos (starEach [] X.env)) (backToKw pos (keywordEach [] X.env))):=by rfl):
  PE X (.Call (.Attribute o m apos) [] [] pos) (MP C m sp dvs E ta Ez):=by
 intro pins s σ H Q I h
 refine PySem.W.methodCall_KW (pl:=pl) (thn (he pins s σ H _ I h) fun u s1 ⟨x,H1,I1,rx,a,dx,fs,ex,ea,l,q⟩=>?_) ht
 subst ex
 obtain rfl:u=Value.ref a:=rx
 refine mZ I1 ea c hm l ?_
 exact PySem.W.callWith_K0 (first:=[.ref a]) I1.kIn hm.kp (yH (us:=[.ref a]) (vs:=[.ref a]) F hr hb hd hx I1 (.cons rfl .nil) q)
structure Mk (K:PySem.W.Frag) (C f:Addr):Prop where
 makes:PySem.W.makesIn K C=true
 init:PySem.W.findIn K (.ref C) "__init__"=some (some (.ref f))
 fn:PySem.W.isFn K (.ref f)=true
 kp:PySem.W.keepIn K (.ref C)=true
theorem Fb {pins:List (Addr × Obj)} {σ:St} {H:Hp} {s:Shared} {Q:VK} {us:List Value} {vs:List V} (M:Mk X.K C f) (F:aY X.prog X.w X.K X.mg X.base CX k f fd ps sp) (hr:fZ (k+1) X.A) (hb:Binds X.K fd ps ds) (hd:Vals dvs ds)
  (hx:jO CX X E) (I:Inv X pins σ H s) (r:Vals vs us)
  (h:∀x dx,H x=none→H dx=none→dx≠x→sp (.ref x::(vs++dvs)) (upd (upd H dx (.own x)) x (.ins C dx [])) (fun v H2=>v=.non∧Q (.ref x) H2) E):
  wpAny (model X.prog X.w) X.A (call (.ref C) us) (EP X pins σ Q) X.xe s:=by
 have hq:=h (s.heap.objs.size+1) s.heap.objs.size (I.hok.fresh (Nat.le_succ _)) (I.hok.fresh (Nat.le_refl _)) (Nat.ne_of_lt (Nat.lt_succ_self _))
 have I2:=Inv.made (C:=C) I
 have r2:Vals (V.ref (s.heap.objs.size+1)::(vs++dvs)) (Value.ref (s.heap.objs.size+1)::(us++ds)):=.cons rfl (r.append hd)
 have hl:(Value.ref (s.heap.objs.size+1)::us++ds).length=ps.length:=by
  have e:=r2.length
  rw [F.len _ _ _ _ hq] at e
  exact e.symm
 refine wpAny_call (Ey (f:=f) I.kIn M.makes M.init (beq_iff_eq.mp M.fn) (codeAny_mono (F.run _ X.stack _ _ ⟨Value.ref (s.heap.objs.size+1)::us,[]⟩ (Value.ref (s.heap.objs.size+1)::(us++ds)) _ _ E (hr.make C us [])
  (I2.env0.make C us []) (hb _ (Value.ref (s.heap.objs.size+1)::us) I2.kIn hl) r2 hq) fun r s' hq'=>?_))
 cases r with
 | error e=>exact hx pins σ _ _ e s' I2 hq'
 | ok fl=>
  cases fl with
  | ret u=>
   obtain ⟨v,H',I3,rv,ev,q3⟩:=I2.after hq'
   subst ev
   exact ⟨rv,⟨V.ref (s.heap.objs.size+1),H',I3,rfl,q3⟩⟩
  | next=>exact False.elim hq'
  | brk=>exact False.elim hq'
  | cont=>exact False.elim hq'
theorem nO (M:Mk X.K C f) (F:aY X.prog X.w X.K X.mg X.base CX k f fd ps sp) (hr:fZ (k+1) X.A) (hg:Gl X x) (hm:X.mg x=some (.ref C)) (hb:Binds X.K fd ps ds) (hd:Vals dvs ds) (hx:jO CX X E)
  (ha:PA X (e::es) t) (hdb:(x==("__debug__":Str))=false:=by decide) (he:starEach (e::es) X.env=(false,eval e X.env)::starEach es X.env:=by rfl) (hpl:(backTo pos (starEach es X.env)).any (·.1)=false:=by rfl):
  PE X (.Call (.Name x p) (e::es) [] pos) (QR C sp dvs E t):=by
 intro pins s σ H Q I h
 refine wpAny_Call_Name_kw (jh I hg hm ?_ hdb)
 refine PySem.W.callWith_K (h₀:=X.base) I.ok.mod.kin M.kp (thn (ha pos pins s σ H _ I h) fun us s1 ⟨vs,H1,I1,r,q⟩=>⟨I1.kIn,?_⟩) he hpl
 exact Fb M F hr hb hd hx I1 r q
end
structure aX (N P:List Str) (sc:Scope):Prop where
 kind:sc.kind=.function
 co:sc.isCoroutine=false
 gen:sc.isGenerator=false
 nd:N.Nodup
 pre:N.take P.length=P
 par:∀x∈P,sc.names.lookup x=some .local∨sc.names.lookup x=some .cell
 nofree:∀y∈sc.names,y.2≠.free
theorem um {kindOf:Str→Option NameKind} {x:Str}:∀{binds:List (Str × Value)} {m:Str→Option Value},(∀v,(x,v)∉binds)→bindL kindOf binds m x=m x
 | [],_,_=>rfl
 | (n,v)::r,m,h=>by
  unfold bindL
  rw [um fun w hw=>h w (List.mem_cons_of_mem _ hw)]
  split
  ·have:x≠n:=by rintro rfl;exact h v List.mem_cons_self
   simp [this]
  ·rfl
theorem uo {kindOf:Str→Option NameKind} {x:Str}:∀{binds:List (Str × Value)} {m:Str→Option Value},(∀v,(x,v)∉binds)→bindC kindOf binds m x=m x
 | [],_,_=>rfl
 | (n,v)::r,m,h=>by
  unfold bindC
  rw [uo fun w hw=>h w (List.mem_cons_of_mem _ hw)]
  split
  ·rfl
  ·have:x≠n:=by rintro rfl;exact h v List.mem_cons_self
   simp [this]
theorem uq {kindOf:Str→Option NameKind} {x:Str} {v:Value}:∀{P:List Str} {vs:List Value} {i:Nat} {m:Str→Option Value},P.Nodup→P[i]?=some x→vs[i]?=some v→kindOf x=some .local→
  bindL kindOf (P.zip vs) m x=some v
 | [],_,_,_,_,h,_,_=>by simp at h
 | _::_,[],_,_,_,_,h,_=>by simp at h
 | p::P,w::vs,0,m,nd,h1,h2,hk=>by
  simp at h1 h2;subst h1;subst h2
  show bindL kindOf ((p,w)::P.zip vs) m p=_
  unfold bindL
  rw [um fun v hv=>(List.nodup_cons.mp nd).1 (List.of_mem_zip hv).1,if_pos hk]
  simp
 | p::P,w::vs,i+1,m,nd,h1,h2,hk=>by
  show bindL kindOf ((p,w)::P.zip vs) m x=_
  unfold bindL
  exact uq (i:=i) (List.nodup_cons.mp nd).2 (by simpa using h1) (by simpa using h2) hk
theorem ur {kindOf:Str→Option NameKind} {x:Str} {v:Value}:∀{P:List Str} {vs:List Value} {i:Nat} {m:Str→Option Value},P.Nodup→P[i]?=some x→vs[i]?=some v→kindOf x≠some .local→
  bindC kindOf (P.zip vs) m x=some v
 | [],_,_,_,_,h,_,_=>by simp at h
 | _::_,[],_,_,_,_,h,_=>by simp at h
 | p::P,w::vs,0,m,nd,h1,h2,hk=>by
  simp at h1 h2;subst h1;subst h2
  show bindC kindOf ((p,w)::P.zip vs) m p=_
  unfold bindC
  rw [uo fun v hv=>(List.nodup_cons.mp nd).1 (List.of_mem_zip hv).1,if_neg hk]
  simp
 | p::P,w::vs,i+1,m,nd,h1,h2,hk=>by
  show bindC kindOf ((p,w)::P.zip vs) m x=_
  unfold bindC
  exact ur (i:=i) (List.nodup_cons.mp nd).2 (by simpa using h1) (by simpa using h2) hk
noncomputable def start (N:List Str) (vs:List V):St:=vs.map some++List.replicate (N.length - vs.length) none
noncomputable def nP (CX:CXT) (P:Program) (w:World) (K:PySem.W.Frag) (mg:Str→Option Value) (base:Heap) (N:List Str) (qual:Str) (scope:Scope) (f:Addr) (cd:Value) (A:Around) (outer:List Env) (s:Shared) (H:Hp) (E:XK):Cx where
 prog:=P
 w:=w
 K:=K
 mg:=mg
 base:=base
 A:=A.deeper (envOfC qual scope s.heap.objs.size f cd)
 N:=N
 s₀:=s
 H₀:=H
 env:=envOfC qual scope s.heap.objs.size f cd
 outer:=outer
 stack:=envOfC qual scope s.heap.objs.size f cd::outer
 ex:=[]
 calm:=true
 fn:=fun _=>true
 pn:=[]
 xe:=fun e s'=>wpAny (model P w) (A.deeper (envOfC qual scope s.heap.objs.size f cd)) (leaving (envOfC qual scope s.heap.objs.size f cd) e) (fun _ s''=>CX outer H s E e s'') (fun e' s''=>CX outer H s E e' s'') s'
theorem wD {sc:Scope} {n:Nat} {x:Str} (h:sc.names.lookup x=some .cell):∃c,(cellsFrom n sc.names []).lookup x=some c:=by
 have q:=PySem.W.cellsFrom_some sc.names n [] (.inl h)
 exact Option.isSome_iff_exists.mp q
theorem Cq {CX:CXT} {P:Program} {w:World} {K:PySem.W.Frag} {mg:Str→Option Value} {base:Heap} {N ps:List Str} {qual:Str} {scope:Scope} {f:Addr} {cd:Value} {A:Around} {outer:List Env} {s s1:Shared} {H:Hp} {E:XK} {us:List Value} {vs:List V}
  (S:aX N ps scope) (hd:A.handled=none) (e0:yG P w K mg base A outer s H) (hl:vs.length=ps.length) (r:Vals vs us)
  (x:InCallC s s.heap.objs.size (bindL (envOfC qual scope s.heap.objs.size f cd).kindOf (ps.zip us) fun _=>none) (cellsFrom (s.heap.objs.size+1) scope.names []) (bindC (envOfC qual scope s.heap.objs.size f cd).kindOf (ps.zip us) fun _=>none) s1):
  Inv (nP CX P w K mg base N qual scope f cd A outer s H E) [] (start N vs) H s1:=by
 have hpl:ps.length≤N.length:=by have:=congrArg List.length S.pre;rw [List.length_take] at this;omega
 obtain ⟨h1,tk,rfl,hk⟩:=x.done
 have noA:∀b:Addr,b∉(nP CX P w K mg base N qual scope f cd A outer s H E).ex:=fun b z=>absurd (show b∈([]:List Addr) from z) (by simp)
 refine ⟨⟨e0.mod,S.kind,rfl,rfl,Nat.le_refl _,fun y z c h1 h2=>?_,fun y hy=>?_,fun y c _ h=>?_,fun _=>hd,Around.frames_deeper e0.frames,.inr ⟨rfl,rfl⟩,fun b z=>absurd z (noA b),e0.bs,e0.bsz,fun b _ _=>noA b,fun b z=>absurd z (noA b),e0.funs,e0.frf⟩,
  rfl,e0.bare,Un.kept hk,⟨_,x.toInCall.ns,fun i y v h1 h2 h3=>?_⟩,fun y c h=>⟨_,x.cell y c h⟩,e0.hok.fresh (Nat.le_refl _),fun y c h=>?_,fun p hp=>absurd (show p∈([]:List (Addr × Obj)) from hp) (by simp),e0.hok.kept hk,?_⟩
 ·exact name_of_addr x.apart (PySem.mem_of_lookup h1) (PySem.mem_of_lookup h2)
 ·have hy:scope.names.lookup y=some .cell∨scope.names.lookup y=some .free:=hy
  rcases hy with hy | hy
  ·exact wD hy
  ·exact absurd rfl (S.nofree _ (PySem.mem_of_lookup hy))
 ·exact Nat.le_of_lt (x.above y c (PySem.mem_of_lookup h))
 ·have hi:i < vs.length:=by
   unfold start at h2
   by_cases hi:i < vs.length
   ·exact hi
   ·rw [List.getElem?_append_right (by simpa using hi)] at h2
    rw [List.getElem?_replicate] at h2
    split at h2 <;> cases h2
  have ha:vs[i]?=some v:=by
   unfold start at h2
   rw [List.getElem?_append_left (by simpa using hi),List.getElem?_map] at h2
   cases e:vs[i]? with
   | none=>rw [e] at h2;cases h2
   | some a=>rw [e] at h2;cases h2;rfl
  obtain ⟨u,hu,rv⟩:=r.get ha
  have hp:ps[i]?=some y:=by
   rw [←S.pre,List.getElem?_take_of_lt (by omega)];exact h1
  have ndP:ps.Nodup:=by rw [←S.pre];exact S.nd.sublist (List.take_sublist _ _)
  refine ⟨u,rv,?_⟩
  rcases S.par y (List.mem_of_getElem? hp) with k | k
  ·exact .inl ⟨k,uq ndP hp hu k⟩
  ·obtain ⟨c,e⟩:=wD (n:=s.heap.objs.size+1) k
   refine .inr ⟨.inl k,c,e,?_⟩
   have q:=x.cell y c e
   rw [ur ndP hp hu (by show scope.names.lookup y≠_;rw [k];decide)] at q
   exact q
 ·exact e0.hok.fresh (Nat.le_of_lt (x.above y c (PySem.mem_of_lookup h)))
 ·unfold start
  show _=N.length
  rw [List.length_append,List.length_map,List.length_replicate]
  omega
theorem MT {CX:CXT} {P:Program} {w:World} {K:PySem.W.Frag} {mg:Str→Option Value} {base:Heap} {k:Nat} {f:Addr} {name qual:Str} {params:Arguments} {body:List Stmt} {scope:Scope} {dV kV doc pm cdv ct oc:Value} {an od:Option Addr}
  {osl:Array (Option Value)} {N ps:List Str} {sp:Sp} (lk:K.lookup f=some ⟨oc,od,.func (PySem.W.fnOf name qual params body scope dV kV doc pm an cdv ct),osl⟩) (hcd:PySem.W.codeIn K cdv qual=true) (S:aX N ps scope)
  (len:∀vs H Q E,sp vs H Q E→vs.length=ps.length)
  (hbody:∀(A:Around) (outer:List Env) (s:Shared) (H:Hp) (vs:List V) (Q:VK) (E:XK),fZ k (A.deeper (envOfC qual scope s.heap.objs.size f cdv))→sp vs H Q E→
   ∃t,PSs (nP CX P w K mg base N qual scope f cdv A outer s H E) body t∧t {nx:=fun _ H'=>Q .non H',rt:=Q} (start N vs) H):
  aY P w K mg base CX (k+1) f (PySem.W.fnOf name qual params body scope dV kV doc pm an cdv ct) ps sp:=by
 refine ⟨len,fun A outer s H args us vs Q E hr e0 hb r hsp=>?_⟩
 have hl:=len _ _ _ _ hsp
 have KX:K.In s.heap:=e0.mod.kin.keeps fun b o e=>(e0.bs b o e).1
 have lim:s.heap.NoLimit:=e0.mod.nolimit.keeps fun b o e=>(e0.bs b o e).1
 have hkind:∀y∈ps.zip us,scope.names.lookup y.1=some .local∨(scope.names.lookup y.1=some .cell∧((cellsFrom (s.heap.objs.size+1) scope.names []).lookup y.1).isSome=true):=fun ⟨n,v⟩ hy=>by
  rcases S.par n (List.of_mem_zip hy).1 with q | q
  ·exact .inl q
  ·exact .inr ⟨q,PySem.W.cellsFrom_some _ _ _ (.inl q)⟩
 refine codeAny_call_function hr.depth (KX _ _ lk) rfl S.co S.gen rfl (PySem.W.codeRec_of KX hcd) (hb _ _ _ _ ?_)
 refine wpAny_newFunctionEnv_cells S.kind hkind fun env he s1 x=>?_
 subst he
 refine ⟨lim.keeps x.toInCall.keep,codeAny_func ?_⟩
 obtain ⟨t,ht,hq⟩:=hbody A outer s H vs Q E (hr.deeper _) hsp
 have I:Inv (nP CX P w K mg base N qual scope f cdv A outer s H E) [] (start N vs) H s1:=Cq S hr.hd e0 hl r x
 refine wpAny_mono (ht [] s1 (start N vs) H _ I hq) (fun fl s' hs=>?_) fun e s' hs=>hs
 have fin:∀{σ':St} {H':Hp} {v:V} {u:Value},Inv (nP CX P w K mg base N qual scope f cdv A outer s H E) [] σ' H' s'→RelV v u→Q v H'→CE outer P w H s Q u s':=
  fun {σ' H' v u} J rv q=>⟨v,H',J.os,J.bare,J.base,J.hok,rv,q⟩
 cases fl with
 | ret u=>
  obtain ⟨v,σ',H',J,rv,q⟩:=hs
  exact fin J rv q
 | next=>
  obtain ⟨σ',H',J,q⟩:=hs
  exact fin (v:=V.non) (u:=Value.none) J rfl q
 | brk=>
  obtain ⟨_,_,_,q⟩:=hs
  exact False.elim q
 | cont=>
  obtain ⟨_,_,_,q⟩:=hs
  exact False.elim q
open PySem PySem.Spec PyProof.Rows
section
variable {X:Cx} {x:Str} {p pos:Pos} {e:Expr} {es:List Expr} {t:TA} {id T:String} {r:List V→Hp→VK→Prop}
noncomputable def tCB (r:List V→Hp→VK→Prop) (t:TA):TE:=fun σ H Q=>t σ H fun vs H1=>r vs H1 Q
theorem aG (hc:fK X (.builtin id) r) (hg:Gl X x) (hm:X.mg x=none) (hv:bootBuiltins x=some (.builtin id)) (ha:PA X (e::es) t) (hn:x≠"__name__":=by decide) (hdb:(x==("__debug__":Str))=false:=by decide)
  (he:starEach (e::es) X.env=(false,eval e X.env)::starEach es X.env:=by rfl) (hpl:(backTo pos (starEach es X.env)).any (·.1)=false:=by rfl):PE X (.Call (.Name x p) (e::es) [] pos) (tCB r t):=by
 intro pins s σ H Q I h
 refine wpAny_Call_Name_kw (kO I hg hm hv ?_ hn hdb)
 exact PyProof.Rows.callWith_builtin1 (thn (ha pos pins s σ H _ I h) fun us s1 ⟨vs,H1,I1,r1,q1⟩=>hc pins s1 σ H1 vs us Q I1 r1 q1) he hpl
theorem gm (hc:fK X (.type T) r) (hg:Gl X x) (hm:X.mg x=none) (hv:bootBuiltins x=some (.type T)) (ha:PA X (e::es) t) (hn:x≠"__name__":=by decide) (hdb:(x==("__debug__":Str))=false:=by decide)
  (he:starEach (e::es) X.env=(false,eval e X.env)::starEach es X.env:=by rfl) (hpl:(backTo pos (starEach es X.env)).any (·.1)=false:=by rfl):PE X (.Call (.Name x p) (e::es) [] pos) (tCB r t):=by
 intro pins s σ H Q I h
 refine wpAny_Call_Name_kw (kO I hg hm hv ?_ hn hdb)
 exact PyProof.Rows.callWith_type1 (thn (ha pos pins s σ H _ I h) fun us s1 ⟨vs,H1,I1,r1,q1⟩=>hc pins s1 σ H1 vs us Q I1 r1 q1) he hpl
end
end L2
namespace HT
open PySem PyProof.Rows
noncomputable def lexLt:List Int→List Int→Bool
 | [],[]=>false
 | [],_::_=>true
 | _::_,[]=>false
 | x::xs,y::ys=>if x=y then lexLt xs ys else decide (x < y)
section
open PySem.SeqAt
open PySem.AutoSeq1 (wpAny_loadPart')
open PySem.MeetsSeq PySem.MeetsSeq2 PySem.MeetsSeq3
end
section
variable {prog:Program} {w:World} {A:Around} {E:Value→Shared→Prop} {s:Shared}
noncomputable def sIx (n d:Nat):Option Int→Nat
 | none=>d
 | some v=>if v < 0 then (v+(n:Int)).toNat else min v.toNat n
theorem sIx_none (n d:Nat):sIx n d none=d:=rfl
theorem sIx_nat (n d k:Nat):sIx n d (some (k:Int))=min k n:=by
 show (if (k:Int) < 0 then ((k:Int)+(n:Int)).toNat else min (k:Int).toNat n)=min k n
 rw [if_neg (by omega),Int.toNat_natCast]
theorem N8 (n d:Nat) (hd:d≤n) (o:Option Int):sIx n d o≤n:=by
 cases o with
 | none=>exact hd
 | some v=>
  show (if v < 0 then (v+(n:Int)).toNat else min v.toNat n)≤n
  by_cases hv:v < 0
  ·rw [if_pos hv];omega
  ·rw [if_neg hv];exact Nat.min_le_right _ _
theorem Aa (v:Int) (n d:Nat):(if v < 0 then max (v+(n:Int)) 0 else min v (n:Int))=((sIx n d (some v):Nat):Int):=by
 show (if v < 0 then max (v+(n:Int)) 0 else min v (n:Int))=(((if v < 0 then (v+(n:Int)).toNat else min v.toNat n):Nat):Int)
 by_cases hv:v < 0
 ·simp only [if_pos hv];omega
 ·simp only [if_neg hv];omega
theorem yI (lo hi:Option Int) (n:Nat):Builtin.Slice.sliceAdjust lo hi 1 (n:Int)=(((sIx n 0 lo:Nat):Int),((sIx n n hi:Nat):Int)):=by
 have h1:¬((1:Int) < 0):=by omega
 unfold Builtin.Slice.sliceAdjust
 simp only [h1,if_false]
 refine Prod.ext ?_ ?_
 ·cases lo with
  | none=>rfl
  | some v=>exact Aa v n 0
 ·cases hi with
  | none=>rfl
  | some v=>exact Aa v n n
theorem yJ (i j:Nat):Builtin.Slice.slicePlaces (i:Int) (j:Int) 1=j - i:=by
 unfold Builtin.Slice.slicePlaces
 have h1:(1:Int) > 0:=by omega
 simp only [h1,if_true,Int.ediv_one]
 split <;> omega
theorem qQ {v:Value} {o:Option Int} {Q:Option Int→Shared→Prop} (p:IsPart v o) (h:Q o s):wpAny (model prog w) A (Builtin.Slice.slicePartIndex v) Q E s:=by
 cases p with
 | none=>exact slicePart_none h
 | int i t=>exact slicePart_int h
theorem oX {sl:Addr} {vl vu:Value} {lo hi:Option Int} {n:Nat} {Q:Int × Int × Nat→Shared→Prop} (hs:s.heap.IsSliceOf sl vl vu .none) (pl:IsPart vl lo) (pu:IsPart vu hi)
  (h:Q (((sIx n 0 lo:Nat):Int),1,sIx n n hi - sIx n 0 lo) s):wpAny (model prog w) A (Builtin.Slice.sliceApplied (.ref sl) (pure (n:Int))) Q E s:=by
 obtain ⟨os,hos,hcs,hds⟩:=id hs
 unfold Builtin.Slice.sliceApplied Builtin.Slice.sliceFields
 refine wpAny_bind (wpAny_bind (wpAny_field hos hds (x:=vl) rfl (wpAny_bind (wpAny_field hos hds (x:=vu) rfl (wpAny_bind (wpAny_field hos hds (x:=.none) rfl (wpAny_pure ?_)))))))
 refine wpAny_bind (slicePart_none ?_)
 show wpAny _ _ (if ((1:Int)==0)=true then _ else _) _ _ s
 rw [if_neg (by decide)]
 refine wpAny_bind (qQ pl (wpAny_bind (qQ pu (wpAny_bind (wpAny_pure ?_)))))
 show wpAny _ _ (match Builtin.Slice.sliceAdjust lo hi 1 (n:Int) with | (lo,hi)=>pure (lo,(1:Int),Builtin.Slice.slicePlaces lo hi 1)) _ _ s
 rw [yI lo hi n]
 show wpAny _ _ (pure (((sIx n 0 lo:Nat):Int),(1:Int),Builtin.Slice.slicePlaces ((sIx n 0 lo:Nat):Int) ((sIx n n hi:Nat):Int) 1)) _ _ s
 rw [yJ]
 exact wpAny_pure h
theorem Fd (xs:Array Value) (i k:Nat):((List.range k).filterMap fun (m:Nat)=>xs[((i:Int)+(m:Int) * 1).toNat]?).toArray=((xs.toList.drop i).take k).toArray:=by
 have e:(fun (m:Nat)=>xs[((i:Int)+(m:Int) * 1).toNat]?)=fun m=>xs[i+m]?:=by
  funext m
  have:((i:Int)+(m:Int) * 1).toNat=i+m:=by omega
  rw [this]
 rw [e]
 have:=pick_run xs i k
 rw [List.filterMap_map] at this
 have e2:((fun x=>xs[x]?)∘fun x=>i+x)=fun m=>xs[i+m]?:=rfl
 rw [e2] at this
 rw [this]
theorem getItem_tuple_cut {t sl:Addr} {items:Array Value} {vl vu:Value} {lo hi:Option Int} {Q:Value→Shared→Prop} (ht:IsTup s.heap t items) (hs:s.heap.IsSliceOf sl vl vu .none) (pl:IsPart vl lo) (pu:IsPart vu hi)
  (hw:¬(sIx items.size 0 lo=0∧sIx items.size items.size hi=items.size))
  (h:Q (.ref s.heap.objs.size) {s with heap:=s.heap.push {cls:=.type "tuple",data:=.seq ((items.toList.drop (sIx items.size 0 lo)).take (sIx items.size items.size hi - sIx items.size 0 lo)).toArray}})
  (hsz:items.size≤sizeLine):wpAny (model prog w) A (getItem (.ref t) (.ref sl)) Q E s:=by
 have htake:sizeOk (.seq ((items.toList.drop (sIx items.size 0 lo)).take (sIx items.size items.size hi - sIx items.size 0 lo)).toArray):=by
  show ((items.toList.drop (sIx items.size 0 lo)).take (sIx items.size items.size hi - sIx items.size 0 lo)).toArray.size≤sizeLine
  rw [List.size_toArray,List.length_take,List.length_drop,Array.length_toList]
  omega
 have hj:sIx items.size items.size hi≤items.size:=N8 _ _ (Nat.le_refl _) hi
 obtain ⟨os,hos,hcs,hds⟩:=id hs
 have hTs:s.TypeIs (.ref sl) "slice":=⟨os,hos,hcs⟩
 unfold getItem
 try with_reducible refine wpAny_holding ?_
 first | refine wpAny_bind (wpAny_pure ?_) | skip
 refine wpAny_bind (wpAny_sequenceKey ht.typeIs (by decide) ?_)
 refine wpAny_bind (wpAny_callSpecial?_slot (name:=Str.ofString "__getitem__") ht.typeIs PyProof.Rows.slot_tuple_getitem
  (wpAny_call_entry PyProof.Rows.slot_tuple_getitem ht.typeIs entry_tuple_getitem ?_ (args_tuple_getitem _ _)))
 show wpAny _ _ (Builtin.Tuple.tupleItemsOf (.ref t) >>=_) _ _ s
 refine wpAny_bind (tupleItemsOf_ ht ?_)
 refine wpAny_bind (wpAny_typeOf hTs ?_)
 rw [if_pos (by decide)]
 refine wpAny_bind (oX hs pl pu ?_)
 have hno:¬((((sIx items.size 0 lo:Nat):Int)==0 && (1:Int)==1 && (sIx items.size items.size hi - sIx items.size 0 lo)==items.size)=true):=by
  intro q
  rw [Bool.and_eq_true,Bool.and_eq_true] at q
  have q1:((sIx items.size 0 lo:Nat):Int)=0:=eq_of_beq q.1.1
  have q2:sIx items.size items.size hi - sIx items.size 0 lo=items.size:=eq_of_beq q.2
  exact hw ⟨by omega,by omega⟩
 show wpAny _ _ (if (((sIx items.size 0 lo:Nat):Int)==0 && (1:Int)==1 && (sIx items.size items.size hi - sIx items.size 0 lo)==items.size)=true then _ else _) _ _ s
 rw [if_neg hno,Fd]
 first
  | exact wpAny_bind (m:=Builtin.Tuple.tupleExact _) (wpAny_newObj_type (wpAny_pure ⟨_,rfl,wpAny_pure h⟩) htake)
  | exact wpAny_bind (m:=Builtin.Tuple.tupleExact _) (wpAny_newObj_type (wpAny_bind (wpAny_pure (wpAny_pure ⟨_,rfl,wpAny_pure h⟩))) htake)
  | exact wpAny_bind (wpAny_bind (m:=Builtin.Tuple.tupleExact _) (wpAny_newObj_type (wpAny_pure (wpAny_pure ⟨_,rfl,wpAny_pure h⟩)) htake))
  | exact wpAny_bind (wpAny_bind (m:=Builtin.Tuple.tupleExact _) (wpAny_newObj_type (wpAny_pure ⟨_,rfl,wpAny_pure h⟩) htake))
end
end HT
namespace L2
open PySem PySem.Spec PyProof.Rows
noncomputable abbrev TO:=St→Hp→(Option Int→Hp→Prop)→Prop
noncomputable def PO (X:Cx) (e:Option Expr) (t:TO):Prop:=
 ∀(pins:List (Addr × Obj)) (s:Shared) (σ:St) (H:Hp) (Q:Option Int→Hp→Prop),Inv X pins σ H s→t σ H Q→
  wpAny (model X.prog X.w) X.A (evalPart e X.env) (fun u s'=>∃o H',Inv X pins σ H' s'∧IsPart u o∧Q o H') X.xe s
noncomputable def J8:TO:=fun _ H Q=>Q none H
noncomputable def QS (t:TE):TO:=fun σ H Q=>t σ H fun x H1=>∃i,x=.int i∧Q (some i) H1
section
variable {X:Cx} {e:Expr} {te:TE} {lo hi:Option Expr} {tl th:TO} {pos p2:Pos}
theorem my:PO X none J8:=by
 intro pins s σ H Q I h
 rw [evalPart_none]
 exact wpAny_pure ⟨none,H,I,.none,h⟩
theorem iy (h:PE X e te):PO X (some e) (QS te):=by
 intro pins s σ H Q I hw
 rw [evalPart_some]
 refine thn (h pins s σ H _ I hw) fun u s1 ⟨x,H1,I1,r1,q1⟩=>?_
 obtain ⟨i,rfl,q⟩:=q1
 obtain ⟨t,rfl⟩:=r1
 exact ⟨some i,H1,I1,.int i t,q⟩
noncomputable def SlR (X:Cx) (r:V→Option Int→Option Int→Hp→VK→Prop):Prop:=
 ∀(pins:List (Addr × Obj)) (s:Shared) (σ:St) (H:Hp) (x:V) (v vl vu:Value) (lo hi:Option Int) (sl:Addr) (Q:VK),Inv X pins σ H s→RelV x v→s.heap.IsSliceOf sl vl vu .none→IsPart vl lo→IsPart vu hi→r x lo hi H Q→
  ∃T id,typeLookup (.type T) "__getitem__"=pure (some (.builtin id))∧s.TypeIs v T∧wpAny (model X.prog X.w) X.A (getItem v (.ref sl)) (EP X pins σ Q) X.xe s
noncomputable def tSl (r:V→Option Int→Option Int→Hp→VK→Prop) (te:TE) (tl th:TO):TE:=fun σ H Q=>te σ H fun x H1=>tl σ H1 fun l H2=>th σ H2 fun u H3=>r x l u H3 Q
theorem jr {r:V→Option Int→Option Int→Hp→VK→Prop} (hr:SlR X r) (he:PE X e te) (hl:PO X lo tl) (hu:PO X hi th):PE X (.Subscript e (.Slice lo hi none p2) pos) (tSl r te tl th):=by
 intro pins s σ H Q I h
 refine Subscript_ (thn (he pins s σ H _ I h) fun v s1 ⟨x,H1,I1,r1,q1⟩=>?_)
 refine wpAny_Slice (thn (hl pins s1 σ H1 _ I1 q1) fun vl s2 ⟨l,H2,I2,pl,q2⟩=>thn (hu pins s2 σ H2 _ I2 q2) fun vu s3 ⟨u,H3,I3,pu,q3⟩=>?_)
 rw [evalPart_none]
 refine wpAny_pure ?_
 have I4:Inv X pins σ H3 {s3 with heap:=s3.heap.push {cls:=.type "slice",data:=.fields #[vl,vu,.none]}}:=I3.kept (t':=s3.toks) fun b ob q=>Heap.get?_push_of_some _ q
 obtain ⟨T,id,hT,ht,hg⟩:=hr pins {s3 with heap:=s3.heap.push {cls:=.type "slice",data:=.fields #[vl,vu,.none]}} σ H3 x v vl vu l u s3.heap.objs.size Q I4 r1 (Heap.IsSliceOf.new ..) pl pu q3
 show wpAny (model X.prog X.w) X.A (subscriptTail e (.Slice lo hi none p2) v (.ref s3.heap.objs.size)) (EP X pins σ Q) X.xe {s3 with heap:=s3.heap.push {cls:=.type "slice",data:=.fields #[vl,vu,.none]}}
 exact tail_any (ops:=[.ref s3.heap.objs.size,v]) ht hT hg (by with_unfolding_all rfl)
noncomputable def iJ (xs:List V) (lo hi:Option Int):List V:=(xs.drop (HT.sIx xs.length 0 lo)).take (HT.sIx xs.length xs.length hi - HT.sIx xs.length 0 lo)
theorem pQ (xs:List V) (lo hi:Option Int):(iJ xs lo hi).length≤xs.length:=by
 unfold iJ
 rw [List.length_take,List.length_drop]
 omega
inductive QT (K:PySem.W.Frag) (x:V) (lo:(Option Int)) (hi:(Option Int)) (H:Hp) (Q:VK):Prop where
 | mk (a:_) (xs:_) (z1:x=.ref a) (z2:SqT K H a xs) (z3:¬(HT.sIx xs.length 0 lo=0∧HT.sIx xs.length xs.length hi=xs.length)) (z4:∀p,H p=none→Q (.ref p) (upd H p (.tup (iJ xs lo hi))))
noncomputable def TY (K:PySem.W.Frag):V→Option Int→Option Int→Hp→VK→Prop:=fun x lo hi H Q=>QT K x lo hi H Q
theorem Fe:SlR X (TY X.K):=by
 intro pins s σ H x v vl vu lo hi sl Q I rx hs pl pu h
 obtain ⟨a,xs,rfl,hx,hw,q⟩:=h
 cases rx
 obtain ⟨its,r,ht,hz⟩:=I.tuple hx
 have hlen:its.toArray.size=xs.length:=by rw [List.size_toArray];exact r.length.symm
 refine ⟨"tuple",_,PyProof.Rows.slot_tuple_getitem.lookup,ht.typeIs,?_⟩
 refine HT.getItem_tuple_cut ht hs pl pu (by rw [hlen];exact hw) ?_ (by rw [hlen];exact hz)
 rw [hlen]
 refine ⟨.ref s.heap.objs.size,_,I.laid (t':=s.toks) (o:=.tup (iJ xs lo hi)) (fun b ob q=>Heap.get?_push_of_some _ q) (Nat.le_refl _) ?_,rfl,q _ (I.hok.fresh (Nat.le_refl _))⟩
 exact ⟨Nat.le_trans (pQ xs lo hi) hz,_,(r.drop (HT.sIx xs.length 0 lo)).take (HT.sIx xs.length xs.length hi - HT.sIx xs.length 0 lo),IsTup.new _ _⟩
end
open PySem PySem.Spec PyProof.Rows
noncomputable def ixN (n:Nat) (i:Int):Option Nat:=if 0≤i then (if i < n then some i.toNat else none) else if -(n:Int)≤i then some (i+n).toNat else none
noncomputable def atI {α:Type} (xs:List α) (i:Int):Option α:=(ixN xs.length i).bind fun j=>xs[j]?
theorem J9 {n:Nat} {i:Int} {j:Nat} (h:ixN n i=some j):seqIndex? i n=some j∧j < n∧-(n:Int)≤i∧i < n:=by
 unfold ixN at h
 by_cases h0:0≤i
 ·rw [if_pos h0] at h
  by_cases h1:i < n
  ·rw [if_pos h1] at h
   have e:i.toNat=j:=Option.some.inj h
   exact ⟨by rw [seqIndex_of h0 h1,e],by omega,by omega,h1⟩
  ·rw [if_neg h1] at h;cases h
 ·rw [if_neg h0] at h
  by_cases h1:-(n:Int)≤i
  ·rw [if_pos h1] at h
   have e:(i+n).toNat=j:=Option.some.inj h
   exact ⟨by rw [seqIndex_neg (by omega) h1,e],by omega,h1,by omega⟩
  ·rw [if_neg h1] at h;cases h
theorem uW {α:Type} {xs:List α} {i:Int} {v:α} (h:atI xs i=some v):∃j,seqIndex? i xs.length=some j∧xs[j]?=some v∧j < xs.length∧-(xs.length:Int)≤i∧i < xs.length:=by
 unfold atI at h
 cases e:ixN xs.length i with
 | none=>rw [e] at h;cases h
 | some j=>
  rw [e] at h
  obtain ⟨h1,h2,h3,h4⟩:=J9 e
  exact ⟨j,h1,h,h2,h3,h4⟩
theorem cu {α:Type} {xs:List α} {j:Nat} {v:α} (h:xs[j]?=some v):atI xs (j:Int)=some v:=by
 have hj:j < xs.length:=(List.getElem?_eq_some_iff.mp h).1
 have e:ixN xs.length (j:Int)=some j:=by
  unfold ixN
  rw [if_pos (by omega),if_pos (by omega)];simp
 unfold atI;rw [e];exact h
noncomputable def Ka (b:Expr):Prop:=∀o i,subscripted b false o i=operate [o,i] (getItem o i)
noncomputable def IxR (X:Cx) (r:R2):Prop:=
 ∀(value slice:Expr) (pins:List (Addr × Obj)) (s:Shared) (σ:St) (H:Hp) (x y:V) (v u:Value) (Q:VK),Inv X pins σ H s→RelV x v→RelV y u→r x y H Q→
  subscripted slice false v u=operate [v,u] (getItem v u)→wpAny (model X.prog X.w) X.A (subscriptTail value slice v u) (EP X pins σ Q) X.xe s
noncomputable def MtR (X:Cx) (id:String) (r:V→List V→Hp→VK→Prop):Prop:=
 ∀(pins:List (Addr × Obj)) (s:Shared) (σ:St) (H:Hp) (x:V) (xs:List V) (v:Value) (us:List Value) (Q:VK),Inv X pins σ H s→RelV x v→Vals xs us→r x xs H Q→
  wpAny (model X.prog X.w) X.A (call (.builtin id) (v::us)) (EP X pins σ Q) X.xe s
section
variable {X:Cx} {a b:Expr} {ta tb:TE} {pos:Pos}
theorem aM {r:R2} (hr:IxR X r) (ha:PE X a ta) (hb:PE X b tb) (hs:Ka b):PE X (.Subscript a b pos) (tOp r ta tb):=by
 intro pins s σ H Q I h
 exact Subscript_ (NT ha hb I h fun v u s2 x y H2 I2 rx ry q=>hr a b pins s2 σ H2 x y v u Q I2 rx ry q (hs _ _))
inductive QV (K:PySem.W.Frag) (x:L2.V) (y:L2.V) (H:Hp) (Q:VK):Prop where
 | mk (p:_) (xs:_) (i:_) (v:_) (z1:x=.ref p) (z2:y=.int i) (z3:SqL K H p xs) (z4:atI xs i=some v) (z5:Q v H)
noncomputable def QW (K:PySem.W.Frag):R2:=fun x y H Q=>QV K x y H Q
inductive QX (K:PySem.W.Frag) (x:L2.V) (y:L2.V) (H:Hp) (Q:VK):Prop where
 | mk (p:_) (xs:_) (i:_) (v:_) (z1:x=.ref p) (z2:y=.int i) (z3:SqT K H p xs) (z4:atI xs i=some v) (z5:Q v H)
noncomputable def QZ (K:PySem.W.Frag):R2:=fun x y H Q=>QX K x y H Q
inductive Q0 (x:L2.V) (y:L2.V) (H:Hp) (Q:VK):Prop where
 | mk (z:_) (i:_) (c:_) (z1:x=.str z) (z2:y=.int i) (z3:z.length≤sizeLine) (z4:atI z.cps.toList i=some c) (z5:Q (.str ⟨#[c]⟩) H)
noncomputable def T3:R2:=fun x y H Q=>Q0 x y H Q
theorem bB:IxR X (QW X.K):=by
 intro value slice pins s σ H x y v u Q I rx ry h hs
 obtain ⟨p,xs,i,z,rfl,rfl,hq,he,q⟩:=h
 cases rx
 obtain ⟨t,rfl⟩:=ry
 obtain ⟨its,r,pl,hz⟩:=I.list hq
 obtain ⟨j,h1,h2,h3,h4,h5⟩:=uW he
 obtain ⟨w,ew,rw'⟩:=r.get h2
 have hl:=r.length
 have hn:=oW
 have fin:EP X pins σ Q w s:=⟨z,H,I,rw',q⟩
 by_cases h0:0≤i
 ·have hj:i.toNat=j:=by
   rw [seqIndex_of h0 h5] at h1
   exact Option.some.inj h1
  exact item_listR pl.isList h0 (by omega) (by rw [hj];simpa using ew) fin hs
 ·have hj:(i+(its.toArray.size:Int)).toNat=j:=by
   rw [seqIndex_neg (by omega) h4] at h1
   rw [List.size_toArray,←hl]
   exact Option.some.inj h1
  exact subscriptTail_builtinR (x:=w) pl.isList.typeIs slot_list_getitem.lookup
   (wpAny_getItem_list_neg (Q:=fun r s'=>r=w∧EP X pins σ Q r s') pl.isList (by omega) (by rw [List.size_toArray] <;> omega) (by omega) (by rw [hj];simpa using ew) ⟨rfl,fin⟩) hs
theorem aU:IxR X (QZ X.K):=by
 intro value slice pins s σ H x y v u Q I rx ry h hs
 obtain ⟨p,xs,i,z,rfl,rfl,hq,he,q⟩:=h
 cases rx
 obtain ⟨t,rfl⟩:=ry
 obtain ⟨its,r,pl,hz⟩:=I.tuple hq
 obtain ⟨j,h1,h2,h3,h4,h5⟩:=uW he
 obtain ⟨w,ew,rw'⟩:=r.get h2
 have hl:=r.length
 have hn:=oW
 have fin:EP X pins σ Q w s:=⟨z,H,I,rw',q⟩
 exact subscriptTail_builtinR (x:=w) pl.typeIs slot_tuple_getitem.lookup
  (getItem_tuple (j:=j) (Q:=fun r s'=>r=w∧EP X pins σ Q r s') pl (by omega) (by omega) (by rw [List.size_toArray,←hl];exact h1) (by simpa using ew) ⟨rfl,fin⟩) hs
theorem Oa:IxR X T3:=by
 intro value slice pins s σ H x y v u Q I rx ry h hs
 obtain ⟨z,i,c,rfl,rfl,hz,he,q⟩:=h
 obtain ⟨t,rfl⟩:=rx
 obtain ⟨t',rfl⟩:=ry
 obtain ⟨j,h1,h2,h3,h4,h5⟩:=uW he
 have hl:z.cps.toList.length=z.length:=by simp [Str.length]
 rw [hl] at h1 h4 h5
 have hn:=oW
 exact tail_any (typeIs_str s z t) slot_str_getitem.lookup (getItem_str (c:=c) (by
  have e1:decide (i < -(2 ^ 63:Int))=false:=decide_eq_false (by omega)
  have e2:decide (i ≥ 2 ^ 63)=false:=decide_eq_false (by omega)
  rw [e1,e2,Bool.or_false]) (by rw [h1];simpa using h2) ⟨.str ⟨#[c]⟩,H,I.tok _,⟨_,rfl⟩,q⟩) hs
theorem uX (lo hi:Option Int) (n:Nat):(sliceBounds lo hi none n).1=((HT.sIx n 0 lo:Nat):Int)∧(sliceBounds lo hi none n).2.1=((HT.sIx n n hi:Nat):Int)∧(sliceBounds lo hi none n).2.2=1:=by
 refine ⟨?_,?_,rfl⟩
 ·cases lo with
  | none=>simp [sliceBounds,HT.sIx]
  | some i=>
   simp only [sliceBounds,HT.sIx,Option.getD_none,show (1:Int) > 0 by decide,if_true]
   by_cases h:i < 0
   ·simp only [h,if_true] <;> omega
   ·simp only [h,if_false] <;> omega
 ·cases hi with
  | none=>simp [sliceBounds,HT.sIx]
  | some i=>
   simp only [sliceBounds,HT.sIx,Option.getD_none,show (1:Int) > 0 by decide,if_true]
   by_cases h:i < 0
   ·simp only [h,if_true] <;> omega
   ·simp only [h,if_false] <;> omega
theorem tD (its:List Value) (lo hi:Option Int):slicePick its.toArray lo hi none=((its.drop (HT.sIx its.length 0 lo)).take (HT.sIx its.length its.length hi - HT.sIx its.length 0 lo)).toArray:=by
 obtain ⟨h1,h2,h3⟩:=uX lo hi its.toArray.size
 unfold slicePick
 rw [h1,h2,h3]
 simp only [sliceRange_one,pick_run,List.size_toArray] <;> rfl
inductive Q3 (K:PySem.W.Frag) (x:V) (lo:(Option Int)) (hi:(Option Int)) (H:Hp) (Q:VK):Prop where
 | mk (a:_) (xs:_) (z1:x=.ref a) (z2:SqL K H a xs) (z3:∀p,H p=none→Q (.ref p) (upd H p (.lst (iJ xs lo hi))))
noncomputable def T4 (K:PySem.W.Frag):V→Option Int→Option Int→Hp→VK→Prop:=fun x lo hi H Q=>Q3 K x lo hi H Q
theorem qt:SlR X (T4 X.K):=by
 intro pins s σ H x v vl vu lo hi sl Q I rx hs pl pu h
 obtain ⟨a,xs,rfl,hx,q⟩:=h
 cases rx
 obtain ⟨its,r,ht,hz⟩:=I.list hx
 have hlen:=r.length
 refine ⟨"list",_,slot_list_getitem.lookup,ht.isList.typeIs,?_⟩
 refine wpAny_getItem_list_slice ht.isList hs pl pu .none (by simp) ?_ (by rw [List.size_toArray] <;> omega)
 rw [tD,←hlen]
 refine ⟨.ref s.heap.objs.size,_,I.laid (t':=s.toks) (o:=.lst (iJ xs lo hi)) (fun b ob q=>Heap.get?_push_of_some _ q) (Nat.le_refl _) ?_,rfl,q _ (I.hok.fresh (Nat.le_refl _))⟩
 exact ⟨Nat.le_trans (pQ xs lo hi) hz,_,0,(r.drop (HT.sIx xs.length 0 lo)).take (HT.sIx xs.length xs.length hi - HT.sIx xs.length 0 lo),Heap.get?_push_size _ rfl⟩
noncomputable def mO:V→Bool
 | .non=>true
 | .bl _=>true
 | .int _=>true
 | .str _=>true
 | _=>false
noncomputable def eqV:V→V→Bool
 | .non,.non=>true
 | .bl a,.bl b=>a==b
 | .bl a,.int b=>(if a then 1 else 0)==b
 | .int a,.bl b=>a==(if b then 1 else 0)
 | .int a,.int b=>a==b
 | .str a,.str b=>a==b
 | _,_=>false
theorem Ob {A:Around} {s:Shared} {y x:V} {u v:Value} (ry:RelV y u) (rx:RelV x v) (fy:mO y=true) (fx:mO x=true):SeqAt.EqAt A s u v (eqV y x):=by
 cases y with
 | non=>
  cases ry
  cases x with
  | non=>cases rx;exact SeqAt.EqAt.same _
  | bl b=>cases rx;exact SeqAt.EqAt.none_bool b
  | int b=>obtain ⟨t,rfl⟩:=rx;exact SeqAt.EqAt.none_int b t
  | str b=>obtain ⟨t,rfl⟩:=rx;exact SeqAt.EqAt.none_str b t
  | _=>exact absurd (show false=true from fx) Bool.false_ne_true
 | bl a=>
  cases ry
  cases x with
  | non=>cases rx;exact SeqAt.EqAt.bool_none a
  | bl b=>cases rx;exact SeqAt.EqAt.bool_bool a b
  | int b=>obtain ⟨t,rfl⟩:=rx;exact SeqAt.EqAt.bool_int a b t
  | str b=>obtain ⟨t,rfl⟩:=rx;exact SeqAt.EqAt.bool_str a b t
  | _=>exact absurd (show false=true from fx) Bool.false_ne_true
 | int a=>
  obtain ⟨t',rfl⟩:=ry
  cases x with
  | non=>cases rx;exact SeqAt.EqAt.int_none a t'
  | bl b=>cases rx;exact SeqAt.EqAt.int_bool a t' b
  | int b=>obtain ⟨t,rfl⟩:=rx;exact SeqAt.EqAt.int_int a t' b t
  | str b=>obtain ⟨t,rfl⟩:=rx;exact SeqAt.EqAt.int_str a t' b t
  | _=>exact absurd (show false=true from fx) Bool.false_ne_true
 | str a=>
  obtain ⟨t',rfl⟩:=ry
  cases x with
  | non=>cases rx;exact SeqAt.EqAt.str_none a t'
  | bl b=>cases rx;exact SeqAt.EqAt.str_bool a t' b
  | int b=>obtain ⟨t,rfl⟩:=rx;exact SeqAt.EqAt.str_int a t' b t
  | str b=>obtain ⟨t,rfl⟩:=rx;exact SeqAt.EqAt.str_str a t' b t
  | _=>exact absurd (show false=true from fx) Bool.false_ne_true
 | _=>exact absurd (show false=true from fy) Bool.false_ne_true
noncomputable def eqU (x:V) (u:Value):Bool:=match u with
 | .none=>eqV .non x
 | .bool b=>eqV (.bl b) x
 | .int i _=>eqV (.int i) x
 | .str z _=>eqV (.str z) x
 | _=>false
theorem Ff {x y:V} {u:Value} (r:RelV y u) (f:mO y=true):eqU x u=eqV y x:=by
 cases y with
 | non=>cases r;rfl
 | bl b=>cases r;rfl
 | int i=>obtain ⟨t,rfl⟩:=r;rfl
 | str z=>obtain ⟨t,rfl⟩:=r;rfl
 | _=>exact absurd (show false=true from f) Bool.false_ne_true
theorem uY {x:V}:∀{xs:List V} {us:List Value},Vals xs us→xs.all mO=true→us.any (eqU x)=xs.any fun y=>eqV y x
 | _,_,.nil,_=>rfl
 | y::xs,u::us,.cons r t,f=>by
  rw [List.all_cons,Bool.and_eq_true] at f
  rw [List.any_cons,List.any_cons,Ff r f.1,uY t f.2]
theorem qR {A:Around} {s:Shared} {x:V} {v:Value} (rx:RelV x v) (fx:mO x=true):∀{xs:List V} {us:List Value},Vals xs us→xs.all mO=true→∀u∈us,SeqAt.EqAt A s u v (eqU x u)
 | _,_,.nil,_=>fun u hu=>by cases hu
 | y::xs,u::us,.cons r t,f=>fun u' hu=>by
  rw [List.all_cons,Bool.and_eq_true] at f
  rcases List.mem_cons.mp hu with rfl | hu
  ·rw [Ff r f.1];exact Ob r rx f.1 fx
  ·exact qR rx fx t f.2 u' hu
noncomputable def inV (x:V) (xs:List V):Bool:=xs.any fun y=>eqV y x
inductive T7 (K:PySem.W.Frag) (neg:Bool) (x:L2.V) (y:L2.V) (H:Hp) (Q:VK):Prop where
 | mk (p:_) (xs:_) (z1:y=.ref p) (z2:(SqL K H p xs∨SqT K H p xs)) (z3:mO x=true) (z4:xs.all mO=true) (z5:Q (.bl (if neg then !inV x xs else inV x xs)) H)
noncomputable def rIn (K:PySem.W.Frag) (neg:Bool):R2:=fun x y H Q=>T7 K neg x y H Q
theorem oY:OpR X (compareOp .In) (rIn X.K false):=by
 intro pins s σ H x y v u Q I rx ry h
 obtain ⟨p,xs,rfl,hq,fx,fs,q⟩:=h
 cases ry
 rcases hq with hq | hq
 ·obtain ⟨its,r,pl,hz⟩:=I.list hq
  refine SeqAt.in_listAt (eqU x) pl.isList (fun w hw=>qR rx fx r fs w (by simpa using hw)) ⟨.bl _,H,I,rfl,?_⟩
  rw [show its.toArray.any (eqU x)=its.any (eqU x) by simp,uY r fs]
  exact q
 ·obtain ⟨its,r,pl,hz⟩:=I.tuple hq
  refine SeqAt.in_tupleAt (eqU x) pl (fun w hw=>qR rx fx r fs w (by simpa using hw)) ⟨.bl _,H,I,rfl,?_⟩
  rw [show its.toArray.any (eqU x)=its.any (eqU x) by simp,uY r fs]
  exact q
inductive T8 (K:PySem.W.Frag) (xs:List V) (H:Hp) (Q:VK):Prop where
 | mk (p:_) (ys:_) (z1:xs=[.ref p]) (z2:(SqL K H p ys∨SqT K H p ys)) (z3:Q (.int ys.length) H)
theorem aO:fK X (.builtin "len") (T8 X.K):=by
 intro pins s σ H xs us Q I r h
 obtain ⟨p,ys,rfl,hq,q⟩:=h
 obtain ⟨u,rfl,rx⟩:=vals1 r
 cases rx
 have hn:=oW
 rcases hq with hq | hq
 ·obtain ⟨its,r',pl,hz⟩:=I.list hq
  have hlen:=r'.length
  exact Calls.call_len_list pl.isList (by simp only [List.size_toArray] <;> omega) ⟨.int ys.length,H,I.tok _,⟨s.toks+1,by rw [List.size_toArray,hlen]⟩,q⟩
 ·obtain ⟨its,r',pl,hz⟩:=I.tuple hq
  have hlen:=r'.length
  exact len_tuple pl (by simp only [List.size_toArray] <;> omega) ⟨.int ys.length,H,I.tok _,⟨s.toks+1,by rw [List.size_toArray,hlen]⟩,q⟩
theorem uZ:fK X (.builtin "len") (fun xs H Q=>∃z,xs=[.str z]∧z.length≤sizeLine∧Q (.int z.length) H):=by
 intro pins s σ H xs us Q I r h
 obtain ⟨z,rfl,hz,q⟩:=h
 obtain ⟨u,rfl,t,rfl⟩:=vals1 r
 have hn:=oW
 exact len_str (by omega) ⟨.int z.length,H,I.tok _,⟨_,rfl⟩,q⟩
theorem iM:fK X (.type "list") (fun xs H Q=>∃p ys,xs=[.ref p]∧(SqL X.K H p ys∨SqT X.K H p ys)∧∀l,H l=none→Q (.ref l) (upd H l (.lst ys))):=by
 intro pins s σ H xs us Q I r h
 obtain ⟨p,ys,rfl,hq,q⟩:=h
 obtain ⟨u,rfl,rx⟩:=vals1 r
 cases rx
 have fin:∀(its:List Value),Vals ys its→ys.length≤sizeLine→∀(h':Heap) (c':Nat),(∀b o',s.heap.get? b=some o'→h'.get? b=some o')→
   h'.get? s.heap.objs.size=some {cls:=.type "list",dict:=none,data:=.seq its.toArray c',slots:=#[]}→EP X pins σ Q (.ref s.heap.objs.size) {s with heap:=h'}:=fun its r' hz h' c' kp e=>
  ⟨.ref s.heap.objs.size,_,I.laid (t':=s.toks) kp (Nat.le_refl _) (show bQ X.prog X.w _ h' _ (.lst ys) from ⟨hz,its,c',r',e⟩),rfl,q _ (I.hok.fresh (Nat.le_refl _))⟩
 rcases hq with hq | hq
 ·obtain ⟨its,r',pl,hz⟩:=I.list hq
  have hlen:=r'.length
  obtain ⟨o,ho,hc,n,hd⟩:=pl.isList
  exact call_list_seq p (.inl rfl) ho hc hd (fun h' c' kp e=>fin its r' hz h' c' kp e) (by simp only [List.size_toArray] <;> omega)
 ·obtain ⟨its,r',pl,hz⟩:=I.tuple hq
  have hlen:=r'.length
  obtain ⟨o,ho,hc,n,hd⟩:=pl
  exact call_list_seq p (.inr rfl) ho hc hd (fun h' c' kp e=>fin its r' hz h' c' kp e) (by simp only [List.size_toArray] <;> omega)
theorem tE:fK X (.type "tuple") (fun xs H Q=>∃p ys,xs=[.ref p]∧((SqL X.K H p ys∧∀l,H l=none→Q (.ref l) (upd H l (.tup ys)))∨(SqT X.K H p ys∧Q (.ref p) H))):=by
 intro pins s σ H xs us Q I r h
 obtain ⟨p,ys,rfl,h⟩:=h
 obtain ⟨u,rfl,rx⟩:=vals1 r
 cases rx
 rcases h with ⟨hq,q⟩ | ⟨hq,q⟩
 ·obtain ⟨its,r',pl,hz⟩:=I.list hq
  have hlen:=r'.length
  refine call_tuple_list pl.isList (fun h' kp=>?_) (by simp only [List.size_toArray] <;> omega)
  have I1:Inv X pins σ H {s with heap:=h'}:=I.kept (t':=s.toks) kp
  have I2:Inv X pins σ (upd H h'.objs.size (.tup ys)) {s with heap:=h'.push {cls:=.type "tuple",data:=.seq its.toArray}}:=
   I1.laid (t':=s.toks) (fun b o e=>Heap.get?_push_of_some _ e) (Nat.le_refl _) (show bQ X.prog X.w _ _ _ (.tup ys) from ⟨hz,its,r',IsTup.new _ _⟩)
  exact ⟨.ref h'.objs.size,_,I2,rfl,q _ (I1.hok.fresh (Nat.le_refl _))⟩
 ·obtain ⟨its,r',pl,hz⟩:=I.tuple hq
  exact call_tuple_same pl ⟨.ref p,H,I,rfl,q⟩
noncomputable def tyV (K:PySem.W.Frag) (T:String) (x:V) (H:Hp):Prop:=match x with
 | .str _=>T="str"
 | .int _=>T="int"
 | .ref p=>(T="list"∧∃xs,SqL K H p xs)∨(T="tuple"∧∃o,K.lookup p=some o∧o.cls=.type "tuple"∧o.dict=none)∨
   (T="dict"∧((∃kvs,H p=some (.dK kvs))∨∃kvs,H p=some (.dT kvs)))∨(T="set"∧∃S n,H p=some (.set S n))
 | _=>False
theorem Oc {pins:List (Addr × Obj)} {σ:St} {H:Hp} {s:Shared} {T:String} {x:V} {v:Value} (I:Inv X pins σ H s) (r:RelV x v) (ty:tyV X.K T x H):
  s.TypeIs v T∧∀a,v=.ref a→∃ob,s.heap.get? a=some ob∧ob.dict=none:=by
 cases x with
 | str z=>
  obtain ⟨t,rfl⟩:=r
  cases (show T="str" from ty)
  exact ⟨typeIs_str s z t,fun _ e=>nomatch e⟩
 | int i=>
  obtain ⟨t,rfl⟩:=r
  cases (show T="int" from ty)
  exact ⟨typeIs_int s i t,fun _ e=>nomatch e⟩
 | ref p=>
  cases r
  rcases ty with ⟨rfl,xs,hq⟩ | ⟨rfl,o,hk,hc,hd⟩ | ⟨rfl,hk⟩ | ⟨rfl,S,n,hk⟩
  ·obtain ⟨its,_,pl,_⟩:=I.list hq
   refine ⟨pl.isList.typeIs,fun a e=>?_⟩
   cases e
   obtain ⟨o,n,e,c,hd,_⟩:=pl
   exact ⟨o,e,hd⟩
  ·refine ⟨⟨o,I.kIn p o hk,hc⟩,fun a e=>?_⟩
   cases e
   exact ⟨o,I.kIn _ o hk,hd⟩
  ·have z:∃o,s.heap.get? p=some o∧o.ExactDict:=by
    rcases hk with ⟨kvs,hk⟩ | ⟨kvs,hk⟩
    ·obtain ⟨_,_,_,_,o,_,_,e,ex,_⟩:=I.hok p _ hk
     exact ⟨o,e,ex⟩
    ·obtain ⟨_,_,_,_,o,_,_,e,ex,_⟩:=I.hok p _ hk
     exact ⟨o,e,ex⟩
   obtain ⟨o,e,ex⟩:=z
   refine ⟨⟨o,e,ex.1⟩,fun a e2=>?_⟩
   cases e2
   exact ⟨o,e,ex.2.1⟩
  ·obtain ⟨o,_,_,_,e,ex,_⟩:=I.hok p _ hk
   refine ⟨⟨o,e,ex.1⟩,fun a e2=>?_⟩
   cases e2
   exact ⟨o,e,ex.2.1⟩
 | _=>exact False.elim ty
noncomputable def tBM (K:PySem.W.Frag) (T:String) (r:V→List V→Hp→VK→Prop) (to:TE) (t:TA):TE:=fun σ H Q=>to σ H fun x H1=>tyV K T x H1∧t σ H1 fun xs H2=>r x xs H2 Q
variable {o e:Expr} {es:List Expr} {to:TE} {t:TA} {name:Str} {apos cpos:Pos} {T id:String} {r:V→List V→Hp→VK→Prop}
theorem qT (pa:PlainAttrs T) (slot:Slot T name id) (hty:typeOf (.builtin id)=pure (.type "method_descriptor")) (hm:MtR X id r) (ho:PE X o to) (ha:PA X (e::es) t)
  (hbase:attributeBase o name X.env (eval o X.env)=eval o X.env:=by rfl)
  (hfew:((backTo cpos (starEach (e::es) X.env)).all (fun x=>!x.1) && (backToKw cpos (keywordEach [] X.env)).all (fun x=>x.1.isSome)
   && decide ((e::es).length+([]:List Keyword).length+(if ([]:List Keyword).isEmpty then 0 else 1) < 30))=true:=by rfl)
  (hline:(apos.endLine==cpos.line)=true:=by rfl) (hs:starEach (e::es) X.env=(false,eval e X.env)::starEach es X.env:=by rfl) (hplain:(backTo cpos (starEach es X.env)).any (·.1)=false:=by rfl):
  PE X (.Call (.Attribute o name apos) (e::es) [] cpos) (tBM X.K T r to t):=by
 intro pins s σ H Q I h
 refine wpAny_Call_method_late hbase hfew hline rfl (thn (ho pins s σ H _ I h) fun v s1 ⟨x,H1,I1,r1,ty,q1⟩=>?_)
 obtain ⟨h1,h2⟩:=Oc I1 r1 ty
 refine ⟨T,id,pa,slot,hty,h1,h2,?_⟩
 have hA:=ha cpos pins s1 σ H1 _ I1 q1
 rw [hs] at hA ⊢
 refine Calls.callWith_builtin (by show (false || (backTo cpos (starEach es X.env)).any (·.1))=false;rw [hplain] <;> rfl) (Calls.evalArgs_plain ?_)
 exact thn hA fun us s2 ⟨vs,H2,I2,r2,q2⟩=>hm pins s2 σ H2 x vs v us Q I2 r1 r2 q2
end
open PySem PySem.Spec PyProof.Rows
noncomputable def MtM (X:Cx) (id:String) (r:V→List V→Hp→VK→Prop):Prop:=
 ∀(pins:List (Addr × Obj)) (s:Shared) (σ:St) (H:Hp) (x:V) (xs:List V) (v:Value) (us:List Value) (Q:VK),Inv X pins σ H s→RelV x v→Vals xs us→r x xs H Q→
  wpAny (model X.prog X.w) X.A (call (.builtin id) (v::us)) (EP X pins σ Q) X.xe s
theorem Vals.one:∀{x:V} {us:List Value},Vals [x] us→∃u,us=[u]∧RelV x u
 | _,_,.cons r .nil=>⟨_,rfl,r⟩
section
variable {X:Cx} {pins:List (Addr × Obj)} {σ:St} {H:Hp} {s:Shared} {l b:Addr} {xs ys zs:List V}
theorem Inv.lset {its its':List Value} {n:Nat} {f:Array Value→Array Value} {t':Nat} (I:Inv X pins σ H s) (hH:H l=some (.lst xs))
  (e:s.heap.get? l=some {cls:=.type "list",data:=.seq its.toArray n}) (hf:f its.toArray=its'.toArray) (hv:Vals ys its') (hz:ys.length≤sizeLine):
  Inv X pins σ (upd H l (.lst ys)) {s with heap:=s.heap.update l (Obj.mapSeq f),toks:=t'}:=by
 have q:=PySem.IsL.update e f
 rw [hf] at q
 refine I.write (x:=l) (e:=l) (by rw [hH];exact trivial) (.inl rfl) (fun b' u hb hu=>(Heap.get?_update_other s.heap (Obj.mapSeq f) (Ne.symm hb)).trans hu) ⟨_,q⟩ ?_
 exact ⟨hz,its',_,hv,q⟩
theorem Inv.lnew {its:List Value} {t':Nat} (I:Inv X pins σ H s) (hv:Vals ys its) (hz:ys.length≤sizeLine):
  Inv X pins σ (upd H s.heap.objs.size (.lst ys)) {s with heap:=s.heap.push {cls:=.type "list",data:=.seq its.toArray},toks:=t'}:=
 I.laid (fun _ _ q=>Heap.get?_push_of_some _ q) (Nat.le_refl _) ⟨hz,its,0,hv,Heap.get?_push_size _ rfl⟩
theorem Inv.fresh (I:Inv X pins σ H s):H s.heap.objs.size=none:=I.hok.fresh (Nat.le_refl _)
theorem Inv.lstM (I:Inv X pins σ H s) (hH:H l=some (.lst xs)):xs.length≤sizeLine∧∃(its:List Value) (n:Nat),Vals xs its∧xs.length=its.length∧s.heap.get? l=some {cls:=.type "list",data:=.seq its.toArray n}:=by
 obtain ⟨z,its,n,r,e⟩:=I.hok l _ hH
 exact ⟨z,its,n,r,r.length,e⟩
theorem Fg {n:Nat} (h:n≤sizeLine):Builtin.List.listTooLong n=false:=by
 unfold Builtin.List.listTooLong
 exact decide_eq_false (by omega)
end
section
variable {X:Cx}
inductive Fi (x:V) (vs:(List V)) (H:Hp) (Q:VK):Prop where
 | mk (l:_) (xs:_) (y:_) (z1:x=.ref l) (z2:vs=[y]) (z3:H l=some (.lst xs)) (z4:xs.length < sizeLine) (z5:Q .non (upd H l (.lst (xs++[y]))))
noncomputable def Kc:V→List V→Hp→VK→Prop:=fun x vs H Q=>Fi x vs H Q
theorem gr:MtM X "list.append" Kc:=by
 intro pins s σ H x vs v us Q I rx rv h
 obtain ⟨l,xs,y,rfl,rfl,hH,hz,q⟩:=h
 cases rx
 obtain ⟨u,rfl,ru⟩:=rv.one
 obtain ⟨z,its,n,r,hl,e⟩:=I.lstM hH
 refine call_meets F.slot_list_append ⟨_,e,rfl⟩ F.entry_list_append (F.args_list_append_2 _ _) (PySem.list_append l its.toArray n u (by rw [List.size_toArray];omega)) ⟨e,?_⟩
 refine ⟨.non,_,I.lset (its':=its++[u]) hH e (by simp) (r.append (.cons ru .nil)) ?_,rfl,q⟩
 rw [List.length_append,List.length_singleton]
 omega
inductive Fj (x:V) (vs:(List V)) (H:Hp) (Q:VK):Prop where
 | mk (l:_) (b:_) (xs:_) (zs:_) (z1:x=.ref l) (z2:vs=[.ref b]) (z3:H l=some (.lst xs)) (z4:H b=some (.lst zs)) (z5:xs.length+zs.length≤sizeLine) (z6:Q .non (upd H l (.lst (xs++zs))))
noncomputable def Kd:V→List V→Hp→VK→Prop:=fun x vs H Q=>Fj x vs H Q
theorem Qv:MtM X "list.extend" Kd:=by
 intro pins s σ H x vs v us Q I rx rv h
 obtain ⟨l,b,xs,zs,rfl,rfl,hH,hB,hz,q⟩:=h
 cases rx
 obtain ⟨u,rfl,ru⟩:=rv.one
 cases ru
 obtain ⟨z,its,n,r,hl,e⟩:=I.lstM hH
 obtain ⟨z2,its2,n2,r2,hl2,e2⟩:=I.lstM hB
 have hsz:its.toArray.size+its2.toArray.size≤sizeLine:=by rw [List.size_toArray,List.size_toArray];omega
 have hlong:¬(!its.toArray.isEmpty && Builtin.List.listTooLong (its.toArray.size+its2.toArray.size))=true:=by
  rw [Fg hsz,Bool.and_false]
  exact Bool.false_ne_true
 refine call_meets F.slot_list_extend ⟨_,e,rfl⟩ F.entry_list_extend (F.args_list_extend_2 _ _)
  (AutoSeq1.list_extend_list_list_0 l its.toArray n b its2.toArray n2 hlong (by rw [List.size_toArray];omega) (by omega)) ⟨e,e2,?_⟩
 refine ⟨.non,_,I.lset (its':=its++its2) hH e (by simp) (r.append r2) ?_,rfl,q⟩
 rw [List.length_append]
 omega
inductive Q4 (x:L2.V) (y:L2.V) (H:Hp) (Q:VK):Prop where
 | mk (l:_) (b:_) (xs:_) (zs:_) (z1:x=.ref l) (z2:y=.ref b) (z3:H l=some (.lst xs)) (z4:H b=some (.lst zs)) (z5:xs.length+zs.length≤sizeLine) (z6:∀p,H p=none→Q (.ref p) (upd H p (.lst (xs++zs))))
noncomputable def Q5:R2:=fun x y H Q=>Q4 x y H Q
theorem jP:OpR X (binaryOp .Add) Q5:=by
 intro pins s σ H x y v u Q I rx ry h
 obtain ⟨l,b,xs,zs,rfl,rfl,hH,hB,hz,q⟩:=h
 cases rx
 cases ry
 obtain ⟨z,its,n,r,hl,e⟩:=I.lstM hH
 obtain ⟨z2,its2,n2,r2,hl2,e2⟩:=I.lstM hB
 refine PySem.P.add_list e e2 ?_ (by rw [List.size_toArray,List.size_toArray];omega)
 have ea:its.toArray++its2.toArray=(its++its2).toArray:=by simp
 rw [ea]
 exact ⟨.ref _,_,I.lnew (t':=s.toks) (r.append r2) (by rw [List.length_append];omega),rfl,q _ I.fresh⟩
end
end L2
namespace Att
open PySem PySem.W PySem.Calls PyProof.Rows
theorem qd {P:Params} {h:Heap}:∀(ns:List Int) (vs:List Value),WellAll P h vs (ns.map WData.int)→IntsAre vs ns:=by
 intro ns
 induction ns with
 | nil=>
  intro vs w
  rw [List.map_nil] at w
  cases w
  exact .nil
 | cons n ns ih=>
  intro vs w
  rw [List.map_cons] at w
  cases w with
  | cons a b=>
   cases a
   exact .cons _ _ (ih _ b)
theorem Cr {l:OpenLaw} {n:Nat} (hn:l.most=some n) {P:Params} {h:Heap} {args:List WData} {vals:List Value}
  (hpre:l.row.toRowW.claim.pre args=true) (hwl:WellAll P h vals args):
  ∃a vs ns,vals=[Value.ref a]∧args=[WData.list (ns.map WData.int)]∧h.get? a=some {cls:=.type "list",data:=.seq vs.toArray}∧IntsAre vs ns∧ns.length≤n:=by
 have hsh:WShape.hasAll [] args [.list .int]=true:=(pre_splitW hpre).1
 have hc:l.pre.holds [] {args:=args}=true:=(pre_splitW hpre).2
 obtain ⟨d,r,rfl,h1,h2⟩:=hasAllW_cons hsh
 obtain rfl:=hasAllW_nil h2
 obtain ⟨xs,rfl,h3⟩:=hasW_list h1
 obtain ⟨ns,rfl⟩:=items_int h3
 have hlen:ns.length≤n:=by
  unfold OpenLaw.pre at hc
  have h4:(WTm.not (.lt (.lit (.int (n:Int))) (.len (.arg 0)))).holds [] {args:=[.list (ns.map .int)]}=true:=by
   have h4:=(holds_andW hc).1
   rw [hn] at h4
   exact h4
  have h5:=condW_of h4 (w_not (w_lt w_lit (w_len_list (w_arg rfl))))
  rw [List.length_map] at h5
  refine Nat.le_of_not_lt fun q=>?_
  have q':(n:Int) < ((ns.length:Nat):Int):=by omega
  first
   | (rw [decide_eq_true q'] at h5;exact absurd h5 (by decide))
   | (simp at h5;omega)
 cases hwl with
 | cons w1 w2=>
  cases w2
  cases w1 with
  | list ho hall=>exact ⟨_,_,ns,rfl,rfl,ho,qd ns _ hall,hlen⟩
theorem Cu (l:OpenLaw) (args:List WData):l.row.toRowW.claim.post args (.bool true) args=true:=
 postW_of (r:=l.row.toRowW) (X:=(true==true))
  (show WShape.has [] (.bool true) .bool=true by first | rfl | decide | simp [WShape.has,WShape.arms,WShape.armsAll])
  (show (WTm.eq .res (.lit (.bool true))).value [] {args:=args,res:=some (.bool true),after:=args}=some (.bool (true==true)) from w_eq_bool (w_res rfl) w_lit) rfl
theorem attach_call {l:OpenLaw} {n:Nat} {q:Program} {loose:List Str} {XP:(Str→Option Value)→Heap→Prop} {YP:World→Heap→Prop} {d:DefRec}
  (hn:l.most=some n) (hdf:d.params.defaults=[])
  (call:∀(w:World) (s₀ s₁:Shared) (mg mb:Str→Option Value) (fa:Addr) (o:Obj) (pm cd doc:Value) (a:Addr) (vs:List Value) (ns:List Int),
   Ground q loose [] XP w s₀ mg mb s₁.heap→YP w s₁.heap→
   s₁.heap.get? fa=some o→o.data=.func (docDef d.name d.params d.body d.scope pm cd doc)→s₁.heap.CodeRec cd d.name→mg d.name=some (.ref fa)→
   s₁.heap.get? a=some {cls:=.type "list",data:=.seq vs.toArray}→IntsAre vs ns→ns.length≤n→s₁.gens=#[]→
   codeAny (model l.prog w) callerA (.call (.ref fa) ⟨[.ref a],[]⟩) (fun r s'=>r=.ok (.ret (.bool true))∧OldK s₁.heap s'.heap∧s'.os=s₁.os∧AllBare s'.gens) s₁):
  WalkO q loose XP YP l.row.toRowW d [] (fun f vs=>PySem.call f vs):=by
 intro w s₀ s₁ mg mb G Y fa o pm cd doc dV kV ho hd hcd hD hmg hg args vals as hpre hlay hrd hwl hlo
 obtain rfl:dV=.none:=Dflts.none hD hdf
 obtain rfl:kV=.none:=Dflts.noKw hD
 obtain ⟨a,vs,ns,rfl,rfl,hobj,hints,hlen⟩:=Cr hn hpre hwl
 refine enter_call (codeAny_mono (call w s₀ s₁ mg mb fa o pm cd doc a vs ns G Y ho (fd_plain hd) hcd hmg hobj hints hlen hg) fun r s' hq=>?_)
 obtain ⟨rfl,h2,h3,h4⟩:=hq
 exact ⟨.inl ⟨.bool true,.bool true,[],rfl,fun _=>rfl,.bool true,Cu l _,fun _=>⟨List.Pairwise.nil,fun _ hm=>(nomatch hm)⟩⟩,h2,h3,h4⟩
end Att
namespace L2
open PySem PySem.Spec PyProof.Rows
theorem ut:∀{vs:List Value} {ns:List Int},IntsAre vs ns→Vals (ns.map V.int) vs
 | _,_,.nil=>.nil
 | _,_,.cons n t h=>.cons ⟨t,rfl⟩ (ut h)
noncomputable def Only (H:Hp):Prop:=∀b,H b=none∨∃o xs,H b=some (.frz o (.lst xs))
theorem Fl {P:Program} {w:World} {K:PySem.W.Frag} {mg mb:Str→Option Value} {CX:CXT} {k:Nat} {fa a:Addr} {fd:FuncData} {x:Str} {sp:Sp} {s₁:Shared} {vs:List Value} {ns:List Int}
  (KX:K.In s₁.heap) (hns:s₁.heap.Ns mainGlobals mg) (hb:s₁.heap.Ns builtinsNs mb) (hbb:∀x:Str,x≠"__name__"→mb x=bootBuiltins x) (hlim:s₁.heap.NoLimit) (hg:s₁.gens=#[])
  (ha:s₁.heap.get? a=some {cls:=.type "list",data:=.seq vs.toArray}) (hi:IntsAre vs ns) (hl:ns.length≤sizeLine) (hr:fZ k callerA)
  (F:∀base:Heap,K.In base→base.Ns mainGlobals mg→aY P w K mg base CX k fa fd [x] sp) (hbind:∀(s:Shared) (u:Value),BindsTo s fd ⟨[u],[]⟩ [(x,u)])
  (hsp:∀H:Hp,Only H→SqL K H a (ns.map V.int)→sp [.ref a] H (fun v _=>v=.bl true) fun _ _ _=>False)
  (hCX:∀H e s',CX [] H s₁ (fun _ _ _=>False) e s'→False):
  codeAny (model P w) callerA (.call (.ref fa) ⟨[.ref a],[]⟩) (fun r s'=>r=.ok (.ret (.bool true))∧OldK s₁.heap s'.heap∧s'.os=s₁.os∧AllBare s'.gens) s₁:=by
 have rv:=ut hi
 have lenV:=hi.length
 have core:∀H:Hp,Only H→SqL K H a (ns.map V.int)→HOk P w H s₁.heap→(∀b,H b≠none→b=a)→(H a≠none→K.lookup a=none)→
   codeAny (model P w) callerA (.call (.ref fa) ⟨[.ref a],[]⟩) (fun r s'=>r=.ok (.ret (.bool true))∧OldK s₁.heap s'.heap∧s'.os=s₁.os∧AllBare s'.gens) s₁:=by
  intro H hO hS hok hA hK
  have base_of:∀{b:Addr} {o:Obj},s₁.heap.get? b=some o→H b=none→(uR s₁.heap H).get? b=some o:=fun e n=>Em e n
  have noA:∀{b:Addr} {o:Obj} {es:Array DictEntry} {ep:Nat},s₁.heap.get? b=some o→o.data=.dict es ep→H b=none:=fun {b o es ep} e d=>by
   cases q:H b with
   | none=>rfl
   | some u=>
    have e':b=a:=hA b (by rw [q];simp)
    subst e'
    rw [ha] at e;cases e
    have d':Data.seq vs.toArray _=Data.dict es ep:=d
    cases d'
  have nsK:∀{b:Addr} {m:Str→Option Value},s₁.heap.Ns b m→(uR s₁.heap H).Ns b m:=fun {b m} ⟨o,es,ep,e,d,r⟩=>⟨o,es,ep,base_of e (noA e d),d,r⟩
  have hKb:K.In (uR s₁.heap H):=fun b o e=>base_of (KX b o e) (by
   cases q:H b with
   | none=>rfl
   | some u=>
    have e':b=a:=hA b (by rw [q];simp)
    subst e'
    rw [hK (by rw [q];simp)] at e;cases e)
  have hM:Mod K mg (uR s₁.heap H):=⟨hKb,nsK hns,⟨mb,nsK hb,hbb⟩,let ⟨mc,h1,h2⟩:=hlim;⟨mc,nsK h1,h2⟩⟩
  have e0:yG P w K mg (uR s₁.heap H) callerA [] s₁ H:=⟨rfl,hM,fun b o e=>J1 e,Nat.le_of_eq (Ca _ _),trivial,fun b hb=>absurd (show b∈([]:List Addr) from hb) (by simp),hok,.of_eq hg⟩
  refine codeAny_mono ((F _ hKb (nsK hns)).run callerA [] s₁ H ⟨[.ref a],[]⟩ [.ref a] [.ref a] _ _ hr e0 (hbind s₁ (.ref a)) (.cons rfl .nil) (hsp H hO hS)) fun r s' h=>?_
  cases r with
  | error e=>exact (hCX H e s' h).elim
  | ok fl=>
   cases fl with
   | next=>exact False.elim h
   | brk=>exact False.elim h
   | cont=>exact False.elim h
   | ret u=>
    obtain ⟨v,H',os,bare,un,hok',r',q⟩:=h
    have q':v=.bl true:=q
    subst q'
    obtain rfl:u=Value.bool true:=r'
    refine ⟨rfl,OldK.of_keep fun b o e=>?_,os,bare⟩
    cases q:H b with
    | none=>exact un.keep b o e q (by intro z;exact absurd (show b∈([]:List Addr) from z) (by simp)) (by simp)
    | some u=>
     rcases hO b with z | ⟨ob,xs,z⟩
     ·rw [q] at z;cases z
     ·have z2:=un.frzs b ob _ z
      obtain ⟨e1,_⟩:=hok b _ z
      obtain ⟨e2,_⟩:=hok' b _ z2
      rw [e] at e1;cases e1
      exact e2
 cases hk:K.lookup a with
 | some o=>
  have e:=KX a o hk
  rw [ha] at e
  cases e
  refine core (fun _=>none) (fun _=>.inl rfl) (.inr ⟨_,vs.toArray,_,hk,rfl,rfl,rfl,by rw [List.size_toArray,lenV];exact hl,by simpa using rv⟩) (fun b u z=>by have z':(none:Option HO)=some u:=z;cases z') (fun b z=>absurd rfl z) fun z=>absurd rfl z
 | none=>
  refine core (fun b=>if b=a then some (.frz {cls:=.type "list",data:=.seq vs.toArray} (.lst (ns.map V.int))) else none) (fun b=>?_) (.inl (.inr ⟨{cls:=.type "list",data:=.seq vs.toArray},if_pos rfl⟩)) (fun b u z=>?_) (fun b z=>?_) fun _=>hk
  ·by_cases hb:b=a
   ·exact .inr ⟨_,_,if_pos hb⟩
   ·exact .inl (if_neg hb)
  ·by_cases hb:b=a
   ·have z':=(if_pos hb).symm.trans z
    cases z'
    subst hb
    exact ⟨ha,by rw [List.length_map];exact hl,vs,_,rv,ha⟩
   ·have z':=(if_neg hb).symm.trans z
    cases z'
  ·by_cases hb:b=a
   ·exact hb
   ·exact absurd (if_neg hb) z
noncomputable abbrev KOf {K:PySem.W.Frag} {h:Heap} (_:K.In h):PySem.W.Frag:=K
theorem walk_of {l:PySem.W.OpenLaw} {n k:Nat} {q:Program} {loose:List Str} {XP:(Str→Option Value)→Heap→Prop} {YP:World→Heap→Prop} {d:DefRec} {K:Params→PySem.W.Frag} {CX:World→CXT} {sp:World→Sp} {x:Str}
  (hn:l.most=some n) (hn2:n≤sizeLine) (hdf:d.params.defaults=[]) (hr:fZ k callerA)
  (hY:∀(w:World) (h:Heap),YP w h→(K w.params).In h)
  (F:∀(w:World) (mg:Str→Option Value) (fa:Addr) (h:Heap),(K w.params).In h→h.Ns mainGlobals mg→mg d.name=some (.ref fa)→
   ∃fd:FuncData,(∀(s:Shared) (u:Value),BindsTo s fd ⟨[u],[]⟩ [(x,u)])∧
    ∀base:Heap,(K w.params).In base→base.Ns mainGlobals mg→aY l.prog w (K w.params) mg base (CX w) k fa fd [x] (sp w))
  (hsp:∀(w:World) (H:Hp) (a:Addr) (ns:List Int),ns.length≤n→Only H→SqL (K w.params) H a (ns.map V.int)→sp w [.ref a] H (fun v _=>v=.bl true) fun _ _ _=>False)
  (hCX:∀(w:World) (H:Hp) (s:Shared) (e:Value) (s':Shared),CX w [] H s (fun _ _ _=>False) e s'→False):
  PySem.W.WalkO q loose XP YP l.row.toRowW d [] (fun f vs=>PySem.call f vs):=by
 refine Att.attach_call hn hdf fun w s₀ s₁ mg mb fa o pm cd doc a vs ns G Y ho hd hcd hmg hobj hints hlen hg=>?_
 have KX:=hY w _ Y
 obtain ⟨fd,hb,hF⟩:=F w mg fa _ KX G.T.g hmg
 exact Fl KX G.T.g G.T.b G.T.builtins G.T.nolimit hg hobj hints (Nat.le_trans hlen hn2) hr hF hb (fun H hO hS=>hsp w H a ns hlen hO hS) fun H e s'=>hCX w H s₁ e s'
end L2
/- THE LAST THEOREM (shape;LID,My.* are yours):
 My.Adr:a structure of the addresses that your layer names (classes,functions);My.Txt K t:a structure (Prop) of the equations over K;
 My.txt_mk:{K} {implicit addresses ..} (e1:nsIn K mainGlobals "law"=some (some (.ref f))) (e2:K.lookup f=some ⟨oc,od,.func (fnOf "law" "law" params body scope dV kV doc pm an cdv ct),sl⟩) (e3:codeIn K cdv "law"=true) ..:∃t,My.Txt K t
set_option maxRecDepth 100000 in
set_option maxHeartbeats 0 in
theorem PySem.Challenge.cw_LID_holds : PySem.Challenge.rw_LID.Holds := by
 w_on;o_law;k_head;(case hw=>w_witness2)
 k_fill
 refine L2.walk_of (l:=PySem.Challenge.rw_LID) (n:=63) (k:=40) (x:="script") (CX:=fun w=>..) (sp:=fun _=>My.sp_law) rfl (by decide) rfl ⟨rfl,by decide,by decide⟩ (fun w h Y=>PySem.W.kIn_of Y) ?F ?S ?C
 case F=>
  intro w mg fa h KX G hmg
  have T:∃t,My.Txt (L2.KOf KX) t:=by
   dsimp only [L2.KOf] -- K must stand as «<heap const> w.params» for k_is
   refine' My.txt_mk ?e1 ?e2 ?e3 ..
   (case e1=>PySem.W.k_is) -- in the order:a name -> its address -> its object -> its parts
   (case e2=>PySem.W.k_is)
   ..
  obtain ⟨t,T⟩:=T
  have e0:=hmg.symm.trans (PySem.W.mg_of KX G T.law)
  cases e0 -- fa is the law's own address
  exact ⟨_,fun s u=>.of_eq rfl,fun base kb nb=>My.law_fn T kb nb⟩ -- if «.of_eq rfl» comes too early:refine' ⟨_,?b,fun base kb nb=>My.law_fn T kb nb⟩;exact fun s u=>.of_eq rfl
 case S=>exact fun w H a ns hl hO hS=>..
 case C=>exact ..
(the tactic k_is has no namespace:write k_is) -/
namespace L2
open PySem PySem.Spec PyProof.Rows
noncomputable def inClass (s:Stmt) (j:Nat):Stmt:=match s with
 | .ClassDef _ _ _ body _ _ _ _ _ _ _=>body.getD j (.Pass ⟨0,0,0,0⟩)
 | _=>.Pass ⟨0,0,0,0⟩
noncomputable def eN (s:Stmt):Arguments:=match s with
 | .FunctionDef _ a _ _ _ _ _ _ _ _=>a
 | _=>{posonlyargs:=[],args:=[],vararg:=none,kwonlyargs:=[],kw_defaults:=[],kwarg:=none,defaults:=[]}
noncomputable def dq (s:Stmt):List Stmt:=match s with
 | .FunctionDef _ _ b _ _ _ _ _ _ _=>b
 | _=>[]
noncomputable def aH (s:Stmt):Scope:=match s with
 | .FunctionDef _ _ _ _ _ _ sc _ _ _=>sc
 | _=>{kind:=.function,names:=[],isGenerator:=false,isCoroutine:=false}
noncomputable abbrev CX0:CXT:=fun _ _ _ _ _ _=>False
noncomputable abbrev E0:XK:=fun _ _ _=>False
theorem bH {X:Cx}:jO CX0 X E0:=fun _ _ _ _ _ _ _ h=>h.elim
structure Fun (K:PySem.W.Frag) (x qual:Str) (st:Stmt) (f:Addr) (fd:FuncData):Prop where
 ex:∃(oc:Value) (od:Option Addr) (kV doc pm:Value) (an:Option Addr) (cdv ct:Value) (osl:Array (Option Value)),
  fd=PySem.W.fnOf x qual (eN st) (dq st) (aH st) .none kV doc pm an cdv ct∧K.lookup f=some ⟨oc,od,.func fd,osl⟩∧PySem.W.codeIn K cdv qual=true
 kp:PySem.W.keepIn K (.ref f)=true
section
variable {P:Program} {w:World} {K:PySem.W.Frag} {mg:Str→Option Value} {base:Heap}
theorem Fun.ok {x qual:Str} {st:Stmt} {f:Addr} {fd:FuncData} {N ps:List Str} {k:Nat} {sp:Sp} (F:Fun K x qual st f fd) (S:aX N ps (aH st)) (len:∀vs H Q E,sp vs H Q E→vs.length=ps.length)
  (hbody:∀(cdv:Value) (A:Around) (outer:List Env) (s:Shared) (H:Hp) (vs:List V) (Q:VK) (E:XK),fZ k (A.deeper (envOfC qual (aH st) s.heap.objs.size f cdv))→sp vs H Q E→
   ∃t,PSs (nP CX0 P w K mg base N qual (aH st) f cdv A outer s H E).nox (dq st) t∧t {nx:=fun _ H'=>Q .non H',rt:=Q} (start N vs) H):aY P w K mg base CX0 (k+1) f fd ps sp:=by
 obtain ⟨oc,od,kV,doc,pm,an,cdv,ct,osl,rfl,lk,hcd⟩:=F.ex
 refine MT lk hcd S len fun A outer s H vs Q E hr hsp=>?_
 obtain ⟨t,h,q⟩:=hbody cdv A outer s H vs Q E hr hsp
 exact ⟨t,h.nox,q⟩
theorem Fun.binds {x qual:Str} {st:Stmt} {f:Addr} {fd:FuncData} {ps:List Str} (F:Fun K x qual st f fd)
  (h:∀(kV doc pm:Value) (an:Option Addr) (cdv ct:Value) (us:List Value),us.length=ps.length→bindArgs (PySem.W.fnOf x qual (eN st) (dq st) (aH st) .none kV doc pm an cdv ct) ⟨us,[]⟩=pure (ps.zip us)):Binds K fd ps []:=by
 obtain ⟨oc,od,kV,doc,pm,an,cdv,ct,osl,rfl,lk,hcd⟩:=F.ex
 exact .all (h kV doc pm an cdv ct)
theorem fun_mk {x qual:Str} {st:Stmt} {f:Addr} {oc:Value} {od an:Option Addr} {osl:Array (Option Value)} {kV doc pm cdv ct:Value} (l:K.lookup f=some ⟨oc,od,.func (PySem.W.fnOf x qual (eN st) (dq st) (aH st) .none kV doc pm an cdv ct),osl⟩)
  (c:PySem.W.codeIn K cdv qual=true) (k:PySem.W.keepIn K (.ref f)=true):Fun K x qual st f (PySem.W.fnOf x qual (eN st) (dq st) (aH st) .none kV doc pm an cdv ct):=⟨⟨oc,od,kV,doc,pm,an,cdv,ct,osl,rfl,l,c⟩,k⟩
end
theorem qU {A:Around} {k:Nat} (hr:fZ k A):A.units+1 < cLine:=Nat.lt_of_le_of_lt (Nat.add_le_add_left (by decide:1≤64) _) hr.units
theorem aV {n:Nat} (h:n≤1000):n < sizeLine:=Nat.lt_of_le_of_lt h (by decide)
section
variable {X:Cx}
theorem pv (i:Nat) {x:Str} {pos:Pos} (hN:X.N[i]?=some x:=by rfl) (hv:Vis X.env.scope x:=by first | exact Or.inl rfl | exact Or.inr (Or.inl rfl) | exact Or.inr (Or.inr rfl)) (hd:(x==("__debug__":Str))=false:=by decide)
  (hcd:(x==("__classdict__":Str))=false:=by decide):PE X (.Name x pos) (ym i):=NB hN hv hd hcd
end
theorem dz {A B:Prop} (h:B):if false=true then A else B:=by
 rw [if_neg Bool.false_ne_true]
 exact h
theorem dm {A B:Prop} (h:A):if true=true then A else B:=by
 rw [if_pos rfl]
 exact h
theorem Od {c A B:Prop} [Decidable c] (h1:c→A) (h2:¬c→B):if c then A else B:=by
 by_cases h:c
 ·rw [if_pos h]
  exact h1 h
 ·rw [if_neg h]
  exact h2 h
theorem Ab {c A B:Prop} [Decidable c] (hc:c) (h:B):if (!decide c)=true then A else B:=by
 rw [decide_eq_true hc]
 exact dz h
noncomputable def aN (H H':Hp):Prop:=∀b o,H b=some o→H' b=some o
theorem aN.refl (H:Hp):aN H H:=fun _ _ h=>h
theorem aN.trans {H H1 H2:Hp} (a:aN H H1) (b:aN H1 H2):aN H H2:=fun c o h=>b c o (a c o h)
theorem aN.free {H H':Hp} (e:aN H H') {l:Addr} (h:H' l=Option.none):H l=Option.none:=by
 cases q:H l with
 | none=>rfl
 | some o=>
  rw [e l o q] at h
  cases h
theorem aN.seq {K:PySem.W.Frag} {H H':Hp} {a:Addr} {xs:List V} (e:aN H H') (h:SqL K H a xs):SqL K H' a xs:=by
 rcases h with (h | ⟨o,h⟩) | h
 ·exact .inl (.inl (e _ _ h))
 ·exact .inl (.inr ⟨o,e _ _ h⟩)
 ·exact .inr h
end L2
namespace L3
open PySem PySem.Spec PyProof.Rows L2
noncomputable abbrev St:=L2.St
noncomputable abbrev V:=L2.V
noncomputable abbrev NoX:Value→Shared→Prop:=fun _ _=>False
theorem Ke {α:Type} {M:Model} {A:Around} {t:Sem α} {Q:α→Shared→Prop} {E:Value→Shared→Prop} {s:Shared} (h:wpAny M A t Q NoX s):wpAny M A t Q E s:=
 wpAny_mono h (fun _ _ q=>q) fun _ _ z=>False.elim z
theorem yK {prog:Program} {w:World} {A:Around} {R:Result→Shared→Prop} {s:Shared} {elt tg iter:Expr} {ifs:List Expr} {scope:Scope} {pos:Pos} {it acc:Value} {env:Env} (I:Nat→Shared→Prop)
  (turn:∀n s,I n s→wpAny (model prog w) A (pyNext it) (fun r s1=>match r with
   | none=>R (.ok .next) s1
   | some v=>wpAny (model prog w) A (letOwnedTupleGo tg it v) (fun _ s2=>wpAny (model prog w) A (assign tg env v) (fun _ s3=>
     wpAny (model prog w) A (forIn ifs true fun c r=>if r=true then do let ok ←isTrue c env (eval c env);pure (ForInStep.yield ok) else pure (ForInStep.yield r)) (fun ok s4=>
      if ok=true then wpAny (model prog w) A (eval elt env) (fun x s5=>wpAny (model prog w) A (call (.builtin "list.append") [acc,x]) (fun _ s6=>∃m,m < n∧I m s6) NoX s5) NoX s4
      else ∃m,m < n∧I m s4) NoX s3) NoX s2) NoX s1) NoX s)
  (n:Nat) (h:I n s):codeAny (model prog w) A (.compLoop (.ListComp elt [⟨tg,iter,ifs,0⟩] scope pos) 0 it acc env) R s:=by
 refine codeAny_loop rfl I (fun n s hI=>?_) n h
 show wpAny _ A ((compTurn (.ListComp elt [⟨tg,iter,ifs,0⟩] scope pos) 0 it acc env).onRaise (fun x=>do noteFrame x env;theTreesLotGoes x)) _ _ s
 refine wpAny_noted (Ke ?_)
 rw [compTurn_list]
 refine wpAny_bind (wpAny_standAt (wpAny_bind (wpAny_mono (turn n s hI) (fun r s1 h1=>?_) fun _ _ z=>z)))
 cases r with
 | none=>exact wpAny_pure h1
 | some v=>
  refine wpAny_bind (wpAny_mono h1 (fun _ s2 h2=>wpAny_bind (wpAny_mono h2 (fun _ s3 h3=>wpAny_bind (wpAny_mono h3 (fun ok s4 h4=>?_) fun _ _ z=>z)) fun _ _ z=>z)) fun _ _ z=>z)
  cases ok with
  | false=>exact wpAny_pure ⟨rfl,h4⟩
  | true=>exact wpAny_bind (wpAny_bind (wpAny_mono h4 (fun x s5 h5=>wpAny_bind (wpAny_mono h5 (fun _ s6 h6=>wpAny_pure (wpAny_pure ⟨rfl,h6⟩)) fun _ _ z=>z)) fun _ _ z=>z))
noncomputable def jQ (cs:List (Option Nat)) (σ:St):St:=cs.map fun o=>o.bind fun j=>(σ[j]?).bind id
noncomputable def iK (X:Cx) (N':List Str) (scope:Scope) (cl:List (Str × Addr)) (C:Addr) (s3:Shared) (H3:Hp) (fp:List Addr) (pn:List (Addr × Obj)):Cx:=
 {X with N:=N',s₀:=s3,H₀:=H3,env:=compEnvC scope cl C X.env,outer:=X.stack,stack:=X.stack,ex:=fp,fn:=fun _=>false,pn:=pn,xe:=fun _ _=>False}
noncomputable def wF (k:Option NameKind):Prop:=k=some .cell∨k=some .free
inductive qe (X:Cx) (scope:Scope) (cl:List (Str × Addr)):List Str→List (Option Nat)→Prop
 | nil:qe X scope cl [] []
 | own {x N cs}:qe X scope cl N cs→qe X scope cl (x::N) (none::cs)
 | cap {x j N cs} (h1:X.N[j]?=some x) (h2:wF (X.env.kindOf x)) (h3:wF ((relabel scope X.env).names.lookup x)) (h4:cl.lookup x=X.env.cells.lookup x):
   qe X scope cl N cs→qe X scope cl (x::N) (some j::cs)
theorem qe.len {X:Cx} {scope:Scope} {cl:List (Str × Addr)} {N cs} (h:qe X scope cl N cs):cs.length=N.length:=by
 induction h with
 | nil=>rfl
 | own _ ih=>simp [ih]
 | cap _ _ _ _ _ ih=>simp [ih]
theorem qe.get {X:Cx} {scope:Scope} {cl:List (Str × Addr)} {N cs} (h:qe X scope cl N cs) {σ:St}:∀{i:Nat} {x:Str} {v:V},N[i]?=some x→(jQ cs σ)[i]?=some (some v)→
  ∃j:Nat,X.N[j]?=some x∧σ[j]?=some (some v)∧wF (X.env.kindOf x)∧wF ((relabel scope X.env).names.lookup x)∧cl.lookup x=X.env.cells.lookup x:=by
 induction h with
 | nil=>intro i x v h1 h2;simp at h1
 | own _ ih=>
  intro i x v h1 h2
  cases i with
  | zero=>simp [jQ] at h2
  | succ i=>exact ih (i:=i) (by simpa using h1) (by simpa [jQ] using h2)
 | @cap y j N cs a1 a2 a3 a4 _ ih=>
  intro i x v h1 h2
  cases i with
  | zero=>
   simp at h1
   subst h1
   refine ⟨j,a1,?_,a2,a3,a4⟩
   simp [jQ] at h2
   cases q:σ[j]? with
   | none=>rw [q] at h2;simp at h2
   | some o=>
    rw [q] at h2
    simp at h2
    rw [h2]
  | succ i=>exact ih (i:=i) (by simpa using h1) (by simpa [jQ] using h2)
noncomputable def Kf (cl:List (Str × Addr)) (names:List (Str × NameKind)):Bool:=names.all fun y=>(y.2 !=.cell && y.2 !=.free) || (cl.lookup y.1).isSome
theorem Fo {cl:List (Str × Addr)} {names:List (Str × NameKind)} (h:Kf cl names=true) {x:Str} (k:wF (names.lookup x)):∃c,cl.lookup x=some c:=by
 have key:∀q:NameKind,names.lookup x=some q→(q=.cell∨q=.free)→∃c,cl.lookup x=some c:=fun q e hq=>by
  have m:=List.all_eq_true.mp h (x,q) (PySem.mem_of_lookup e)
  rcases hq with rfl | rfl
  ·exact Option.isSome_iff_exists.mp (by simpa using m)
  ·exact Option.isSome_iff_exists.mp (by simpa using m)
 rcases k with k | k
 ·exact key _ k (.inl rfl)
 ·exact key _ k (.inr rfl)
noncomputable def Fp (X:Cx) (ifs:List Expr) (t:TT):Prop:=
 ∀(pins:List (Addr × Obj)) (s:Shared) (σ:St) (H:Hp) (Q:Bool→Hp→Prop),Inv X pins σ H s→t σ H Q→
  wpAny (model X.prog X.w) X.A (forIn ifs true fun c r=>if r=true then do let ok ←isTrue c X.env (eval c X.env);pure (ForInStep.yield ok) else pure (ForInStep.yield r)) (TP X pins σ Q) X.xe s
noncomputable def u5:TT:=fun _ H Q=>Q true H
theorem gH {X:Cx}:Fp X [] u5:=fun _ _ _ H _ I h=>wpAny_tests_nil ⟨H,I,h⟩
theorem Ac {X:Cx} {c:Expr} {t:TT} (h:PT X c t):Fp X [c] t:=fun pins s σ H Q I q=>wpAny_tests_one (h pins s σ H Q I q)
noncomputable def tLC (wi:TI) (cs:List (Option Nat)) (g:TG) (tt:TT) (te:TE):TE:=fun σ H Q=>wi σ H fun J H1=>∀D,H1 D=none→
 ∃W:Nat→Nat→List V→St→Hp→Prop,(∃m,W 0 m [] (jQ cs σ) (upd H1 D (.lst [])))∧∀i m ys σ' H',W i m ys σ' H'→H' D=some (.lst ys)∧ys.length < sizeLine∧
  ((J.stop i H'∧Q (.ref D) H')∨(J.go i H'∧∀x H2,J.yld i H' x H2→g x σ' H2 fun σ3 H3=>tt σ3 H3 fun b H4=>
   if b=true then te σ3 H4 fun y H5=>H5 D=some (.lst ys)∧∃m',m' < m∧W (i+1) m' (ys++[y]) σ3 (upd H5 D (.lst (ys++[y])))
   else ∃m',m' < m∧W (i+1) m' ys σ3 H4))
section
variable {X:Cx} {elt tg iter:Expr} {ifs:List Expr} {scope:Scope} {pos:Pos} {N':List Str} {cs:List (Option Nat)} {cl:List (Str × Addr)} {wi:TI} {g:TG} {tt:TT} {te:TE}
theorem Kg {P:Program} {w:World} {H:Hp} {h h':Heap} {C:Addr} (ok:HOk P w H h) (hC:H C=none) (hs:Heap.SameBut C h h'):HOk P w H h':=fun b ob e=>by
 refine (ok b ob e).stay (fun c u hc q=>(hs.2 c ?_).trans q) (fun _ q=>q) fun _ _ q=>q
 rintro rfl
 rcases hc with rfl | hc
 ·rw [hC] at e;cases e
 ·rw [hC] at hc;cases hc
theorem Fq {use:Option (Value→Sem Unit)} {QQ:Value→Shared→Prop} {pins:List (Addr × Obj)} {s:Shared} {σ:St} {H:Hp} {Q:VK} {fpos:Pos} (hc:X.calm=true) (hi:PI X tg iter wi) (hclos:closureFor scope X.env=pure cl) (hcell:∀y∈scope.names,y.2≠.cell) (hkind:scope.kind=.function)
  (hnames:∀y∈scope.names,y.2=.local→scope.names.lookup y.1=some .local) (hsub:∀x c,cl.lookup x=some c→X.env.cells.lookup x=some c)
  (hok:Kf cl (relabel scope X.env).names=true) (hcaps:qe X scope cl N' cs)
  (hb:∀(C:Addr) (s3:Shared) (H3:Hp) (fp:List Addr) (pn:List (Addr × Obj)),PG (iK X N' scope cl C s3 H3 fp pn) tg g∧Fp (iK X N' scope cl C s3 H3 fp pn) ifs tt∧PE (iK X N' scope cl C s3 H3 fp pn) elt te)
  (hs:∀x,foldedSetIterable iter X.env x=pure x:=by intro _;rfl) (I:Inv X pins σ H s) (h:tLC wi cs g tt te σ H Q)
  (post:∀(D C:Addr) (s4:Shared) (H':Hp) (m:Str→Option Value),Inv X pins σ H' s4→s4.heap.Ns C m→ww X pins H' C→Q (.ref D) H'→compPost (model X.prog X.w) X.A X.xe use QQ (.ref D) C (.ok .next) s4):
  wpAny (model X.prog X.w) X.A (comprehension (.ListComp elt [⟨tg,iter,ifs,0⟩] scope pos) scope X.env fpos (newList []) false (eval iter X.env) use) QQ X.xe s:=by
 refine wpAny_comprehension_free (use:=use) rfl hs hclos hkind hnames (thn (hi pins s σ H _ I h) fun v s1 h1=>thn h1 fun itv s2 h2=>?_)
 obtain ⟨it,fp,tn,J,H2,rfl,I2,T,st2,f2,q2⟩:=h2
 refine wpAny_newObj_type (wpAny_newFunctionEnv hcell (by intro y hy;simp at hy) (fun h1 hns1 hsb1=>?_) hkind)
 dsimp only at hns1 hsb1 ⊢
 have I3:Inv X pins σ (upd H2 s2.heap.objs.size (.lst [])) {s2 with heap:=s2.heap.push {cls:=.type "list",data:=.seq ([]:List Value).toArray},toks:=s2.toks}:=I2.lnew (its:=[]) (ys:=[]) .nil (Nat.zero_le _)
 have hDf:H2 s2.heap.objs.size=none:=I2.fresh
 obtain ⟨W,⟨m0,w0⟩,turn⟩:=q2 _ hDf
 generalize hH3:s2.heap.push {cls:=.type "list",dict:=none,data:=.seq ([]:List Value).toArray}=h3 at hns1 hsb1 I3 ⊢
 have hsz3:h3.objs.size=s2.heap.objs.size+1:=by rw [←hH3,Heap.size_push]
 generalize hD:s2.heap.objs.size=D at *
 have kept:∀b o,h3.get? b=some o→h1.get? b=some o:=fun b o e=>hsb1.extBut b o (Nat.ne_of_lt (Heap.lt_size e)) (Heap.get?_push_of_some _ e)
 have old:∀b o,s2.heap.get? b=some o→h3.get? b=some o:=fun b o e=>by rw [←hH3];exact Heap.get?_push_of_some _ e
 have fpo:∀b∈fp,b < D:=fun b hb'=>by
  obtain ⟨o,e,_⟩:=T.obj 0 _ st2 b hb'
  rw [←hD]
  exact Heap.lt_size e
 have fpfs:∀b∈fp,b∉frs X.stack:=fun b hb' z=>by
  obtain ⟨_,f1,f3,_⟩:=f2 b hb'
  rcases List.mem_cons.mp (I2.stkSub b z) with e | e
  ·exact f1 e
  ·exact f3 e
 generalize hX:iK X N' scope cl h3.objs.size {s2 with heap:=h3,toks:=s2.toks} (upd H2 D (.lst [])) fp (X.pn++pins)=X'
 obtain ⟨hg,hif,he⟩:=hb h3.objs.size {s2 with heap:=h3,toks:=s2.toks} (upd H2 D (.lst [])) fp (X.pn++pins)
 rw [hX] at hg hif he
 have eP:X'.prog=X.prog:=by rw [←hX];rfl
 have eW:X'.w=X.w:=by rw [←hX];rfl
 have eK:X'.K=X.K:=by rw [←hX];rfl
 have eC:X'.calm=X.calm:=by rw [←hX];rfl
 have I4:Inv X' [] (jQ cs σ) (upd H2 D (.lst [])) {s2 with heap:=h1,toks:=s2.toks+0}:=by
  rw [←hX]
  refine ⟨⟨I3.ok.mod,hkind,I3.ok.glob,I3.ok.blt,Nat.le_refl _,fun x y c e1 e2=>I3.ok.inj x y c (hsub _ _ e1) (hsub _ _ e2),fun x hx=>Fo hok hx,fun x c z _=>absurd (show false=true from z) Bool.false_ne_true,I3.ok.hd,I3.ok.frames,.inl rfl,
   fun b hb'=>⟨fun e=>?_,fun x c e=>(f2 b hb').2.2.2.2.1 x c (hsub _ _ e)⟩,I3.bs,Nat.le_trans I3.ok.bsz I3.sz,fun b o e hb'=>?_,fpfs,I3.stack,I3.stkFree⟩,rfl,I3.bare,Un.kept kept,⟨_,hns1,fun i x v e1 e2 e3=>?_⟩,fun x c e=>?_,I3.hok.fresh (Nat.le_refl _),fun x c e=>I3.freeC x c (hsub _ _ e),
   fun p hp=>?_,I3.hok.kept kept,?_⟩
  ·have l:=fpo b hb'
   rw [show b=h3.objs.size from e,hsz3] at l
   exact Nat.lt_irrefl _ (Nat.lt_of_succ_lt l)
  ·have l:=fpo b hb'
   rcases (f2 b hb').2.2.2.1 with z | z
   ·exact I2.ok.noex b o e z
   ·exact absurd (Nat.lt_of_lt_of_le (Heap.lt_size (I2.ok.bs b o e).1) z) (Nat.lt_irrefl _)
  ·obtain ⟨j,a1,a2,a3,a4,a5⟩:=hcaps.get e1 e2
   obtain ⟨m,hn,hl⟩:=I3.loc
   obtain ⟨u,ru,l⟩:=hl j x v a1 a2 (by rcases a3 with z | z;exact .inr (.inl z);exact .inr (.inr z))
   refine ⟨u,ru,.inr ⟨a4,?_⟩⟩
   rcases l with ⟨k,_⟩ | ⟨k,c,e,z⟩
   ·rcases a3 with q | q <;> (rw [k] at q;cases q)
   ·obtain ⟨o,ho,hd⟩:=z
    exact ⟨c,a5.trans e,o,kept c o ho,hd⟩
  ·obtain ⟨v,o,ho,hd⟩:=I3.cell x c (hsub _ _ e)
   exact ⟨v,o,kept c o ho,hd⟩
  ·have hp':p∈X.pn++pins:=by simpa [iK] using hp
   obtain ⟨e,n,ne,nf,d⟩:=I3.pin p hp'
   refine ⟨kept _ _ e,n,Nat.ne_of_lt (Heap.lt_size e),fun z=>?_,d⟩
   rcases List.mem_cons.mp (I3.stkSub p.1 z) with q | q
   ·exact ne q
   ·exact nf q
  ·show (jQ cs σ).length=N'.length
   rw [jQ,List.length_map]
   exact hcaps.len
 have tn1:tn 0 h1:=T.keep 0 _ _ st2 fun b hb' o e=>kept b o (old b o e)
 have stat:∀{H':Hp},(∀b∈fp,H' b=none)→∀b∈fp,ww X' [] H' b:=fun {H'} hn b hb'=>by
  rw [←hX]
  refine ⟨hn b hb',fun e=>?_,fpfs b hb',.inl hb',fun x c e=>(f2 b hb').2.2.2.2.1 x c (hsub _ _ e),fun p hp=>(f2 b hb').2.2.2.2.2 p (by simpa [iK] using hp)⟩
  have l:=fpo b hb'
  rw [show b=h3.objs.size from e,hsz3] at l
  exact Nat.lt_irrefl _ (Nat.lt_of_succ_lt l)
 have fr0:∀b∈fp,(upd H2 D (.lst [])) b=none:=fun b hb'=>by
  rw [aA (Nat.ne_of_lt (fpo b hb'))]
  exact (f2 b hb').1
 have xA:X'.A=X.A:=by rw [←hX];rfl
 have xE:X'.env=compEnvC scope cl h3.objs.size X.env:=by rw [←hX];rfl
 have xX:X'.xe=NoX:=by rw [←hX];rfl
 have loop:codeAny (model X.prog X.w) X.A (.compLoop (.ListComp elt [⟨tg,iter,ifs,0⟩] scope pos) 0 (.ref it) (.ref D) (compEnvC scope cl h3.objs.size X.env))
   (compPost (model X.prog X.w) X.A X.xe use QQ (.ref D) h3.objs.size) {s2 with heap:=h1,toks:=s2.toks+0}:=by
  refine yK (fun n s'=>∃i ys σ' H',Inv X' [] σ' H' s'∧tn i s'.heap∧(∀b∈fp,H' b=none)∧W i n ys σ' H') ?_ m0 ⟨0,[],_,_,I4,tn1,fr0,w0⟩
  rintro n s' ⟨i,ys,σ',H',I',st',fr',w'⟩
  obtain ⟨hHD,hyl,hor⟩:=turn i n ys σ' H' w'
  rcases hor with ⟨stop,q⟩ | ⟨go,step⟩
  ·have hd:=T.done X' eP eW eK (eC.trans hc) i [] s' σ' H' NoX I' (stat fr') st' stop
   rw [xA] at hd
   refine thn hd fun r s4 hr=>?_
   obtain ⟨rfl,I5⟩:=hr
   obtain ⟨m,hn,_⟩:=id I5.loc
   have eL:X'.env.locals=h3.objs.size:=by rw [xE];rfl
   have hfree:H' h3.objs.size=none:=by rw [←eL];exact I5.free
   have bu:=I5.base
   rw [←hX] at bu
   have hos:s4.os=s2.os:=by
    have z:=I5.os
    rw [←hX] at z
    exact z
   have hk5:=I5.hok
   rw [eP,eW] at hk5
   have Iout:Inv X pins σ H' s4:=I3.call' (s':=s4) (ch:=fp) hos ⟨bu.keep,bu.slot,bu.free,bu.there,bu.tups,bu.frzs,bu.tbls⟩ hk5 I5.bare fun b hb'=>by
    obtain ⟨_,g1,_,g3,g4,g5⟩:=f2 b hb'
    exact ⟨g3,g1,g4,g5⟩
   exact post D h3.objs.size s4 H' m Iout (by rw [eL] at hn;exact hn) (I3.fpOk (Nat.le_refl _) hfree) q
  ·have hit:=T.item X' eP eW eK (eC.trans hc) i [] s' σ' H' NoX I' (stat fr') st' go
   rw [xA] at hit
   refine thn hit fun r s4 hr=>?_
   obtain ⟨u,rfl,h4⟩:=hr
   refine thn h4 fun _ s5 h5=>?_
   obtain ⟨x,H5,I5,r5,y5,st5,fr5⟩:=h5
   have I5':=I5.pinned (stat fr5) (T.obj _ _ st5)
   have ha:=hg _ s5 σ' H5 x u _ I5' r5 (step x H5 y5)
   rw [xA,xE,xX,eP,eW] at ha
   refine thn ha fun _ s6 h6=>?_
   obtain ⟨σ6,H6,I6,q6⟩:=h6
   have ht:=hif _ s6 σ6 H6 _ I6 q6
   rw [xA,xE,xX,eP,eW] at ht
   refine thn ht fun ok s7 h7=>?_
   obtain ⟨H7,I7,q7⟩:=h7
   have back:∀{σ8:St} {H8:Hp} {s8:Shared} {ys':List V} {m':Nat},Inv X' ([]++qK fp s5.heap) σ8 H8 s8→m' < n→W (i+1) m' ys' σ8 H8→
     ∃m,m < n∧∃i ys σ' H',Inv X' [] σ' H' s8∧tn i s8.heap∧(∀b∈fp,H' b=none)∧W i m ys σ' H':=fun {σ8 H8 s8 ys' m'} I8 hm w8=>by
    refine ⟨m',hm,i+1,ys',σ8,H8,I8.unpinned,T.keep _ _ _ st5 fun b hb' o e=>(I8.pin (b,o) (List.mem_append_right _ (List.mem_append_right _ (jK hb' e)))).1,fun b hb'=>?_,w8⟩
    obtain ⟨o,e,d⟩:=T.obj _ _ st5 b hb'
    exact (I8.pin (b,o) (List.mem_append_right _ (List.mem_append_right _ (jK hb' e)))).2.1
   cases ok with
   | false=>
    rw [if_neg Bool.false_ne_true] at q7 ⊢
    obtain ⟨m',hm,w7⟩:=q7
    exact back I7 hm w7
   | true=>
    rw [if_pos rfl] at q7 ⊢
    have hel:=he _ s7 σ6 H7 _ I7 q7
    rw [xA,xE,xX,eP,eW] at hel
    refine thn hel fun yv s8 h8=>?_
    obtain ⟨y,H8,I8,r8,hD8,m',hm,w8⟩:=h8
    have hap:=gr (X:=X') _ s8 σ6 H8 (.ref D) [y] (.ref D) [yv] (fun _ H9=>H9=upd H8 D (.lst (ys++[y]))) I8 rfl (.cons r8 .nil) ⟨D,ys,y,rfl,rfl,hD8,hyl,rfl⟩
    rw [xA,xX,eP,eW] at hap
    refine thn hap fun _ s9 h9=>?_
    obtain ⟨_,H9,I9,_,rfl⟩:=h9
    exact back I9 hm w8
 exact codeAny_compStart_list loop (T.self _ 0 _ _ _ tn1 loop)
theorem nQ (hc:X.calm=true) (hi:PI X tg iter wi) (hclos:closureFor scope X.env=pure cl) (hcell:∀y∈scope.names,y.2≠.cell) (hkind:scope.kind=.function)
  (hnames:∀y∈scope.names,y.2=.local→scope.names.lookup y.1=some .local) (hsub:∀x c,cl.lookup x=some c→X.env.cells.lookup x=some c)
  (hok:Kf cl (relabel scope X.env).names=true) (hcaps:qe X scope cl N' cs)
  (hb:∀(C:Addr) (s3:Shared) (H3:Hp) (fp:List Addr) (pn:List (Addr × Obj)),PG (iK X N' scope cl C s3 H3 fp pn) tg g∧Fp (iK X N' scope cl C s3 H3 fp pn) ifs tt∧PE (iK X N' scope cl C s3 H3 fp pn) elt te)
  (hs:∀x,foldedSetIterable iter X.env x=pure x:=by intro _;rfl):PE X (.ListComp elt [⟨tg,iter,ifs,0⟩] scope pos) (tLC wi cs g tt te):=by
 intro pins s σ H Q I h
 rw [eval_ListComp]
 refine Fq hc hi hclos hcell hkind hnames hsub hok hcaps hb hs I h fun D C s4 H' m I4 hn fC q=>⟨m,hn,fun h' hsb=>⟨.ref D,H',?_,rfl,q⟩⟩
 obtain ⟨f0,f1,f2,f3,f4,f5⟩:=fC
 exact I4.turned (t':=s4.toks) (fun b o hb e=>(hsb.2 b hb).trans e) f0 f1 f3 f4 f5
theorem nR {i:Nat} {y:Str} {py spos:Pos} (hN:X.N.Nodup) (hiy:X.N[i]?=some y) (hly:X.env.scope.names.lookup y=some .local) (hsw:swapsWith (.ListComp elt [⟨tg,iter,ifs,0⟩] scope pos) (some (.Name y py)) spos.line X.env=pure true)
  (hc:X.calm=true) (hi:PI X tg iter wi) (hclos:closureFor scope X.env=pure cl) (hcell:∀y∈scope.names,y.2≠.cell) (hkind:scope.kind=.function)
  (hnames:∀y∈scope.names,y.2=.local→scope.names.lookup y.1=some .local) (hsub:∀x c,cl.lookup x=some c→X.env.cells.lookup x=some c)
  (hok:Kf cl (relabel scope X.env).names=true) (hcaps:qe X scope cl N' cs)
  (hb:∀(C:Addr) (s3:Shared) (H3:Hp) (fp:List Addr) (pn:List (Addr × Obj)),PG (iK X N' scope cl C s3 H3 fp pn) tg g∧Fp (iK X N' scope cl C s3 H3 fp pn) ifs tt∧PE (iK X N' scope cl C s3 H3 fp pn) elt te)
  (hs:∀x,foldedSetIterable iter X.env x=pure x:=by intro _;rfl):PS X (.Assign [.Name y py] (.ListComp elt [⟨tg,iter,ifs,0⟩] scope pos) spos) (yq (tLC wi cs g tt te) (dX i)):=by
 intro pins s σ H D0 I h
 rw [exec_Assign_Name_used _ _ _ _ hsw]
 refine wpAny_bind (wpAny_standAt (wpAny_bind ?_))
 show wpAny _ X.A (do let _ ←comprehension (.ListComp elt [⟨tg,iter,ifs,0⟩] scope pos) scope X.env _ (newList []) false (eval iter X.env) (some (assign (.Name y py) X.env))) _ _ s
 refine wpAny_bind (wpAny_mono (Fq (use:=some (assign (.Name y py) X.env)) (QQ:=fun _ s'=>SP X pins D0 .next s') hc hi hclos hcell hkind hnames hsub hok hcaps hb hs I h ?_) (fun _ s' hq=>wpAny_pure (wpAny_pure hq)) fun _ _ e=>e)
 intro D C s4 H' m I4 hn fC q
 obtain ⟨f0,f1,f2,f3,f4,f5⟩:=fC
 refine wpAny_assign_Name (ug I4 hN hiy (.inl hly) (v:=.ref D) rfl (fun s6 I6 ⟨a,sb,ha⟩=>?_) (.inr hly))
 have hCa:C≠a:=by
  rcases ha with rfl | ha
  ·exact f1
  ·exact fun e=>f4 _ _ ha e.symm
 refine ⟨m,hn.sameBut sb hCa,fun h' hsb=>⟨_,H',?_,q⟩⟩
 exact I6.turned (t':=s6.toks) (fun b o hb e=>(hsb.2 b hb).trans e) f0 f1 f3 f4 f5
end
noncomputable def Wk (J:It) (H1:Hp) (xs:List V):Prop:=∀H',aN H1 H'→J.stop xs.length H'∧(∀i,i < xs.length→J.go i H')∧∀i x H2,i < xs.length→J.yld i H' x H2→H2=H'∧xs[i]?=some x
theorem nT {K:PySem.W.Frag} {a:Addr} {xs:List V} {H1:Hp} (h:SqL K H1 a xs):Wk (Itl K a) H1 xs:=fun H' sm=>
 ⟨⟨xs,sm.seq h,Nat.le_refl _⟩,fun i hi=>⟨xs,xs[i],sm.seq h,by simp [hi]⟩,fun i x H2 _ y=>⟨y.1,y.2 xs (sm.seq h)⟩⟩
theorem qW {H1:Hp} (lo:Int) (n:Nat):Wk (Itr lo n) H1 ((List.range n).map fun i:Nat=>V.int (lo+i)):=fun H' _=>
 ⟨by show n≤_;simp,fun i hi=>(by simpa using hi:i < n),fun i x H2 hi y=>by
  obtain ⟨e1,e2⟩:=y
  have hi':i < n:=by simpa using hi
  refine ⟨e1,?_⟩
  rw [e2]
  simp [hi']⟩
theorem T9 {J:It} {xs:List V} {g:TG} {tb:TS} {D:Ends} {σ:St} {H:Hp} (Pv:Nat→St→Hp→Prop) (wk:Wk J H xs) (h0:Pv 0 σ H) (hm:∀i σ' H',Pv i σ' H'→aN H H')
  (hs:∀i x σ' H',xs[i]?=some x→Pv i σ' H'→g x σ' H' fun σ2 H2=>tb {D with nx:=Pv (i+1),ct:=Pv (i+1),bk:=D.nx} σ2 H2) (hd:∀σ' H',Pv xs.length σ' H'→D.nx σ' H'):
  ∃W:Nat→Nat→St→Hp→Prop,(∃m,W 0 m σ H)∧∀i m σ H,W i m σ H→
   (J.stop i H∧D.nx σ H)∨(J.go i H∧∃N:St→Hp→Prop,(∀σ' H',N σ' H'→∃m',m' < m∧W (i+1) m' σ' H')∧∀x H',J.yld i H x H'→g x σ H' fun σ2 H2=>tb {D with nx:=N,ct:=N,bk:=D.nx} σ2 H2):=by
 refine ⟨fun i m σ' H'=>m=xs.length - i∧i≤xs.length∧Pv i σ' H',⟨xs.length,by simp,Nat.zero_le _,h0⟩,?_⟩
 rintro i m σ' H' ⟨rfl,hi,p⟩
 obtain ⟨w1,w2,w3⟩:=wk H' (hm i σ' H' p)
 by_cases hlt:i < xs.length
 ·refine .inr ⟨w2 i hlt,Pv (i+1),fun σ2 H2 p'=>⟨xs.length - (i+1),by omega,rfl,hlt,p'⟩,fun x H2 y=>?_⟩
  obtain ⟨rfl,ex⟩:=w3 i x H2 hlt y
  exact hs i x σ' _ ex p
 ·have e:i=xs.length:=by omega
  subst e
  exact .inl ⟨w1,hd σ' H' p⟩
theorem Q6 {J:It} {xs:List V} {cs:List (Option Nat)} {σ rest:St} {tt:TT} {te:TE} {Q:VK} {H1:Hp} (hcs:jQ cs σ=none::rest) (wk:Wk J H1 xs) (hl:xs.length < sizeLine) (p:V→Bool) (f:V→V)
  (test:∀(i:Nat) (x:V) (H2:Hp) (R:Bool→Hp→Prop),xs[i]?=some x→aN H1 H2→(∀H5,aN H2 H5→R (p x) H5)→tt (some x::rest) H2 R)
  (elt:∀(i:Nat) (x:V) (H2:Hp) (R:VK),xs[i]?=some x→p x=true→aN H1 H2→(∀H5,aN H2 H5→R (f x) H5)→te (some x::rest) H2 R)
  (fin:∀(D:Addr) (H':Hp),H1 D=none→H' D=some (.lst ((xs.filter p).map f))→aN H1 H'→Q (.ref D) H'):
  ∀D,H1 D=none→∃W:Nat→Nat→List V→St→Hp→Prop,(∃m,W 0 m [] (jQ cs σ) (upd H1 D (.lst [])))∧∀i m ys σ' H',W i m ys σ' H'→H' D=some (.lst ys)∧ys.length < sizeLine∧
   ((J.stop i H'∧Q (.ref D) H')∨(J.go i H'∧∀x H2,J.yld i H' x H2→dX 0 x σ' H2 fun σ3 H3=>tt σ3 H3 fun b H4=>
    if b=true then te σ3 H4 fun y H5=>H5 D=some (.lst ys)∧∃m',m' < m∧W (i+1) m' (ys++[y]) σ3 (upd H5 D (.lst (ys++[y])))
    else ∃m',m' < m∧W (i+1) m' ys σ3 H4)):=by
 intro D hD
 refine ⟨fun i m ys σ' H'=>m=xs.length - i∧i≤xs.length∧ys=((xs.take i).filter p).map f∧(∃o,σ'=o::rest)∧aN H1 H'∧H' D=some (.lst ys),⟨xs.length,by simp,Nat.zero_le _,by simp,⟨none,hcs⟩,fun b o e=>?_,aq⟩,?_⟩
 ·rw [aA (aF e hD)]
  exact e
 ·rintro i m ys σ' H' ⟨rfl,hi,rfl,⟨o,rfl⟩,sm,hHD⟩
  obtain ⟨w1,w2,w3⟩:=wk H' sm
  refine ⟨hHD,Nat.lt_of_le_of_lt ?_ hl,?_⟩
  ·rw [List.length_map]
   refine Nat.le_trans (List.length_filter_le _ _) ?_
   rw [List.length_take]
   exact Nat.min_le_right _ _
  by_cases hlt:i < xs.length
  ·refine .inr ⟨w2 i hlt,fun x H2 y=>?_⟩
   obtain ⟨rfl,ex⟩:=w3 i x H2 hlt y
   show tt (some x::rest) H2 _
   refine test i x H2 _ ex sm fun H4 s4=>?_
   have tk:xs.take (i+1)=xs.take i++[x]:=by rw [List.take_add_one,ex];rfl
   cases hp:p x with
   | true=>
    refine dm ?_
    refine elt i x H4 _ ex hp (sm.trans s4) fun H5 s5=>⟨s5 _ _ (s4 _ _ hHD),xs.length - (i+1),by omega,rfl,hlt,?_,⟨_,rfl⟩,fun b ob e=>?_,aq⟩
    ·rw [tk,List.filter_append,List.map_append]
     simp [hp]
    ·rw [aA (aF e hD)]
     exact s5 _ _ (s4 _ _ (sm _ _ e))
   | false=>
    refine dz ⟨xs.length - (i+1),by omega,rfl,hlt,?_,⟨_,rfl⟩,sm.trans s4,s4 _ _ hHD⟩
    rw [tk,List.filter_append,List.map_append]
    simp [hp]
  ·have e:i=xs.length:=by omega
   subst e
   exact .inl ⟨w1,fin D H' hD (by rw [hHD,List.take_length]) sm⟩
theorem Oe {J:It} {xs:List V} {cs:List (Option Nat)} {σ rest:St} {te:TE} {Q:VK} {H1:Hp} (hcs:jQ cs σ=none::rest) (wk:Wk J H1 xs) (hl:xs.length < sizeLine) (f:V→V)
  (elt:∀(i:Nat) (x:V) (H2:Hp) (R:VK),xs[i]?=some x→aN H1 H2→(∀H5,aN H2 H5→R (f x) H5)→te (some x::rest) H2 R)
  (fin:∀(D:Addr) (H':Hp),H1 D=none→H' D=some (.lst (xs.map f))→aN H1 H'→Q (.ref D) H'):
  ∀D,H1 D=none→∃W:Nat→Nat→List V→St→Hp→Prop,(∃m,W 0 m [] (jQ cs σ) (upd H1 D (.lst [])))∧∀i m ys σ' H',W i m ys σ' H'→H' D=some (.lst ys)∧ys.length < sizeLine∧
   ((J.stop i H'∧Q (.ref D) H')∨(J.go i H'∧∀x H2,J.yld i H' x H2→dX 0 x σ' H2 fun σ3 H3=>u5 σ3 H3 fun b H4=>
    if b=true then te σ3 H4 fun y H5=>H5 D=some (.lst ys)∧∃m',m' < m∧W (i+1) m' (ys++[y]) σ3 (upd H5 D (.lst (ys++[y])))
    else ∃m',m' < m∧W (i+1) m' ys σ3 H4)):=
 Q6 hcs wk hl (fun _=>true) f (fun i x H2 R _ _ h=>h H2 (aN.refl _)) (fun i x H2 R ex _ sm h=>elt i x H2 R ex sm h) fun D H' h1 h2 h3=>fin D H' h1 (by rw [h2,List.filter_eq_self.mpr fun _ _=>rfl]) h3
open PySem PySem.Spec PyProof.Rows L2
noncomputable def signs (x:Str):List V:=x.cps.toList.map fun c=>V.str ⟨#[c]⟩
noncomputable def Its (x:Str):It:=⟨fun i _=>i < x.cps.size,fun i H v H'=>H'=H∧∃c,x.cps[i]?=some c∧v=.str ⟨#[c]⟩,fun i _=>i=x.cps.size⟩
theorem Og {H1:Hp} (x:Str):Wk (Its x) H1 (signs x):=fun H' _=>by
 have hl:(signs x).length=x.cps.size:=by simp [signs]
 refine ⟨hl,fun i hi=>by rw [hl] at hi;exact hi,fun i v H2 hi y=>?_⟩
 obtain ⟨e1,c,e2,e3⟩:=y
 refine ⟨e1,?_⟩
 subst e3
 have e4:x.cps.toList[i]?=some c:=by simpa using e2
 simp [signs,e4]
theorem Ft {P:Program} {w:World} {K:PySem.W.Frag} {tg:Expr} (it:Addr) (x:Str) (t:Tok) {ty:String} (hty:ty="str_ascii_iterator"∨ty="str_iterator"):Turn P w K tg (Its x) [it] it (fun i h=>h.IsStrIter it ty x t i) where
 mem:=by simp
 obj:=fun i h st b hb=>by
  have e:b=it:=by simpa using hb
  subst e
  obtain ⟨o,e,c,d⟩:=st
  exact ⟨o,e,fun v z=>by rw [d] at z;cases z⟩
 keep:=fun i h h' st k=>by
  obtain ⟨o,e,r⟩:=st
  exact ⟨o,k it (by simp) o e,r⟩
 item:=by
  intro X hP hw hK hc i pins s σ H E I hf st hg
  subst hP hw hK
  obtain ⟨f0,f1,f2,f3,f4,f5⟩:=hf it (by simp)
  have hi:i < x.cps.size:=hg
  have ec:x.cps[i]?=some x.cps[i]:=by simp [hi]
  rcases hty with rfl | rfl
  ·refine wpAny_pyNext_ascii_item st ec fun h' st' sb=>?_
   have I1:Inv X pins σ H {s with heap:=h',toks:=s.toks+1}:=I.turned (fun b o hb e=>(sb.2 b hb).trans e) f0 f1 f3 f4 f5
   obtain ⟨o,e,c,d⟩:=id st'
   exact ⟨_,rfl,wy (s:={s with heap:=h',toks:=s.toks+1}) e c d (by decide) ⟨.str ⟨#[x.cps[i]]⟩,H,I1,⟨_,rfl⟩,⟨rfl,_,ec,rfl⟩,st',fun b hb=>(hf b hb).1⟩⟩
  ·refine wpAny_pyNext_wide_item st ec fun h' st' sb=>?_
   have I1:Inv X pins σ H {s with heap:=h',toks:=s.toks+1}:=I.turned (fun b o hb e=>(sb.2 b hb).trans e) f0 f1 f3 f4 f5
   obtain ⟨o,e,c,d⟩:=id st'
   exact ⟨_,rfl,wy (s:={s with heap:=h',toks:=s.toks+1}) e c d (by decide) ⟨.str ⟨#[x.cps[i]]⟩,H,I1,⟨_,rfl⟩,⟨rfl,_,ec,rfl⟩,st',fun b hb=>(hf b hb).1⟩⟩
 done:=by
  intro X hP hw hK hc i pins s σ H E I hf st hg
  subst hP hw hK
  obtain ⟨f0,f1,f2,f3,f4,f5⟩:=hf it (by simp)
  have ec:x.cps[i]?=none:=by
   have e:i=x.cps.size:=hg
   simp [e]
  rcases hty with rfl | rfl
  ·exact wpAny_pyNext_ascii_end (I.ok.hd hc) st ec fun h' eb=>⟨rfl,I.turned (t':=s.toks) (fun b o hb e=>eb b o hb e) f0 f1 f3 f4 f5⟩
  ·exact wpAny_pyNext_wide_end (I.ok.hd hc) st ec fun h' eb=>⟨rfl,I.turned (t':=s.toks) (fun b o hb e=>eb b o hb e) f0 f1 f3 f4 f5⟩
 self:=fun _ _ _ _ _ st h=>by
  rcases hty with rfl | rfl
  ·exact wpAny_pyIter_striter_ascii st h
  ·exact wpAny_pyIter_striter_wide st h
section
variable {X:Cx} {tg:Expr}
noncomputable def Ua (tl:TE):TI:=fun σ H R=>tl σ H fun x H1=>∃z,x=.str z∧R (Its z) H1
theorem Oh {l:Expr} {tl:TE} (hl:PE X l tl):PI X tg l (Ua tl):=by
 intro pins s σ H R I h
 refine thn (hl pins s σ H _ I h) fun v s1 ⟨x,H1,I1,r1,q1⟩=>?_
 obtain ⟨z,e,q⟩:=q1
 subst e
 obtain ⟨t,rfl⟩:=r1
 have fin:∀(ty:String) (_:ty="str_ascii_iterator"∨ty="str_iterator"),PIE X pins σ tg R (.ref s1.heap.objs.size) {s1 with heap:=s1.heap.push {cls:=.type ty,data:=.fields #[.str z t,.int 0 0]}}:=fun ty hty=>by
  refine ⟨s1.heap.objs.size,[s1.heap.objs.size],_,_,H1,rfl,I1.kept (t':=s1.toks) fun b o e=>Heap.get?_push_of_some _ e,Ft _ z t hty,⟨_,Heap.get?_push_size _ rfl,rfl,rfl⟩,fun b hb=>?_,q⟩
  have e:b=s1.heap.objs.size:=by simpa using hb
  subst e
  exact I1.fpOk (Nat.le_refl _) (I1.hok.fresh (Nat.le_refl _))
 cases ha:z.cps.all (· < 128) with
 | true=>exact wpAny_pyIter_ascii ha (fin _ (.inl rfl))
 | false=>exact wpAny_pyIter_wide ha (fin _ (.inr rfl))
end
section
variable {X:Cx} {e:Expr} {te:TE} {lo hi:Option Expr} {tl th:TO} {pos p2:Pos}
theorem uv:OpR X (compareOp .LtE) (fun x y H Q=>∃i j,x=.str i∧y=.str j∧Q (.bl (!decide (j.cps.toList < i.cps.toList))) H):=by
 intro pins s σ H x y v u Q I rx ry h
 obtain ⟨i,j,rfl,rfl,q⟩:=h
 obtain ⟨t,rfl⟩:=rx
 obtain ⟨t',rfl⟩:=ry
 exact PySem.P.le_str (bV I q rfl)
theorem Fv (c a:Nat):(!decide ((⟨#[c]⟩:Str).cps.toList < (⟨#[a]⟩:Str).cps.toList))=decide (a≤c):=by
 have h:((⟨#[c]⟩:Str).cps.toList < (⟨#[a]⟩:Str).cps.toList)↔c < a:=by
  show ([c]:List Nat) < [a]↔c < a
  simp [List.cons_lt_cons_iff]
 by_cases q:c < a
 ·rw [decide_eq_true (h.mpr q),decide_eq_false (by omega)]
  rfl
 ·rw [decide_eq_false fun z=>q (h.mp z),decide_eq_true (by omega)]
  rfl
theorem jt (hc:X.calm=true):fK X (.builtin "all") (fun xs H Q=>∃(p:Addr) (bs:List Bool),xs=[.ref p]∧SqL X.K H p (bs.map V.bl)∧Q (.bl (bs.all id)) H):=by
 intro pins s σ H xs us Q I r h
 obtain ⟨p,bs,rfl,hq,q⟩:=h
 obtain ⟨u,rfl,ru⟩:=vals1 r
 cases ru
 obtain ⟨its,rv,pl,hz⟩:=I.list hq
 have hlen:bs.length=its.length:=by have:=rv.length;rwa [List.length_map] at this
 obtain ⟨o,n,eo,_⟩:=id pl
 have hne:p≠s.heap.objs.size:=Nat.ne_of_lt (Heap.lt_size eo)
 have hh:X.A.in1.handled=none:=I.ok.hd hc
 refine call_all_walk (wpAny_pyIter_list pl.isList ?_)
 refine ⟨s.heap.objs.size,[s.heap.objs.size,p],[s.heap.objs.size],its.toArray.size,_,_,fun i=>bs.getD i false,rfl,Walks.list hh _ p hne its.toArray,⟨⟨_,Heap.get?_push_size _ rfl,rfl,rfl⟩,pl.isList.push _⟩,?_,fun h' tk k=>?_⟩
 ·intro i v s' Q' E' hP hQ
  have hP':its[i]?=some v:=by simpa using hP
  have hi:i < its.length:=(List.getElem?_eq_some_iff.mp hP').1
  have hb:(bs.map V.bl)[i]?=some (V.bl (bs.getD i false)):=by
   rw [List.getElem?_map,List.getElem?_eq_getElem (by omega:i < bs.length)]
   simp [List.getD,hlen▸hi]
  obtain ⟨u',e',r'⟩:=rv.get hb
  rw [hP'] at e'
  cases e'
  cases r'
  exact wpAny_truthy_bool hQ
 ·have e:(List.range its.toArray.size).all (fun i=>bs.getD i false)=bs.all id:=by
   rw [List.size_toArray,←hlen,Bool.eq_iff_iff]
   simp only [List.all_eq_true,List.mem_range]
   constructor
   ·intro a b hb
    obtain ⟨i,hi,rfl⟩:=List.mem_iff_getElem.mp hb
    have:=a i hi
    simpa [List.getD,hi] using this
   ·intro a i hi
    have:=a bs[i] (List.getElem_mem hi)
    simpa [List.getD,hi] using this
  rw [e]
  exact ⟨.bl (bs.all id),H,I.kept fun b ob z=>k b ob (by simpa using Nat.ne_of_lt (Heap.lt_size z)) (Heap.get?_push_of_some _ z),rfl,q⟩
inductive Ub (K:PySem.W.Frag) (xs:List V) (H:Hp) (Q:VK):Prop where
 | mk (x c:V) (cv:String) (t:Value) (b:Bool) (z1:xs=[x,c]) (z2:c=.ty cv∧nM K H x t∧PySem.W.kitOne K t (.type cv)=some b) (z3:Q (.bl b) H)
theorem cT:fK X (.builtin "isinstance") (Ub X.K):=by
 intro pins s σ H xs us Q I r h
 obtain ⟨x,c,cv,t,b,rfl,⟨rfl,ty,e⟩,q⟩:=h
 obtain ⟨u,w',rfl,ru,rw'⟩:=vals2 r
 cases rw'
 exact Cp I ru ty e fun tk=>⟨.bl b,H,I.tok tk,rfl,q⟩
end
mutual
inductive Dt (K:PySem.W.Frag) (H:Hp):V→PyData→Prop
 | non:Dt K H .non .none
 | bl (b:Bool):Dt K H (.bl b) (.bool b)
 | int (i:Int):Dt K H (.int i) (.int i)
 | str (x:Str):Dt K H (.str x) (.str x)
 | lst {a:Addr} {xs:List V} {ds:List PyData}:SqL K H a xs→Dts K H xs ds→Dt K H (.ref a) (.list ds)
 | tup {a:Addr} {xs:List V} {ds:List PyData}:SqT K H a xs→Dts K H xs ds→Dt K H (.ref a) (.tuple ds)
inductive Dts (K:PySem.W.Frag) (H:Hp):List V→List PyData→Prop
 | nil:Dts K H [] []
 | cons {v:V} {d:PyData} {vs:List V} {ds:List PyData}:Dt K H v d→Dts K H vs ds→Dts K H (v::vs) (d::ds)
end
section
variable {X:Cx} {pins:List (Addr × Obj)} {σ:St} {H:Hp} {s:Shared}
mutual
theorem iY (I:Inv X pins σ H s):∀{v:V} {d:PyData} {u:Value},Dt X.K H v d→RelV v u→∃as,Reads s.heap u d as
 | _,_,_,.non,r=>by cases r;exact ⟨_,.none⟩
 | _,_,_,.bl b,r=>by cases r;exact ⟨_,.bool b⟩
 | _,_,_,.int i,r=>by obtain ⟨t,rfl⟩:=r;exact ⟨_,.int i t⟩
 | _,_,_,.str x,r=>by obtain ⟨t,rfl⟩:=r;exact ⟨_,.str x t⟩
 | _,_,_,.lst h ds,r=>by
  cases r
  obtain ⟨its,rv,⟨o,n,e,c,_,d⟩,_⟩:=I.list h
  obtain ⟨as,q⟩:=oZ I ds rv
  exact ⟨_,.list e c d (by simpa using q)⟩
 | _,_,_,.tup h ds,r=>by
  cases r
  obtain ⟨its,rv,⟨o,e,c,n,d⟩,_⟩:=I.tuple h
  obtain ⟨as,q⟩:=oZ I ds rv
  exact ⟨_,.tuple e c d (by simpa using q)⟩
theorem oZ (I:Inv X pins σ H s):∀{vs:List V} {ds:List PyData} {us:List Value},Dts X.K H vs ds→Vals vs us→∃as,ReadsAll s.heap us ds as
 | _,_,_,.nil,.nil=>⟨_,.nil⟩
 | _,_,_,.cons a b,.cons r t=>by
  obtain ⟨as,q⟩:=iY I a r
  obtain ⟨bs,q'⟩:=oZ I b t
  exact ⟨_,.cons q q'⟩
end
end
section
variable {X:Cx}
inductive Q7 (K:PySem.W.Frag) (neg:Bool) (x:L2.V) (y:L2.V) (H:Hp) (Q:VK):Prop where
 | mk (d:_) (e:_) (z1:Dt K H x d) (z2:Dt K H y e) (z3:SeqAt.shaped d=true) (z4:SeqAt.shaped e=true) (z5:Q (.bl (if neg then !PyData.eqv d e else PyData.eqv d e)) H)
noncomputable def Q8 (K:PySem.W.Frag) (neg:Bool):R2:=fun x y H Q=>Q7 K neg x y H Q
theorem u6 (hu:X.A.units+64 < cLine):OpR X (compareOp .Eq) (Q8 X.K false):=by
 intro pins s σ H x y v u Q I rx ry h
 obtain ⟨d,e,hd,he,sd,se,q⟩:=h
 obtain ⟨as,ra⟩:=iY I hd rx
 obtain ⟨bs,rb⟩:=iY I he ry
 exact eq_dataH ra rb sd se hu ⟨.bl _,H,I,rfl,q⟩
theorem yL (hu:X.A.units+64 < cLine):OpR X (compareOp .NotEq) (Q8 X.K true):=by
 intro pins s σ H x y v u Q I rx ry h
 obtain ⟨d,e,hd,he,sd,se,q⟩:=h
 obtain ⟨as,ra⟩:=iY I hd rx
 obtain ⟨bs,rb⟩:=iY I he ry
 exact ne_dataH ra rb sd se hu ⟨.bl _,H,I,rfl,q⟩
end
mutual
theorem qX:∀d:PyData,d.canLay0=true→PyData.eqv d d=true
 | .none,_=>rfl
 | .bool b,_=>by simp [PyData.eqv]
 | .int i,_=>by simp [PyData.eqv]
 | .str x,_=>by simp [PyData.eqv]
 | .list xs,h=>by simp only [PyData.eqv];exact lA xs h
 | .tuple xs,h=>by simp only [PyData.eqv];exact lA xs h
 | .dict _,h=>by cases h
theorem lA:∀ds:List PyData,PyData.canLayAll0 ds=true→PyData.eqvAll ds ds=true
 | [],_=>rfl
 | d::r,h=>by
  simp only [PyData.canLayAll0,Bool.and_eq_true] at h
  simp only [PyData.eqvAll,qX d h.1,lA r h.2,Bool.and_self]
end
open PySem PySem.Spec PyProof.Rows L2
noncomputable def tG (val:Nat→Str):Nat→Str→Bool
 | 0=>fun _=>false
 | i+1=>fun k=>tG val i k || decide (k=val i)
noncomputable def o4 (val:Nat→Str):Nat→Nat
 | 0=>0
 | i+1=>if tG val i (val i) then o4 val i else o4 val i+1
theorem Ad (val:Nat→Str):∀i,o4 val i≤i
 | 0=>Nat.le_refl _
 | i+1=>by
  have:=Ad val i
  unfold o4
  split <;> omega
theorem wG (val:Nat→Str) (k:Str):∀i,tG val i k=true↔∃j,j < i∧val j=k
 | 0=>by simp [tG]
 | i+1=>by
  simp only [tG,Bool.or_eq_true,wG val k i,decide_eq_true_eq]
  constructor
  ·rintro (⟨j,hj,e⟩ | e)
   ·exact ⟨j,by omega,e⟩
   ·exact ⟨i,by omega,e.symm⟩
  ·rintro ⟨j,hj,e⟩
   by_cases h:j=i
   ·subst h
    exact .inr e.symm
   ·exact .inl ⟨j,by omega,e⟩
theorem wH (val:Nat→Str):∀n,(∀i j,i < j→j < n→val i≠val j)→o4 val n=n
 | 0,_=>rfl
 | n+1,h=>by
  have ih:=wH val n fun i j a b=>h i j a (by omega)
  have hm:¬tG val n (val n)=true:=fun z=>by
   obtain ⟨j,hj,e⟩:=(wG val (val n) n).mp z
   exact h j n hj (by omega) e
  unfold o4
  rw [if_neg hm,ih]
theorem isS (x:Str) (t:Tok):Value.isStrOf x (.str x t)=true:=by simp [Value.isStrOf]
theorem Cv {prog:Program} {w:World} {A:Around} {R:Result→Shared→Prop} {I:Addr} {fp wr:List Addr} {n:Nat} {Pv:Nat→Value→Prop} {St':Nat→Heap→Prop} (W:Walks prog w A.in1 I fp wr n Pv St') (S:Addr) (hSf:S∉fp)
  (val:Nat→Str) (hval:∀i v,Pv i v→∃t,v=.str (val i) t) (hb:n+1 < scanBound):∀(k i:Nat) (s:Shared),n - i=k→i≤n→St' i s.heap→s.heap.SetOf (strKind prog w) S (tG val i) (o4 val i)→
   (∀h' tk,(∀b o,b≠S→b∉wr→s.heap.get? b=some o→h'.get? b=some o)→h'.SetOf (strKind prog w) S (tG val n) (o4 val n)→R (.ok (.ret .none)) {s with heap:=h',toks:=tk})→
   codeAny (model prog w) A (.builtin "set.update.loop" ⟨[.ref S,.ref I],[]⟩) R s:=by
 have hSw:S∉wr:=fun z=>hSf (W.sub _ z)
 have stays:∀{h h':Heap} {S':Str→Bool} {m:Nat},(∀o,h.get? S=some o→h'.get? S=some o)→h.SetOf (strKind prog w) S S' m→h'.SetOf (strKind prog w) S S' m:=fun kk ⟨o,es,ep,t,ho,r⟩=>⟨o,es,ep,t,kk o ho,r⟩
 intro k
 induction k with
 | zero=>
  intro i s hk hi st hS hR
  obtain rfl:i=n:=by omega
  refine codeAny_builtin PyProof.Rows.F.entry_set_update_loop ?_
  rw [Around.under_plainId PyProof.Rows.F.plain_set_update_loop _]
  show wpAny _ A.in1 (pyNext (.ref I) >>=_) _ _ s
  refine wpAny_bind (W.done s _ _ st fun h' tk kk=>?_)
  show wpAny _ A.in1 (ret Value.none) _ _ _
  exact wpAny_pure (hR h' tk (fun b o _ hb e=>kk b o hb e) (stays (fun o e=>kk S o hSw e) hS))
 | succ k ih=>
  intro i s hk hi st hS hR
  have hlt:i < n:=by omega
  refine codeAny_builtin PyProof.Rows.F.entry_set_update_loop ?_
  rw [Around.under_plainId PyProof.Rows.F.plain_set_update_loop _]
  show wpAny _ A.in1 (pyNext (.ref I) >>=_) _ _ s
  refine wpAny_bind (W.item i s _ _ hlt st fun v h1 tk hP st1 kk=>?_)
  obtain ⟨t,rfl⟩:=hval i v hP
  have hS1:=stays (fun o e=>kk S o hSw e) hS
  show wpAny _ A.in1 (holding [Value.str (val i) t] (setAdd S (.str (val i) t)) >>=_) _ _ _
  refine wpAny_bind (wpAny_holding ?_)
  unfold setAdd
  refine wpAny_holding (wpAny_bind ((strKind prog w).pyHash (k:=val i) (isS (val i) t) ?_))
  have hroom:o4 val i+1 < scanBound:=by have:=Ad val i;omega
  refine wpAny_setAddHashed_of (knd:=strKind prog w) (isS (val i) t) rfl hS1 hroom fun h2 sb hS2=>?_
  refine wpAny_pure ⟨plainId_quiet PyProof.Rows.F.plain_set_update_loop _,ih (i+1) _ (by omega) hlt (W.frame _ _ _ st1 fun b hb' o e=>(sb.2 b fun z=>hSf (z▸hb')).trans e) hS2 fun h3 tk3 kk3 hS3=>?_⟩
  exact hR h3 tk3 (fun b o hb1 hb2 e=>kk3 b o hb1 hb2 ((sb.2 b hb1).trans (kk b o hb2 e))) hS3
set_option maxHeartbeats 8000000 in
theorem u9 {prog:Program} {w:World} {A:Around} {E:Value→Shared→Prop} {s:Shared} {l:Addr} {items:Array Value} {val:Nat→Str} {Q:Value→Shared→Prop} (hh:A.handled=none) (hl:s.heap.IsList l items)
  (hval:∀(i:Nat) (v:Value),items[i]?=some v→∃t,v=.str (val i) t) (hb:items.size+1 < scanBound)
  (h:∀(h':Heap) (tk:Nat),h'.SetOf (strKind prog w) s.heap.objs.size (tG val items.size) (o4 val items.size)→(∀b o,s.heap.get? b=some o→h'.get? b=some o)→Q (.ref s.heap.objs.size) {s with heap:=h',toks:=tk}):
  wpAny (model prog w) A (call (.type "set") [.ref l]) Q E s:=by
 obtain ⟨c,tl,hmro⟩:=F.called_set.mro
 have m1:=F.called_set.made
 have m2:=F.called_set.sub
 have m3:=F.called_set.notType
 have m4:=F.called_set.canCreate
 have m5:=F.typeCall_set_1 (.ref l)
 refine wpAny_call (codeAny_of_tree ?_)
 show wpAny _ _ (callAny (.type "set") _) _ _ _
 refine wpAny_pure ⟨Code.quiet_builtin _ (by decide+kernel),codeAny_builtin F.entry_type_call ?_⟩
 rw [Around.under_plain (weight_type_call_type "set" [.ref l] []) rfl]
 repeat (any_goals (first | assumption | wp_step))
 generalize hS0:s.heap.objs.size=S at *
 refine codeAny_mono (code_set_new_1 (.ref l) (E:=E) (Q₁:=fun ob s1=>∃led:Bool,ob=.ref S∧s1={s with heap:=s.heap.push {cls:=.type "set",dict:=none,data:=.set #[] 0 (.fresh 0 0 led)}}) fun led=>⟨led,by rw [hS0],rfl⟩) fun r s1 hr=>?_
 cases r with
 | error e=>exact hr
 | ok fl=>
  cases fl with
  | ret ob=>
   obtain ⟨led,rfl,rfl⟩:=hr
   have hget:(s.heap.push {cls:=.type "set",dict:=none,data:=.set #[] 0 (.fresh 0 0 led)}).get? S=some {cls:=.type "set",dict:=none,data:=.set #[] 0 (.fresh 0 0 led)}:=by
    rw [←hS0]
    exact Heap.get?_push_size _ rfl
   have hT:Shared.TypeIs {s with heap:=s.heap.push {cls:=.type "set",dict:=none,data:=.set #[] 0 (.fresh 0 0 led)}} (.ref S) "set":=⟨_,hget,rfl⟩
   have n1:=F.called_set.init.lookup
   have n2:=F.called_set.init.bind (.ref S)
   repeat (any_goals (first | assumption | wp_step))
   refine codeAny_mono (codeAny_call_builtin (R:=wants (fun r s2=>r=.none∧∃h' tk,s2={s with heap:=h',toks:=tk}∧h'.SetOf (strKind prog w) S (tG val items.size) (o4 val items.size)∧(∀b o,s.heap.get? b=some o→h'.get? b=some o)) E)
    F.called_set.init.plain F.entry_set_init (check_set_init_1 hT ?_)) fun r2 s2 hr2=>?_
   ·obtain ⟨⟨oc,od,odt,osl⟩,hol,hcl,nl,hdl⟩:=id hl
    simp only at hcl hdl
    subst hcl hdl
    have hol':=Heap.get?_push_of_some (h:=s.heap) {cls:=.type "set",dict:=none,data:=.set #[] 0 (.fresh 0 0 led)} hol
    have p1:=F.sub_list_set
    have p2:=F.sub_list_frozenset
    have p3:(Value.type "list"==Value.type "dict")=false:=by decide
    have hl1:=hl.push (o:={cls:=.type "set",dict:=none,data:=.set #[] 0 (.fresh 0 0 led)})
    unfold Builtin.«set.__init__» noKeywords Builtin.Frozenset.updateFrom
    generalize hPI:pyIter=PI
    wp_walk
    subst hPI
    refine wpAny_pyIter_list hl1 (wpAny_bind (wpAny_runValue ?_))
    have hlS:l < S:=by rw [←hS0];exact Heap.lt_size hol
    have hsz:(s.heap.push {cls:=.type "set",dict:=none,data:=.set #[] 0 (.fresh 0 0 led)}).objs.size=S+1:=by rw [Heap.size_push,hS0]
    refine Cv (Walks.list (A:=A.in1.in1.in1) (by simp [hh]) _ l (by rw [hsz];exact Nat.ne_of_lt (Nat.lt_succ_of_lt hlS)) items) S ?_ val hval hb (items.size - 0) 0 _ (by omega) (Nat.zero_le _) ⟨⟨_,Heap.get?_push_size _ rfl,rfl,rfl⟩,hl1.push _⟩ ?_ ?_
    ·rw [hsz]
     simp only [List.mem_cons,List.not_mem_nil,or_false,not_or]
     exact ⟨Nat.ne_of_lt (Nat.lt_succ_self _),Nat.ne_of_gt hlS⟩
    ·have hg2:=Heap.get?_push_of_some (h:=s.heap.push {cls:=.type "set",dict:=none,data:=.set #[] 0 (.fresh 0 0 led)}) {cls:=.type "list_iterator",data:=.fields #[.ref l,.int 0 0]} hget
     exact (PyProof.Rows.setObjOf_fresh (knd:=strKind prog w) led).setOf hg2 (by unfold scanBound;omega)
    ·intro h' tk kk hS'
     show wpAny _ _ _ _ _ _
     refine wpAny_pure ?_
     show wpAny _ _ (ret Value.none) _ _ _
     refine wpAny_pure ⟨rfl,h',tk,rfl,hS',fun b o e=>?_⟩
     have hbl:b < S:=by rw [←hS0];exact Heap.lt_size e
     exact kk b o (Nat.ne_of_lt hbl) (fun z=>Nat.ne_of_lt (Nat.lt_succ_of_lt hbl) (by rw [hsz] at z;simpa using z)) (Heap.get?_push_of_some _ (Heap.get?_push_of_some _ e))
   ·cases r2 with
    | error e=>exact hr2
    | ok fl2=>
     cases fl2 with
     | ret r=>
      obtain ⟨rfl,h',tk,rfl,hS',kk⟩:=hr2
      repeat (any_goals (first | assumption | wp_step))
      exact h _ _ hS' kk
     | _=>exact hr2.elim
  | _=>exact hr.elim
noncomputable def Kh (P:Program) (w:World) (a:Addr) (n:Nat):HO:=.ext fun h=>∃S,h.SetOf (strKind P w) a S n
section
variable {X:Cx}
theorem Fw (hc:X.calm=true):fK X (.type "set") (fun xs H Q=>∃(p:Addr) (ys:List Str),xs=[.ref p]∧SqL X.K H p (ys.map V.str)∧ys.length < 1000∧∀q,H q=none→Q (.ref q) (upd H q (Kh X.prog X.w q (o4 (fun i=>ys.getD i Str.empty) ys.length)))):=by
 intro pins s σ H xs us Q I r h
 obtain ⟨p,ys,rfl,hq,hl,q⟩:=h
 obtain ⟨u,rfl,ru⟩:=vals1 r
 cases ru
 obtain ⟨its,rv,pl,hz⟩:=I.list hq
 have hlen:ys.length=its.length:=by have:=rv.length;rwa [List.length_map] at this
 have hsz:its.toArray.size=ys.length:=by
  rw [hlen]
  rfl
 refine u9 (val:=fun i=>ys.getD i Str.empty) (I.ok.hd hc) pl.isList (fun i v e=>?_) (by rw [hsz];unfold scanBound;omega) fun h' tk hS kk=>?_
 ·have e':its[i]?=some v:=by simpa using e
  have hi:i < ys.length:=by rw [hlen];exact (List.getElem?_eq_some_iff.mp e').1
  have hb:(ys.map V.str)[i]?=some (V.str (ys.getD i Str.empty)):=by
   rw [List.getElem?_map,List.getElem?_eq_getElem hi]
   simp [List.getD,hi]
  obtain ⟨u',e2,r'⟩:=rv.get hb
  rw [e'] at e2
  cases e2
  exact r'
 ·rw [hsz] at hS
  refine ⟨.ref s.heap.objs.size,_,I.laid kk (Nat.le_refl _) ?_,rfl,q _ (I.hok.fresh (Nat.le_refl _))⟩
  obtain ⟨o,es,ep,t,ho,r'⟩:=id hS
  exact ⟨⟨_,hS⟩,⟨o,ho⟩,fun h1 h2 ⟨S',o',es',ep',t',ho',r2⟩ kk'=>⟨S',o',es',ep',t',kk' _ ho',r2⟩⟩
theorem tH:fK X (.builtin "len") (fun xs H Q=>∃q n,xs=[.ref q]∧H q=some (Kh X.prog X.w q n)∧Q (.int n) H):=by
 intro pins s σ H xs us Q I r h
 obtain ⟨a,n,rfl,hq,q⟩:=h
 obtain ⟨u,rfl,ru⟩:=vals1 r
 cases ru
 obtain ⟨⟨S,o,es,ep,t,ho,hex,hd,_,_,hb,hf,hn⟩,_,_⟩:=(show bQ X.prog X.w H s.heap a (Kh X.prog X.w a n) from I.hok a _ hq)
 subst hn
 have hfit:(es.size:Int) < 2 ^ 63:=by unfold scanBound at hb;omega
 exact call_len_set ho hex hd hf hfit ⟨.int es.size,H,I.tok _,⟨_,rfl⟩,q⟩
end
open PySem PySem.Spec PyProof.Rows L2
theorem Oi {P:Program} {w:World} {H:Hp} {h:Heap} {a:Addr} {o:HO} (x:bQ P w H h a o):∃ob,h.get? a=some ob:=by
 cases o with
 | lst xs=>obtain ⟨_,_,_,_,e⟩:=x;exact ⟨_,e⟩
 | tup xs=>obtain ⟨_,_,_,ob,e,_⟩:=x;exact ⟨ob,e⟩
 | dK kvs=>obtain ⟨_,_,_,_,ob,_,_,e,_⟩:=x;exact ⟨ob,e⟩
 | dT kvs=>obtain ⟨_,_,_,_,ob,_,_,e,_⟩:=x;exact ⟨ob,e⟩
 | set S n=>obtain ⟨ob,_,_,_,e,_⟩:=x;exact ⟨ob,e⟩
 | ins C dx fs=>obtain ⟨_,_,_,e,_⟩:=x;exact ⟨_,e⟩
 | own y=>obtain ⟨ob,e⟩:=x;exact ⟨ob,e⟩
 | xd fs=>obtain ⟨_,⟨ob,_,_,e,_⟩,_⟩:=x;exact ⟨ob,e⟩
 | rng lo hi=>obtain ⟨_,_,_,e⟩:=x;exact ⟨_,e⟩
 | frz ob u=>obtain ⟨e,_⟩:=x;exact ⟨_,e⟩
 | tbl ps=>exact ⟨_,(show h.get? a=some _ from x)⟩
 | met f y=>exact ⟨_,(show h.get? a=some _ from x)⟩
 | ext φ=>obtain ⟨_,⟨ob,e⟩,_⟩:=x;exact ⟨ob,e⟩
theorem Fx {P:Program} {w:World} {H:Hp} {h:Heap} {a:Addr} (ok:HOk P w H h) (e:h.get? a=none):H a=none:=by
 cases q:H a with
 | none=>rfl
 | some o=>
  obtain ⟨ob,z⟩:=Oi (ok a o q)
  rw [e] at z
  cases z
structure gW (P:Program) (w:World) (fr:List Env) (H:Hp) (s:Shared) (ea:Addr) (cls a0:Value) (H':Hp) (B:Heap) (s':Shared):Prop where
 fl:Heap.FlyingW B fr ea cls a0 s'.heap
 os:s'.os=s.os
 bare:AllBare s'.gens
 ok:HOk P w H' B
 un:Un (frs fr) [] H H' s.heap s'.heap
 inB:∀b o,s.heap.get? b=some o→b∉frs fr→∃o',B.get? b=some o'∧(H b=none→o'=o)
noncomputable def CXe (P:Program) (w:World):CXT:=fun fr H s E e s'=>∃(ea:Addr) (cls a0:Value) (H':Hp) (B:Heap),e=.ref ea∧gW P w fr H s ea cls a0 H' B s'∧E cls none H'
section
variable {P:Program} {w:World} {fr:List Env} {H H':Hp} {s s':Shared} {ea:Addr} {cls a0:Value} {B:Heap}
theorem gW.move (T:gW P w fr H s ea cls a0 H' B s') {h2:Heap} (fl:Heap.FlyingW B fr ea cls a0 h2) (up:s'.heap.UpToSlots h2):gW P w fr H s ea cls a0 H' B {s' with heap:=h2}:=by
 refine ⟨fl,T.os,T.bare,T.ok,⟨fun b o e n hb hx=>?_,fun b o e n hb hx=>?_,T.un.free,fun b o e hx=>?_,T.un.tups,T.un.frzs,T.un.tbls⟩,T.inB⟩
 ·obtain ⟨o',z,q⟩:=T.inB b o e hb
  rw [q n] at z
  exact fl.1 b o z
 ·obtain ⟨sl,z⟩:=T.un.slot b o e n hb hx
  obtain ⟨_,ob,e',nf⟩:=T.fl.2.2.1.mem hb
  rw [z] at e'
  cases e'
  obtain ⟨sl',z'⟩:=up b _ z nf
  exact ⟨sl',z'⟩
 ·by_cases hb:b∈frs fr
  ·obtain ⟨_,ob,e',nf⟩:=T.fl.2.2.1.mem hb
   obtain ⟨sl',z'⟩:=up b _ e' nf
   exact ⟨_,z'⟩
  ·obtain ⟨o',z,_⟩:=T.inB b o e hb
   exact ⟨o',fl.1 b o' z⟩
theorem gW.hok (T:gW P w fr H s ea cls a0 H' B s'):HOk P w H' s'.heap:=T.ok.kept fun b u e=>T.fl.1 b u e
theorem gW.new (T:gW P w fr H s ea cls a0 H' B s'):H' ea=none:=Fx T.ok T.fl.2.1
theorem gW.notOld (T:gW P w fr H s ea cls a0 H' B s') {b:Addr} {o:Obj} (e:s.heap.get? b=some o):b≠ea:=by
 rintro rfl
 by_cases hb:b∈frs fr
 ·obtain ⟨_,ob,e',nf⟩:=T.fl.2.2.1.mem hb
  obtain ⟨oe,vs,he,_,hd,_⟩:=T.fl.first
  rw [he] at e'
  cases e'
  exact nf vs hd
 ·obtain ⟨o',z,_⟩:=T.inB b o e hb
  rw [T.fl.2.1] at z
  cases z
end
section
variable {P:Program} {w:World} {K:PySem.W.Frag} {mg:Str→Option Value} {base:Heap} {N:List Str} {qual:Str} {scope:Scope} {f:Addr} {cdv:Value} {A:Around} {outer:List Env} {s:Shared} {H:Hp} {E:XK}
noncomputable abbrev cxE (P:Program) (w:World) (K:PySem.W.Frag) (mg:Str→Option Value) (base:Heap) (N:List Str) (qual:Str) (scope:Scope) (f:Addr) (cdv:Value) (A:Around) (outer:List Env) (s:Shared) (H:Hp) (E:XK):Cx:=
 nP (CXe P w) P w K mg base N qual scope f cdv A outer s H E
theorem Ae {pins:List (Addr × Obj)} {σ:St} {H1:Hp} {s1:Shared} (I:Inv (cxE P w K mg base N qual scope f cdv A outer s H E) pins σ H1 s1) {b:Addr} {o:Obj} (e:s.heap.get? b=some o) (hb:b∉frs outer):
  b∉frs (cxE P w K mg base N qual scope f cdv A outer s H E).stack:=fun z=>by
 rcases List.mem_cons.mp (I.stkSub b z) with q | q
 ·have l:=Heap.lt_size e
  have l2:s.heap.objs.size≤b:=by
   have:=I.ok.above
   rw [←q] at this
   exact this
  exact Nat.lt_irrefl _ (Nat.lt_of_lt_of_le l l2)
 ·exact hb q
structure Exc (K:PySem.W.Frag) (mg:Str→Option Value) (x:Str) (C:Addr) (bm:List Value) (newId:String):Prop where
 bound:mg x=some (.ref C)
 obj:PySem.W.excIn K C bm newId=true
theorem Exc.own {x:Str} {C:Addr} {bm:List Value} {newId:String} {h:Heap} (e:Exc K mg x C bm newId) (X:K.In h):OwnCls x C bm newId mg h:=by
 refine ⟨e.bound,?_⟩
 have q:=e.obj
 unfold PySem.W.excIn at q
 split at q
 ·rename_i dd cd sl ho
  split at q
  ·rename_i C' bm' k0 k1 k2 k3 n k5 hm hs
   simp only [Bool.and_eq_true,beq_iff_eq,Bool.not_eq_true'] at q
   obtain ⟨⟨⟨⟨⟨rfl,rfl⟩,hdel⟩,ht⟩,hok⟩,hni⟩:=q
   obtain ⟨nm,bs,mro,ns,qn,hd,sn,sub,ab,col,del⟩:=cd
   dsimp only at hm hdel hok hni
   subst hm hdel
   obtain ⟨sll⟩:=sl
   simp only at hs
   subst hs
   exact ⟨bm',ns,nm,qn,bs,hd,sn,sub,ab,col,dd,k0,k1,k2,k3,k5,_,X _ _ ho,.of_isNs (PySem.W.isNs_of_in X hok),PySem.W.nsMap_none_of_in X hok hni,PySem.W.tail_of_in X ht⟩
  ·cases q
 ·cases q
end
open PySem PySem.Spec PyProof.Rows L2
noncomputable abbrev TEx:=XK→TE
noncomputable abbrev TSx:=Ends→(St→XK)→St→Hp→Prop
section
variable {X:Cx} {e o:Expr} {es:List Expr} {pos apos p:Pos} {k:Nat} {f C:Addr} {fd:FuncData} {ps:List Str} {sp:Sp} {ta:TE} {t:TA} {m x:Str}
theorem noW {α:Type} {X:Cx} {pins:List (Addr × Obj)} {M:Model} {A:Around} {c:Sem α} {Q:α→Shared→Prop} {E:Value→Shared→Prop} {s:Shared} (h:wpAny M A c Q (fun _ _=>False) s):wpAny M A c Q E s:=
 wpAny_mono h (fun _ _ q=>q) fun _ _ z=>False.elim z
noncomputable def Oj (te:TEx):TSx:=fun D E σ H=>te (E σ) σ H fun _ H1=>D.nx σ H1
end
noncomputable def Cw (ea C:Addr):HO:=.ext fun h=>∃o,h.get? ea=some o∧o.cls=.ref C
noncomputable def jR (K:PySem.W.Frag) (C R:Addr):Bool:=match K.lookup C with
 | some ⟨.type "type",_,.cls cd,sl⟩=>(match cd.mro,sl.toList with
  | .ref C'::bm,[_,_,_,_,some (.builtin _),_]=>C'==C && !cd.hasDel && bm.contains (.type "BaseException") && (Value.ref C::bm).contains (.ref R)
  | _,_=>false)
 | _=>false
theorem qY {K:PySem.W.Frag} {h:Heap} {C R:Addr} (X:K.In h) (q:jR K C R=true):∃nm qn N bs bm hdct sn sub ab col dd k0 k1 k2 k3 k5 newId,
  h.get? C=some (excClassObj nm qn C N bs bm hdct sn sub ab col dd k0 k1 k2 k3 k5 newId)∧bm.contains (.type "BaseException")=true∧(Value.ref C::bm).contains (.ref R)=true:=by
 unfold jR at q
 split at q
 ·rename_i dd cd sl ho
  split at q
  ·rename_i C' bm k0 k1 k2 k3 n k5 hm hs
   simp only [Bool.and_eq_true,Bool.not_eq_true'] at q
   obtain ⟨⟨⟨q1,hdel⟩,hb⟩,hr⟩:=q
   have q1:=beq_iff_eq.mp q1
   subst q1
   obtain ⟨nm,bs,mro,ns,qn,hd,sn,sub,ab,col,del⟩:=cd
   dsimp only at hm hdel
   subst hm hdel
   obtain ⟨sll⟩:=sl
   simp only at hs
   subst hs
   exact ⟨nm,qn,ns,bs,bm,hd,sn,sub,ab,col,dd,k0,k1,k2,k3,k5,n,X _ _ ho,hb,hr⟩
  ·cases q
 ·cases q
theorem Kl {M:Model} {A:Around} {E:Value→Shared→Prop} {K:PySem.W.Frag} {C R ea:Addr} {s:Shared} {oe:Obj} {Q:Bool→Shared→Prop} (X:K.In s.heap) (hc:jR K C R=true) (hr:jR K R R=true) (he:s.heap.get? ea=some oe)
  (hcls:oe.cls=.ref C) (hq:Q true s):wpAny M A (excMatches (.ref ea) (.ref R)) Q E s:=by
 obtain ⟨nm,qn,N,bs,bm,hdct,sn,sub,ab,col,dd,k0,k1,k2,k3,k5,newId,hC,hb,hCR⟩:=qY X hc
 obtain ⟨nm',qn',N',bs',bm',hdct',sn',sub',ab',col',dd',k0',k1',k2',k3',k5',newId',hR,hb',hRR⟩:=qY X hr
 have hcB:(Value.ref R::bm').contains (.type "BaseException")=true:=by rw [List.contains_cons,hb',Bool.or_true]
 have f:=tc_notTuple
 obtain ⟨hp,g,d,t,os⟩:=s
 unfold excMatches
 repeat (first | (with_reducible refine wpAny_loadPart_at he ?_;rw [hcls]) | with_reducible refine wpAny_loadPart_at hR ?_ | (with_reducible refine wpAny_isSubtype_exc hR ?_;rw [hcB]) | (with_reducible refine wpAny_isSubtype_exc hC ?_;rw [hCR]) | wp_step)
 exact hq
noncomputable abbrev mz (X:Cx) (ea:Addr):Cx:={X with A:=X.A.mark (some (.ref ea)),calm:=false,xe:=fun _ _=>False}
section
variable {X:Cx} {pins:List (Addr × Obj)} {σ:St} {H:Hp} {s:Shared}
theorem Inv.suite (I:Inv X pins σ H s) (ea:Addr):Inv (mz X ea) pins σ H s:=
 ⟨⟨I.ok.mod,I.ok.kind,I.ok.glob,I.ok.blt,I.ok.above,I.ok.inj,I.ok.has,I.ok.cab,fun z=>absurd (show false=true from z) Bool.false_ne_true,I.ok.frames,I.ok.stk,I.ok.exf,I.ok.bs,I.ok.bsz,I.ok.noex,I.ok.exfs,I.ok.funs,I.ok.frf⟩,I.os,I.bare,I.base,I.loc,I.cell,I.free,I.freeC,I.pin,I.hok,I.len⟩
theorem Inv.unsuite {ea:Addr} (hd:X.calm=true→X.A.handled=none) (I:Inv (mz X ea) pins σ H s):Inv X pins σ H s:=
 ⟨⟨I.ok.mod,I.ok.kind,I.ok.glob,I.ok.blt,I.ok.above,I.ok.inj,I.ok.has,I.ok.cab,hd,I.ok.frames,I.ok.stk,I.ok.exf,I.ok.bs,I.ok.bsz,I.ok.noex,I.ok.exfs,I.ok.funs,I.ok.frf⟩,I.os,I.bare,I.base,I.loc,I.cell,I.free,I.freeC,I.pin,I.hok,I.len⟩
theorem Inv.forget {h':Heap} {t':Nat} {i:Nat} {x:Str} (I:Inv X pins σ H s) (hN:X.N.Nodup) (hi:X.N[i]?=some x) (hs:Heap.SameBut X.env.locals s.heap h')
  (hns:∀m,s.heap.Ns X.env.locals m→∃v,h'.Ns X.env.locals (fun y=>if y=x then v else m y)):Inv X pins (σ.set i none) H {s with heap:=h',toks:=t'}:=by
 obtain ⟨m,hn,hl⟩:=id I.loc
 obtain ⟨v,hn'⟩:=hns m hn
 have cne:=I.cne
 have ne0:∀b o,X.s₀.heap.get? b=some o→b≠X.env.locals:=fun b o e=>Nat.ne_of_lt (Nat.lt_of_lt_of_le (Heap.lt_size e) I.ok.above)
 have hiσ:i < σ.length:=by rw [I.len];exact (List.getElem?_eq_some_iff.mp hi).1
 refine ⟨I.ok,I.os,I.bare,⟨fun b o e n hb hx=>(hs.2 b (ne0 b o e)).trans (I.base.keep b o e n hb hx),fun b o e n hb hx=>?_,I.base.free,fun b o e hx=>?_,I.base.tups,I.base.frzs,I.base.tbls⟩,⟨_,hn',fun j y u e1 e2 e3=>?_⟩,fun y c e=>?_,I.free,I.freeC,fun p hp=>?_,Kg I.hok I.free hs,by simpa using I.len⟩
 ·obtain ⟨sl,z⟩:=I.base.slot b o e n hb hx
  exact ⟨sl,(hs.2 b (ne0 b o e)).trans z⟩
 ·obtain ⟨o',z⟩:=I.base.there b o e hx
  exact ⟨o',(hs.2 b (ne0 b o e)).trans z⟩
 ·by_cases hj:j=i
  ·subst hj
   rw [List.getElem?_set_self hiσ] at e2
   cases e2
  ·rw [List.getElem?_set_ne (Ne.symm hj)] at e2
   obtain ⟨u',r',q⟩:=hl j y u e1 e2 e3
   refine ⟨u',r',?_⟩
   rcases q with ⟨k,e⟩ | ⟨k,c,e,z⟩
   ·refine .inl ⟨k,?_⟩
    have:y≠x:=fun e=>hj (qH hN e1 (e▸hi))
    simp [this,e]
   ·exact .inr ⟨k,c,e,z.sameBut hs (cne y c e)⟩
 ·obtain ⟨w',z⟩:=I.cell y c e
  exact ⟨w',z.sameBut hs (cne y c e)⟩
 ·obtain ⟨e,n,ne,nf,d⟩:=I.pin p hp
  exact ⟨(hs.2 p.1 ne).trans e,n,ne,nf,d⟩
end
open PySem PySem.Spec PyProof.Rows L2
theorem nU:bootBuiltins "enumerate"=some (.type "enumerate"):=by decide+kernel
noncomputable def Ite (K:PySem.W.Frag) (a:Addr):It:=
 ⟨fun i H=>∃xs x,SqL K H a xs∧xs[i]?=some x,fun i H v H'=>∃p x,H p=none∧v=.ref p∧(∀xs,SqL K H a xs→xs[i]?=some x)∧H'=upd H p (.tup [.int i,x]),fun i H=>∃xs,SqL K H a xs∧xs.length≤i⟩
theorem Cy {P:Program} {w:World} {K:PySem.W.Frag} {elts:List Expr} {k:Nat} {pos:Pos} (a e it:Addr) (hei:e≠it):
  Turn P w K (.Tuple elts k pos) (Ite K a) [e,it] e (fun i h=>(∃old,IsEnum h e it ((i:Nat):Int) old)∧h.IsListIter it a i) where
 mem:=by simp
 obj:=fun i h st b hb=>by
  obtain ⟨⟨old,he⟩,o,ho,c,d⟩:=st
  rcases List.mem_cons.mp hb with rfl | hb
  ·exact ⟨_,he,fun v z=>by
    have z':Data.fields _=Data.cell v:=z
    cases z'⟩
  ·have q:b=it:=by simpa using hb
   subst q
   exact ⟨o,ho,fun v z=>by rw [d] at z;cases z⟩
 keep:=fun i h h' st kk=>by
  obtain ⟨⟨old,he⟩,hit⟩:=st
  exact ⟨⟨old,kk e (by simp) _ he⟩,hit.at fun o q=>kk it (by simp) o q⟩
 item:=by
  intro X hP hw hK hc i pins s σ H E I hf st hg
  subst hP hw hK
  obtain ⟨⟨old,he⟩,hit⟩:=st
  obtain ⟨xs,x,hq,hx⟩:=hg
  obtain ⟨its,rv,p,hz⟩:=I.list hq
  obtain ⟨u,hu,ru⟩:=rv.get hx
  obtain ⟨e0,e1,e2,e3,e4,e5⟩:=hf e (by simp)
  obtain ⟨f0,f1,f2,f3,f4,f5⟩:=hf it (by simp)
  refine wpAny_pyNext_enum_item he hit p.isList (x:=u) (by simpa using hu) hei fun h1 ho hit1 hT hsz hk=>⟨_,rfl,?_⟩
  refine wpAny_letOwnedTupleGo_enum ho fun h2 he2 hs2=>?_
  have hs2:Heap.SameBut e h1 h2:=hs2
  have hn:H s.heap.objs.size=none:=I.fresh
  have old2:∀b o,b∉[e,it]→s.heap.get? b=some o→h2.get? b=some o:=fun b o hb q=>by
   have hbe:b≠e:=fun z=>hb (by simp [z])
   have hbi:b≠it:=fun z=>hb (by simp [z])
   exact (hs2.2 b hbe).trans (hk b o hbe hbi q)
  have helt:e < s.heap.objs.size:=Heap.lt_size he
  have hT2:h2.get? s.heap.objs.size=some {cls:=.type "tuple",data:=.seq #[.int i s.toks,u]}:=(hs2.2 _ (Nat.ne_of_gt helt)).trans hT
  have nch:∀b q,H b=some q→b∉[e,it]:=fun b q hb z=>by
   rcases List.mem_cons.mp z with rfl | z
   ·rw [e0] at hb;cases hb
   ·have z':b=it:=by simpa using z
    subst z'
    rw [f0] at hb;cases hb
  refine ⟨.ref s.heap.objs.size,upd H s.heap.objs.size (.tup [.int i,x]),?_,rfl,⟨s.heap.objs.size,x,hn,rfl,fun ys hy=>by rw [I.list_inj hy hq];exact hx,rfl⟩,⟨⟨u,?_⟩,hit1.at fun o q=>(hs2.2 it hei.symm).trans q⟩,fun b hb=>?_⟩
  ·show Inv X pins σ (upd H s.heap.objs.size (.tup [.int i,x])) {s with heap:=h2,gens:=s.gens,drawn:=s.drawn,toks:=s.toks+1}
   refine I.step (g':=s.gens) (d':=s.drawn) (t':=s.toks+1) (h':=h2) (ch:=[e,it]) (fun b hb=>?_) (fun b o _ _ hc q _=>old2 b o hc q) (fun b o _ _ hc q _=>⟨o.slots,old2 b o hc q⟩) (fun b o hc q n=>?_)
    (fun b o hc q=>⟨o,old2 b o hc q⟩) (fun b ys q=>?_) (fun b o v q=>?_) (fun b ps q=>⟨#[],?_⟩) (fun m hm=>?_) (fun b v q=>?_) I.bare
   ·rcases List.mem_cons.mp hb with rfl | hb
    ·exact ⟨e3,e1,e4,e5⟩
    ·have z':b=it:=by simpa using hb
     subst z'
     exact ⟨f3,f1,f4,f5⟩
   ·rw [aA (Nat.ne_of_lt (Heap.lt_size q))]
    exact n
   ·rw [aA (aF q hn)]
    exact q
   ·rw [aA (aF q hn)]
    exact q
   ·rw [aA (aF q hn),q]
    simp
   ·obtain ⟨o,es,ep,ho',r⟩:=hm
    refine ⟨o,es,ep,old2 _ o (fun z=>?_) ho',r⟩
    rcases List.mem_cons.mp z with z | z
    ·exact e1 z.symm
    ·exact f1 (by simpa using z:X.env.locals=it).symm
   ·by_cases hb:b=s.heap.objs.size
    ·subst hb
     rw [aq] at q
     cases q
     exact ⟨(by show 2≤sizeLine;decide),[.int i s.toks,u],.cons ⟨_,rfl⟩ (.cons ru .nil),_,hT2,rfl,_,rfl⟩
    ·rw [aA hb] at q
     refine (I.hok b v q).stay (fun c y hc z=>old2 c y ?_ z) (fun c z=>by rw [aA (aF z hn)];exact z) fun c ys z=>by rw [aA (aF z hn)];exact z
     rcases hc with rfl | hc
     ·exact nch _ _ q
     ·exact nch _ _ hc
  ·have:(((i+1:Nat):Nat):Int)=(i:Int)+1:=by omega
   rw [this]
   exact he2
  ·rcases List.mem_cons.mp hb with rfl | hb
   ·rw [aA (Nat.ne_of_lt helt)]
    exact e0
   ·have z':b=it:=by simpa using hb
    subst z'
    obtain ⟨_,z,_⟩:=hit
    rw [aA (Nat.ne_of_lt (Heap.lt_size z))]
    exact f0
 done:=by
  intro X hP hw hK hc i pins s σ H E I hf st hg
  subst hP hw hK
  obtain ⟨⟨old,he⟩,hit⟩:=st
  obtain ⟨xs,hq,hx⟩:=hg
  obtain ⟨its,rv,p,hz⟩:=I.list hq
  obtain ⟨f0,f1,f2,f3,f4,f5⟩:=hf it (by simp)
  have hl:=rv.length
  exact wpAny_pyNext_enum_end (I.ok.hd hc) he hit p.isList (by simp;omega) fun h' eb=>⟨rfl,I.turned (t':=s.toks) (fun b o hb e=>eb b o hb e) f0 f1 f3 f4 f5⟩
 self:=fun _ _ _ _ _ st h=>by
  obtain ⟨⟨old,he⟩,_⟩:=st
  exact wpAny_pyIter_enum he h
section
variable {X:Cx} {elts:List Expr} {k:Nat} {tpos:Pos}
inductive Q9 (K:PySem.W.Frag) (vs:List V) (H:Hp) (R:It→Hp→Prop):Prop where
 | mk (a:Addr) (z1:vs=[.ref a]) (z2:∃xs,SqL K H a xs) (z3:R (Ite K a) H)
noncomputable def Ra (K:PySem.W.Frag) (ta:TA):TI:=fun σ H R=>ta σ H fun vs H1=>Q9 K vs H1 R
theorem vd {l:Expr} {ta:TA} {p pos:Pos} (hg:Gl X "enumerate") (hm:X.mg "enumerate"=none) (ha:PA X [l] ta) (hs:starEach [l] X.env=[(false,eval l X.env)]:=by rfl):PI X (.Tuple elts k tpos) (.Call (.Name "enumerate" p) [l] [] pos) (Ra X.K ta):=by
 intro pins s σ H R I h
 refine Call_ (kO I hg hm nU (PyProof.Rows.callWith_type1 (thn (ha pos pins s σ H _ I h) fun us s1 ⟨vs,H1,I1,r1,q1⟩=>?_) hs rfl))
 obtain ⟨a,e,⟨xs,hq⟩,q⟩:=q1
 subst e
 cases r1 with
 | cons r rr=>
  cases rr
  cases r
  obtain ⟨its,rv,p,hz⟩:=I1.list hq
  refine call_enumerate_list p.isList fun h' he hit hsz kk=>?_
  refine wpAny_pyIter_enum he ?_
  have ne:s1.heap.objs.size+1≠s1.heap.objs.size:=Nat.succ_ne_self _
  refine ⟨s1.heap.objs.size+1,[s1.heap.objs.size+1,s1.heap.objs.size],_,_,H1,rfl,I1.kept (t':=s1.toks) fun b o e=>kk b o e,Cy a _ _ ne,⟨⟨_,he⟩,hit⟩,fun b hb=>?_,q⟩
  rcases List.mem_cons.mp hb with rfl | hb
  ·exact I1.fpOk (Nat.le_succ _) (I1.hok.fresh (Nat.le_succ _))
  ·have z:b=s1.heap.objs.size:=by simpa using hb
   subst z
   exact I1.fpOk (Nat.le_refl _) (I1.hok.fresh (Nat.le_refl _))
end
section
variable {X:Cx} {K:PySem.W.Frag} (hK:X.K=K)
include hK
theorem Fy:IxR X (QW K):=by subst hK;exact bB
theorem mC:IxR X (QZ K):=by subst hK;exact aU
end
end L3
namespace L2
open PySem PySem.Spec PyProof.Rows
section
variable {κ:Type} [DecidableEq κ]
noncomputable def gJ (kvs:List (κ × V)) (k:κ):Option V:=(kvs.find? fun kv=>decide (kv.1=k)).map (·.2)
noncomputable def putK (kvs:List (κ × V)) (k:κ) (v:V):List (κ × V):=
 if (kvs.any fun kv=>decide (kv.1=k))=true then kvs.map (fun kv=>if kv.1=k then (kv.1,v) else kv) else kvs++[(k,v)]
theorem dY {p:κ × V} {r:List (κ × V)} {k:κ} (e:p.1=k):gJ (p::r) k=some p.2:=by simp [gJ,List.find?_cons,e]
theorem dB {p:κ × V} {r:List (κ × V)} {k:κ} (e:¬p.1=k):gJ (p::r) k=gJ r k:=by simp [gJ,List.find?_cons,e]
theorem lB (k:κ):∀kvs:List (κ × V),(kvs.any fun kv=>decide (kv.1=k))=(gJ kvs k).isSome
 | []=>rfl
 | p::r=>by
  rw [List.any_cons]
  by_cases e:p.1=k
  ·simp only [dY e,decide_eq_true e,Bool.true_or,Option.isSome_some]
  ·rw [dB e,decide_eq_false e,Bool.false_or];exact lB k r
theorem wI (k j:κ) (y:V):∀kvs:List (κ × V),gJ (kvs.map fun kv=>if kv.1=k then (kv.1,y) else kv) j=(gJ kvs j).map fun x=>if j=k then y else x
 | []=>rfl
 | p::r=>by
  have ih:=wI k j y r
  rw [List.map_cons]
  by_cases h:p.1=k
  ·rw [if_pos h]
   by_cases e:p.1=j
   ·rw [dY (p:=(p.1,y)) e,dY e,Option.map_some,if_pos (e.symm.trans h)]
   ·rw [dB (p:=(p.1,y)) e,dB e,ih]
  ·rw [if_neg h]
   by_cases e:p.1=j
   ·rw [dY (p:=p) e,dY e,Option.map_some,if_neg (fun z=>h (e.trans z))]
   ·rw [dB (p:=p) e,dB e,ih]
theorem uw (k j:κ) (y:V):∀kvs:List (κ × V),gJ kvs k=none→gJ (kvs++[(k,y)]) j=if j=k then some y else gJ kvs j
 | [],_=>by
  by_cases e:k=j
  ·rw [if_pos e.symm];exact dY (p:=(k,y)) e
  ·rw [if_neg (fun z=>e z.symm)];exact dB (p:=(k,y)) e
 | p::r,hn=>by
  rw [List.cons_append]
  have hk:¬p.1=k:=fun z=>by rw [dY z] at hn;cases hn
  rw [dB hk] at hn
  have ih:=uw k j y r hn
  by_cases e:p.1=j
  ·rw [dY e,dY e,if_neg (fun z=>hk (e.trans z))]
  ·rw [dB e,dB e,ih]
theorem Fz (kvs:List (κ × V)) (k j:κ) (y:V):gJ (putK kvs k y) j=if j=k then some y else gJ kvs j:=by
 unfold putK
 by_cases a:(kvs.any fun kv=>decide (kv.1=k))=true
 ·rw [if_pos a,wI]
  rw [lB] at a
  by_cases e:j=k
  ·obtain ⟨x,hx⟩:=Option.isSome_iff_exists.mp a
   rw [if_pos e,e,hx,Option.map_some,if_pos rfl]
  ·rw [if_neg e]
   cases gJ kvs j with
   | none=>rfl
   | some x=>rw [Option.map_some,if_neg e]
 ·rw [if_neg a]
  refine uw k j y kvs ?_
  rw [lB] at a
  cases q:gJ kvs k with
  | none=>rfl
  | some x=>rw [q] at a;exact (a rfl).elim
theorem ji (kvs:List (κ × V)) (k:κ) (v:V):(putK kvs k v).length≤kvs.length+1:=by
 unfold putK
 split
 ·rw [List.length_map];omega
 ·rw [List.length_append,List.length_cons,List.length_nil];omega
theorem FJ {kvs:List (κ × V)} {k:κ} (v:V) (h:gJ kvs k=none):putK kvs k v=kvs++[(k,v)]:=by
 unfold putK
 rw [lB,h]
 exact if_neg (by decide)
theorem jk.isSome_eq {o:Option V} {u:Option Value} (r:jk o u):o.isSome=u.isSome:=by
 cases o with
 | none=>cases u with
  | none=>rfl
  | some _=>exact (show False from r).elim
 | some _=>cases u with
  | none=>exact (show False from r).elim
  | some _=>rfl
theorem jk.getD {o:Option V} {u:Option Value} {d:V} {d':Value} (r:jk o u) (rd:RelV d d'):RelV (o.getD d) (u.getD d'):=by
 cases o with
 | none=>cases u with
  | none=>exact rd
  | some _=>exact (show False from r).elim
 | some _=>cases u with
  | none=>exact (show False from r).elim
  | some _=>exact r
theorem KV.val {kvs:List (κ × V)} {vs:List (κ × Value)} (r:KV kvs vs) (k:κ):jk (gJ kvs k) (valueAt vs k):=by
 unfold KV at r
 induction r with
 | nil=>exact True.intro
 | @cons p q ps qs h t ih=>
  obtain ⟨h1,h2⟩:=h
  by_cases e:p.1=k
  ·have e':q.1=k:=h1.symm.trans e
   have b:valueAt (q::qs) k=some q.2:=by simp [valueAt,List.find?_cons,e']
   rw [dY e,b];exact h2
  ·have e':¬q.1=k:=fun z=>e (h1.trans z)
   have b:valueAt (q::qs) k=valueAt qs k:=by simp [valueAt,List.find?_cons,e']
   rw [dB e,b];exact ih
theorem KV.any {kvs:List (κ × V)} {vs:List (κ × Value)} (r:KV kvs vs) (k:κ):(kvs.any fun kv=>decide (kv.1=k))=vs.any fun kv=>decide (kv.1=k):=by
 unfold KV at r
 induction r with
 | nil=>rfl
 | cons h t ih=>rw [List.any_cons,List.any_cons,ih,h.1]
theorem KV.repl {kvs:List (κ × V)} {vs:List (κ × Value)} (r:KV kvs vs) (k:κ) {y:V} {u:Value} (ry:RelV y u):
  KV (kvs.map fun kv=>if kv.1=k then (kv.1,y) else kv) (vs.map fun kv=>if kv.1=k then (kv.1,u) else kv):=by
 unfold KV at r ⊢
 induction r with
 | nil=>exact .nil
 | @cons p q ps qs h t ih=>
  rw [List.map_cons,List.map_cons]
  refine .cons ?_ ih
  obtain ⟨h1,h2⟩:=h
  by_cases e:p.1=k
  ·rw [if_pos e,if_pos (h1.symm.trans e)];exact ⟨h1,ry⟩
  ·rw [if_neg e,if_neg (fun z=>e (h1.trans z))];exact ⟨h1,h2⟩
theorem KV.put {kvs:List (κ × V)} {vs:List (κ × Value)} (r:KV kvs vs) (k:κ) {y:V} {u:Value} (ry:RelV y u):KV (putK kvs k y) (stored vs k u):=by
 unfold putK stored
 rw [r.any k]
 by_cases e:(vs.any fun kv=>decide (kv.1=k))=true
 ·rw [if_pos e,if_pos e];exact r.repl k ry
 ·rw [if_neg e,if_neg e];exact Paired.snoc r ⟨rfl,ry⟩
theorem KV.length {kvs:List (κ × V)} {vs:List (κ × Value)} (r:KV kvs vs):kvs.length=vs.length:=Paired.length r
end
theorem Af {P:Program} {w:World} {k:Key} {u:Value} (r:RelV (kV k) u):(cZ P w).is k u=true:=by
 cases k with
 | inl i=>obtain ⟨t,e⟩:=(show ∃t,u=Value.int i t from r);subst e;exact wg P w i t
 | inr x=>obtain ⟨t,e⟩:=(show ∃t,u=Value.str x t from r);subst e;exact wu P w x t
theorem ux {P:Program} {w:World}:∀{ks:List Key} {us:List Value},Vals (ks.map kV) us→ItemsAre (cZ P w) ks us
 | [],_,r=>by rw [List.map_nil] at r;cases r;exact .nil
 | k::ks,_,r=>by
  rw [List.map_cons] at r
  cases r with
  | cons h t=>exact .cons (Af h) (ux t)
noncomputable abbrev KT (H:Hp):List (List Key × V)→List (List Key × Addr × Value)→Prop:=Paired fun p q=>p.1=q.1∧H q.2.1=some (.tup (p.1.map kV))∧RelV p.2 q.2.2
theorem KT.val {H:Hp} {kvs:List (List Key × V)} {xs:List (List Key × Addr × Value)} (r:KT H kvs xs) (k:List Key):jk (gJ kvs k) ((atKey xs k).map (·.2)):=by
 induction r with
 | nil=>exact True.intro
 | @cons p q ps qs h t ih=>
  obtain ⟨h1,_,h2⟩:=h
  by_cases e:p.1=k
  ·have e':q.1=k:=h1.symm.trans e
   have b:atKey (q::qs) k=some q.2:=by simp [atKey,List.find?_cons,e']
   rw [dY e,b];exact h2
  ·have e':¬q.1=k:=fun z=>e (h1.trans z)
   have b:atKey (q::qs) k=atKey qs k:=by simp [atKey,List.find?_cons,e']
   rw [dB e,b];exact ih
theorem KT.repl {H:Hp} {kvs:List (List Key × V)} {xs:List (List Key × Addr × Value)} (r:KT H kvs xs) (k:List Key) {y:V} {u:Value} (ry:RelV y u):
  KT H (kvs.map fun kv=>if kv.1=k then (kv.1,y) else kv) (xs.map (putAt k u)):=by
 induction r with
 | nil=>exact .nil
 | @cons p q ps qs h t ih=>
  rw [List.map_cons,List.map_cons]
  refine .cons ?_ ih
  obtain ⟨h1,h2,h3⟩:=h
  unfold putAt
  by_cases e:p.1=k
  ·rw [if_pos e,if_pos (h1.symm.trans e)];exact ⟨h1,h2,ry⟩
  ·rw [if_neg e,if_neg (fun z=>e (h1.trans z))];exact ⟨h1,h2,h3⟩
theorem KT.put {H:Hp} {kvs:List (List Key × V)} {xs:List (List Key × Addr × Value)} (r:KT H kvs xs) (k:List Key) {b:Addr} {y:V} {u:Value} (hb:H b=some (.tup (k.map kV))) (ry:RelV y u):
  KT H (putK kvs k y) (storedH xs k b u):=by
 have e:(kvs.any fun kv=>decide (kv.1=k))=(atKey xs k).isSome:=by
  rw [lB,(r.val k).isSome_eq,Option.isSome_map]
 unfold putK storedH
 rw [e]
 by_cases q:(atKey xs k).isSome=true
 ·rw [if_pos q,if_pos q];exact r.repl k ry
 ·rw [if_neg q,if_neg q];exact Paired.snoc r ⟨rfl,hb,ry⟩
theorem KT.keeps {H H':Hp} {kvs:List (List Key × V)} {xs:List (List Key × Addr × Value)} (r:KT H kvs xs) (ht:∀b ys,H b=some (.tup ys)→H' b=some (.tup ys)):KT H' kvs xs:=
 Paired.mapP r fun _ _ z=>⟨z.1,ht _ _ z.2.1,z.2.2⟩
section
variable {P:Program} {w:World} {H:Hp} {h:Heap} {a:Addr}
theorem M3 {u:HO} (ok:HOk P w H h) (e:Rd H a u):bQ P w H h a u:=e.ok ok
theorem wJ {kvs:List (Key × V)} (ok:HOk P w H h) (e:Rd H a (.dK kvs)):kvs.length≤sizeLine∧(a==sysModules)=false∧∃vs,KV kvs vs∧h.DictOf (cZ P w) a vs:=
 show bQ P w H h a (.dK kvs) from M3 ok e
theorem Rb {kvs:List (Key × V)} (ok:HOk P w H h) (e:H a=some (.dK kvs)):kvs.length≤sizeLine∧(a==sysModules)=false∧∃vs,KV kvs vs∧h.DictOf (cZ P w) a vs:=wJ ok (.inl e)
theorem qZ {ks:List Key} (ok:HOk P w H h) (e:H a=some (.tup (ks.map kV))):(tupleKind (cZ P w)).is h ks a:=by
 obtain ⟨_,its,r,o,h1,h2,n,h3⟩:=(show bQ P w H h a (.tup (ks.map kV)) from ok a _ e)
 exact ⟨o,its.toArray,n,h1,h2,h3,by simpa using ux r⟩
theorem wK {kvs:List (List Key × V)} (ok:HOk P w H h) (e:Rd H a (.dT kvs)):kvs.length≤sizeLine∧(a==sysModules)=false∧
  ∃xs,KT H kvs xs∧h.DictOfH (tupleKind (cZ P w)) a xs:=by
 obtain ⟨z,y,xs,r,o,es,ep,h1,h2,h3,h4,h5⟩:=(show bQ P w H h a (.dT kvs) from M3 ok e)
 refine ⟨z,y,xs,r,o,es,ep,h1,h2,h3,h4,fun x hx=>?_,h5⟩
 have all:∀{l:List (List Key × V)} {m:List (List Key × Addr × Value)},KT H l m→∀x∈m,(tupleKind (cZ P w)).is h x.1 x.2.1:=by
  intro l m q
  induction q with
  | nil=>intro x hx;exact nomatch hx
  | @cons p q ps qs hq t ih=>
   intro x hx
   rcases List.mem_cons.mp hx with e | hx
   ·subst e
    exact qZ ok (by rw [←hq.1];exact hq.2.1)
   ·exact ih x hx
 exact all r x hx
theorem FN {kvs:List (List Key × V)} (ok:HOk P w H h) (e:H a=some (.dT kvs)):kvs.length≤sizeLine∧(a==sysModules)=false∧
  ∃xs,KT H kvs xs∧h.DictOfH (tupleKind (cZ P w)) a xs:=wK ok (.inl e)
end
noncomputable def tK (H:Hp) (a:Addr) (y:V) (r:Option V):Prop:=
 (∃kvs k,Rd H a (.dK kvs)∧y=kV k∧r=gJ kvs k)∨∃kvs k b,Rd H a (.dT kvs)∧y=.ref b∧H b=some (.tup (k.map kV))∧r=gJ kvs k
noncomputable def FP (H:Hp) (a:Addr) (y v:V) (H':Hp):Prop:=
 (∃kvs k,H a=some (.dK kvs)∧y=kV k∧kvs.length < sizeLine∧H'=upd H a (.dK (putK kvs k v)))∨
 ∃kvs k b,H a=some (.dT kvs)∧y=.ref b∧H b=some (.tup (k.map kV))∧kvs.length < sizeLine∧H'=upd H a (.dT (putK kvs k v))
theorem tK.t {H:Hp} {a b:Addr} {kvs:List (List Key × V)} {k:List Key} (e:H a=some (.dT kvs)) (eb:H b=some (.tup (k.map kV))):tK H a (.ref b) (gJ kvs k):=.inr ⟨kvs,k,b,.inl e,rfl,eb,rfl⟩
theorem FP.t {H:Hp} {a b:Addr} {kvs:List (List Key × V)} {k:List Key} {v:V} (e:H a=some (.dT kvs)) (eb:H b=some (.tup (k.map kV))) (hl:kvs.length < sizeLine):
  FP H a (.ref b) v (upd H a (.dT (putK kvs k v))):=.inr ⟨kvs,k,b,e,rfl,eb,hl,rfl⟩
section
variable {X:Cx} {pins:List (Addr × Obj)} {σ:St} {H:Hp} {s:Shared} {a:Addr} {y v:V} {u r:Value} {o:Option V} {A:Around} {E:Value→Shared→Prop}
theorem Inv.big (I:Inv X pins σ H s):sysModules < s.heap.objs.size:=by
 have h:mainGlobals < s.heap.objs.size:=(I.mod.glob.keeps I.bk).lt
 exact Nat.lt_trans (by decide) h
theorem Cz {Q:Value→Shared→Prop} (hu:A.units+1 < cLine) (I:Inv X pins σ H s) (g:tK H a y (some v)) (ry:RelV y u) (h:∀w' s',Inv X pins σ H s'→RelV v w'→Q w' s'):
  wpAny (model X.prog X.w) A (getItem (.ref a) u) Q E s:=by
 rcases g with ⟨kvs,k,e,ey,l⟩ | ⟨kvs,k,b,e,ey,eb,l⟩
 ·subst ey
  obtain ⟨z,hd,vs,rel,dd⟩:=wJ I.hok e
  obtain ⟨w',hw,rw'⟩:=jk.some_of (v:=v) (o:=valueAt vs k) (by rw [l];exact rel.val k)
  exact wpAny_getItem_of (Af ry) dd.mapOf hw (h w' _ (I.tok _) rw')
 ·subst ey
  cases (show u=Value.ref b from ry)
  obtain ⟨z,hd,xs,rel,dd⟩:=wK I.hok e
  obtain ⟨w',hw,rw'⟩:=jk.some_of (v:=v) (o:=(atKey xs k).map (·.2)) (by rw [l];exact rel.val k)
  obtain ⟨p,hp,hp2⟩:=Option.map_eq_some_iff.mp hw
  refine wpAny_getItem_heap (tupleKind_room_in1 hu) (qZ I.hok eb) dd hp ?_
  rw [hp2]
  exact h w' _ (I.tok _) rw'
theorem vf {h':Heap} {t':Nat} {ob:HO} (I:Inv X pins σ H s) (mu:Mut (H a)) (hs:Heap.SameBut a s.heap h') (he:∃q,h'.get? a=some q) (new:bQ X.prog X.w (upd H a ob) h' a ob):
  Inv X pins σ (upd H a ob) {s with heap:=h',toks:=t'}:=
 I.write (x:=a) (e:=a) mu (.inl rfl) (fun b q hb z=>(hs.2 b hb).trans z) he new
theorem Om {P:Program} {w:World} {H':Hp} {h':Heap} {kvs:List (Key × V)} {vs:List (Key × Value)} (z:kvs.length≤sizeLine) (hd:(a==sysModules)=false) (rel:KV kvs vs) (dd:h'.DictOf (cZ P w) a vs):
  bQ P w H' h' a (.dK kvs):=⟨z,hd,vs,rel,dd⟩
theorem CG {H':Hp} {Q:Unit→Shared→Prop} (hu:A.units+1 < cLine) (I:Inv X pins σ H s) (g:FP H a y v H') (ry:RelV y u) (rv:RelV v r) (h:∀s',Inv X pins σ H' s'→Q () s'):
  wpAny (model X.prog X.w) A (setItem (.ref a) u r) Q E s:=by
 rcases g with ⟨kvs,k,e,ey,l,eH⟩ | ⟨kvs,k,b,e,ey,eb,l,eH⟩
 ·subst ey eH
  obtain ⟨z,hd,vs,rel,dd⟩:=Rb I.hok e
  have hz:vs.length≤sizeLine:=by rw [←rel.length];exact z
  have hl:(putK kvs k v).length≤sizeLine:=by have:=ji kvs k v;omega
  refine wpAny_setItem_pairs (hsz:=hz) (Af ry) dd fun h' dd' hs=>h _ ?_
  have he:∃q,h'.get? a=some q:=let ⟨q,_,_,hq,_⟩:=dd';⟨q,hq⟩
  exact vf I (by rw [e];exact True.intro) hs he (Om hl hd (rel.put k rv) dd')
 ·subst ey eH
  cases (show u=Value.ref b from ry)
  obtain ⟨z,hd,xs,rel,dd⟩:=FN I.hok e
  have hz:xs.length≤sizeLine:=by rw [←Paired.length rel];exact z
  have hl:(putK kvs k v).length≤sizeLine:=by have:=ji kvs k v;omega
  refine wpAny_setItem_heap (hsz:=hz) (tupleKind_room_in1 hu) (qZ I.hok eb) dd fun h' dd' hs=>h _ ?_
  obtain ⟨q,es,ep,hq,h2,h3,h4,_,h5⟩:=dd'
  refine vf I (by rw [e];exact True.intro) hs ⟨q,hq⟩ ⟨hl,hd,_,(rel.put k eb rv).keeps fun c ys ec=>?_,q,es,ep,hq,h2,h3,h4,h5⟩
  rw [aA (iz ec e (fun z=>nomatch z))]
  exact ec
end
noncomputable def Rc (i:Expr):Prop:=∀ov iv,subscripted i false ov iv=operate [ov,iv] (getItem ov iv)
theorem Km {prog:Program} {w:World} {A:Around} {E:Value→Shared→Prop} {s:Shared} {env:Env} {value slice:Expr} {pos:Pos} {T id:String} {Q:Value→Shared→Prop}
  (hl:typeLookup (.type T) "__getitem__"=pure (some (.builtin id))) (hs:Rc slice)
  (h:wpAny (model prog w) A (eval value env) (fun o s₁=>wpAny (model prog w) A (eval slice env) (fun i s₂=>s₂.TypeIs o T∧wpAny (model prog w) A (getItem o i) Q E s₂) E s₁) E s):
  wpAny (model prog w) A (eval (.Subscript value slice pos) env) Q E s:=by
 refine Subscript_ (wpAny_mono h (fun o s₁ h₁=>wpAny_mono h₁ (fun i s₂ h₂=>?_) fun _ _ x=>x) fun _ _ x=>x)
 obtain ⟨hT,h₂⟩:=h₂
 unfold subscriptTail
 refine wpAny_bind ?_
 rw [getitemInPython_of_ne hT.not_modules]
 refine wpAny_bind (wpAny_specialOf hT hl ?_)
 have fin:wpAny (model prog w) A (subscripted slice false o i) (fun r s₃=>wpAny (model prog w) A (letTemporaryGo value o r >>=fun _=>pure r) Q E s₃) E s₂:=by
  rw [hs o i]
  exact wpAny_operating (wpAny_mono h₂ (fun r s₃ h₃=>wpAny_bind (wpAny_letTemporaryGo (wpAny_pure h₃))) fun _ _ x=>x)
 first
  | exact wpAny_pure (wpAny_bind fin)
  | exact wpAny_bind (wpAny_pure (wpAny_bind fin))
  | exact wpAny_bind fin
theorem wL {X:Cx} {pins:List (Addr × Obj)} {σ:St} {H:Hp} {s:Shared} {a:Addr} {y:V} {o:Option V} (I:Inv X pins σ H s) (g:tK H a y o):s.TypeIs (.ref a) "dict":=by
 rcases g with ⟨kvs,k,e,_,_⟩ | ⟨kvs,k,b,e,_,_,_⟩
 ·obtain ⟨_,_,vs,_,dd⟩:=wJ I.hok e
  exact dd.typeIs
 ·obtain ⟨_,_,xs,_,dd⟩:=wK I.hok e
  exact dd.typeIs
noncomputable def Rg (td ty:TE):TE:=fun σ H Q=>td σ H fun x H1=>ty σ H1 fun y H2=>∃a v,x=.ref a∧tK H2 a y (some v)∧Q v H2
noncomputable def Rh (td ty tv:TE):TS:=fun D σ H=>tv σ H fun v H1=>td σ H1 fun x H2=>ty σ H2 fun y H3=>∃a H4,x=.ref a∧FP H3 a y v H4∧D.nx σ H4
section
variable {X:Cx} {o i e value:Expr} {pos pos' tpos:Pos} {td ty tv:TE}
theorem Ko (hu:X.A.units+1 < cLine) (ho:PE X o td) (hi:PE X i ty) (hs:Rc i):PE X (.Subscript o i pos) (Rg td ty):=by
 intro pins s σ H Q I h
 refine Km PySem.F.slot_dict_getitem.lookup hs (thn (ho pins s σ H _ I h) fun u s1 ⟨x,H1,I1,rx,q1⟩=>thn (hi pins s1 σ H1 _ I1 q1) fun iv s2 ⟨y,H2,I2,ry,a,v,ex,g,q2⟩=>?_)
 subst ex
 obtain rfl:u=Value.ref a:=rx
 exact ⟨wL I2 g,Cz hu I2 g ry fun w' s3 I3 rw'=>⟨v,H2,I3,rw',q2⟩⟩
theorem Kp (hu:X.A.units+1 < cLine) (ho:PE X o td) (hi:PE X i ty) (hv:PE X value tv) (hs:swapsWith value (some (.Subscript o i pos')) pos.line X.env=pure false):
  PS X (.Assign [.Subscript o i pos'] value pos) (Rh td ty tv):=by
 intro pins s σ H D I h
 refine wpAny_Assign_Subscript (thn (hv pins s σ H _ I h) fun r s1 ⟨v,H1,I1,rv,q1⟩=>thn (ho pins s1 σ H1 _ I1 q1) fun u s2 ⟨x,H2,I2,rx,q2⟩=>thn (hi pins s2 σ H2 _ I2 q2) fun iv s3 ⟨y,H3,I3,ry,a,H4,ex,g,q3⟩=>?_) hs
 subst ex
 obtain rfl:u=Value.ref a:=rx
 exact CG hu I3 g ry rv fun s4 I4=>⟨σ,H4,I4,q3⟩
end
theorem FQ {P:Program} {w:World} {H:Hp} (h:Heap) (hb:sysModules < h.objs.size):bQ P w H (h.push {cls:=.type "dict",data:=.dict #[]}) h.objs.size (.dT []):=
 ⟨Nat.zero_le _,beq_eq_false_iff_ne.mpr (Ne.symm (Nat.ne_of_lt hb)),[],.nil,_,#[],0,Heap.get?_push_size _ rfl,⟨rfl,rfl,rfl⟩,rfl,rfl,List.nodup_nil⟩
noncomputable def Oo:TE:=fun _ H Q=>∀p,H p=none→Q (.ref p) (upd H p (.dT []))
section
variable {X:Cx} {pos:Pos}
theorem wM:PE X (.Dict [] [] pos) Oo:=fun pins s σ H Q I h=>
 wpAny_Dict_empty ⟨.ref s.heap.objs.size,_,I.laid (a:=s.heap.objs.size) (o:=.dT []) (t':=s.toks) (fun _ _ q=>Heap.get?_push_of_some _ q) (Nat.le_refl _) (FQ s.heap I.big),rfl,h _ (I.hok.fresh (Nat.le_refl _))⟩
end
structure M1 (X:Cx) (o:Expr) (m:Str) (apos:Pos) (e:Expr) (cpos:Pos):Prop where
 base:attributeBase o m X.env (eval o X.env)=eval o X.env
 few:((backTo cpos (starEach [e] X.env)).all (fun x=>!x.1) && (backToKw cpos (keywordEach [] X.env)).all (fun x=>x.1.isSome)
  && decide (([e]:List Expr).length+([]:List Keyword).length+(if ([]:List Keyword).isEmpty then 0 else 1) < 30))=true
 line:(apos.endLine==cpos.line)=true
 trees:backTo cpos (starEach [e] X.env)=[(false,eval e X.env)]
structure M2 (X:Cx) (o:Expr) (m:Str) (apos:Pos) (e f:Expr) (cpos:Pos):Prop where
 base:attributeBase o m X.env (eval o X.env)=eval o X.env
 few:((backTo cpos (starEach [e,f] X.env)).all (fun x=>!x.1) && (backToKw cpos (keywordEach [] X.env)).all (fun x=>x.1.isSome)
  && decide (([e,f]:List Expr).length+([]:List Keyword).length+(if ([]:List Keyword).isEmpty then 0 else 1) < 30))=true
 line:(apos.endLine==cpos.line)=true
 trees:backTo cpos (starEach [e,f] X.env)=[(false,eval e X.env),(false,eval f X.env)]
noncomputable def IsD (H:Hp) (a:Addr):Prop:=(∃kvs,Rd H a (.dK kvs))∨∃kvs,Rd H a (.dT kvs)
theorem FT {X:Cx} {pins:List (Addr × Obj)} {σ:St} {H:Hp} {s:Shared} {a:Addr} (I:Inv X pins σ H s) (d:IsD H a):
  s.TypeIs (.ref a) "dict"∧(∀b,Value.ref a=.ref b→∃ob,s.heap.get? b=some ob∧ob.dict=none)∧(a==sysModules)=false:=by
 rcases d with ⟨kvs,e⟩ | ⟨kvs,e⟩
 ·obtain ⟨_,hd,vs,_,dd⟩:=wJ I.hok e
  refine ⟨dd.typeIs,fun b q=>?_,hd⟩
  cases q
  obtain ⟨ob,_,_,h1,h2,_⟩:=dd
  exact ⟨ob,h1,h2.2.1⟩
 ·obtain ⟨_,hd,xs,_,dd⟩:=wK I.hok e
  refine ⟨dd.typeIs,fun b q=>?_,hd⟩
  cases q
  obtain ⟨ob,_,_,h1,h2,_⟩:=dd
  exact ⟨ob,h1,h2.2.1⟩
section
variable {X:Cx} {pins:List (Addr × Obj)} {σ:St} {H:Hp} {s:Shared} {a:Addr} {y d:V} {u r:Value} {o:Option V} {A:Around} {E:Value→Shared→Prop}
theorem Oq {Q:Value→Shared→Prop} (hu:A.units+1 < cLine) (I:Inv X pins σ H s) (g:tK H a y o) (ry:RelV y u) (rd:RelV d r) (h:∀w' s',Inv X pins σ H s'→RelV (o.getD d) w'→Q w' s'):
  wpAny (model X.prog X.w) A (call (.builtin "dict.get") [.ref a,u,r]) Q E s:=by
 rcases g with ⟨kvs,k,e,ey,l⟩ | ⟨kvs,k,b,e,ey,eb,l⟩
 ·subst ey
  obtain ⟨z,hd,vs,rel,dd⟩:=wJ I.hok e
  refine call_meetsIn PySem.F.slot_dict_get dd.typeIs PySem.F.entry_dict_get (PySem.F.args_dict_get_3 _ _ _) (meets_dict_get_default (cZ X.prog X.w) a (Af ry) hd r) ⟨_,dd.mapOf,h _ _ (I.tok _) ?_⟩
  rw [l]
  exact (rel.val k).getD rd
 ·subst ey
  cases (show u=Value.ref b from ry)
  obtain ⟨z,hd,xs,rel,dd⟩:=wK I.hok e
  refine call_meetsIn PySem.F.slot_dict_get dd.typeIs PySem.F.entry_dict_get (PySem.F.args_dict_get_3 _ _ _) (meetsH_dict_get_default (tupleKind (cZ X.prog X.w)) a b hd r) ⟨tupleKind_room_in1 hu,k,xs,qZ I.hok eb,dd,h _ _ (I.tok _) ?_⟩
  rw [l]
  exact (rel.val k).getD rd
end
noncomputable def Ot (td ty tx:TE):TE:=fun σ H Q=>td σ H fun x H1=>∃a,x=.ref a∧IsD H1 a∧ty σ H1 fun y H2=>tx σ H2 fun z H3=>∃o,tK H3 a y o∧Q (o.getD z) H3
section
variable {X:Cx} {o e f:Expr} {apos cpos:Pos} {td ty tx:TE}
theorem wN (hu:X.A.units+1 < cLine) (ho:PE X o td) (he:PE X e ty) (hf:PE X f tx) (m:M2 X o "get" apos e f cpos):PE X (.Call (.Attribute o "get" apos) [e,f] [] cpos) (Ot td ty tx):=by
 intro pins s σ H Q I h
 refine wpAny_Call_method m.base m.few m.line PySem.F.plainAttrs_dict PySem.F.slot_dict_get PySem.F.type_dict_get (thn (ho pins s σ H _ I h) fun u s1 ⟨x,H1,I1,rx,a,ex,d,q1⟩=>?_)
 subst ex
 obtain rfl:u=Value.ref a:=rx
 obtain ⟨t1,t2,_⟩:=FT I1 d
 refine ⟨t1,t2,?_⟩
 rw [m.trees]
 refine Calls.callWith_builtin rfl (Calls.evalArgs_plain (Calls.spliced_cons (thn (he pins s1 σ H1 _ I1 q1) fun iv s2 ⟨y,H2,I2,ry,q2⟩=>
  Calls.spliced_cons (thn (hf pins s2 σ H2 _ I2 q2) fun fv s3 ⟨z,H3,I3,rz,ov,g,q3⟩=>Calls.spliced_nil ?_))))
 exact Oq hu I3 g ry rz fun w' s4 I4 rw'=>⟨_,H3,I4,rw',q3⟩
end
open PySem PySem.Spec PyProof.Rows
end L2
namespace L3
section
open PySem PySem.Spec PyProof.Rows
open PySem.Builtin PySem.Builtin.Getset_descriptor
structure kE (K:PySem.W.Frag) (C:Addr):Prop where
 ga:PySem.W.findIn K (.ref C) "__getattribute__"=some (some (.builtin "BaseException.__getattribute__"))
 no:PySem.W.findIn K (.ref C) "__getattr__"=some none
 ha:PySem.W.findIn K (.ref C) "__class__"=some (some (.builtin "object.__class__"))
 hn:PySem.W.specialIn K (.builtin "object.__class__") "__get__"=some (some (.builtin "getset_descriptor.__get__"))
 htk:PySem.W.takesIn K (.builtin "object.__class__")=some true
 hm:PySem.W.mroIn K C (.type "object")=some true
 hb:PySem.W.mroIn K C (.type "BaseException")=some true
noncomputable def tL (h:Heap) (x C:Addr):Prop:=∃o,h.get? x=some o∧o.cls=.ref C
theorem tL.type {M:Model} {h:Heap} {x C:Addr} (I:tL h x C):PySem.W.Looks M h (typeOf (.ref x)) (.ref C):=by
 obtain ⟨o,e,c⟩:=I
 rw [←c]
 exact (PySem.W.Looks.ld e).andThen .now
section
variable {prog:Program} {w:World} {A:Around} {E:Value→Shared→Prop} {s:Shared} {K:PySem.W.Frag} {x C:Addr} {name:Str}
theorem uy {M:Model} {nameV:Value} {Q:Unit→Shared→Prop} (X:K.In s.heap) (c:kE K C) (I:tL s.heap x C) (hq:Q () s):
  wpAny M A (checkBuiltinCall "BaseException.__getattribute__" ⟨[.ref x,nameV],[]⟩) Q E s:=by
 have hk:builtinKind "BaseException.__getattribute__"=some .slot:=by decide+kernel
 have hsplit:splitId "BaseException.__getattribute__"=some ("BaseException","__getattribute__"):=by decide+kernel
 have ha:=F.args_bexc_ga (.ref x) nameV
 have LI:PySem.W.Looks M s.heap (isInstance (.ref x) (.type "BaseException")) true:=I.type.andThen (PySem.W.looks_mroIn X c.hb)
 obtain ⟨h,g,d,t,os⟩:=s
 simp only [checkBuiltinCall,hk,hsplit]
 refine wpAny_bind (LI.at ?_)
 repeat (first | assumption | wp_step)
theorem FW {fill expr:Bool} {tk:Tok} {Q:Value→Shared→Prop} (X:K.In s.heap) (c:kE K C) (I:tL s.heap x C)
  (h:∀A':Around,codeAny (model prog w) A' (.call (.builtin "BaseException.__getattribute__") ⟨[.ref x,.str name tk],[]⟩) (fun r s'=>match r with | .ok (.ret v)=>wpAny (model prog w) A (handedOut v) Q E s' | _=>False) s):
  wpAny (model prog w) A (getAttrBy (.ref x) (.str name tk) fill expr) Q E s:=by
 have L0:=I.type (M:=model prog w)
 have L1:=PySem.W.looks_findIn (M:=model prog w) X c.ga
 have L2:=PySem.W.looks_findIn (M:=model prog w) X c.no
 have f3:=F.excAttr_ValueError.ga.bind (.ref x)
 have hx0:(expr && onTheHeap (Value.builtin "BaseException.__getattribute__"))=false:=by cases expr <;> rfl
 have hx2:(Value.builtin "BaseException.__getattribute__"==Value.builtin "object.__getattribute__")=false:=by decide+kernel
 have hx1:(onTheHeap (Value.ref C) && Value.builtin "BaseException.__getattribute__"==Value.builtin "object.__getattribute__")=false:=by rw [hx2];rfl
 obtain ⟨hh,g,d,t,os⟩:=s
 unfold getAttrBy
 refine wpAny_holding (wpAny_bind (L0.at (wpAny_bind (L1.at ?_))))
 dsimp only
 rw [if_neg (by rw [hx1];exact Bool.false_ne_true)]
 unfold getAttrByItsOwn hookBefore
 rw [if_pos (show onTheHeap (Value.ref C)=true from rfl)]
 refine wpAny_bind (L2.at ?_)
 refine wpAny_bind (wpAny_attempt (wpAny_holding ?_))
 unfold callGetattribute
 rw [if_neg (by rw [hx0];exact Bool.false_ne_true)]
 unfold boundAndCalled
 rw [f3]
 refine wpAny_bind (wpAny_pure ?_)
 refine wpAny_call (codeAny_mono (h _) fun r s' hr=>?_)
 rcases r with e | (_ | _ | _ | v) <;> first | exact hr | exact hr.elim
theorem FZ {R:Result→Shared→Prop} {tp:Value} (X:K.In s.heap) (I:tL s.heap x C) (hm:PySem.W.mroIn K C (.type "object")=some true) (h:R (.ok (.ret (.ref C))) s):
  codeAny (model prog w) A (.call (.builtin "getset_descriptor.__get__") ⟨[.builtin "object.__class__",.ref x,tp],[]⟩) R s:=by
 have L0:=I.type (M:=model prog w)
 have LM:=PySem.W.looks_mroIn (M:=model prog w) X hm
 obtain ⟨h0,g,d,t,os⟩:=s
 refine codeAny_call_builtin PySem.W.KF.slot_gs.plain PySem.W.KF.entry_gs ?_
 refine PySem.W.KF.slot_gs.check _ _ _ _ _ _ _ _ PySem.W.KF.type_class (PySem.W.KF.args_gs _ _ _) ?_
 unfold Builtin.«getset_descriptor.__get__» descrGet
 rw [PySem.W.dga_obj]
 refine wpAny_bind (wpAny_pure ?_)
 unfold descrGetter descrCheckInstance descrNameAndClass isInstance
 simp only [PySem.W.KF.owner_class]
 repeat lk
 refine ⟨Code.quiet_builtin _ (by decide+kernel),codeAny_builtin PySem.W.KF.entry_class ?_⟩
 unfold Builtin.«object.__class__» shownTypeOf
 repeat lk
 exact h
theorem CJ {M:Model} {h:Heap} {a g:Value} (X:K.In h) (ha:PySem.W.findIn K (.ref C) name=some (some a)) (hg:PySem.W.specialIn K a "__get__"=some (some g)) (ht:PySem.W.takesIn K a=some true):
  PySem.W.Looks M h (Builtin.ObjectAttr.find (.ref x) (.ref C) name) (.bind g a):=by
 have L1:=PySem.W.looks_findIn (M:=M) X ha
 have L2:PySem.W.Looks M h (Builtin.ObjectAttr.getOf (some a)) (some g):=PySem.W.looks_specialIn X hg
 have L3:=PySem.W.looks_takesIn (M:=M) X ht
 unfold Builtin.ObjectAttr.find
 refine L1.andThen (L2.andThen ?_)
 have LD:PySem.W.Looks M h (Builtin.ObjectAttr.dataDescriptor? (some a) (some g)) (some (g,a)):=by
  unfold Builtin.ObjectAttr.dataDescriptor?
  refine L3.andThen ?_
  exact .now
 exact LD.andThen (PySem.W.Looks.tag .now)
theorem kE.some (c:kE K C):(PySem.W.clsIn K C).isSome=true:=by
 have h:=c.hm
 unfold PySem.W.mroIn at h
 obtain ⟨cd,a,_⟩:=Option.bind_eq_some_iff.mp h
 rw [a]
 rfl
theorem CK {fill expr:Bool} {tk:Tok} {Q:Value→Shared→Prop} (X:K.In s.heap) (c:kE K C) (I:tL s.heap x C) (h:Q (.ref C) s):
  wpAny (model prog w) A (getAttrBy (.ref x) (.str "__class__" tk) fill expr) Q E s:=by
 refine FW X c I fun A'=>codeAny_call_builtin F.excAttr_ValueError.ga.plain F.entry_bexc_ga (uy X c I ?_)
 have L0:=I.type (M:=model prog w)
 have L1:=CJ (M:=model prog w) (x:=x) X c.ha c.hn c.htk
 obtain ⟨hh,g,d,t,os⟩:=s
 unfold Builtin.«object.__getattribute__»
 have sa:slotArgs "__getattribute__" 1 ⟨[.ref x,.str (Str.ofString "__class__") tk],[]⟩=pure (.ref x,[.str (Str.ofString "__class__") tk]):=rfl
 rw [sa]
 refine wpAny_bind (wpAny_pure ?_)
 dsimp only
 have an:Builtin.ObjectAttr.attrName (.str (Str.ofString "__class__") tk)=pure (Str.ofString "__class__"):=rfl
 rw [an]
 refine wpAny_bind (wpAny_pure (wpAny_bind (L0.at (wpAny_bind (L1.at ?_)))))
 dsimp only
 unfold Builtin.ObjectAttr.bindTo
 show wpAny _ _ (holding [Value.builtin "object.__class__"] (call (Value.builtin "getset_descriptor.__get__") [Value.builtin "object.__class__",Value.ref x,Value.ref C]) >>=ret) _ _ _
 refine wpAny_bind (wpAny_holding (wpAny_call (FZ X I c.hm ?_)))
 refine wpAny_pure ?_
 show wpAny _ _ (handedOut (.ref C)) _ _ _
 exact wpAny_pure h
theorem Kq {Q:Option Value→Shared→Prop} (X:K.In s.heap) (c:kE K C) (I:tL s.heap x C) (h:Q (some (.ref C)) {s with toks:=s.toks+1}):wpAny (model prog w) A (getAttr? (.ref x) "__class__") Q E s:=by
 unfold getAttr? getAttrBy?
 refine wpAny_bind (wpAny_mkText (wpAny_bind (wpAny_attempt ?_)))
 refine CK (s:={s with toks:=s.toks+1}) X c I ?_
 exact wpAny_pure h
end
end
open PySem PySem.Spec PyProof.Rows L2
theorem Gd {K:PySem.W.Frag} {C:Addr} {M:Model} {h:Heap} (c:kE K C) (X:K.In h):PySem.W.Looks M h (isType (.ref C)) true:=by
 obtain ⟨cd,hc⟩:=Option.isSome_iff_exists.mp c.some
 unfold PySem.W.clsIn at hc
 split at hc
 ·rename_i d1 d2 d3 d4 ho
  intro A Q E s k q
  unfold isType loadHead
  exact wpAny_bind (wpAny_loadPart (k _ _ (X _ _ ho)) (wpAny_pure q))
 ·cases hc
theorem lD {K:PySem.W.Frag} {ea C:Addr} (c:kE K C):PySem.W.KitX K (.ref ea) (.ref C) (fun h=>tL h ea C) where
 ty:=fun _ _ _ I=>I.type
 it:=fun _ _ X _=>Gd c X
 ne:=fun h tp dd its n sl X htp=>by
  refine Bool.eq_false_iff.mpr fun q=>?_
  have e:C=tp:=Value.ref.inj (beq_iff_eq.mp q)
  subst e
  obtain ⟨cd,hc⟩:=Option.isSome_iff_exists.mp c.some
  unfold PySem.W.clsIn at hc
  split at hc
  ·rename_i d1 d2 d3 d4 ho
   have z:=(X _ _ ho).symm.trans htp
   cases z
  ·cases hc
 ca:=fun X I k=>Kq X c I k
section
variable {X:Cx}
theorem CP:fK X (.builtin "isinstance") (fun xs H Q=>∃(ea C p:Addr) (cs:List Addr) (b:Bool),xs=[.ref ea,.ref p]∧H ea=some (Cw ea C)∧H p=some (.tup (cs.map V.ref))∧kE X.K C∧PySem.W.kitAny X.K (.ref C) (cs.map Value.ref)=some b∧Q (.bl b) H):=by
 intro pins s σ H xs us Q I r h
 obtain ⟨ea,C,p,cs,b,rfl,hea,hp,c,ka,q⟩:=h
 obtain ⟨u,w',rfl,ru,rw'⟩:=vals2 r
 cases ru
 cases rw'
 obtain ⟨ty,_,_⟩:=(show bQ X.prog X.w H s.heap ea (Cw ea C) from I.hok ea _ hea)
 obtain ⟨zl,its,rv,⟨oc,od,odt,osl⟩,ho,hc,n,hd⟩:=(show bQ X.prog X.w H s.heap p (.tup (cs.map V.ref)) from I.hok p _ hp)
 simp only at hc hd
 subst hc hd
 have ei:its=cs.map Value.ref:=by
  clear ho hp ka zl
  induction cs generalizing its with
  | nil=>cases rv;rfl
  | cons c' r' ih=>
   cases rv with
   | cons r1 r2=>
    cases r1
    rw [ih _ r2]
    rfl
 rw [ei] at ho
 exact PySem.W.kia_tup (lD c) I.kIn ty ho ka (fun z=>nomatch z) fun tk=>⟨.bl b,H,I.tok tk,rfl,q⟩
theorem CQ:fK X (.builtin "isinstance") (fun xs H Q=>∃(ea C:Addr) (b:Bool),H ea=some (Cw ea C)∧kE X.K C∧((∃R,xs=[.ref ea,.ref R]∧PySem.W.kitOne X.K (.ref C) (.ref R)=some b)∨∃T,xs=[.ref ea,.ty T]∧PySem.W.kitOne X.K (.ref C) (.type T)=some b)∧Q (.bl b) H):=by
 intro pins s σ H xs us Q I r h
 obtain ⟨ea,C,b,hea,c,hor,q⟩:=h
 obtain ⟨ty,_,_⟩:=(show bQ X.prog X.w H s.heap ea (Cw ea C) from I.hok ea _ hea)
 rcases hor with ⟨R,rfl,ka⟩ | ⟨T,rfl,ka⟩
 ·obtain ⟨u,w',rfl,ru,rw'⟩:=vals2 r
  cases ru
  cases rw'
  exact PySem.W.kia_one (lD c) I.kIn ty ka (fun z=>nomatch z) fun tk=>⟨.bl b,H,I.tok tk,rfl,q⟩
 ·obtain ⟨u,w',rfl,ru,rw'⟩:=vals2 r
  cases ru
  cases rw'
  exact PySem.W.kia_one (lD c) I.kIn ty ka (fun z=>nomatch z) fun tk=>⟨.bl b,H,I.tok tk,rfl,q⟩
theorem Ri {k:Nat} {A:Around} (r:fZ k A):A.units+65 < cLine:=by have:=r.un;omega
inductive Rj (K:PySem.W.Frag) (neg:Bool) (x:L2.V) (y:L2.V) (H:Hp) (Q:VK):Prop where
 | mk (d:_) (ds:_) (z1:Dt K H x d) (z2:Dt K H y (.list ds)) (z3:SeqAt.shaped d=true) (z4:PyData.canLayAll0 ds=true) (z5:Q (.bl (if neg then !(ds.any fun z=>PyData.eqv z d) else ds.any fun z=>PyData.eqv z d)) H)
noncomputable def Uc (K:PySem.W.Frag) (neg:Bool):R2:=fun x y H Q=>Rj K neg x y H Q
theorem Ge {A:Around} {ds:List PyData} {d:PyData} (sd:SeqAt.shaped d=true) (hu:A.units+65 < cLine):A.units+1+min (PyData.depthAll ds) d.depth < cLine:=by
 have h1:=SeqAt.depth_of_shaped sd
 have h2:min (PyData.depthAll ds) d.depth≤d.depth:=Nat.min_le_right _ _
 omega
theorem Gf (hu:X.A.units+65 < cLine):OpR X (compareOp .In) (Uc X.K false):=by
 intro pins s σ H x y v u Q I rx ry h
 obtain ⟨d,ds,hd,he,sd,se,q⟩:=h
 obtain ⟨as,ra⟩:=iY I hd rx
 obtain ⟨bs,rb⟩:=iY I he ry
 exact SeqAt.in_list_reads rb ra se (SeqAt.canLay_of_shaped sd) (Ge sd hu) ⟨.bl _,H,I,rfl,q⟩
end
end L3
namespace K1
open PySem L2 L3
theorem b7:bootBuiltins "len"=some (.builtin "len"):=by decide+kernel
theorem aQ:bootBuiltins "isinstance"=some (.builtin "isinstance"):=by decide+kernel
theorem o5:bootBuiltins "all"=some (.builtin "all"):=by decide+kernel
theorem vg:bootBuiltins "int"=some (.type "int"):=by decide+kernel
theorem vh:bootBuiltins "bool"=some (.type "bool"):=by decide+kernel
theorem Gg:bootBuiltins "str"=some (.type "str"):=by decide+kernel
theorem jT:bootBuiltins "list"=some (.type "list"):=by decide+kernel
theorem ju:bootBuiltins "tuple"=some (.type "tuple"):=by decide+kernel
theorem Ou:bootBuiltins "set"=some (.type "set"):=by decide+kernel
theorem tM:bootBuiltins "ValueError"=some (.type "ValueError"):=by decide+kernel
structure Blt (mg:Str→Option Value):Prop where
 len:mg "len"=none
 range:mg "range"=none
 isinstance:mg "isinstance"=none
 all_:mg "all"=none
 int:mg "int"=none
 bool:mg "bool"=none
 str:mg "str"=none
 list:mg "list"=none
 tuple:mg "tuple"=none
 set_:mg "set"=none
 ValueError:mg "ValueError"=none
 enumerate:mg "enumerate"=none
 max:mg "max"=none
 min:mg "min"=none
 sum:mg "sum"=none
 any_:mg "any"=none
 dict:mg "dict"=none
 sorted:mg "sorted"=none
 zip:mg "zip"=none
structure Dn (K:PySem.W.Frag) (mg:Str→Option Value) (x:Str) (st:Stmt) (ps:List Str) (f:Addr) (fd:FuncData):Prop where
 fn:Fun K x x st f fd
 at_:mg x=some (.ref f)
 bd:Binds K fd ps []
structure Mn (K:PySem.W.Frag) (C:Addr) (m qual:Str) (st:Stmt) (ps:List Str) (f:Addr) (fd:FuncData):Prop where
 fn:Fun K m qual st f fd
 me:Meth K C m f
 bd:Binds K fd ps []
structure Inn (K:PySem.W.Frag) (C:Addr) (qual:Str) (st:Stmt) (ps:List Str) (f:Addr) (fd:FuncData):Prop where
 fn:Fun K "__init__" qual st f fd
 made:Mk K C f
 bd:Binds K fd ps []
noncomputable def Cst (mg:Str→Option Value) (x:Str) (i:Int):Prop:=∃t,mg x=some (.int i t)
theorem lE {X:Cx} {x:Str} {i:Int} {pos:Pos} (hg:Gl X x) (h:Cst X.mg x i) (hd:(x==("__debug__":Str))=false:=by decide):PE X (.Name x pos) (tC (.int i)):=by
 obtain ⟨t,e⟩:=h
 exact zR hg e ⟨t,rfl⟩ hd
theorem fL {X:Cx} {x:Str} {T:String} {pos:Pos} (hg:Gl X x) (hm:X.mg x=none) (hv:bootBuiltins x=some (.type T)) (hn:x≠"__name__":=by decide) (hd:(x==("__debug__":Str))=false:=by decide):PE X (.Name x pos) (tC (.ty T)):=
 J3 (v:=.ty T) hg hm hv rfl hn hd
theorem lF {X:Cx} {x:Str} {C:Addr} {pos:Pos} (hg:Gl X x) (hm:X.mg x=some (.ref C)) (hd:(x==("__debug__":Str))=false:=by decide):PE X (.Name x pos) (tC (.ref C)):=
 zR (v:=.ref C) hg hm rfl hd
theorem vm {wi:TI} {cs:List (Option Nat)} {te:TE} {σ rest:L2.St} {H H1:Hp} {Q:VK} {J:It} {xs:List L2.V} (hw:∀R:It→Hp→Prop,R J H1→wi σ H R) (hcs:jQ cs σ=none::rest) (wk:Wk J H1 xs) (hl:xs.length < sizeLine) (f:L2.V→L2.V)
  (elt:∀(i:Nat) (x:L2.V) (H2:Hp) (R:VK),xs[i]?=some x→aN H1 H2→(∀H5,aN H2 H5→R (f x) H5)→te (some x::rest) H2 R)
  (fin:∀(D:Addr) (H':Hp),H1 D=none→H' D=some (.lst (xs.map f))→aN H1 H'→Q (.ref D) H'):tLC wi cs (dX 0) u5 te σ H Q:=hw _ (Oe hcs wk hl f elt fin)
theorem q9 (K:PySem.W.Frag) (t:String):PySem.W.kitOne K (.type t) (.type t)=some true:=by
 unfold PySem.W.kitOne
 exact if_pos (by simp)
theorem gY {cl big:List (Str × Addr)} (h:∀p∈cl,big.lookup p.1=some p.2) (x:Str) (c:Addr) (e:cl.lookup x=some c):big.lookup x=some c:=by
 induction cl with
 | nil=>cases e
 | cons p r ih=>
  obtain ⟨y,d⟩:=p
  rw [List.lookup_cons] at e
  by_cases hb:(x==y)=true
  ·rw [hb] at e
   cases e
   have:=h (y,c) (List.mem_cons_self ..)
   rw [show x=y from eq_of_beq hb]
   exact this
  ·rw [Bool.not_eq_true] at hb
   rw [hb] at e
   exact ih (fun p hp=>h p (List.mem_cons_of_mem _ hp)) e
end K1
namespace M1
open PySem
noncomputable def Nm (l:List Nat):Prop:=1≤l.length∧l.length≤8∧∀x∈l,97≤x∧x≤122
structure Rd where
 a:Nat
 b:Nat
 t:Int
 m:Int
structure Rd.Ok (r:Rd) (n:Nat):Prop where
 a:r.a < n
 b:r.b < n
 ne:r.a≠r.b
 t:1≤r.t∧r.t≤9
 m:1≤r.m∧r.m≤1000000000
end M1
namespace K1
open PySem L2 L3 M1
section
variable {P:Program} {w:World} {K:PySem.W.Frag} {mg:Str→Option Value} {base:Heap}
noncomputable abbrev S (l:List Nat):Str:=⟨l.toArray⟩
theorem vo {ns:List Int} {k:Int} (h0:0≤k) (h1:k < (ns.map V.int).length):atI (ns.map V.int) k=some (V.int (ns.getD k.toNat 0)):=by
 have h2:k.toNat < ns.length:=by rw [List.length_map] at h1;omega
 have e:(ns.map V.int)[k.toNat]?=some (V.int (ns.getD k.toNat 0)):=by
  rw [List.getElem?_map,List.getElem?_eq_getElem h2]
  simp [List.getD,h2]
 have:=cu e
 rwa [Int.toNat_of_nonneg h0] at this
inductive Rk (K:PySem.W.Frag) (vs:(List L2.V)) (H:Hp) (Q:VK) (u_3:XK):Prop where
 | mk (a:Addr) (ns:List Int) (k:Int) (z1:vs=[.ref a,.int k]) (z2:SqL K H a (ns.map V.int)) (z3:0≤k) (z4:Q (.int (ns.getD k.toNat 0)) H)
noncomputable def Rm (K:PySem.W.Frag):Sp:=fun vs H Q u_3=>Rk K vs H Q u_3
theorem wO:(Str.ofString "abcdefghijklmnopqrstuvwxyz").cps.toList=(List.range 26).map (97+·):=by decide+kernel
theorem Gh {i:Int} (h0:0≤i) (h1:i < 26):atI (Str.ofString "abcdefghijklmnopqrstuvwxyz").cps.toList i=some (97+i.toNat):=by
 have e:(Str.ofString "abcdefghijklmnopqrstuvwxyz").cps.toList[i.toNat]?=some (97+i.toNat):=by
  rw [wO,List.getElem?_map,List.getElem?_range (by omega)]
  rfl
 have:=cu e
 rwa [Int.toNat_of_nonneg h0] at this
theorem Ro (a b:List Nat):S a++S b=S (a++b):=by
 show Str.append _ _=_
 simp [Str.append,S]
theorem Gj (a:List Nat):(S a).length=a.length:=by simp [S,Str.length]
noncomputable def txs (hs:List (List Nat)):List L2.V:=hs.map fun l=>V.str (S l)
theorem Ag (hs:List (List Nat)):txs hs=(hs.map S).map V.str:=by simp [txs]
theorem Ah (l:List Nat):signs (S l)=l.map fun c=>V.str (S [c]):=by simp [signs,S]
noncomputable def rdV (hs:List (List Nat)) (r:M1.Rd):List L2.V:=[.str (S (hs.getD r.a [])),.str (S (hs.getD r.b [])),.int r.t,.int r.m]
noncomputable def f9 (H:Hp):List Addr→List (List L2.V)→Prop:=Paired fun r d=>H r=some (.tup d)
theorem f9.same {H H':Hp} (sm:aN H H') {rs ds} (h:f9 H rs ds):f9 H' rs ds:=Paired.mapP h fun _ _ e=>sm _ _ e
noncomputable def refs (rs:List Addr):List L2.V:=rs.map V.ref
theorem Paired.snoc {α β:Type} {F:α→β→Prop} {x:α} {y:β} (q:F x y):∀{l:List α} {m:List β},Paired F l m→Paired F (l++[x]) (m++[y])
 | _,_,.nil=>.cons q .nil
 | _,_,.cons r t=>.cons r (Paired.snoc q t)
theorem vp {hs:List (List Nat)} {k:Int} (h0:0≤k) (h1:k < hs.length):atI (txs hs) k=some (V.str (S (hs.getD k.toNat []))):=by
 have h2:k.toNat < hs.length:=by omega
 have e:(txs hs)[k.toNat]?=some (V.str (S (hs.getD k.toNat []))):=by
  unfold txs
  rw [List.getElem?_map,List.getElem?_eq_getElem h2]
  simp [List.getD,h2]
 have:=cu e
 rwa [Int.toNat_of_nonneg h0] at this
theorem qu (hs:List (List Nat)):(txs hs).length=hs.length:=List.length_map ..
theorem gZ {H H':Hp} {p:Addr} {o:HO} (hp:H p=none) (sm:aN H H'):aN H (upd H' p o):=fun b u e=>by
 rw [aA (aF e hp)]
 exact sm b u e
theorem f9.upd {H:Hp} {p:Addr} {o u:HO} {rs ds} (h:f9 H rs ds) (e:H p=some u) (hu:∀d,u≠.tup d):f9 (upd H p o) rs ds:=Paired.mapP h fun r d q=>by
 rw [aA]
 ·exact q
 ·rintro rfl
  rw [e] at q
  exact hu d (Option.some.inj q)
theorem uz (rs:List Addr) (t:Addr):refs rs++[V.ref t]=refs (rs++[t]):=by simp [refs]
theorem bf (rs:List Addr):(refs rs).length=rs.length:=List.length_map ..
theorem f9.len {H rs ds} (h:f9 H rs ds):rs.length=ds.length:=Paired.length h
theorem aC {H:Hp} {t:Addr} {o:HO} (ht:H t=none):aN H (upd H t o):=fun b u e=>by
 rw [aA (aF e ht)]
 exact e
theorem eF {b:Bool} {A B:Prop} (h:b=true) (q:A):if b=true then A else B:=by rw [if_pos h];exact q
theorem fM {b:Bool} {A B:Prop} (h:b=false) (q:B):if b=true then A else B:=by subst h;exact q
theorem pR {R:VK} {b:Bool} {H:Hp} (e:b=true) (h:R (.bl true) H):R (.bl b) H:=by rw [e];exact h
theorem rn (xs:List L2.V):xs.map (fun _=>V.bl true)=(List.replicate xs.length true).map V.bl:=by
 induction xs with
 | nil=>rfl
 | cons x r ih=>simp [List.replicate_succ,ih]
theorem rA (n:Nat):(List.replicate n true).all id=true:=by
 rw [List.all_eq_true]
 intro x hx
 exact (List.mem_replicate.mp hx).2
structure Kit (K:PySem.W.Frag):Prop where
 ib:PySem.W.kitOne K (.type "int") (.type "bool")=some false
inductive Gk (vs:(List L2.V)) (H:Hp) (Q:VK) (u_3:XK):Prop where
 | mk (i:Int) (z1:vs=[.int i]) (z2:Q (.bl true) H)
noncomputable def Ai:Sp:=fun vs H Q u_3=>Gk vs H Q u_3
inductive CT (vs:(List L2.V)) (H:Hp) (Q:VK) (u_3:XK):Prop where
 | mk (i a b:Int) (z1:vs=[.int i,.int a,.int b]) (z2:a≤i) (z3:i≤b) (z4:Q (.bl true) H)
noncomputable def wQ:Sp:=fun vs H Q u_3=>CT vs H Q u_3
inductive Gm (vs:(List L2.V)) (H:Hp) (Q:VK) (u_3:XK):Prop where
 | mk (r:Addr) (xs:List L2.V) (n:Int) (z1:vs=[.ref r,.int n]) (z2:H r=some (.tup xs)) (z3:(xs.length:Int)=n) (z4:Q (.bl true) H)
noncomputable def Aj:Sp:=fun vs H Q u_3=>Gm vs H Q u_3
theorem uA (ys:List Str):(ys.map V.str).all mO=true:=by
 rw [List.all_eq_true]
 intro x hx
 obtain ⟨y,_,rfl⟩:=List.mem_map.mp hx
 rfl
theorem Ak {ys:List Str} {x:Str} (h:x∈ys):inV (.str x) (ys.map V.str)=true:=by
 unfold inV
 rw [List.any_eq_true]
 exact ⟨.str x,List.mem_map.mpr ⟨x,h,rfl⟩,by show (x==x)=true;exact beq_self_eq_true x⟩
inductive CV (K:PySem.W.Frag) (vs:(List L2.V)) (H:Hp) (Q:VK) (u_3:XK):Prop where
 | mk (a:Addr) (ys:List Str) (x y:Str) (z1:vs=[.ref a,.str x,.str y]) (z2:SqL K H a (ys.map V.str)) (z3:x∈ys) (z4:y∈ys) (z5:x≠y) (z6:Q (.bl true) H)
noncomputable def wR (K:PySem.W.Frag):Sp:=fun vs H Q u_3=>CV K vs H Q u_3
theorem sA:Str.ofString "a"=⟨#[97]⟩:=by decide+kernel
theorem sZ:Str.ofString "z"=⟨#[122]⟩:=by decide+kernel
inductive Kr (vs:(List L2.V)) (H:Hp) (Q:VK) (u_3:XK):Prop where
 | mk (l:List Nat) (z1:vs=[.str (S l)]) (z2:Nm l) (z3:∀H',aN H H'→Q (.bl true) H')
noncomputable def Gn:Sp:=fun vs H Q u_3=>Kr vs H Q u_3
structure Gp (mg:Str→Option Value):Prop where
 MOST_HOUSES:Cst mg "MOST_HOUSES" 12
 MOST_ROADS:Cst mg "MOST_ROADS" 40
 MOST_SIGNS:Cst mg "MOST_SIGNS" 8
 MOST_TURNS:Cst mg "MOST_TURNS" 9
 MOST_ROOM:Cst mg "MOST_ROOM" 1000000000
theorem Gq {a b:List Nat} (h:S a=S b):a=b:=by
 have:=congrArg (fun x=>x.cps.toList) h
 simpa [S] using this
theorem Ks {hs:List (List Nat)} (h:hs.Nodup):∀i j,i < j→j < (hs.map S).length→(hs.map S).getD i Str.empty≠(hs.map S).getD j Str.empty:=by
 intro i j hij hj e
 rw [List.length_map] at hj
 have hi:i < hs.length:=by omega
 rw [List.getD,List.getD,List.getElem?_map,List.getElem?_map,List.getElem?_eq_getElem hi,List.getElem?_eq_getElem hj] at e
 have e2:=Gq (show S hs[i]=S hs[j] from e)
 exact List.pairwise_iff_getElem.mp h i j hi hj hij e2
structure Good (hs:List (List Nat)):Prop where
 nm:∀x∈hs,Nm x
 nd:hs.Nodup
 few:hs.length≤12
inductive Ku (vs:(List L2.V)) (H:Hp) (Q:VK) (u_3:XK):Prop where
 | mk (a:Addr) (hs:List (List Nat)) (z1:vs=[.ref a]) (z2:H a=some (.lst (txs hs))) (z3:Good hs) (z4:∀H',aN H H'→Q (.bl true) H')
noncomputable def Gr:Sp:=fun vs H Q u_3=>Ku vs H Q u_3
theorem Paired.get {α β:Type} {F:α→β→Prop}:∀{l:List α} {m:List β} {i:Nat} {x:α},Paired F l m→l[i]?=some x→∃y,m[i]?=some y∧F x y
 | _,_,_,_,.nil,e=>by simp at e
 | _,_,0,_,.cons r _,e=>by simp at e;subst e;exact ⟨_,rfl,r⟩
 | _,_,i+1,x,.cons _ t,e=>by
  obtain ⟨y,h1,h2⟩:=Paired.get (i:=i) (x:=x) t (by simpa using e)
  exact ⟨y,by simpa using h1,h2⟩
structure cB (H:Hp) (hs:List (List Nat)) (rs:List Addr) (ds:List M1.Rd):Prop where
 tups:f9 H rs (ds.map (rdV hs))
 ok:∀d∈ds,d.Ok hs.length
theorem cB.same {H H':Hp} {hs rs ds} (r:cB H hs rs ds) (sm:aN H H'):cB H' hs rs ds:=⟨r.tups.same sm,r.ok⟩
theorem cB.get {H:Hp} {hs rs ds} {i:Nat} {r:Addr} (q:cB H hs rs ds) (e:rs[i]?=some r):∃d,ds[i]?=some d∧d.Ok hs.length∧H r=some (.tup (rdV hs d)):=by
 obtain ⟨y,h1,h2⟩:=Paired.get q.tups e
 rw [List.getElem?_map] at h1
 obtain ⟨d,hd,rfl⟩:=Option.map_eq_some_iff.mp h1
 exact ⟨d,hd,q.ok d (List.mem_of_getElem? hd),h2⟩
theorem cB.len {H:Hp} {hs rs ds} (q:cB H hs rs ds):rs.length=ds.length:=by
 have:=q.tups.len
 rwa [List.length_map] at this
theorem Gs {hs:List (List Nat)} {a:Nat} (h:a < hs.length):S (hs.getD a [])∈hs.map S:=by
 refine List.mem_map.mpr ⟨hs.getD a [],?_,rfl⟩
 rw [List.getD,List.getElem?_eq_getElem h]
 exact List.getElem_mem h
theorem Rp {hs:List (List Nat)} {a b:Nat} (nd:hs.Nodup) (ha:a < hs.length) (hb:b < hs.length) (ne:a≠b):S (hs.getD a [])≠S (hs.getD b []):=by
 intro e
 have e2:=Gq e
 rw [List.getD,List.getD,List.getElem?_eq_getElem ha,List.getElem?_eq_getElem hb] at e2
 rcases Nat.lt_or_gt_of_ne ne with h | h
 ·exact List.pairwise_iff_getElem.mp nd a b ha hb h e2
 ·exact List.pairwise_iff_getElem.mp nd b a hb ha h e2.symm
inductive Kv (K:PySem.W.Frag) (vs:(List L2.V)) (H:Hp) (Q:VK) (u_3:XK):Prop where
 | mk (a r:Addr) (hs:List (List Nat)) (d:M1.Rd) (z1:vs=[.ref a,.ref r]) (z2:SqL K H a (txs hs)) (z3:hs.Nodup) (z4:d.Ok hs.length) (z5:H r=some (.tup (rdV hs d))) (z6:Q (.bl true) H)
noncomputable def Gv (K:PySem.W.Frag):Sp:=fun vs H Q u_3=>Kv K vs H Q u_3
inductive Kw (K:PySem.W.Frag) (vs:(List L2.V)) (H:Hp) (Q:VK) (u_3:XK):Prop where
 | mk (a b:Addr) (hs:List (List Nat)) (rs:List Addr) (ds:List M1.Rd) (z1:vs=[.ref a,.ref b]) (z2:SqL K H a (txs hs)) (z3:hs.Nodup) (z4:H b=some (.lst (refs rs))) (z5:cB H hs rs ds) (z6:rs.length≤40) (z7:∀H',aN H H'→Q (.bl true) H')
noncomputable def Gx (K:PySem.W.Frag):Sp:=fun vs H Q u_3=>Kw K vs H Q u_3
noncomputable def SameBut (x:Addr) (H H':Hp):Prop:=∀b o,b≠x→H b=some o→H' b=some o
noncomputable def Rq (a b:Addr):List (Str × L2.V):=[("kept_houses",.ref a),("kept_roads",.ref b)]
structure Ky (K:PySem.W.Frag) (C:Addr):Prop where
 cl:Cls K C
 nh:lz K C "kept_houses"
 nr:lz K C "kept_roads"
inductive Kz (K:PySem.W.Frag) (C:Addr) (vs:(List L2.V)) (H:Hp) (Q:VK) (u_3:XK):Prop where
 | mk (x dx a b:Addr) (hs:List (List Nat)) (rs:List Addr) (ds:List M1.Rd) (z1:vs=[.ref x,.ref a,.ref b]) (z2:H x=some (.ins C dx [])) (z3:H a=some (.lst (txs hs))) (z4:Good hs) (z5:H b=some (.lst (refs rs))) (z6:cB H hs rs ds) (z7:rs.length≤40) (z8:∀(H':Hp) (a' b':Addr),SameBut x H H'→H' x=some (.ins C dx (Rq a' b'))→H' a'=some (.lst (txs hs))→H' b'=some (.lst (refs rs))→H a'=none→H b'=none→Q .non H')
noncomputable def Gy (K:PySem.W.Frag) (C:Addr):Sp:=fun vs H Q u_3=>Kz K C vs H Q u_3
structure kj (C:Addr) (H:Hp) (x a' b':Addr) (xs ys:List L2.V):Prop where
 ins:∃dx,H x=some (.ins C dx (Rq a' b'))
 hou:H a'=some (.lst xs)
 roa:H b'=some (.lst ys)
theorem kj.same {C:Addr} {H H':Hp} {x a' b':Addr} {xs ys:List L2.V} (n:kj C H x a' b' xs ys) (sm:aN H H'):kj C H' x a' b' xs ys:=
 let ⟨dx,h⟩:=n.ins
 ⟨⟨dx,sm _ _ h⟩,sm _ _ n.hou,sm _ _ n.roa⟩
inductive CW (C:Addr) (vs:(List L2.V)) (H:Hp) (Q:VK) (u_3:XK):Prop where
 | mk (x a' b':Addr) (xs ys:List L2.V) (z1:vs=[.ref x]) (z2:kj C H x a' b' xs ys) (z3:∀l,H l=none→Q (.ref l) (upd H l (.lst ys)))
noncomputable def wU (C:Addr):Sp:=fun vs H Q u_3=>CW C vs H Q u_3
noncomputable def hD (hs:List (List Nat)):List PyData:=(hs.map S).map PyData.str
theorem Gz {l:List Nat} (h:Nm l):PyData.canLay0 (.str (S l))=true:=by
 simp only [PyData.canLay0,PyData.strOk,S]
 rw [Array.all_eq_true_iff_forall_mem]
 intro x hx
 have:=h.2.2 x (by simpa using hx)
 exact decide_eq_true (by omega)
theorem mD {ds:List PyData} (h:∀d∈ds,d.canLay0=true):PyData.canLayAll0 ds=true:=by
 induction ds with
 | nil=>rfl
 | cons d r ih=>
  simp only [PyData.canLayAll0,Bool.and_eq_true]
  exact ⟨h d (List.mem_cons_self ..),ih fun e he=>h e (List.mem_cons_of_mem _ he)⟩
theorem gw {ds:List PyData} {n:Nat} (h:∀d∈ds,d.depth≤n):PyData.depthAll ds≤n:=by
 induction ds with
 | nil=>exact Nat.zero_le _
 | cons d r ih=>
  simp only [PyData.depthAll]
  exact Nat.max_le.mpr ⟨h d (List.mem_cons_self ..),ih fun e he=>h e (List.mem_cons_of_mem _ he)⟩
theorem Good.at {hs:List (List Nat)} (G:Good hs) {a:Nat} (h:a < hs.length):Nm (hs.getD a []):=by
 refine G.nm _ ?_
 rw [List.getD,List.getElem?_eq_getElem h]
 exact List.getElem_mem h
theorem iV {d:PyData} {n:Nat} (h1:d.canLay0=true) (h2:d.depth≤n) (h3:n≤64):SeqAt.shaped d=true:=by
 unfold SeqAt.shaped
 rw [h1,decide_eq_true (Nat.le_trans h2 h3)]
 rfl
theorem KC {rs:List Addr} {i:Nat} {r:Addr} (e:rs[i]?=some r):atI (refs rs) ((0:Int)+(i:Int))=some (V.ref r):=by
 rw [Int.zero_add]
 refine cu ?_
 unfold refs
 rw [List.getElem?_map,e]
 rfl
theorem uB {Hc H4:Hp} {x dx:Addr} {o u:HO} (hx:Hc x=none) (hd:Hc dx=none) (sb:SameBut x (upd (upd Hc dx o) x u) H4):aN Hc H4:=fun b v e=>by
 have n1:=aF e hx
 have n2:=aF e hd
 refine sb b v n1 ?_
 rw [aA n1,aA n2]
 exact e
inductive Ov (K:PySem.W.Frag) (vs:(List L2.V)) (H:Hp) (Q:VK) (u_3:XK):Prop where
 | mk (a:Addr) (ns:List Int) (z1:vs=[.ref a]) (z2:SqL K H a (ns.map V.int)) (z3:ns.length≤63) (z4:∀H',Q (.bl true) H')
noncomputable def Al (K:PySem.W.Frag):Sp:=fun vs H Q u_3=>Ov K vs H Q u_3
noncomputable def GC (cd:ClassData) (sl:Array (Option Value)) (C R:Addr):Bool:=match cd.mro,sl.toList with
  | .ref C'::bm,[_,_,_,_,some (.builtin _),_]=>C'==C && !cd.hasDel && bm.contains (.type "BaseException") && (Value.ref C::bm).contains (.ref R)
  | _,_=>false
theorem CZ {K:PySem.W.Frag} {C R:Addr} {dd:Option Addr} {cd:ClassData} {sl:Array (Option Value)} (l:K.lookup C=some ⟨.type "type",dd,.cls cd,sl⟩) (h:GC cd sl C R=true):jR K C R=true:=by
 unfold jR
 rw [l]
 exact h
theorem Ow (K:PySem.W.Frag):PySem.W.kitOne K (.type "int") (.type "bool")=some false:=by
 show (if (Value.type "int"==Value.type "bool")=true then some true else if PySem.W.kitMeta "bool"=true then (fastBuiltinMro "int").map (·.contains (.type "bool")) else none)=some false
 decide+kernel
theorem wV {K:PySem.W.Frag} {H:Hp}:∀ns:List Int,Dts K H (ns.map V.int) (ns.map PyData.int)
 | []=>.nil
 | x::r=>.cons (.int x) (wV r)
theorem ne_int {i j:Int} (h:i≠j):decide (V.int i=V.int j)=false:=decide_eq_false fun z=>h (V.int.inj z)
end
open PySem L2 L3 M1
section
variable {P:Program} {w:World} {K:PySem.W.Frag} {mg:Str→Option Value} {base:Heap}
noncomputable def top (i:Nat):Stmt:=PySem.Challenge.pw_postroad_k15_the_bag_amiss.main.body.getD i (.Pass ⟨0,0,0,0⟩)
end
open PySem L2 L3 M1
mutual
inductive Th (H:Hp):L2.V→PyData→Prop
 | non:Th H .non .none
 | bl (b:Bool):Th H (.bl b) (.bool b)
 | int (i:Int):Th H (.int i) (.int i)
 | str (x:Str) (z:x.length≤100) (ok:PyData.strOk x=true):Th H (.str x) (.str x)
 | lst {a:Addr} {xs:List L2.V} {ds:List PyData}:H a=some (.lst xs)→xs.length≤100→Ths H xs ds→Th H (.ref a) (.list ds)
 | tup {a:Addr} {xs:List L2.V} {ds:List PyData}:H a=some (.tup xs)→xs.length≤100→Ths H xs ds→Th H (.ref a) (.tuple ds)
inductive Ths (H:Hp):List L2.V→List PyData→Prop
 | nil:Ths H [] []
 | cons {v:L2.V} {d:PyData} {vs:List L2.V} {ds:List PyData}:Th H v d→Ths H vs ds→Ths H (v::vs) (d::ds)
end
mutual
theorem Th.same {H H':Hp} (sm:aN H H'):∀{v:L2.V} {d:PyData},Th H v d→Th H' v d
 | _,_,.non=>.non
 | _,_,.bl b=>.bl b
 | _,_,.int i=>.int i
 | _,_,.str x z ok=>.str x z ok
 | _,_,.lst h z t=>.lst (sm _ _ h) z (Ths.same sm t)
 | _,_,.tup h z t=>.tup (sm _ _ h) z (Ths.same sm t)
theorem Ths.same {H H':Hp} (sm:aN H H'):∀{vs:List L2.V} {ds:List PyData},Ths H vs ds→Ths H' vs ds
 | _,_,.nil=>.nil
 | _,_,.cons a b=>.cons (Th.same sm a) (Ths.same sm b)
end
mutual
theorem Th.dt {K:PySem.W.Frag} {H:Hp}:∀{v:L2.V} {d:PyData},Th H v d→Dt K H v d
 | _,_,.non=>.non
 | _,_,.bl b=>.bl b
 | _,_,.int i=>.int i
 | _,_,.str x z ok=>.str x
 | _,_,.lst h z t=>.lst (SqL.of h) (Ths.dt t)
 | _,_,.tup h z t=>.tup (SqT.of h) (Ths.dt t)
theorem Ths.dt {K:PySem.W.Frag} {H:Hp}:∀{vs:List L2.V} {ds:List PyData},Ths H vs ds→Dts K H vs ds
 | _,_,.nil=>.nil
 | _,_,.cons a b=>.cons (Th.dt a) (Ths.dt b)
end
mutual
theorem Th.can {H:Hp}:∀{v:L2.V} {d:PyData},Th H v d→d.canLay0=true
 | _,_,.non=>rfl
 | _,_,.bl b=>rfl
 | _,_,.int i=>rfl
 | _,_,.str x z ok=>ok
 | _,_,.lst h z t=>Ths.can t
 | _,_,.tup h z t=>Ths.can t
theorem Ths.can {H:Hp}:∀{vs:List L2.V} {ds:List PyData},Ths H vs ds→PyData.canLayAll0 ds=true
 | _,_,.nil=>rfl
 | _,_,.cons a b=>by
  simp only [PyData.canLayAll0,Bool.and_eq_true]
  exact ⟨Th.can a,Ths.can b⟩
end
theorem Ths.len {H:Hp}:∀{vs:List L2.V} {ds:List PyData},Ths H vs ds→vs.length=ds.length
 | _,_,.nil=>rfl
 | _,_,.cons _ b=>by simp [Ths.len b]
theorem Ths.get {H:Hp}:∀{vs:List L2.V} {ds:List PyData} {i:Nat} {v:L2.V},Ths H vs ds→vs[i]?=some v→∃d,ds[i]?=some d∧Th H v d
 | _,_,_,_,.nil,e=>by simp at e
 | _,_,0,_,.cons a _,e=>by simp at e;subst e;exact ⟨_,rfl,a⟩
 | _,_,i+1,v,.cons _ b,e=>by
  obtain ⟨d,h1,h2⟩:=Ths.get (i:=i) (v:=v) b (by simpa using e)
  exact ⟨d,by simpa using h1,h2⟩
theorem Ths.append {H:Hp}:∀{vs ws:List L2.V} {ds es:List PyData},Ths H vs ds→Ths H ws es→Ths H (vs++ws) (ds++es)
 | _,_,_,_,.nil,h=>h
 | _,_,_,_,.cons a b,h=>.cons a (Ths.append b h)
noncomputable def tyN:PyData→String
 | .none=>"NoneType"
 | .bool _=>"bool"
 | .int _=>"int"
 | .str _=>"str"
 | .list _=>"list"
 | .tuple _=>"tuple"
 | .dict _=>"dict"
theorem Th.ty {K:PySem.W.Frag} {H:Hp} {v:L2.V} {d:PyData} (h:Th H v d):nM K H v (.type (tyN d)):=by
 cases h with
 | non=>exact .non
 | bl b=>exact .bl b
 | int i=>exact .int i
 | str x _ _=>exact .str x
 | lst h _ _=>exact .lst h
 | tup h _ _=>exact .tup h
noncomputable def vq (t c:String):Option Bool:=if (Value.type t==Value.type c)=true then some true else if PySem.W.kitMeta c=true then (fastBuiltinMro t).map (·.contains (.type c)) else none
theorem lG (K:PySem.W.Frag) {t c:String} {b:Bool} (h:vq t c=some b):PySem.W.kitOne K (.type t) (.type c)=some b:=h
noncomputable def isList:PyData→Bool | .list _=>true | _=>false
noncomputable def isTup:PyData→Bool | .tuple _=>true | _=>false
noncomputable def isBool:PyData→Bool | .bool _=>true | _=>false
noncomputable def GD:PyData→Bool | .int _=>true | .bool _=>true | _=>false
theorem KD (d:PyData):vq (tyN d) "list"=some (isList d):=by cases d <;> (show vq _ _=some _;simp only [tyN,isList];decide+kernel)
theorem nW (d:PyData):vq (tyN d) "tuple"=some (isTup d):=by cases d <;> (show vq _ _=some _;simp only [tyN,isTup];decide+kernel)
theorem qw (d:PyData):vq (tyN d) "bool"=some (isBool d):=by cases d <;> (show vq _ _=some _;simp only [tyN,isBool];decide+kernel)
theorem GF (d:PyData):vq (tyN d) "int"=some (GD d):=by cases d <;> (show vq _ _=some _;simp only [tyN,GD];decide+kernel)
noncomputable def bG:PyData→Bool
 | .int _=>true
 | _=>false
noncomputable def KH (lo hi:Int):PyData→Bool
 | .int i=>decide (lo≤i) && decide (i≤hi)
 | _=>false
noncomputable def inD (d:PyData) (ds:List PyData):Bool:=ds.any fun z=>PyData.eqv z d
noncomputable def KJ (hs:List PyData) (a b:PyData):Bool:=inD a hs && inD b hs && !PyData.eqv a b
end K1
namespace L3
open PySem PySem.Spec PyProof.Rows L2
section
variable {X:Cx} {e:Expr} {es:List Expr} {pos p:Pos} {k:Nat} {f C:Addr} {fd:FuncData} {ps:List Str} {sp:Sp} {t:TA} {x:Str}
noncomputable def Ox (sp:Sp) (t:TA):TEx:=fun E σ H Q=>t σ H fun vs H1=>sp vs H1 Q E
end
end L3
namespace K1
open PySem PySem.Spec PyProof.Rows L2 L3 M1
structure Pd where
 p:Hp→L2.V→Prop
 up:∀{H H':Hp} {v:L2.V},aN H H'→p H v→p H' v
open PySem L2 L3 M1
noncomputable abbrev L (x:String):Str:=Str.ofString x
end K1
namespace M1
open PySem
noncomputable def hsz (c:Int):Nat:=(1+c % 8).toNat
noncomputable def hpl (c:Int):Nat:=(c / 8 % (1+c % 8)).toNat
noncomputable def hch (c:Int) (k j:Nat):Nat:=97+((c / 64+5 * (j:Int) * (j:Int)+2 * (k:Int) * (if j=hpl c then 1 else 0)) % 26).toNat
noncomputable def hnm (c:Int) (k:Nat):List Nat:=(List.range (hsz c)).map (hch c k)
noncomputable def iQ (c:Int) (m:Nat):List (List Nat):=(List.range m).map (hnm c)
theorem GJ (c:Int):1≤hsz c∧hsz c≤8:=by unfold hsz;omega
theorem KN (c:Int):(1+c % 8)=(hsz c:Int):=by unfold hsz;omega
theorem Oz (c:Int):hpl c < hsz c:=by
 have h1:0 < 1+c % 8:=by omega
 have h2:=Int.emod_lt_of_pos (c / 8) h1
 have h3:=Int.emod_nonneg (c / 8) (by omega:1+c % 8≠0)
 unfold hpl hsz
 omega
theorem KQ (c:Int):c / 8 % (1+c % 8)=(hpl c:Int):=by
 have h3:=Int.emod_nonneg (c / 8) (by omega:1+c % 8≠0)
 unfold hpl
 omega
theorem OD (c:Int) (k j:Nat):97≤hch c k j∧hch c k j≤122:=by unfold hch;omega
theorem OJ (c:Int) (k:Nat):Nm (hnm c k):=by
 have h:=GJ c
 refine ⟨by simp [hnm];omega,by simp [hnm];omega,fun x hx=>?_⟩
 obtain ⟨j,_,rfl⟩:=List.mem_map.mp hx
 exact OD c k j
theorem KR {c:Int} {k l:Nat} (hk:k < 13) (hl:l < 13) (e:hnm c k=hnm c l):k=l:=by
 have h:=Oz c
 have e2:(hnm c k)[hpl c]?=(hnm c l)[hpl c]?:=by rw [e]
 unfold hnm at e2
 rw [List.getElem?_map,List.getElem?_map,List.getElem?_range h] at e2
 have e3:hch c k (hpl c)=hch c l (hpl c):=by simpa using e2
 unfold hch at e3
 rw [if_pos rfl] at e3
 generalize c / 64+5 * (hpl c:Int) * (hpl c:Int)=z at e3
 omega
theorem vy {α:Type} {f:Nat→α} {m:Nat} (h:∀i j,i < m→j < m→f i=f j→i=j):((List.range m).map f).Nodup:=by
 refine List.pairwise_map.mpr ?_
 refine List.Pairwise.imp_of_mem ?_ (List.nodup_range (n:=m))
 intro a b ha hb hab e
 exact hab (h a b (List.mem_range.mp ha) (List.mem_range.mp hb) e)
theorem yM {c:Int} {m:Nat} (h:m≤12):(iQ c m).Nodup:=vy fun i j hi hj e=>KR (by omega) (by omega) e
theorem lH (c:Int) (m:Nat):(iQ c m).length=m:=by simp [iQ]
structure Lt where
 a:Nat
 b:Nat
 t:Int
noncomputable def vz (c:Int):Int:=c * 982451653 % 10000000000037
noncomputable def nY (n:Nat) (c:Int):Int:=vz c % n
noncomputable def lend (n:Nat) (c:Int):Int:=(nY n c+1+vz c / n % ((n:Int) - 1)) % n
noncomputable def lt (n:Nat) (c base:Int):Lt:=⟨(nY n c).toNat,(lend n c).toNat,base+vz c / 1000 % 31⟩
structure Lt.Ok (d:Lt) (n:Nat) (base:Int):Prop where
 a:d.a < n
 b:d.b < n
 ne:d.a≠d.b
 lo:base≤d.t
 hi:d.t≤base+30
theorem Rt {n:Nat} (h:1 < n) (c base:Int):(lt n c base).Ok n base:=by
 have b1:0≤nY n c:=Int.emod_nonneg _ (by omega)
 have b2:nY n c < n:=Int.emod_lt_of_pos _ (by omega)
 have e1:0≤lend n c:=Int.emod_nonneg _ (by omega)
 have e2:lend n c < n:=Int.emod_lt_of_pos _ (by omega)
 have d1:0≤vz c / n % ((n:Int) - 1):=Int.emod_nonneg _ (by omega)
 have d2:vz c / n % ((n:Int) - 1) < (n:Int) - 1:=Int.emod_lt_of_pos _ (by omega)
 have ne:nY n c≠lend n c:=by
  intro z
  have e3:lend n c=(nY n c+1+vz c / n % ((n:Int) - 1)) % n:=rfl
  generalize vz c / n % ((n:Int) - 1)=x at d1 d2 e3
  by_cases hlt:nY n c+1+x < n
  ·rw [Int.emod_eq_of_lt (by omega) hlt] at e3
   omega
  ·have h5:(nY n c+1+x) % (n:Int)=(nY n c+1+x - n) % (n:Int):=by rw [Int.sub_emod_right]
   rw [h5,Int.emod_eq_of_lt (by omega) (by omega)] at e3
   omega
 have t1:0≤vz c / 1000 % 31:=Int.emod_nonneg _ (by decide)
 have t2:vz c / 1000 % 31 < 31:=Int.emod_lt_of_pos _ (by decide)
 exact ⟨by show (nY n c).toNat < n;omega,by show (lend n c).toNat < n;omega,by show (nY n c).toNat≠(lend n c).toNat;omega,by show base≤base+_;omega,by show base+_≤base+30;omega⟩
end M1
namespace L3
open PySem PySem.Spec PyProof.Rows L2
noncomputable def Calm {α:Type}:Sem α→Prop
 | .pure _=>True
 | .raise _=>True
 | .unsupported _=>True
 | .finish _=>True
 | .register _ _=>True
 | .rule _ k=>Calm (k ())
 | .at _ k=>Calm (k ())
 | .load _ _ k=>∀o,Calm (k o)
 | .update _ _ f k=>(∀o,(f o).dict=o.dict)∧Calm (k ())
 | .alloc _ k=>∀a,Calm (k a)
 | .loadIfAlive _ k=>∀o,Calm (k o)
 | .point _ k=>Calm (k ())
 | .fresh k=>∀t,Calm (k t)
 | .ask k=>∀t,Calm (k t)
 | .handled _ k=>∀t,Calm (k t)
 | .stack k=>∀t,Calm (k t)
 | .thread k=>∀n,Calm (k n)
 | _=>False
noncomputable def dZ (h h':Heap):Prop:=h.objs.size≤h'.objs.size∧∀e,e < h.objs.size→(h'.objs[e]?).map (·.dict)=(h.objs[e]?).map (·.dict)
theorem dZ.refl (h:Heap):dZ h h:=⟨Nat.le_refl _,fun _ _=>rfl⟩
theorem dZ.trans {h h1 h2:Heap} (a:dZ h h1) (b:dZ h1 h2):dZ h h2:=⟨Nat.le_trans a.1 b.1,fun e he=>(b.2 e (Nat.lt_of_lt_of_le he a.1)).trans (a.2 e he)⟩
theorem dZ.push (h:Heap) (o:Obj):dZ h (h.push o):=by
 obtain ⟨objs,l⟩:=h
 refine ⟨?_,fun e he=>?_⟩
 ·show objs.size≤(objs.push o).size
  simp
 ·show ((objs.push o)[e]?).map _=_
  rw [Array.getElem?_push_lt he]
  simp [he]
theorem dZ.update (h:Heap) (a:Addr) {f:Obj→Obj} (hf:∀o,(f o).dict=o.dict):dZ h (h.update a f):=by
 obtain ⟨objs,l⟩:=h
 refine ⟨?_,fun e he=>?_⟩
 ·show objs.size≤(objs.modify a f).size
  simp
 ·show ((objs.modify a f)[e]?).map _=_
  rw [Array.getElem?_modify]
  split
  ·cases objs[e]? with
   | none=>rfl
   | some o=>show some (f o).dict=_;rw [hf];rfl
  ·rfl
theorem dZ.dict {h h':Heap} (s:dZ h h') {e:Addr} {o o':Obj} (a:h.get? e=some o) (b:h'.get? e=some o'):o'.dict=o.dict:=by
 have h1:=(Heap.get?_some_iff.mp a).1
 have h2:=(Heap.get?_some_iff.mp b).1
 have:=s.2 e (Heap.lt_size a)
 rw [h1,h2] at this
 exact Option.some.inj this
theorem KY {α:Type} {M:Model} {Γ:PySem.Ctx} {Q:α→Pos→Shared→Prop} {E:Value→Pos→Shared→Prop} (t:Sem α) (hc:Calm t) (p:Pos) (s:Shared) (h:Sem.wp M Γ t Q E p s):
  Sem.wp M Γ t (fun a p' s'=>Q a p' s'∧dZ s.heap s'.heap) (fun a p' s'=>E a p' s'∧dZ s.heap s'.heap) p s:=by
 have key:∀(t:Sem α),Calm t→∀(p:Pos) (s:Shared) (h0:Heap),dZ h0 s.heap→Sem.wp M Γ t Q E p s→Sem.wp M Γ t (fun a p' s'=>Q a p' s'∧dZ h0 s'.heap) (fun a p' s'=>E a p' s'∧dZ h0 s'.heap) p s:=by
  intro t
  induction t with
  | pure a=>exact fun _ p s h0 sd h=>⟨h,sd⟩
  | raise e=>exact fun _ p s h0 sd h=>⟨h,sd⟩
  | unsupported=>exact fun _ p s h0 sd h=>h
  | finish=>exact fun _ p s h0 sd h=>h
  | register=>exact fun _ p s h0 sd h=>h
  | rule _ k ih=>exact fun c p s h0 sd h=>ih () c p s h0 sd h
  | «at» _ k ih=>exact fun c p s h0 sd h=>ih () c _ s h0 sd h
  | load a _ k ih=>exact fun c p s h0 sd ⟨o,e,h⟩=>⟨o,e,ih o (c o) p s h0 sd h⟩
  | update a _ f k ih=>exact fun c p s h0 sd ⟨e,h⟩=>⟨e,ih () c.2 p _ h0 (sd.trans (dZ.update _ _ c.1)) h⟩
  | alloc o k ih=>exact fun c p s h0 sd h=>ih _ (c _) p _ h0 (sd.trans (dZ.push _ _)) h
  | loadIfAlive a k ih=>exact fun c p s h0 sd h=>ih _ (c _) p s h0 sd h
  | point _ k ih=>exact fun c p s h0 sd h=>ih () c p s h0 sd h
  | fresh k ih=>exact fun c p s h0 sd h=>ih _ (c _) p _ h0 sd h
  | ask k ih=>exact fun c p s h0 sd h=>ih _ (c _) p s h0 sd h
  | handled _ k ih=>exact fun c p s h0 sd h=>ih _ (c _) p s h0 sd h
  | stack k ih=>exact fun c p s h0 sd h=>ih _ (c _) p s h0 sd h
  | thread k ih=>exact fun c p s h0 sd h=>ih _ (c _) p s h0 sd h
  | choose=>exact fun c=>c.elim
  | os=>exact fun c=>c.elim
  | call=>exact fun c=>c.elim
  | newGen=>exact fun c=>c.elim
  | genState=>exact fun c=>c.elim
  | resume=>exact fun c=>c.elim
  | yield=>exact fun c=>c.elim
  | fork=>exact fun c=>c.elim
  | await=>exact fun c=>c.elim
 exact key t hc p s s.heap (dZ.refl _) h
theorem lJ {α:Type} {M:Model} {A:Around} {Q:α→Shared→Prop} {E:Value→Shared→Prop} {t:Sem α} {s:Shared} (hc:Calm t) (h:wpAny M A t Q E s):wpAny M A t (fun a s'=>Q a s'∧dZ s.heap s'.heap) (fun a s'=>E a s'∧dZ s.heap s'.heap) s:=
 fun Γ p hΓ=>KY t hc p s (h Γ p hΓ)
theorem bC {α β:Type} {t:Sem α} {f:α→Sem β} (h:Calm t) (hf:∀a,Calm (f a)):Calm (t >>=f):=by
 show Calm (t.bind f)
 induction t with
 | pure a=>exact hf a
 | raise e=>exact h
 | unsupported=>exact h
 | finish=>exact h
 | register=>exact h
 | rule _ k ih=>exact ih () h
 | «at» _ k ih=>exact ih () h
 | load a _ k ih=>exact fun o=>ih o (h o)
 | update a _ f k ih=>exact ⟨h.1,ih () h.2⟩
 | alloc o k ih=>exact fun a=>ih a (h a)
 | loadIfAlive a k ih=>exact fun a=>ih a (h a)
 | point _ k ih=>exact ih () h
 | fresh k ih=>exact fun a=>ih a (h a)
 | ask k ih=>exact fun a=>ih a (h a)
 | handled _ k ih=>exact fun a=>ih a (h a)
 | stack k ih=>exact fun a=>ih a (h a)
 | thread k ih=>exact fun a=>ih a (h a)
 | choose=>exact h.elim
 | os=>exact h.elim
 | call=>exact h.elim
 | newGen=>exact h.elim
 | genState=>exact h.elim
 | resume=>exact h.elim
 | yield=>exact h.elim
 | fork=>exact h.elim
 | await=>exact h.elim
theorem bY {α:Type} {a:α}:Calm (pure a:Sem α):=trivial
theorem fQ {α:Type} {x:String}:Calm (unsupported x:Sem α):=trivial
theorem gK {α:Type} {c:Prop} [Decidable c] {a b:Sem α} (ha:Calm a) (hb:Calm b):Calm (if c then a else b):=by split <;> assumption
theorem o7 {a:Addr}:Calm (load a):=fun _=>trivial
theorem tO {v:Value}:Calm (fieldsOf v):=by
 unfold fieldsOf
 cases v <;> first | exact fQ | skip
 refine bC o7 fun o=>?_
 split <;> first | exact bY | exact fQ
theorem jU {v:Value} {i:Nat}:Calm (field v i):=by
 unfold field
 refine bC tO fun o=>?_
 split <;> first | exact bY | exact fQ
theorem jn {v:Value} {i:Nat} {x:Value}:Calm (setField v i x):=by
 unfold setField
 cases v <;> first | exact fQ | skip
 refine bC o7 fun o=>?_
 split
 ·refine gK ⟨fun o=>?_,trivial⟩ fQ
  obtain ⟨c,d,dt,sl⟩:=o
  cases dt <;> rfl
 ·exact fQ
theorem iZ {v:Value} {f:Option Addr}:Calm (setFlight v f):=by
 unfold setFlight
 refine bC jU fun o=>gK jn bY
theorem m7:Calm stack:=fun _=>trivial
theorem rB {ty:String} {vs:List Value}:Calm (newFields ty vs):=by
 have as:Calm (newObjAsIs (.type ty) (.fields vs.toArray)):=by
  unfold newObjAsIs
  exact bC (fun _=>trivial) fun a=>bY
 unfold newFields newObj
 exact gK (c:=vs.toArray.size > sizeLine+2) (bC fQ fun _=>as) as
theorem yN {f:Addr} {b:Bool}:Calm (entryPlaceOf f b):=by
 unfold entryPlaceOf
 refine bC m7 fun o=>?_
 split <;> exact bY
theorem wW {env:Env} {outer:List Env}:Calm (behindIsImport env outer):=by
 unfold behindIsImport
 exact gK bY (gK bY (bC jU fun _=>bY))
theorem Dc {env:Env} {b:Bool} {l:List Env}:Calm (keptBack env b l):=by
 unfold keptBack
 split
 ·refine gK bY (bC ?_ fun _=>bY)
  exact bC m7 fun _=>bY
 ·exact bY
theorem rC:∀l:List Env,Calm (readyFrames l)
 | []=>trivial
 | env::outer=>by
  unfold readyFrames
  split
  ·exact bC o7 fun o=>gK bY (bC wW fun _=>bC Dc fun _=>bC ⟨fun _=>rfl,trivial⟩ fun _=>rC outer)
  ·exact fQ
theorem vA {env:Env}:Calm (PySem.frameOf env):=by
 unfold PySem.frameOf frameEnvs
 refine bC (bC m7 fun _=>bY) fun l=>bC ?_ fun o=>?_
 ·generalize List.dropWhile _ l=l'
  cases l' with
  | nil=>exact bY
  | cons a b=>exact bC (rC _) fun _=>bY
 ·split <;> first | exact bY | exact fQ
theorem uC {e:Value} {env:Env}:Calm (noteFrame e env):=by
 unfold noteFrame
 have last:∀(f:Addr) (head:Value),Calm (do
   let a ←PySem.frameOf env
   let b ←entryPlaceOf f (head !=Value.none)
   let c ←EntryCells.newEntry head a Value.none (rawInt f) Value.none b
   setField e 1 c):=fun f head=>bC vA fun _=>bC yN fun _=>bC rB fun _=>jn
 split
 ·exact bC jU fun head=>gK (bC jU fun _=>gK bY (bC jn fun _=>last _ _)) (last _ _)
 ·exact fQ
theorem nZ {e:Value} {env:Env}:Calm (leaving env e):=bC uC fun _=>iZ
noncomputable def vB (cC cR:ClassData) (sC:Array (Option Value)) (C:Addr) (newId:String):Bool:=
 (cC.mro==Value.ref C::cR.mro) && !cC.hasDel && (match sC.toList with | [_,_,_,_,some (.builtin n),_]=>n==newId | _=>false)
theorem GK {K:PySem.W.Frag} {mg:Str→Option Value} {h:Heap} {y:Str} {C R:Addr} {bm:List Value} {newId:String} {dC dR:Option Addr} {cC cR:ClassData} {sC sR:Array (Option Value)} (X:K.In h) (O:Exc K mg y R bm newId)
  (lC:K.lookup C=some ⟨.type "type",dC,.cls cC,sC⟩) (lR:K.lookup R=some ⟨.type "type",dR,.cls cR,sR⟩) (ck:vB cC cR sC C newId=true):
  ∃nm q N bs tl sn sub ab col k0 k1 k2 k3 k5,h.get? C=some (excClassObj nm q C N bs tl cC.hasDict sn sub ab col dC k0 k1 k2 k3 k5 newId)∧OwnTail h bm tl:=by
 obtain ⟨tl,Nn,nm,q,bs,hdct,sn,sub,ab,col,dd,k0,k1,k2,k3,k5,mN,hR,hN,hni,T⟩:=(O.own X).obj
 have hR':=X _ _ lR
 have e1:=hR'.symm.trans hR
 have e2:=Option.some.inj e1
 have hm:cR.mro=Value.ref R::tl:=by
  have e3:(Data.cls cR)=_:=congrArg Obj.data e2
  injection e3 with e3
  rw [e3]
 unfold vB at ck
 simp only [Bool.and_eq_true,beq_iff_eq,Bool.not_eq_true'] at ck
 obtain ⟨⟨c1,c2⟩,c3⟩:=ck
 split at c3
 ·rename_i j0 j1 j2 j3 n j5 hs
  have c3:=beq_iff_eq.mp c3
  subst c3
  obtain ⟨nm',bs',mro',ns',qn',hd',sn',sub',ab',col',del'⟩:=cC
  dsimp only at c1 c2
  rw [hm] at c1
  subst c1 c2
  obtain ⟨sll⟩:=sC
  simp only at hs
  subst hs
  exact ⟨_,_,_,_,_,_,_,_,_,_,_,_,_,_,X _ _ lC,.own hR hN hni T⟩
 ·cases c3
section
variable {prog:Program} {w:World} {A:Around} {E:Value→Shared→Prop} {s:Shared} {K:PySem.W.Frag}
variable {nm q:Str} {C N fI:Addr} {bs bm tl:List Value} {hd:Bool} {sn:List Str} {sub:List Value} {ab:Bool} {col:Option Bool} {dC:Option Addr} {k0 k1 k2 k3 k5:Option Value} {B newId initId:String}
theorem Dd (F:ExcBaseFacts B newId initId bm) {rest:List Value} {Q:Value→Shared→Prop} (T:OwnTail s.heap bm tl) (X:K.In s.heap) (hC:s.heap.get? C=some (excClassObj nm q C N bs tl hd sn sub ab col dC k0 k1 k2 k3 k5 newId))
  (hi:PySem.W.findIn K (.ref C) "__init__"=some (some (.ref fI))) (hf:PySem.W.typeIn K (.ref fI)=some (.type "function")) (hrest:rest.length≤sizeLine)
  (hq:∀h' e,s.heap.objs.size≤e→Heap.MadeExcOf s.heap h' e (.ref C) rest→wpAny (model prog w) (A.under (.builtin "type.__call__" ⟨.ref C::rest,[]⟩)) (call (.ref fI) (.ref e::rest)) (fun r s'=>r=.none∧Q (.ref e) s') E {s with heap:=h'}):
  wpAny (model prog w) A (call (.ref C) rest) Q E s:=by
 obtain ⟨h,g,d,t,os⟩:=s
 have f1:=tc_lookup
 have f2:=tc_bind (.ref C)
 have hT:(⟨h,g,d,t,os⟩:Shared).TypeIs (.ref C) "type":=⟨_,hC,rfl⟩
 refine wpAny_call (codeAny_of_tree (show wpAny _ _ (callAny (.ref C) _) _ _ _ from ?_))
 repeat (any_goals (first | assumption | with_reducible refine wpAny_loadPart_at hC ?_ | wp_step))
 refine ⟨rfl,codeAny_call_builtin_at (Code.quiet_builtin _ (by decide+kernel)) entry_typeCall (wpAny_check_type_call_sub hC ?_)⟩
 repeat (first | with_reducible refine wpAny_madeBy_exc hC ?_ | with_reducible refine wpAny_loadPart_at hC ?_ | wp_step)
 refine codeAny_call_builtin_code (Code.quiet_builtin _ F.quiet) (wpAny_check_new_subT F T hC (codeAny_exc_new_subT F T hC (show wpAny _ _ _ _ _ _ from ?_) hrest))
 have hget:((h.push {cls:=.type "tuple",data:=.seq rest.toArray}).push {cls:=.ref C,data:=.fields #[.ref h.objs.size,.none,.none,.none,.bool false,.none]}).get? (h.objs.size+1)=some {cls:=.ref C,data:=.fields #[.ref h.objs.size,.none,.none,.none,.bool false,.none]}:=by heap_get
 have mk:Heap.MadeExcOf h ((h.push {cls:=.type "tuple",data:=.seq rest.toArray}).push {cls:=.ref C,data:=.fields #[.ref h.objs.size,.none,.none,.none,.bool false,.none]}) (h.objs.size+1) (.ref C) rest:=
  ⟨fun b o hb=>Heap.get?_push_of_some _ (Heap.get?_push_of_some _ hb),Heap.get?_none_of_le (Nat.le_succ _),h.objs.size,hget,Heap.get?_none_of_le (Nat.le_refl _),Heap.get?_push_of_some _ (Heap.get?_push_at rfl rfl)⟩
 have hq2:=hq _ _ (Nat.le_succ _) mk
 have X2:=X.keeps mk.keeps
 have hC2:=mk.keeps _ _ hC
 have hcC:(Value.ref C::tl).contains (.ref C)=true:=by simp
 show wpAny _ _ _ _ _ ⟨(h.push {cls:=.type "tuple",data:=.seq rest.toArray}).push {cls:=.ref C,data:=.fields #[.ref h.objs.size,.none,.none,.none,.bool false,.none]},g,d,t,os⟩
 dsimp only
 generalize (h.push {cls:=.type "tuple",data:=.seq rest.toArray}).push {cls:=.ref C,data:=.fields #[.ref h.objs.size,.none,.none,.none,.bool false,.none]}=h2 at hget mk hq2 X2 hC2 ⊢
 generalize h.objs.size=a0 at hget mk hq2 hC2 ⊢
 unfold isInstance
 repeat (first | with_reducible refine wpAny_loadPart_at hget ?_ | (with_reducible refine wpAny_isSubtype_exc hC2 ?_;rw [hcC]) | wp_step)
 refine (PySem.W.looks_findIn X2 hi).here ?_
 refine wpAny_holding (wpAny_bind ((PySem.W.bind_fn X2 _ hf).here ?_))
 show wpAny _ _ (call (.ref fI) (.ref (a0+1)::rest) >>=fun r=>pure (some r)) _ _ _
 refine wpAny_bind (wpAny_mono hq2 (fun r s' hr=>?_) fun _ _ z=>z)
 obtain ⟨rfl,hQ⟩:=hr
 wp_walk
 exact hQ
theorem De (F:ExcBaseFacts B newId initId bm) {R:Result→Shared→Prop} {e t0:Addr} {od:Option Addr} {sl:Array (Option Value)} {rest:List Value} (T:OwnTail s.heap bm tl) (hC:s.heap.get? C=some (excClassObj nm q C N bs tl hd sn sub ab col dC k0 k1 k2 k3 k5 newId))
  (he:s.heap.get? e=some ⟨.ref C,od,.fields #[.ref t0,.none,.none,.none,.bool false,.none],sl⟩) (hrest:rest.length≤sizeLine)
  (hq:∀h' t,(∀b o,b≠e→s.heap.get? b=some o→h'.get? b=some o)→h'.get? e=some ⟨.ref C,od,.fields #[.ref t,.none,.none,.none,.bool false,.none],sl⟩→R (.ok (.ret .none)) {s with heap:=h'}):
  codeAny (model prog w) A (.call (.builtin initId) ⟨.ref e::rest,[]⟩) R s:=by
 obtain ⟨h,g,d,t,os⟩:=s
 refine codeAny_call_builtin F.init.plain F.initEntry (wpAny_check_init_subT F T hC he rfl ?_)
 dsimp only at he ⊢
 wp_walk
 have he1:(h.push {cls:=.type "tuple",data:=.seq rest.toArray}).get? e=_:=Heap.get?_push_of_some _ he
 refine hq _ h.objs.size (fun b o hb hbo=>?_) ?_
 ·show ((h.push _).update e _).get? b=some o
  rw [Heap.get?_update_other _ _ (Ne.symm hb)]
  exact Heap.get?_push_of_some _ hbo
 ·show ((h.push _).update e _).get? e=_
  rw [Heap.get?_update_self _ he1 rfl]
  rfl
theorem pU {h:Heap} (T:OwnTail h bm tl) (self:Value) (what:Str):refuseLoop self what tl=refuseLoop self what bm:=by
 induction T with
 | base=>rfl
 | own _ _ _ _ ih=>rw [refuseLoop_ref,ih]
theorem Am {M:Model} {d:Addr} {mA:Str→Option Value} {name:Str} {tk:Tok} {v:Value} {ns:List Str} {Q:Fin→Shared→Prop} (hn:s.heap.Ns1 d mA) (hw:PySem.Within mA ns) (hz:ns.length≤1000)
  (hq:∀h' tk',h'.Ns1 d (fun y=>if y=name then some v else mA y)→Heap.SameBut d s.heap h'→Q (.done (.ret .none)) {s with heap:=h',toks:=tk'}):
  wpAny M A (Builtin.ObjectAttr.storeInDict d (.str name tk) name v) Q E s:=by
 unfold Builtin.ObjectAttr.storeInDict Builtin.ObjectAttr.newKeyGuard
 refine wpAny_bind (wpAny_pure (wpAny_bind (wpAny_nsSet1 hn fun h' hn' hs=>?_)))
 obtain ⟨oD,esD,epD,hoD,hdD,hcD⟩:=hn'.count (PySem.Within.cons name v hw)
 refine wpAny_bind (wpAny_lookBehind hoD (by rw [hdD];exact pastItsLine_dict (Nat.le_trans hcD (by rw [List.length_cons,sizeLine_eq];omega))) ?_)
 exact wpAny_pure (hq _ _ hn' hs)
theorem KZ {x:Addr} {name:Str} {v:Value} {sa owner:String} {vs:Array Value} {sl:Array (Option Value)} {Q:Unit→Shared→Prop} (X:K.In s.heap) (SF:StoreFacts B bm sa owner) (T:OwnTail s.heap bm tl) (hC:s.heap.get? C=some (excClassObj nm q C N bs tl hd sn sub ab col dC k0 k1 k2 k3 k5 newId))
  (hs:PySem.W.findIn K (.ref C) "__setattr__"=some (some (.builtin sa))) (hn:PySem.W.findIn K (.ref C) name=some none) (ho:PySem.W.subIn K (.ref C) (.type owner)=some true) (hx:s.heap.get? x=some ⟨.ref C,none,.fields vs,sl⟩) (hdc:hd=true)
  (hq:∀h' tk',h'.get? x=some ⟨.ref C,some s.heap.objs.size,.fields vs,sl⟩→h'.Ns1 s.heap.objs.size (fun y=>if y=name then some v else none)→(∀b o,b≠x→s.heap.get? b=some o→h'.get? b=some o)→Q () {s with heap:=h',toks:=tk'}):
  wpAny (model prog w) A (setAttr (.ref x) name v) Q E s:=by
 obtain ⟨h,g,d,t,os⟩:=s
 dsimp only at X T hC hx
 have ty:PySem.W.Looks (model prog w) h (typeOf (.ref x)) (.ref C):=(PySem.W.Looks.ld hx).andThen .now
 have ob:PySem.W.Looks (model prog w) h (isInstance (.ref x) (.type owner)) true:=ty.andThen (PySem.W.looks_subIn X ho)
 unfold setAttr callSpecial? specialOf
 have f3:=SF.slot.bind (.ref x)
 repeat (any_goals (first | assumption | with_reducible refine wpAny_loadPart_at hx ?_ | wp_step))
 refine (PySem.W.looks_findIn X hs).here (wpAny_holding (wpAny_bind (wpAny_of_eq f3 (wpAny_bind (wpAny_call (codeAny_call_builtin SF.slot.plain SF.entry (PySem.W.check_slot SF.kind SF.split ob (SF.args _ _ _) ?_)))))))
 have hpass:=SF.passes (.ref x)
 have hp2:refuseLoop (.ref x) "__setattr__" tl=pure ():=(pU T _ _).trans hpass
 unfold Builtin.«object.__setattr__»
 repeat (first | rw [refuse_eq] | (rw [refuseLoop_ref,hp2]) | with_reducible refine wpAny_loadPart_at hx ?_ | with_reducible refine wpAny_mroOf_exc hC ?_ | wp_step)
 refine (PySem.W.looks_findIn X hn).here (wpAny_bind (wpAny_pure ?_))
 show wpAny _ _ (Builtin.ObjectAttr.storeInOwnDict _ _ _ _ _ _) _ _ _
 unfold Builtin.ObjectAttr.storeInOwnDict
 refine wpAny_bind (wpAny_mono (Q:=fun _ s'=>s'=⟨h,g,d,t+1,os⟩) (E:=fun _ _=>False) ?_ (fun _ _ e1=>?_) (fun _ _ z=>z.elim))
 ·repeat (first | with_reducible refine wpAny_loadPart_at hx ?_ | with_reducible refine wpAny_loadPart_at hC ?_ | wp_step)
  exact rfl
 ·subst e1
  have hxs:x≠h.objs.size:=Nat.ne_of_lt (Heap.lt_size hx)
  have hx1:(h.push {cls:=.type "dict",data:=.dict #[]}).get? x=_:=Heap.get?_push_of_some _ hx
  refine wpAny_bind (wpAny_mono (Q:=fun r s'=>r=some h.objs.size∧s'=⟨(h.push {cls:=.type "dict",data:=.dict #[]}).update x fun o=>{o with dict:=some h.objs.size},g,d,t+1,os⟩) (E:=fun _ _=>False) ?_ (fun _ _ e1=>?_) (fun _ _ z=>z.elim))
  ·show wpAny _ _ (instanceDict x true) _ _ _
   subst hdc
   unfold instanceDict
   repeat (first | with_reducible refine wpAny_loadPart_at hx ?_ | with_reducible refine wpAny_loadPart_at hC ?_ | wp_step)
   exact ⟨rfl,rfl⟩
  ·obtain ⟨rfl,rfl⟩:=e1
   have hgx:((h.push {cls:=.type "dict",data:=.dict #[]}).update x fun o=>{o with dict:=some h.objs.size}).get? x=some ⟨.ref C,some h.objs.size,.fields vs,sl⟩:=by
    rw [Heap.get?_update_self _ hx1 rfl]
   have hgd:((h.push {cls:=.type "dict",data:=.dict #[]}).update x fun o=>{o with dict:=some h.objs.size}).get? h.objs.size=some {cls:=.type "dict",data:=.dict #[]}:=
    (Heap.get?_update_other _ _ hxs).trans (Heap.get?_push_at rfl rfl)
   have hnd:((h.push {cls:=.type "dict",data:=.dict #[]}).update x fun o=>{o with dict:=some h.objs.size}).Ns h.objs.size (fun _=>none):=⟨_,#[],_,hgd,rfl,fun e he=>absurd he (by simp),fun _=>rfl⟩
   refine Am (mA:=fun _=>none) (ns:=[]) (Heap.Ns1.of_empty hnd) PySem.Within.nil (by decide) fun h' tk' hn' sb=>?_
   refine wpAny_pure (wpAny_pure (hq h' tk' ?_ hn' fun b o hb hbo=>?_))
   ·exact (sb.2 x hxs).trans hgx
   ·refine (sb.2 b (Nat.ne_of_lt (Heap.lt_size hbo))).trans ((Heap.get?_update_other _ _ (Ne.symm hb)).trans (Heap.get?_push_of_some _ hbo))
theorem GP {x dx:Addr} {name:Str} {v:Value} {sa owner:String} {vs:Array Value} {sl:Array (Option Value)} {mA:Str→Option Value} {ns:List Str} {Q:Unit→Shared→Prop} (X:K.In s.heap) (SF:StoreFacts B bm sa owner) (T:OwnTail s.heap bm tl) (hC:s.heap.get? C=some (excClassObj nm q C N bs tl hd sn sub ab col dC k0 k1 k2 k3 k5 newId))
  (hs:PySem.W.findIn K (.ref C) "__setattr__"=some (some (.builtin sa))) (hn:PySem.W.findIn K (.ref C) name=some none) (ho:PySem.W.subIn K (.ref C) (.type owner)=some true) (hx:s.heap.get? x=some ⟨.ref C,some dx,.fields vs,sl⟩) (hdc:hd=true) (hN:s.heap.Ns1 dx mA) (hw:PySem.Within mA ns) (hz:ns.length≤1000)
  (hq:∀h' tk',h'.Ns1 dx (fun y=>if y=name then some v else mA y)→Heap.SameBut dx s.heap h'→Q () {s with heap:=h',toks:=tk'}):
  wpAny (model prog w) A (setAttr (.ref x) name v) Q E s:=by
 obtain ⟨h,g,d,t,os⟩:=s
 dsimp only at X T hC hx hN
 have ty:PySem.W.Looks (model prog w) h (typeOf (.ref x)) (.ref C):=(PySem.W.Looks.ld hx).andThen .now
 have ob:PySem.W.Looks (model prog w) h (isInstance (.ref x) (.type owner)) true:=ty.andThen (PySem.W.looks_subIn X ho)
 unfold setAttr callSpecial? specialOf
 have f3:=SF.slot.bind (.ref x)
 repeat (any_goals (first | assumption | with_reducible refine wpAny_loadPart_at hx ?_ | wp_step))
 refine (PySem.W.looks_findIn X hs).here (wpAny_holding (wpAny_bind (wpAny_of_eq f3 (wpAny_bind (wpAny_call (codeAny_call_builtin SF.slot.plain SF.entry (PySem.W.check_slot SF.kind SF.split ob (SF.args _ _ _) ?_)))))))
 have hp2:refuseLoop (.ref x) "__setattr__" tl=pure ():=(pU T _ _).trans (SF.passes (.ref x))
 unfold Builtin.«object.__setattr__»
 repeat (first | rw [refuse_eq] | (rw [refuseLoop_ref,hp2]) | with_reducible refine wpAny_loadPart_at hx ?_ | with_reducible refine wpAny_mroOf_exc hC ?_ | wp_step)
 refine (PySem.W.looks_findIn X hn).here (wpAny_bind (wpAny_pure ?_))
 show wpAny _ _ (Builtin.ObjectAttr.storeInOwnDict _ _ _ _ _ _) _ _ _
 unfold Builtin.ObjectAttr.storeInOwnDict
 refine wpAny_bind (wpAny_mono (Q:=fun _ s'=>s'=⟨h,g,d,t+1,os⟩) (E:=fun _ _=>False) ?_ (fun _ _ e1=>?_) (fun _ _ z=>z.elim))
 ·repeat (first | with_reducible refine wpAny_loadPart_at hx ?_ | with_reducible refine wpAny_loadPart_at hC ?_ | wp_step)
  exact rfl
 ·subst e1
  refine wpAny_bind (wpAny_mono (Q:=fun r s'=>r=some dx∧s'=⟨h,g,d,t+1,os⟩) (E:=fun _ _=>False) ?_ (fun _ _ e1=>?_) (fun _ _ z=>z.elim))
  ·show wpAny _ _ (instanceDict x true) _ _ _
   subst hdc
   unfold instanceDict
   repeat (first | with_reducible refine wpAny_loadPart_at hx ?_ | with_reducible refine wpAny_loadPart_at hC ?_ | wp_step)
   exact ⟨rfl,rfl⟩
  ·obtain ⟨rfl,rfl⟩:=e1
   refine Am hN hw hz fun h' tk' hn' sb=>?_
   exact wpAny_pure (wpAny_pure (hq h' tk' hn' sb))
theorem O1 {x dx:Addr} {name:Str} {v:Value} {vs:Array Value} {sl:Array (Option Value)} {mA:Str→Option Value} {b:Bool} {Q:Value→Shared→Prop} (X:K.In s.heap) (c:kE K C) (hn:PySem.W.findIn K (.ref C) name=some none) (hd:PySem.W.hasDictIn K C=true) (hx:s.heap.get? x=some ⟨.ref C,some dx,.fields vs,sl⟩)
  (hN:s.heap.Ns1 dx mA) (hv:mA name=some v) (hh:PySem.W.handedIn v=true) (hq:Q v {s with toks:=s.toks+1}):wpAny (model prog w) A (getAttr (.ref x) name b) Q E s:=by
 refine wpAny_bind (wpAny_mkText ?_)
 refine FW (s:={s with toks:=s.toks+1}) X c ⟨_,hx,rfl⟩ fun A'=>codeAny_call_builtin F.excAttr_ValueError.ga.plain F.entry_bexc_ga (uy (s:={s with toks:=s.toks+1}) X c ⟨_,hx,rfl⟩ ?_)
 have L0:PySem.W.Looks (model prog w) s.heap (typeOf (.ref x)) (.ref C):=tL.type ⟨_,hx,rfl⟩
 have L1:=PySem.W.looks_findIn (M:=model prog w) X hn
 obtain ⟨cd,hcd,hd'⟩:=PySem.W.any_some hd
 have LC:=PySem.W.looks_clsIn (M:=model prog w) X hcd
 obtain ⟨hh0,g,d,t,os⟩:=s
 unfold Builtin.«object.__getattribute__»
 have sa:slotArgs "__getattribute__" 1 ⟨[.ref x,.str name t],[]⟩=pure (.ref x,[.str name t]):=rfl
 rw [sa]
 refine wpAny_bind (wpAny_pure ?_)
 dsimp only
 have an:Builtin.ObjectAttr.attrName (.str name t)=pure name:=rfl
 rw [an]
 refine wpAny_bind (wpAny_pure (wpAny_bind (L0.at (wpAny_bind ?_))))
 unfold Builtin.ObjectAttr.find
 refine wpAny_bind (L1.at (wpAny_bind (wpAny_pure (wpAny_bind (wpAny_pure ?_)))))
 show wpAny _ _ (Builtin.ObjectAttr.ownThenClass _ _ _ _) _ _ _
 unfold Builtin.ObjectAttr.ownThenClass Builtin.ObjectAttr.inOwnDict Builtin.ObjectAttr.ownDict
 refine wpAny_bind (wpAny_bind (wpAny_bind (wpAny_mono (Q:=fun o s'=>o=⟨.ref C,some dx,.fields vs,sl⟩∧s'=⟨hh0,g,d,t+1,os⟩) (E:=fun _ _=>False) ?_ (fun _ _ e1=>?_) (fun _ _ z=>z.elim))))
 ·repeat (first | with_reducible refine wpAny_loadPart_at hx ?_ | wp_step)
  exact ⟨rfl,rfl⟩
 ·obtain ⟨rfl,rfl⟩:=e1
  show wpAny _ _ (instanceDict x false) _ _ _
  unfold instanceDict
  refine wpAny_bind (wpAny_loadPart_at hx ?_)
  dsimp only
  refine wpAny_bind (LC.at ?_)
  rw [hd']
  refine wpAny_pure ?_
  show wpAny _ _ (nsGet dx name) _ _ _
  refine wpAny_nsGet hN.ns ?_
  rw [hv]
  show wpAny _ _ (rule "getattr.instance-dict" >>=fun _=>pure (Builtin.ObjectAttr.Found.value v)) _ _ _
  refine wpAny_bind (wpAny_rule (wpAny_pure (wpAny_pure ?_)))
  show wpAny _ _ (handedOut v) _ _ _
  rw [PySem.W.handedOut_of hh]
  exact wpAny_pure hq
end
open PySem PySem.Spec PyProof.Rows L2
noncomputable def exU (e C:Addr):HO:=.ext fun h=>∃t sl,h.get? e=some ⟨.ref C,none,.fields #[.ref t,.none,.none,.none,.bool false,.none],sl⟩
noncomputable def exF (e C dx:Addr):HO:=.ext fun h=>∃t sl,h.get? e=some ⟨.ref C,some dx,.fields #[.ref t,.none,.none,.none,.bool false,.none],sl⟩
noncomputable def exD (e C dx:Addr):HO:=.ext fun h=>∃vs sl,h.get? e=some ⟨.ref C,some dx,.fields vs,sl⟩
noncomputable def xdO (d:Addr) (fs:List (Str × V)):HO:=.ext fun h=>fs.length≤100∧∃mA,h.Ns1 d mA∧(∀f,jk (fs.lookup f) (mA f))∧PySem.Within mA (fs.map (·.1))
section
variable {P:Program} {w:World} {H:Hp} {h:Heap} {e C dx d:Addr}
theorem GQ {t:Addr} {sl:Array (Option Value)} (q:h.get? e=some ⟨.ref C,none,.fields #[.ref t,.none,.none,.none,.bool false,.none],sl⟩):bQ P w H h e (exU e C):=
 ⟨⟨t,sl,q⟩,⟨_,q⟩,fun _ _ ⟨t,sl,z⟩ k=>⟨t,sl,k _ z⟩⟩
theorem O2 {t:Addr} {sl:Array (Option Value)} (q:h.get? e=some ⟨.ref C,some dx,.fields #[.ref t,.none,.none,.none,.bool false,.none],sl⟩):bQ P w H h e (exF e C dx):=
 ⟨⟨t,sl,q⟩,⟨_,q⟩,fun _ _ ⟨t,sl,z⟩ k=>⟨t,sl,k _ z⟩⟩
theorem O3 {vs:Array Value} {sl:Array (Option Value)} (q:h.get? e=some ⟨.ref C,some dx,.fields vs,sl⟩):bQ P w H h e (exD e C dx):=
 ⟨⟨vs,sl,q⟩,⟨_,q⟩,fun _ _ ⟨t,sl,z⟩ k=>⟨t,sl,k _ z⟩⟩
theorem GR {fs:List (Str × V)} {mA:Str→Option Value} (z:fs.length≤100) (n:h.Ns1 d mA) (r:∀f,jk (fs.lookup f) (mA f)) (wi:PySem.Within mA (fs.map (·.1))):bQ P w H h d (xdO d fs):=by
 obtain ⟨o,q⟩:∃o,h.get? d=some o:=by obtain ⟨o,_,_,q,_⟩:=n.ns;exact ⟨o,q⟩
 exact ⟨⟨z,mA,n,r,wi⟩,⟨o,q⟩,fun _ _ ⟨z,mA,n,r,wi⟩ k=>⟨z,mA,n.at k,r,wi⟩⟩
end
section
variable {X:Cx} {pins:List (Addr × Obj)} {σ:L2.St} {H:Hp} {s:Shared}
theorem Inv.put2 {h':Heap} {t':Nat} {e d:Addr} {oe od:HO} {φ:Heap→Prop} (I:Inv X pins σ H s) (he:H e=some (.ext φ)) (hd:s.heap.objs.size≤d) (k:∀b o,b≠e→s.heap.get? b=some o→h'.get? b=some o) (hee:∃o,h'.get? e=some o)
  (n1:bQ X.prog X.w (upd (upd H d od) e oe) h' e oe) (n2:bQ X.prog X.w (upd (upd H d od) e oe) h' d od):Inv X pins σ (upd (upd H d od) e oe) {s with heap:=h',toks:=t'}:=by
 have hdn:H d=none:=I.hok.fresh hd
 have hgd:∀o,s.heap.get? d≠some o:=fun o z=>Nat.lt_irrefl _ (Nat.lt_of_lt_of_le (Heap.lt_size z) hd)
 have ne1:∀b,H b=none→b≠e:=fun b n z=>by rw [z,he] at n;cases n
 have old:∀{b:Addr} {u:HO},H b=some u→b≠e→upd (upd H d od) e oe b=some u:=fun {b u} q n=>by rw [aA n,aA (aF q hdn)];exact q
 have nx:∀{b:Addr} {u:HO},H b=some u→(∀ψ,u≠.ext ψ)→b≠e:=fun {b u} q n z=>by subst z;rw [he] at q;exact n φ (Option.some.inj q).symm
 refine I.un ⟨fun b o q n _ _=>k b o (ne1 b n) q,fun b o q n _ _=>⟨o.slots,k b o (ne1 b n) q⟩,fun b o q n _=>?_,fun b o q _=>?_,fun b xs q=>old q (nx q (by intro ψ z;cases z)),fun b o u q=>old q (nx q (by intro ψ z;cases z)),fun b ps q=>⟨#[],by rw [old q (nx q (by intro ψ z;cases z))];simp⟩⟩ fun b u q=>?_
 ·rw [aA (ne1 b n),aA (show b≠d from fun z=>hgd o (by rw [←z];exact q))]
  exact n
 ·by_cases hb:b=e
  ·subst hb;exact hee
  ·exact ⟨o,k b o hb q⟩
 ·by_cases hb:b=e
  ·subst hb;rw [aq] at q;cases q;exact n1
  ·rw [aA hb] at q
   by_cases hb2:b=d
   ·subst hb2;rw [aq] at q;cases q;exact n2
   ·rw [aA hb2] at q
    refine (I.hok b u q).stay (fun c v hc r=>k c v ?_ r) (fun c r=>old r (nx r (by intro ψ z;cases z))) fun c xs r=>old r (nx r (by intro ψ z;cases z))
    rcases hc with rfl | hc
    ·exact hb
    ·exact nx hc (by intro ψ z;cases z)
theorem O4 {H:Hp} {a:Addr} {o:HO} (h:H a=some o):upd H a o=H:=by
 funext b
 by_cases hb:b=a
 ·subst hb;rw [aq,h]
 ·rw [aA hb]
end
structure XC (K:PySem.W.Frag) (mg:Str→Option Value) (y:Str) (C R:Addr):Prop where
 base:Exc K mg y R [.type "ValueError",.type "Exception",.type "BaseException",.type "object"] "ValueError.__new__"
 lk:∃dC cC sC dR cR sR,K.lookup C=some ⟨.type "type",dC,.cls cC,sC⟩∧K.lookup R=some ⟨.type "type",dR,.cls cR,sR⟩∧vB cC cR sC C "ValueError.__new__"=true∧cC.hasDict=true
 sa:PySem.W.findIn K (.ref C) "__setattr__"=some (some (.builtin "object.__setattr__"))
 ob:PySem.W.subIn K (.ref C) (.type "object")=some true
 rd:PySem.W.readsIn K R (.type "type")=true
 fc:PySem.W.findCls K (.ref R) (.type "type") "__init__"=some (.val (.builtin "ValueError.__init__"))
 sg:PySem.W.specialIn K (.ref R) "__getattribute__"=some (some (.builtin "type.__getattribute__"))
 ec:kE K C
 hd:PySem.W.hasDictIn K C=true
theorem XC.obj {K:PySem.W.Frag} {mg:Str→Option Value} {y:Str} {C R:Addr} {h:Heap} (x:XC K mg y C R) (X:K.In h):
  ∃nm q N bs tl sn sub ab col dC k0 k1 k2 k3 k5,h.get? C=some (excClassObj nm q C N bs tl true sn sub ab col dC k0 k1 k2 k3 k5 "ValueError.__new__")∧OwnTail h [.type "ValueError",.type "Exception",.type "BaseException",.type "object"] tl:=by
 obtain ⟨dC,cC,sC,dR,cR,sR,lC,lR,ck,hd⟩:=x.lk
 obtain ⟨nm,q,N,bs,tl,sn,sub,ab,col,k0,k1,k2,k3,k5,hC,T⟩:=GK X x.base lC lR ck
 rw [hd] at hC
 exact ⟨nm,q,N,bs,tl,sn,sub,ab,col,dC,k0,k1,k2,k3,k5,hC,T⟩
section
variable {X:Cx} {o e value:Expr} {es:List Expr} {f y:Str} {pos pos' apos np:Pos} {ta tv:TE} {t:TA} {R:Addr}
noncomputable def tBI (K:PySem.W.Frag) (mg:Str→Option Value) (y:Str) (R:Addr) (t:TA):TE:=fun σ H Q=>t σ H fun vs H1=>∃e C rest,vs=.ref e::rest∧H1 e=some (exU e C)∧XC K mg y C R∧rest.length≤sizeLine∧Q .non H1
theorem GX {pl:Sem Bool} (hg:Gl X y) (hm:X.mg y=some (.ref R)) (rd:PySem.W.readsIn X.K R (.type "type")=true) (fc:PySem.W.findCls X.K (.ref R) (.type "type") "__init__"=some (.val (.builtin "ValueError.__init__"))) (sg:PySem.W.specialIn X.K (.ref R) "__getattribute__"=some (some (.builtin "type.__getattribute__")))
  (ha:PA X (e::es) t) (hdb:(y==("__debug__":Str))=false:=by decide) (hst:starEach (e::es) X.env=(false,eval e X.env)::starEach es X.env:=by rfl) (hpl:(backTo pos (starEach es X.env)).any (·.1)=false:=by rfl)
  (ht:eval (.Call (.Attribute (.Name y np) "__init__" apos) (e::es) [] pos) X.env=(do
   let ov ←eval (.Name y np) X.env
   standAt apos.atName
   let (f,first) ←holding [ov] (getMethod ov "__init__" pl)
   callWith pos f first (backTo pos (starEach (e::es) X.env)) (backToKw pos (keywordEach [] X.env))):=by rfl):
  PE X (.Call (.Attribute (.Name y np) "__init__" apos) (e::es) [] pos) (tBI X.K X.mg y R t):=by
 intro pins s σ H Q I h
 refine PySem.W.methodCall_KW (pl:=pl) (jh I hg hm ?_ hdb) ht
 refine PySem.W.method_cls I.kIn sg (PySem.W.cls_value I.kIn rd fc (by decide+kernel) ?_)
 refine PyProof.Rows.callWith_builtin1 (thn (ha pos pins _ σ H _ (I.tok _) h) fun us s1 ⟨vs,H1,I1,r1,ex,C,rest,ev,hex,xc,hz,q⟩=>?_) hst hpl
 subst ev
 cases r1 with
 | cons ra rr=>
  cases ra
  obtain ⟨⟨t0,sl,he⟩,_,_⟩:=(show bQ X.prog X.w H1 s1.heap ex (exU ex C) from I1.hok ex _ hex)
  obtain ⟨nm,q',N,bs,tl,sn,sub,ab,col,dC,k0,k1,k2,k3,k5,hC,T⟩:=xc.obj I1.kIn
  refine wpAny_call (De PySem.F.excBase_ValueError T hC he (by rw [←rr.length];exact hz) fun h' t1 kk he'=>?_)
  have I2:=I1.write (t':=s1.toks) (x:=ex) (e:=ex) (o:=exU ex C) (by rw [hex];exact trivial) (.inl rfl) (fun b u hb q=>kk b u hb q) ⟨_,he'⟩ (GQ he')
  rw [O4 hex] at I2
  exact ⟨.non,H1,I2,rfl,q⟩
noncomputable def Ru (K:PySem.W.Frag) (mg:Str→Option Value) (y:Str) (R:Addr) (to tv:TE) (f:Str):TS:=fun D σ H=>tv σ H fun v H1=>to σ H1 fun x H2=>∃e C,x=.ref e∧XC K mg y C R∧PySem.W.findIn K (.ref C) f=some none∧
 ((H2 e=some (exU e C)∧∀dx,H2 dx=none→dx≠e→D.nx σ (upd (upd H2 dx (xdO dx [(f,v)])) e (exF e C dx)))∨
 ∃dx fs,H2 e=some (exF e C dx)∧H2 dx=some (xdO dx fs)∧fs.length < 100∧D.nx σ (upd H2 dx (xdO dx (jN f v fs))))
theorem An (ha:PE X o ta) (hv:PE X value tv) (hs:swapsWith value (some (.Attribute o f pos')) pos.line X.env=pure false):PS X (.Assign [.Attribute o f pos'] value pos) (Ru X.K X.mg y R ta tv f):=by
 intro pins s σ H D I h
 refine plainObj_wpAny_Assign_Attribute (thn (hv pins s σ H _ I h) fun u s1 ⟨v,H1,I1,rv,q⟩=>thn (ha pins s1 σ H1 _ I1 q) fun ov s2 ⟨x,H2,I2,rx,e,C,ex,xc,hn,q2⟩=>?_) hs
 subst ex
 obtain rfl:ov=Value.ref e:=rx
 obtain ⟨nm,q',N,bs,tl,sn,sub,ab,col,dC,k0,k1,k2,k3,k5,hC,T⟩:=xc.obj I2.kIn
 rcases q2 with ⟨he,q2⟩ | ⟨dx,fs,he,hdx,hz,q2⟩
 ·obtain ⟨⟨t0,sl,hge⟩,_,_⟩:=(show bQ X.prog X.w H2 s2.heap e (exU e C) from I2.hok e _ he)
  refine KZ I2.kIn PySem.F.store_ValueError T hC xc.sa hn xc.ob hge rfl fun h' tk' hx' hN' kk=>?_
  have nde:s2.heap.objs.size≠e:=Nat.ne_of_gt (Heap.lt_size hge)
  refine ⟨σ,_,Inv.put2 I2 he (Nat.le_refl _) kk ⟨_,hx'⟩ (O2 hx') (GR (fs:=[(f,v)]) (show 1≤100 by decide) hN' (fun g=>?_) ?_),q2 _ (I2.hok.fresh (Nat.le_refl _)) nde⟩
  ·by_cases hg:g=f
   ·subst hg
    have hb:(g==g)=true:=beq_iff_eq.mpr rfl
    simp only [List.lookup,hb,if_pos]
    exact rv
   ·have hb:(g==f)=false:=beq_eq_false_iff_ne.mpr hg
    simp only [List.lookup,hb,if_neg hg]
    exact trivial
  ·exact PySem.Within.cons f u PySem.Within.nil
 ·obtain ⟨⟨t0,sl,hge⟩,_,_⟩:=(show bQ X.prog X.w H2 s2.heap e (exF e C dx) from I2.hok e _ he)
  obtain ⟨⟨hz0,mA,hN,hrel,hwi⟩,⟨od,hod⟩,_⟩:=(show bQ X.prog X.w H2 s2.heap dx (xdO dx fs) from I2.hok dx _ hdx)
  refine GP I2.kIn PySem.F.store_ValueError T hC xc.sa hn xc.ob hge rfl hN hwi (by rw [List.length_map];omega) fun h' tk' hN' sb=>?_
  refine ⟨σ,_,I2.write (x:=dx) (e:=dx) (o:=xdO dx (jN f v fs)) (by rw [hdx];exact trivial) (.inl rfl) (fun b z hb q=>(sb.2 b hb).trans q) (by obtain ⟨o',_,_,q,_⟩:=hN'.ns;exact ⟨o',q⟩) (GR ?_ hN' (fun g=>?_) ?_),q2⟩
  ·have:=lw f v fs;omega
  ·rw [kZ]
   by_cases q:g=f
   ·rw [if_pos q,if_pos q];exact rv
   ·rw [if_neg q,if_neg q];exact hrel g
  ·intro g hg
   by_cases q:g=f
   ·rw [q];exact (jq f v fs).1
   ·exact (jq f v fs).2 g (hwi g fun z=>hg (by show (if g=f then some u else mA g)=none;rw [if_neg q];exact z))
noncomputable def Rv (K:PySem.W.Frag) (to:TE) (f:Str):TE:=fun σ H Q=>to σ H fun x H1=>∃e C dx fs v,x=.ref e∧H1 e=some (exD e C dx)∧H1 dx=some (xdO dx fs)∧kE K C∧PySem.W.findIn K (.ref C) f=some none∧PySem.W.hasDictIn K C=true∧fs.lookup f=some v∧Q v H1
theorem vC (he:PE X e ta) (hb:attributeBase e f X.env (eval e X.env)=eval e X.env):PE X (.Attribute e f pos) (Rv X.K ta f):=by
 intro pins s σ H Q I h
 refine zZ hb (thn (he pins s σ H _ I h) fun u s1 ⟨x,H1,I1,rx,a,C,dx,fs,v,ex,ea,hdx,ec,hn,hd,l,q⟩=>?_)
 subst ex
 obtain rfl:u=Value.ref a:=rx
 obtain ⟨⟨vs,sl,hge⟩,_,_⟩:=(show bQ X.prog X.w H1 s1.heap a (exD a C dx) from I1.hok a _ ea)
 obtain ⟨⟨hz0,mA,hN,hrel,hwi⟩,_,_⟩:=(show bQ X.prog X.w H1 s1.heap dx (xdO dx fs) from I1.hok dx _ hdx)
 obtain ⟨v',hv',rv⟩:=jk.some_of (v:=v) (o:=mA f) (by rw [←l];exact hrel f)
 exact O1 I1.kIn ec hn hd hge hN hv' (ul rv) ⟨v,H1,I1.tok _,rv,q⟩
end
section
variable {X:Cx} {k:Nat} {f C R:Addr} {fd:FuncData} {ps:List Str} {sp:Sp} {y:Str}
theorem GZ {pins:List (Addr × Obj)} {σ:L2.St} {H:Hp} {s:Shared} {us:List Value} {vs:List V} {Rr:Addr→Addr→Hp→Prop} (xc:XC X.K X.mg y C R) (hi:PySem.W.findIn X.K (.ref C) "__init__"=some (some (.ref f))) (hf:PySem.W.isFn X.K (.ref f)=true)
  (F:aY X.prog X.w X.K X.mg X.base CX0 k f fd ps sp) (hr:fZ (k+1) X.A) (hb:Binds X.K fd ps []) (I:Inv X pins σ H s) (r:Vals vs us) (hz:vs.length≤sizeLine)
  (h:∀e,H e=none→sp (.ref e::vs) (upd H e (exU e C)) (fun v H2=>v=.non∧∃dx,H2 e=some (exF e C dx)∧Rr e dx H2) E0):
  wpAny (model X.prog X.w) X.A (call (.ref C) us) (fun u s'=>∃e dx H2,u=.ref e∧s.heap.get? e=none∧Inv X pins σ H2 s'∧H2 e=some (exF e C dx)∧Rr e dx H2) X.xe s:=by
 obtain ⟨nm,q',N,bs,tl,sn,sub,ab,col,dC,k0,k1,k2,k3,k5,hC,T⟩:=xc.obj I.kIn
 refine Dd PySem.F.excBase_ValueError T I.kIn hC hi (beq_iff_eq.mp hf) (by rw [←r.length];exact hz) fun h' e hle mk=>?_
 obtain ⟨t,he,htn,ht⟩:=mk.there
 have I2:Inv X pins σ (upd H e (exU e C)) {s with heap:=h'}:=I.laid (a:=e) (o:=exU e C) (t':=s.toks) mk.keeps hle (GQ he)
 have hq:=h e (I.hok.fresh hle)
 have r2:Vals (V.ref e::vs) (Value.ref e::us):=.cons rfl r
 have hl:(Value.ref e::us++[]).length=ps.length:=by
  have e1:=r2.length
  rw [F.len _ _ _ _ hq] at e1
  rw [List.append_nil]
  exact e1.symm
 have hb':=hb {s with heap:=h'} (Value.ref e::us) I2.kIn hl
 rw [List.append_nil] at hb'
 refine wpAny_call (codeAny_mono (F.run _ X.stack _ _ ⟨Value.ref e::us,[]⟩ (Value.ref e::us) _ _ E0 (hr.make C us []) (I2.env0.make C us []) hb' r2 hq) fun rr s' hq'=>?_)
 cases rr with
 | error x=>exact False.elim hq'
 | ok fl=>
  cases fl with
  | ret u=>
   obtain ⟨v,H',I3,rv,ev,dx,h3,h4⟩:=I2.after hq'
   subst ev
   exact ⟨rv,e,dx,H',rfl,mk.new,I3,h3,h4⟩
  | next=>exact False.elim hq'
  | brk=>exact False.elim hq'
  | cont=>exact False.elim hq'
end
section
variable {prog:Program} {w:World} {A:Around} {E:Value→Shared→Prop} {s:Shared} {env:Env} {K:PySem.W.Frag} {mg:Str→Option Value} {y:Str} {C R:Addr}
theorem K3 {x:Sem Value} {Q:Flow→Shared→Prop} (xc:XC K mg y C R) (hh:A.handled=none)
  (h:wpAny (model prog w) A x (fun v s₁=>∃e dx t sl,v=.ref e∧K.In s₁.heap∧s₁.heap.get? e=some ⟨.ref C,some dx,.fields #[.ref t,.none,.none,.none,.bool false,.none],sl⟩∧E (.ref e) s₁) E s):
  wpAny (model prog w) A (raiseStmt env (some x) none) Q E s:=by
 unfold raiseStmt
 refine wpAny_bind (wpAny_mono h (fun v s₁ h₁=>?_) fun _ _ x=>x)
 obtain ⟨e,dx,t,sl,rfl,X,he,hE⟩:=h₁
 obtain ⟨nm,q',N,bs,tl,sn,sub,ab,col,dC,k0,k1,k2,k3,k5,hC,T⟩:=xc.obj X
 have hcB:(Value.ref C::tl).contains (.type "BaseException")=true:=by rw [List.contains_cons,T.hasType (b:=true) (by decide),Bool.or_true]
 obtain ⟨hp,g,d,tk,os⟩:=s₁
 repeat (first | with_reducible refine wpAny_loadPart_at he ?_ | with_reducible refine wpAny_loadPart_at hC ?_ | (with_reducible refine wpAny_isSubtype_exc hC ?_;rw [hcB]) | wp_step)
 exact wpAny_raiseNew_none hh hE
end
noncomputable def Link (h:Heap) (ea:Addr) (od:Option Addr):Prop:=∀dx,od=some dx→∃o,h.get? ea=some o∧o.dict=some dx
noncomputable def CXd (P:Program) (w:World):CXT:=fun fr H s E e s'=>∃(ea:Addr) (cls a0:Value) (H':Hp) (B:Heap) (od:Option Addr),e=.ref ea∧gW P w fr H s ea cls a0 H' B s'∧Link s'.heap ea od∧E cls od H'
noncomputable def del (H:Hp) (a:Addr):Hp:=fun b=>if b=a then none else H b
theorem G9 {H:Hp} {a:Addr}:del H a a=none:=by unfold del;rw [if_pos rfl]
theorem jV {H:Hp} {a b:Addr} (h:b≠a):del H a b=H b:=by unfold del;rw [if_neg h]
section
variable {P:Program} {w:World} {K:PySem.W.Frag} {mg:Str→Option Value} {base:Heap} {N:List Str} {qual:Str} {scope:Scope} {f:Addr} {cdv:Value} {A:Around} {outer:List Env} {s:Shared} {H:Hp} {E:XK}
noncomputable abbrev cxD (P:Program) (w:World) (K:PySem.W.Frag) (mg:Str→Option Value) (base:Heap) (N:List Str) (qual:Str) (scope:Scope) (f:Addr) (cdv:Value) (A:Around) (outer:List Env) (s:Shared) (H:Hp) (E:XK):Cx:=
 nP (CXd P w) P w K mg base N qual scope f cdv A outer s H E
theorem toE {pins:List (Addr × Obj)} {σ:L2.St} {H1:Hp} {s1:Shared} (I:Inv (cxD P w K mg base N qual scope f cdv A outer s H E) pins σ H1 s1):Inv (cxE P w K mg base N qual scope f cdv A outer s H E) pins σ H1 s1:=I.wish _
theorem vD {pins:List (Addr × Obj)} {σ:L2.St} {H1:Hp} {s1:Shared} {ea C dx:Addr} (I:Inv (cxD P w K mg base N qual scope f cdv A outer s H E) pins σ H1 s1)
  (hx:H1 ea=some (exF ea C dx)) (hold:s.heap.get? ea=none) (hE:E (.ref C) (some dx) (del H1 ea)):(cxD P w K mg base N qual scope f cdv A outer s H E).xe (.ref ea) s1:=by
 obtain ⟨⟨t,sl,hge⟩,_,_⟩:=(show bQ P w H1 s1.heap ea (exF ea C dx) from I.hok ea _ hx)
 obtain ⟨S,hS⟩:∃S,S=frs (cxD P w K mg base N qual scope f cdv A outer s H E).stack:=⟨_,rfl⟩
 have hin:∀env∈(cxD P w K mg base N qual scope f cdv A outer s H E).stack,∀b,env.frame=some b→b∈ea::S:=fun env he b hb=>by
  rw [hS]
  exact List.mem_cons_of_mem _ (List.mem_filterMap.mpr ⟨env,he,hb⟩)
 have hnt:∀b o,H1 b=some o→b∉S:=fun b o e z=>by rw [hS] at z;rw [I.stkFree b z] at e;cases e
 have inB:∀b o,s1.heap.get? b=some o→b≠ea→b∉S→(PySem.W.hideAll s1.heap (ea::S)).get? b=some o:=fun b o e n m=>PySem.W.hideAll_get _ e fun z=>by
  rcases List.mem_cons.mp z with z | z
  ·exact n z
  ·exact m z
 have oldne:∀b o,s.heap.get? b=some o→b≠ea:=fun b o e z=>by rw [z,hold] at e;cases e
 have stk:∀b o,s.heap.get? b=some o→b∉frs outer→b∉S:=fun b o e hb=>by rw [hS];exact Ae (toE I) e hb
 have notx:∀{b:Addr} {u:HO},H1 b=some u→(∀ψ,u≠.ext ψ)→b≠ea:=fun {b u} q n z=>by subst z;rw [hx] at q;exact n _ (Option.some.inj q).symm
 have hen:(PySem.W.hideAll s1.heap (ea::S)).get? ea=none:=PySem.W.hideAll_none _ (.head _)
 refine wpAny_mono (lJ nZ (wpAny_leaving_firstW (base:=PySem.W.hideAll s1.heap (ea::S)) (a0:=.ref t) (Q:=fun _ s'=>∃h',s'={s1 with heap:=h'}∧Heap.LeftW (PySem.W.hideAll s1.heap (ea::S)) _ ea (.ref C) (.ref t) s1.heap h') (E:=fun _ _=>False)
  I.ok.frames (PySem.W.funFrames_hide I.stack hin) rfl hge (fun b o q=>PySem.W.of_hideAll _ q) hen rfl rfl rfl fun h' hL=>⟨h',rfl,hL⟩)) (fun _ s' ⟨⟨h',es,hL⟩,sd⟩=>?_) fun _ _ z=>z.1.elim
 subst es
 obtain ⟨k1,⟨_,_,k2⟩,k3,x4⟩:=hL
 have x1:Heap.FlyingW (PySem.W.hideAll s1.heap (ea::S)) outer ea (.ref C) (.ref t) h':=⟨k1,hen,k2,k3⟩
 refine ⟨ea,.ref C,.ref t,del H1 ea,_,some dx,rfl,⟨x1,I.os,I.bare,fun b ob e=>?_,⟨fun b o e n hb hx'=>?_,fun b o e n hb hx'=>?_,fun b o e n hx'=>?_,fun b o e hx'=>?_,fun b xs q=>?_,fun b o u q=>?_,fun b ps q=>?_⟩,fun b o e hb=>?_⟩,?_,hE⟩
 ·have hb:b≠ea:=fun z=>by rw [z,G9] at e;cases e
  rw [jV hb] at e
  refine (I.hok b ob e).stay (fun c u hc q=>?_) (fun c r=>by rw [jV (notx r (by intro ψ z;cases z))];exact r) fun c xs r=>by rw [jV (notx r (by intro ψ z;cases z))];exact r
  rcases hc with rfl | hc
  ·exact inB c u q hb (hnt c _ e)
  ·exact inB c u q (notx hc (by intro ψ z;cases z)) (hnt c _ hc)
 ·exact x1.1 b o (inB b o (I.base.keep b o e n hb hx') (oldne b o e) (stk b o e hb))
 ·obtain ⟨sl',z⟩:=I.base.slot b o e n hb hx'
  obtain ⟨_,ob,e',nf⟩:=I.funs.mem hb
  rw [z] at e'
  cases e'
  obtain ⟨sl2,z'⟩:=x4 b _ z nf
  exact ⟨sl2,z'⟩
 ·rw [jV (oldne b o e)]
  exact I.base.free b o e n hx'
 ·obtain ⟨o',z⟩:=I.base.there b o e hx'
  by_cases hb:b∈frs outer
  ·obtain ⟨_,ob,e',nf⟩:=I.funs.mem hb
   obtain ⟨sl',z'⟩:=x4 b _ e' nf
   exact ⟨_,z'⟩
  ·exact ⟨o',x1.1 b o' (inB b o' z (oldne b o e) (stk b o e hb))⟩
 ·have r:=I.base.tups b xs q
  rw [jV (notx r (by intro ψ z;cases z))]
  exact r
 ·have r:=I.base.frzs b o u q
  rw [jV (notx r (by intro ψ z;cases z))]
  exact r
 ·obtain ⟨m,r⟩:=I.base.tbls b ps q
  exact ⟨m,by rw [jV (notx r (by intro ψ z;cases z))];exact r⟩
 ·obtain ⟨o',z⟩:=I.base.there b o e (by simp [cxD,nP])
  refine ⟨o',inB b o' z (oldne b o e) (stk b o e hb),fun n=>?_⟩
  have z2:=I.base.keep b o e n hb (by simp [cxD,nP])
  rw [z] at z2
  exact Option.some.inj z2
 ·intro dx' ed
  cases ed
  obtain ⟨ob,hob,_⟩:=x1.there
  exact ⟨ob,hob,sd.dict hge hob⟩
noncomputable def K4 (C:Addr) (sp:Sp) (E:XK) (ta:TA):TS:=fun _ σ H=>ta σ H fun vs H1=>vs.length≤sizeLine∧∀e,H1 e=none→sp (.ref e::vs) (upd H1 e (exU e C)) (fun v H2=>v=.non∧∃dx,H2 e=some (exF e C dx)∧E (.ref C) (some dx) (del H2 e)) E0
theorem Df {x y:Str} {C R fI:Addr} {k:Nat} {fd:FuncData} {ps:List Str} {sp:Sp} {np cpos pos:Pos} {e0:Expr} {es:List Expr} {ta:TA} (xc:XC K mg y C R) (hm:mg x=some (.ref C)) (hkp:PySem.W.keepIn K (.ref C)=true) (hi:PySem.W.findIn K (.ref C) "__init__"=some (some (.ref fI))) (hf:PySem.W.isFn K (.ref fI)=true)
  (F:aY P w K mg base CX0 k fI fd ps sp) (hr:fZ (k+1) (cxD P w K mg base N qual scope f cdv A outer s H E).A) (hb:Binds K fd ps [])
  (hg:Gl (cxD P w K mg base N qual scope f cdv A outer s H E) x) (ha:PA (cxD P w K mg base N qual scope f cdv A outer s H E) (e0::es) ta) (hdb:(x==("__debug__":Str))=false:=by decide)
  (he:starEach (e0::es) (cxD P w K mg base N qual scope f cdv A outer s H E).env=(false,eval e0 (cxD P w K mg base N qual scope f cdv A outer s H E).env)::starEach es (cxD P w K mg base N qual scope f cdv A outer s H E).env:=by rfl)
  (hpl:(backTo cpos (starEach es (cxD P w K mg base N qual scope f cdv A outer s H E).env)).any (·.1)=false:=by rfl):
  PS (cxD P w K mg base N qual scope f cdv A outer s H E) (.Raise (some (.Call (.Name x np) (e0::es) [] cpos)) none pos) (K4 C sp E ta):=by
 intro pins s1 σ H1 D I h
 rw [arm_exec_Raise]
 refine wpAny_bind (wpAny_standAt ?_)
 show wpAny _ _ (raiseStmt _ (some (do
  let v ←eval (.Call (.Name x np) (e0::es) [] cpos) (cxD P w K mg base N qual scope f cdv A outer s H E).env
  standAt pos
  pure v)) none) _ _ _
 refine K3 xc (I.ok.hd rfl) (wpAny_bind (wpAny_Call_Name_kw (jh I hg hm ?_ hdb)))
 refine PySem.W.callWith_K (h₀:=base) I.ok.mod.kin hkp (thn (ha cpos pins s1 σ H1 _ I h) fun us s2 ⟨vs,H2,I2,r,hz,q⟩=>⟨I2.kIn,?_⟩) he hpl
 refine thn (GZ (X:=cxD P w K mg base N qual scope f cdv A outer s H E) (Rr:=fun e dx H2=>E (.ref C) (some dx) (del H2 e)) xc hi hf F hr hb I2 r hz q) fun u s3 ⟨e,dx,H3,eu,hnew,I3,h3,hE⟩=>?_
 subst eu
 obtain ⟨⟨t,sl,hge⟩,_,_⟩:=(show bQ P w H3 s3.heap e (exF e C dx) from I3.hok e _ h3)
 refine wpAny_bind (wpAny_standAt (wpAny_pure ⟨e,dx,t,sl,rfl,I3.kIn,hge,vD I3 h3 ?_ hE⟩))
 cases q0:s.heap.get? e with
 | none=>rfl
 | some o=>
  obtain ⟨o',z⟩:=I2.base.there e o q0 (by simp [cxD,nP])
  rw [hnew] at z
  cases z
theorem okD {x:Str} {st:Stmt} {fd:FuncData} {ps:List Str} {k:Nat} {sp:Sp} (F:Fun K x qual st f fd) (S:aX N ps (aH st)) (len:∀vs H Q E,sp vs H Q E→vs.length=ps.length)
  (hbody:∀(cdv:Value) (A:Around) (outer:List Env) (s:Shared) (H:Hp) (vs:List V) (Q:VK) (E:XK),fZ k (A.deeper (envOfC qual (aH st) s.heap.objs.size f cdv))→sp vs H Q E→
   ∃t,PSs (cxD P w K mg base N qual (aH st) f cdv A outer s H E) (dq st) t∧t {nx:=fun _ H'=>Q .non H',rt:=Q} (start N vs) H):aY P w K mg base (CXd P w) (k+1) f fd ps sp:=by
 obtain ⟨oc,od,kV,doc,pm,an,cdv,ct,osl,rfl,lk,hcd⟩:=F.ex
 exact MT lk hcd S len fun A outer s H vs Q E hr hsp=>hbody cdv A outer s H vs Q E hr hsp
end
noncomputable def XPd (X:Cx) (pins:List (Addr × Obj)) (σ:L2.St) (E:XK) (e:Value) (s':Shared):Prop:=
 ∃(Hc:Hp) (sc:Shared) (ea:Addr) (cls a0:Value) (H':Hp) (B:Heap) (od:Option Addr),e=.ref ea∧Inv X pins σ Hc sc∧gW X.prog X.w X.stack Hc sc ea cls a0 H' B s'∧Link s'.heap ea od∧E cls od H'
noncomputable def PEd (X:Cx) (e:Expr) (t:TEx):Prop:=
 ∀(pins:List (Addr × Obj)) (s:Shared) (σ:L2.St) (H:Hp) (Q:VK) (E:XK),Inv X pins σ H s→t E σ H Q→wpAny (model X.prog X.w) X.A (eval e X.env) (EP X pins σ Q) (XPd X pins σ E) s
noncomputable def PSd (X:Cx) (st:Stmt) (t:TSx):Prop:=
 ∀(pins:List (Addr × Obj)) (s:Shared) (σ:L2.St) (H:Hp) (D:Ends) (E:L2.St→XK),Inv X pins σ H s→t D E σ H→wpAny (model X.prog X.w) X.A (exec st X.env) (SP X pins D) (fun e s'=>∃σ',XPd X pins σ' (E σ') e s') s
section
variable {X:Cx} {e o:Expr} {es:List Expr} {pos apos p:Pos} {k:Nat} {f C:Addr} {fd:FuncData} {ps:List Str} {sp:Sp} {ta:TE} {t:TA} {m x:Str}
theorem K5 {pins:List (Addr × Obj)} {σ:L2.St} {H:Hp} {s:Shared} {Q:VK} {E:XK} {us:List Value} {vs:List V} (F:aY X.prog X.w X.K X.mg X.base (CXd X.prog X.w) k f fd ps sp) (hr:fZ k X.A) (hb:Binds X.K fd ps [])
  (I:Inv X pins σ H s) (r:Vals vs us) (h:sp vs H Q E):wpAny (model X.prog X.w) X.A (call (.ref f) us) (EP X pins σ Q) (XPd X pins σ E) s:=by
 have hl:(us++[]).length=ps.length:=by rw [List.append_nil,←r.length];exact F.len _ _ _ _ h
 have hb':=hb s us I.kIn hl
 rw [List.append_nil] at hb'
 refine wpAny_call (codeAny_mono (F.run X.A X.stack s H ⟨us,[]⟩ us vs Q E hr I.env0 hb' r h) fun r s' hq=>?_)
 cases r with
 | error e=>
  obtain ⟨ea,cls,a0,H',B,od,rfl,T,lk,hE⟩:=hq
  exact ⟨H,s,ea,cls,a0,H',B,od,rfl,I,T,lk,hE⟩
 | ok fl=>
  cases fl with
  | ret u=>exact I.after hq
  | next=>exact False.elim hq
  | brk=>exact False.elim hq
  | cont=>exact False.elim hq
theorem Ao (F:aY X.prog X.w X.K X.mg X.base (CXd X.prog X.w) k f fd ps sp) (hr:fZ k X.A) (hg:Gl X x) (hm:X.mg x=some (.ref f)) (hk:PySem.W.keepIn X.K (.ref f)=true) (hb:Binds X.K fd ps []) (ha:PA X.nox (e::es) t)
  (hdb:(x==("__debug__":Str))=false:=by decide) (he:starEach (e::es) X.env=(false,eval e X.env)::starEach es X.env:=by rfl) (hpl:(backTo pos (starEach es X.env)).any (·.1)=false:=by rfl):
  PEd X (.Call (.Name x p) (e::es) [] pos) (Ox sp t):=by
 intro pins s σ H Q E I h
 refine wpAny_Call_Name_kw (jh I hg hm ?_ hdb)
 refine PySem.W.callWith_K (h₀:=X.base) I.ok.mod.kin hk (noW (X:=X) (pins:=pins) (thn (ha pos pins s σ H _ (I.wish _) h) fun us s1 ⟨vs,H1,I1,r,q⟩=>⟨I1.unwish.kIn,?_⟩)) he hpl
 exact K5 F hr hb I1.unwish r q
theorem wX {te:TEx} (he:PEd X e te) (hs:swapsWith e none pos.line X.env=pure false:=by rfl):PSd X (.Expr e pos) (Oj te):=by
 intro pins s σ H D E I h
 exact wpAny_Expr_any (wpAny_mono (he pins s σ H _ _ I h) (fun v s1 ⟨x,H1,I1,r1,q1⟩=>⟨σ,H1,I1,q1⟩) fun e s' q=>⟨σ,q⟩) I.quiet hs
end
section
variable {M:Model} {A:Around} {E:Value→Shared→Prop} {s:Shared} {B:Heap} {e L:Addr} {cls a0:Value} {Q:Unit→Shared→Prop} {env:Env} {outer l:List Env}
theorem K6 (hfr:A.frames=some (env::outer)) (hf:env.frame=some L) (hfl:Heap.FlyingW B (env::outer) e cls a0 s.heap) (hQ:∀h',Heap.HeldW B (env::outer) e cls a0 L h'→s.heap.UpToSlots h'→dZ s.heap h'→Q () {s with heap:=h'}):wpAny M A (noteFrame (.ref e) env) Q E s:=
 wpAny_mono (lJ uC (wpAny_looks_onW (Q:=fun _ s'=>∃h',s'={s with heap:=h'}∧Heap.HeldW B (env::outer) e cls a0 L h'∧s.heap.UpToSlots h') (E:=fun _ _=>False) hfr hf hfl fun h' a b=>⟨h',rfl,a,b⟩)) (fun _ s' ⟨⟨h',es,a,b⟩,sd⟩=>by subst es;exact hQ h' a b sd) fun _ _ z=>z.1.elim
theorem K7 (hh:Heap.HeldW B l e cls a0 L s.heap) (hQ:∀h',Heap.FlyingW B l e cls a0 h'→s.heap.UpToSlots h'→dZ s.heap h'→Q () {s with heap:=h'}):wpAny M A (setFlight (.ref e) none) Q E s:=
 wpAny_mono (lJ iZ (wpAny_landsW (Q:=fun _ s'=>∃h',s'={s with heap:=h'}∧Heap.FlyingW B l e cls a0 h'∧s.heap.UpToSlots h') (E:=fun _ _=>False) hh fun h' a b=>⟨h',rfl,a,b⟩)) (fun _ s' ⟨⟨h',es,a,b⟩,sd⟩=>by subst es;exact hQ h' a b sd) fun _ _ z=>z.1.elim
theorem K8 (hh:Heap.FlyingW B l e cls a0 s.heap) (hQ:∀h',Heap.FlyingW B l e cls a0 h'→s.heap.UpToSlots h'→dZ s.heap h'→Q () {s with heap:=h'}):wpAny M A (setFlight (.ref e) none) Q E s:=
 wpAny_mono (lJ iZ (lands_againW (Q:=fun _ s'=>∃h',s'={s with heap:=h'}∧Heap.FlyingW B l e cls a0 h'∧s.heap.UpToSlots h') (E:=fun _ _=>False) hh fun h' a b=>⟨h',rfl,a,b⟩)) (fun _ s' ⟨⟨h',es,a,b⟩,sd⟩=>by subst es;exact hQ h' a b sd) fun _ _ z=>z.1.elim
end
noncomputable def Rw (K:PySem.W.Frag) (tb:TSx) (i:Nat) (R:Addr) (ts:TS):TS:=fun D σ H=>tb D (fun σ' cls od H'=>∃C dx,cls=.ref C∧od=some dx∧jR K C R=true∧∀ea,H' ea=none→
 ts {nx:=fun σ2 H2=>D.nx (σ2.set i none) H2,rt:=D.rt,bk:=fun σ2 H2=>D.bk (σ2.set i none) H2,ct:=fun σ2 H2=>D.ct (σ2.set i none) H2} (σ'.set i (some (.ref ea))) (upd H' ea (exD ea C dx))) σ H
theorem Aq {X:Cx} {st b0:Stmt} {suite:List Stmt} {x n:Str} {np hpos pos:Pos} {tb:TSx} {ts:TS} {i:Nat} {R:Addr} (hstk:X.stack=X.env::X.outer) (hfrm:X.env.frame=some X.env.locals)
  (hb:PSd X st tb) (hN:X.N.Nodup) (hi:X.N[i]?=some n) (hl:X.env.scope.names.lookup n=some .local) (hg:Gl X x) (hm:X.mg x=some (.ref R)) (hR:jR X.K R R=true) (hsuite:∀ea,PSs (mz X ea) (b0::suite) ts)
  (hdb:(x==("__debug__":Str))=false:=by decide):PS X (.Try [st] [.ExceptHandler (some (.Name x np)) (some n) (b0::suite) hpos] [] [] pos) (Rw X.K tb i R ts):=by
 intro pins s σ H D I h
 refine wpAny_Try_except (wpAny_execs_cons (wpAny_mono (hb pins s σ H D _ I h) (fun f s1 q=>?_) fun e s1 q=>?_))
 ·cases f with
  | next=>exact wpAny_execs_nil (wpAny_execs_nil q)
  | ret v=>exact q
  | brk=>exact q
  | cont=>exact q
 ·obtain ⟨σ1,Hc,sc,ea,cls,a0,H',B,od,rfl,Ic,T,lk,C,dx,rfl,rfl,hsub,k⟩:=q
  obtain ⟨o0,ho0,hd0⟩:=lk dx rfl
  have hfr:X.A.frames=some (X.env::X.outer):=by rw [←hstk];exact I.ok.frames
  have fl1:=T.fl
  rw [hstk] at fl1
  refine K6 hfr hfrm fl1 fun h4 held4 up4 sd4=>K7 held4 fun h5 fl5 up5 sd5=>?_
  have fl5':=fl5
  rw [←hstk] at fl5'
  have T5:=T.move fl5' (up4.trans up5)
  have I5:Inv X pins σ1 H' {s1 with heap:=h5}:=Ic.call' (s':={s1 with heap:=h5}) (ch:=[]) T5.os T5.un T5.hok T5.bare (fun b z=>absurd z (by simp))
  obtain ⟨ob,hob,hobc⟩:=fl5.there
  refine wpAny_handleBy_cons (codeAny_handlers_test (jh (X:=mz X ea) (L3.Inv.suite I5 ea) hg hm (Kl I5.kIn hsub hR hob hobc ?_) hdb)) (by intro q;cases q)
  refine codeAny_handlers_suite_as (K8 fl5 fun h6 fl6 up6 sd6=>?_)
  have fl6':=fl6
  rw [←hstk] at fl6'
  have T6:=T5.move fl6' up6
  obtain ⟨o6,v6,ho6,hc6,hf6,_⟩:=fl6.first
  have hd6:o6.dict=some dx:=(((sd4.trans sd5).trans sd6).dict ho0 ho6).trans hd0
  have hl6:h6.get? ea=some ⟨.ref C,some dx,.fields v6,o6.slots⟩:=by
   rw [ho6]
   obtain ⟨c,d,dt,sl⟩:=o6
   dsimp only at hc6 hf6 hd6
   rw [hc6,hf6,hd6]
  have old:∀b o,sc.heap.get? b=some o→b≠ea:=fun b o e=>T.notOld e
  have tn:=T.new
  have I6:Inv X pins σ1 (upd H' ea (exD ea C dx)) {s1 with heap:=h6}:=by
   refine Ic.call' (s':={s1 with heap:=h6}) (ch:=[]) T6.os ⟨T6.un.keep,T6.un.slot,fun b o e n' hx=>by rw [aA (old b o e)];exact T6.un.free b o e n' hx,T6.un.there,fun b xs e=>?_,fun b o u e=>?_,fun b ps e=>?_⟩ ?_ T6.bare (fun b z=>absurd z (by simp))
   ·have:=T6.un.tups b xs e
    rw [aA (aF this tn)]
    exact this
   ·have:=T6.un.frzs b o u e
    rw [aA (aF this tn)]
    exact this
   ·obtain ⟨m,this⟩:=T6.un.tbls b ps e
    exact ⟨m,by rw [aA (aF this tn)];exact this⟩
   ·intro b u e
    by_cases hb':b=ea
    ·subst hb'
     rw [aq] at e
     cases e
     exact O3 hl6
    ·rw [aA hb'] at e
     exact (T6.hok b u e).stay (fun c v _ q=>q) (fun c q=>by rw [aA (aF q tn)];exact q) fun c xs q=>by rw [aA (aF q tn)];exact q
  refine qI (X:=mz X ea) (L3.Inv.suite I6 ea) hN hi (.inl hl) (v:=.ref ea) rfl (fun s7 I7=>?_) (.inr hl)
  have hp:(X.env.scope.kind==.class || (X.env.scope.kind==.module && X.env.locals !=X.env.globals))=false:=by rw [I.ok.kind];rfl
  have gone:∀{σ8:L2.St} {H8:Hp} {s8:Shared} {Q':Shared→Prop},Inv (mz X ea) pins σ8 H8 s8→(∀s9,Inv X pins (σ8.set i none) H8 s9→Q' s9)→
    wpAny (model X.prog X.w) X.A (do bindName X.env n .none;unbindBehindTheSuite X.env n hpos) (fun _ s9=>Q' s9) X.xe s8:=fun {σ8 H8 s8 Q'} I8 hq=>by
   have I8':Inv X pins σ8 H8 s8:=Inv.unsuite I.ok.hd I8
   obtain ⟨m,hn,_⟩:=id I8'.loc
   refine wpAny_nameGoes_keeps hl hn hp fun h9 v hn9 sb9=>hq _ (Inv.forget I8' hN hi sb9 fun m' hm'=>?_)
   have em:m'=m:=by
    obtain ⟨o,es,ep,e1,e2,_,e3⟩:=hn
    obtain ⟨o',es',ep',e1',e2',_,e3'⟩:=hm'
    rw [e1] at e1'
    cases e1'
    rw [e2] at e2'
    cases e2'
    funext y
    rw [←e3 y,←e3' y]
   subst em
   exact ⟨v,hn9⟩
  refine wpAny_mono (hsuite ea pins s7 _ _ _ I7 (k ea tn)) (fun fl8 s8 q8=>?_) fun _ _ z=>False.elim z
  cases fl8 with
  | next=>obtain ⟨σ8,H8,I8,q⟩:=q8;exact gone I8 fun s9 I9=>⟨_,H8,I9,q⟩
  | brk=>obtain ⟨σ8,H8,I8,q⟩:=q8;exact gone I8 fun s9 I9=>⟨_,H8,I9,q⟩
  | cont=>obtain ⟨σ8,H8,I8,q⟩:=q8;exact gone I8 fun s9 I9=>⟨_,H8,I9,q⟩
  | ret u=>obtain ⟨v8,σ8,H8,I8,r8,q⟩:=q8;exact gone I8 fun s9 I9=>⟨v8,_,H8,I9,r8,q⟩
section
variable {X:Cx}
theorem Dg:fK X (.builtin "isinstance") (fun xs H Q=>∃(ea C dx:Addr) (b:Bool),H ea=some (exD ea C dx)∧kE X.K C∧((∃R,xs=[.ref ea,.ref R]∧PySem.W.kitOne X.K (.ref C) (.ref R)=some b)∨∃T,xs=[.ref ea,.ty T]∧PySem.W.kitOne X.K (.ref C) (.type T)=some b)∧Q (.bl b) H):=by
 intro pins s σ H xs us Q I r h
 obtain ⟨ea,C,dx,b,hea,c,hor,q⟩:=h
 obtain ⟨⟨vs,sl,hg⟩,_,_⟩:=(show bQ X.prog X.w H s.heap ea (exD ea C dx) from I.hok ea _ hea)
 have ty:tL s.heap ea C:=⟨_,hg,rfl⟩
 rcases hor with ⟨R,rfl,ka⟩ | ⟨T,rfl,ka⟩
 ·obtain ⟨u,w',rfl,ru,rw'⟩:=vals2 r
  cases ru
  cases rw'
  exact PySem.W.kia_one (lD c) I.kIn ty ka (fun z=>nomatch z) fun tk=>⟨.bl b,H,I.tok tk,rfl,q⟩
 ·obtain ⟨u,w',rfl,ru,rw'⟩:=vals2 r
  cases ru
  cases rw'
  exact PySem.W.kia_one (lD c) I.kIn ty ka (fun z=>nomatch z) fun tk=>⟨.bl b,H,I.tok tk,rfl,q⟩
end
theorem rD {K:PySem.W.Frag} {a:Addr} {xs:List V} {g:TG} {tb:TS} {D:Ends} {σ:L2.St} {H:Hp} (Pv:Nat→L2.St→Hp→Prop) (h0:Pv 0 σ H) (hl:∀i σ H,Pv i σ H→SqL K H a xs)
  (hs:∀i x σ H p,xs[i]?=some x→Pv i σ H→H p=none→g (.ref p) σ (upd H p (.tup [.int i,x])) fun σ2 H2=>tb {D with nx:=Pv (i+1),ct:=Pv (i+1),bk:=D.nx} σ2 H2) (hd:∀σ H,Pv xs.length σ H→D.nx σ H):
  ∃W:Nat→Nat→L2.St→Hp→Prop,(∃m,W 0 m σ H)∧∀i m σ H,W i m σ H→
   ((Ite K a).stop i H∧D.nx σ H)∨((Ite K a).go i H∧∃N:L2.St→Hp→Prop,(∀σ' H',N σ' H'→∃m',m' < m∧W (i+1) m' σ' H')∧∀x H',(Ite K a).yld i H x H'→g x σ H' fun σ2 H2=>tb {D with nx:=N,ct:=N,bk:=D.nx} σ2 H2):=by
 refine ⟨fun i m σ H=>m=xs.length - i∧i≤xs.length∧Pv i σ H,⟨xs.length,by simp,Nat.zero_le _,h0⟩,?_⟩
 rintro i m σ H ⟨rfl,hi,p⟩
 have q:=hl i σ H p
 by_cases hlt:i < xs.length
 ·refine .inr ⟨⟨xs,xs[i],q,by simp [hlt]⟩,Pv (i+1),fun σ' H' p'=>⟨xs.length - (i+1),by omega,rfl,hlt,p'⟩,fun v H' y=>?_⟩
  obtain ⟨r,x,hr,rfl,hx,rfl⟩:=y
  exact hs i x σ H r (hx xs q) p hr
 ·have e:i=xs.length:=by omega
  subst e
  exact .inl ⟨⟨xs,q,Nat.le_refl _⟩,hd σ H p⟩
end L3
namespace K1
open PySem L2 L3 M1
inductive yO (vs:(List L2.V)) (H:Hp) (Q:VK) (u_3:XK):Prop where
 | mk (c:Int) (m:Nat) (z1:vs=[.int c,.int m]) (z2:m≤12) (z3:∀(p:Addr) (H':Hp),H p=none→aN H H'→H' p=some (.lst (txs (iQ c m)))→Q (.ref p) H')
noncomputable def uD:Sp:=fun vs H Q u_3=>yO vs H Q u_3
theorem vG {c:Int} {m:Nat} (h:m≤12):Good (iQ c m):=⟨fun x hx=>by
 obtain ⟨k,_,rfl⟩:=List.mem_map.mp hx
 exact OJ c k,yM h,by rw [lH];exact h⟩
noncomputable def Dh (c:Int) (k j:Nat):Int:=c / 64+5 * (0+(j:Int)) * (0+(j:Int))+2 * (0+(k:Int)) * (if decide (V.int (0+(j:Int))=V.int (c / 8 % (1+c % 8)))=true then 1 else 0)
theorem Rx (c:Int) (k j:Nat):97+(Dh c k j % 26).toNat=hch c k j:=by
 unfold Dh hch
 rw [KQ c]
 by_cases h:j=hpl c
 ·subst h
  rw [if_pos rfl,if_pos (decide_eq_true (by rw [Int.zero_add])),Int.zero_add,Int.zero_add]
 ·rw [if_neg h,if_neg (by rw [decide_eq_false (fun z=>h (by have:=V.int.inj z;omega))];exact Bool.false_ne_true),Int.zero_add,Int.zero_add]
theorem lK {α:Type} (f:Nat→α) (n:Nat):(List.range (n+1)).map f=(List.range n).map f++[f n]:=by rw [List.range_succ,List.map_append];rfl
noncomputable def ltV (hs:List (List Nat)) (d:M1.Lt):List L2.V:=[.str (S (hs.getD d.a [])),.int d.t,.str (S (hs.getD d.b []))]
inductive K9 (vs:(List L2.V)) (H:Hp) (Q:VK) (u_3:XK):Prop where
 | mk (c b:Int) (a:Addr) (hs:List (List Nat)) (z1:vs=[.int c,.ref a,.int b]) (z2:H a=some (.lst (txs hs))) (z3:2≤hs.length) (z4:hs.length≤12) (z5:∀r,H r=none→Q (.ref r) (upd H r (.tup (ltV hs (lt hs.length c b)))))
noncomputable def Hi:Sp:=fun vs H Q u_3=>K9 vs H Q u_3
section
variable {P:Program} {w:World} {K:PySem.W.Frag} {mg:Str→Option Value} {base:Heap}
noncomputable abbrev sAt:Stmt:=top 42
theorem Ud:aX ["_law_script","_law_k"] ["_law_script","_law_k"] (aH sAt):=⟨rfl,rfl,rfl,by decide+kernel,rfl,by decide+kernel,by decide+kernel⟩
theorem Ry {f:Addr} {fd:FuncData} (F:Fun K "_law_cell_at" "_law_cell_at" sAt f fd) (len:mg "len"=none):aY P w K mg base CX0 1 f fd ["_law_script","_law_k"] (Rm K):=by
 refine F.ok Ud (fun vs H Q E h=>?_) (fun cdv A outer s H vs Q E hr h=>?_)
 ·obtain ⟨a,ns,k,rfl,_⟩:=h
  rfl
 ·obtain ⟨a,ns,k,rfl,hS,h0,q⟩:=h
  refine ⟨_,au (cF (bL qM (pv 1) (aG aO (by rfl) len PySem.boot_len (aa (pv 0) ao)) (bA _)) (aB (aR (aM bB (pv 0) (pv 1) (fun _ _=>rfl)))) bF) (aB (aR az)),?_⟩
  refine ⟨_,rfl,_,rfl,a,_,rfl,.inl hS,_,_,rfl,rfl,_,rfl,?_⟩
  refine Od (fun h=>?_) (fun h=>?_)
  ·have h1:=of_decide_eq_true h
   exact ⟨_,rfl,_,rfl,a,_,k,_,rfl,rfl,hS,vo h0 h1,q⟩
  ·have h1:¬k < ((ns.map V.int).length:Int):=fun z=>h (decide_eq_true z)
   rw [List.length_map] at h1
   have e:ns.getD k.toNat 0=0:=by
    rw [List.getD,List.getElem?_eq_none (by omega)]
    rfl
   rw [e] at q
   exact q
noncomputable abbrev n8:Stmt:=top 43
noncomputable abbrev Hn:List Str:=["_law_cell","_law_many","_law_letters","_law_size","_law_at","_law_names","_law_k","_law_name","_law_j","_law_place"]
theorem d9:aX Hn ["_law_cell","_law_many"] (aH n8):=⟨rfl,rfl,rfl,by decide+kernel,rfl,by decide+kernel,by decide+kernel⟩
theorem yP {f:Addr} {fd:FuncData} (F:Fun K "_law_houses" "_law_houses" n8 f fd) (B:Blt mg):aY P w K mg base CX0 1 f fd ["_law_cell","_law_many"] uD:=by
 refine F.ok d9 (fun vs H Q E h=>?_) (fun cdv A outer s H vs Q E hr h=>?_)
 ·obtain ⟨c,m,rfl,_⟩:=h
  rfl
 ·obtain ⟨c,m,rfl,hm,q⟩:=h
  refine ⟨_,(au (aP (i:=2) d9.nd rfl (Or.inl rfl) cI)
   (au (aP (i:=3) d9.nd rfl (Or.inl rfl) (aL cg az (aL bR (pv 0) az)))
   (au (aP (i:=4) d9.nd rfl (Or.inl rfl) (aL bR (aL eG (pv 0) az) (pv 3)))
   (au (aP (i:=5) d9.nd rfl (Or.inl rfl) (cj ao))
   (au (fY PassesOwn.never rfl (gV rfl B.range (aa (pv 1) ao)) (bw (i:=6) d9.nd rfl (Or.inl rfl))
    (au (aP (i:=7) d9.nd rfl (Or.inl rfl) cI)
   (au (fY PassesOwn.never rfl (gV rfl B.range (aa (pv 3) ao)) (bw (i:=8) d9.nd rfl (Or.inl rfl))
    (au (aP (i:=9) d9.nd rfl (Or.inl rfl) (aL cg (aL cg (aL eG (pv 0) az) (aL jM (aL jM az (pv 8)) (pv 8))) (aL jM (aL jM az (pv 6)) (gm Cj (by rfl) B.int vg (aa (cJ j9 (pv 8) (pv 4) (bA _)) ao)))))
   (aB (aP (i:=7) d9.nd rfl (Or.inl rfl) (aL yx (pv 7) (aM Oa (pv 2) (aL bR (pv 9) az) (fun _ _=>rfl)))))))
   (aB (iu (qT PySem.F.plainAttrs_list PySem.F.slot_list_append PySem.F.type_list_append gr (pv 5) (aa (pv 7) ao)))))))
   (aB (aR (pv 5)))))))),?_⟩
  have z1:=GJ c
  have z2:=KN c
  refine ⟨_,rfl,_,_,rfl,rfl,(by show (0:Int) < 8;decide),_,_,rfl,rfl,?_⟩
  refine ⟨_,rfl,_,_,rfl,rfl,⟨by decide,by decide⟩,_,rfl,_,_,rfl,rfl,(by show (0:Int) < 1+c % 8;omega),?_⟩
  refine ⟨Nat.zero_le _,fun p np=>⟨_,rfl,_,rfl,(by omega),(by omega),?_⟩⟩
  refine mq (lo:=0) (n:=m) (fun k σ H2=>H2=upd H p (.lst (txs (iQ c k)))∧∃a1 a2 a3 a4,σ=[some (.int c),some (.int m),some (.str (Str.ofString "abcdefghijklmnopqrstuvwxyz")),some (.int (1+c % 8)),some (.int (c / 8 % (1+c % 8))),some (.ref p),a1,a2,a3,a4]) ⟨rfl,none,none,none,none,rfl⟩ ?_ ?_
  ·rintro k σ H2 hk ⟨rfl,a1,a2,a3,a4,rfl⟩
   refine ⟨_,rfl,_,rfl,(by omega),(by omega),?_⟩
   refine mq (lo:=0) (n:=hsz c) (fun j σ H3=>H3=upd H p (.lst (txs (iQ c k)))∧∃b1 b2,σ=[some (.int c),some (.int m),some (.str (Str.ofString "abcdefghijklmnopqrstuvwxyz")),some (.int (1+c % 8)),some (.int (c / 8 % (1+c % 8))),some (.ref p),some (.int (0+(k:Int))),some (.str (S ((List.range j).map (hch c k)))),b1,b2]) ⟨rfl,a3,a4,rfl⟩ ?_ ?_
   ·rintro j σ H3 hj ⟨rfl,b1,b2,rfl⟩
    refine ⟨_,rfl,_,_,rfl,rfl,⟨by decide,by decide⟩,_,rfl,_,_,rfl,rfl,.inl ⟨by decide,by decide⟩,_,rfl,_,_,rfl,rfl,.inr ⟨by show -(2 ^ 64) < 0+(j:Int);omega,by show 0+(j:Int) < 2 ^ 64;omega⟩,_,_,rfl,rfl,_,rfl,_,_,rfl,rfl,.inl ⟨by decide,by decide⟩,_,rfl,_,rfl,rfl,.inr ⟨_,rfl,_,_,rfl,rfl,.inl ⟨by show -(2 ^ 64) < 2 * (0+(k:Int));omega,by show 2 * (0+(k:Int)) < 2 ^ 64;omega⟩,_,_,rfl,rfl,?_⟩⟩
    have k1:0≤Dh c k j % 26:=Int.emod_nonneg _ (by decide)
    have k2:Dh c k j % 26 < 26:=Int.emod_lt_of_pos _ (by decide)
    have l1:(⟨#[97+(Dh c k j % 26).toNat]⟩:Str).length=1:=rfl
    refine ⟨_,rfl,_,rfl,_,rfl,_,_,rfl,rfl,(by show (0:Int) < 26;decide),_,_,_,rfl,rfl,(by decide+kernel),Gh k1 k2,_,_,rfl,rfl,?_,rfl,some (.int (0+(j:Int))),some (.int (Dh c k j)),?_⟩
    ·rw [Gj,List.length_map,List.length_range]
     show j+1≤sizeLine
     exact Nat.le_of_lt (aV (by omega))
    ·rw [lK,←Ro,←Rx]
     rfl
   ·rintro σ H3 ⟨rfl,b1,b2,rfl⟩
    refine ⟨_,rfl,.inl ⟨rfl,_,SqL.of aq⟩,_,rfl,p,_,_,rfl,rfl,aq,aV (by rw [qu,lH];omega),?_,_,_,_,_,rfl⟩
    rw [qj]
    unfold iQ
    rw [lK]
    unfold txs
    rw [List.map_append]
    rfl
  ·rintro σ H2 ⟨rfl,a1,a2,a3,a4,rfl⟩
   exact ⟨_,rfl,q p _ np (aC np) aq⟩
noncomputable abbrev Ar:Stmt:=top 45
noncomputable abbrev Rz:List Str:=["_law_cell","_law_names","_law_base","_law_n","_law_many","_law_first","_law_last"]
theorem rE:aX Rz ["_law_cell","_law_names","_law_base"] (aH Ar):=⟨rfl,rfl,rfl,by decide+kernel,rfl,by decide+kernel,by decide+kernel⟩
theorem La {f:Addr} {fd:FuncData} (F:Fun K "_law_letter" "_law_letter" Ar f fd) (B:Blt mg):aY P w K mg base CX0 1 f fd ["_law_cell","_law_names","_law_base"] Hi:=by
 refine F.ok rE (fun vs H Q E h=>?_) (fun cdv A outer s H vs Q E hr h=>?_)
 ·obtain ⟨c,b,a,hs,rfl,_⟩:=h
  rfl
 ·obtain ⟨c,b,a,hs,rfl,ha,h2,h12,q⟩:=h
  refine ⟨_,(au (aP (i:=3) rE.nd rfl (Or.inl rfl) (aL bR (aL jM (pv 0) az) az))
   (au (aP (i:=4) rE.nd rfl (Or.inl rfl) (aG aO (by rfl) B.len b7 (aa (pv 1) ao)))
   (au (aP (i:=5) rE.nd rfl (Or.inl rfl) (aL bR (pv 3) (pv 4)))
   (au (aP (i:=6) rE.nd rfl (Or.inl rfl) (aL bR (aL cg (aL cg (pv 5) az) (aL bR (aL eG (pv 3) (pv 4)) (aL jL (pv 4) az))) (pv 4)))
   (aB (aR (bN (aa (aM bB (pv 1) (pv 5) (fun _ _=>rfl)) (aa (aL cg (pv 2) (aL bR (aL eG (pv 3) az) az)) (aa (aM bB (pv 1) (pv 6) (fun _ _=>rfl)) ao)))))))))),?_⟩
  have hl:=qu hs
  have b1:0≤nY hs.length c:=Int.emod_nonneg _ (by omega)
  have b2:nY hs.length c < hs.length:=Int.emod_lt_of_pos _ (by omega)
  have e1:0≤lend hs.length c:=Int.emod_nonneg _ (by omega)
  have e2:lend hs.length c < hs.length:=Int.emod_lt_of_pos _ (by omega)
  refine ⟨_,rfl,_,_,rfl,rfl,.inr ⟨by decide,by decide⟩,_,_,rfl,rfl,(by show (0:Int) < 10000000000037;decide),?_⟩
  refine ⟨_,rfl,a,_,rfl,.inl (SqL.of ha),?_⟩
  rw [hl]
  refine ⟨_,rfl,_,rfl,_,_,rfl,rfl,(by show (0:Int) < (hs.length:Int);omega),?_⟩
  refine ⟨_,rfl,_,_,rfl,rfl,_,rfl,_,rfl,_,_,rfl,rfl,⟨by show (0:Int) < (hs.length:Int);omega,by show (hs.length:Int) < 1073741824;omega⟩,_,rfl,_,_,rfl,rfl,_,_,rfl,rfl,(by show (0:Int) < (hs.length:Int) - 1;omega),_,_,rfl,rfl,_,rfl,_,_,rfl,rfl,(by show (0:Int) < (hs.length:Int);omega),?_⟩
  refine ⟨_,rfl,_,rfl,a,_,_,_,rfl,rfl,SqL.of ha,vp (k:=nY hs.length c) b1 b2,_,rfl,_,rfl,_,_,rfl,rfl,⟨by decide,by decide⟩,_,_,rfl,rfl,(by show (0:Int) < 31;decide),_,_,rfl,rfl,_,rfl,_,rfl,a,_,_,_,rfl,rfl,SqL.of ha,vp (k:=lend hs.length c) e1 e2,(by show 3≤sizeLine;decide),q⟩
end
open PySem L2 L3 M1
section
variable {P:Program} {w:World} {K:PySem.W.Frag} {mg:Str→Option Value} {base:Heap}
noncomputable abbrev m8:Stmt:=top 12
noncomputable abbrev oh:Stmt:=top 13
noncomputable abbrev o8:Stmt:=top 14
noncomputable abbrev ou:Stmt:=top 15
noncomputable abbrev Av:Stmt:=top 36
noncomputable abbrev Aw:Stmt:=top 37
noncomputable abbrev Ax:Stmt:=top 38
noncomputable abbrev Ay:Stmt:=top 39
theorem Az:aX ["thing"] ["thing"] (aH m8):=⟨rfl,rfl,rfl,by decide+kernel,rfl,by decide+kernel,by decide+kernel⟩
theorem Ho {f:Addr} {fd:FuncData} (F:Fun K "is_whole" "is_whole" m8 f fd) (B:Blt mg) (KT:Kit K):aY P w K mg base CX0 1 f fd ["thing"] Ai:=by
 refine F.ok Az (fun vs H Q E h=>?_) (fun cdv A outer s H vs Q E hr h=>?_)
 ·obtain ⟨i,rfl,_⟩:=h
  rfl
 ·obtain ⟨i,rfl,q⟩:=h
  refine ⟨_,(aB (aR (cz (aG cT (by rfl) B.isinstance aQ (aa (pv 0) (aa (fL (by rfl) B.int vg) ao))) (dN (yo (aG cT (by rfl) B.isinstance aQ (aa (pv 0) (aa (fL (by rfl) B.bool vh) ao)))))))),?_⟩
  refine ⟨_,rfl,_,_,_,_,_,rfl,⟨rfl,.int _,q9 _ _⟩,_,rfl,dm ?_⟩
  exact ⟨_,rfl,_,_,_,_,_,rfl,⟨rfl,.int _,KT.ib⟩,_,rfl,q⟩
theorem wY:aX ["thing","least","greatest"] ["thing","least","greatest"] (aH oh):=⟨rfl,rfl,rfl,by decide+kernel,rfl,by decide+kernel,by decide+kernel⟩
theorem Di {f fW:Addr} {fd fdW:FuncData} (F:Fun K "is_whole_within" "is_whole_within" oh f fd) (bh:Dn K mg "is_whole" m8 ["thing"] fW fdW)
  (dO:aY P w K mg base CX0 1 fW fdW ["thing"] Ai):aY P w K mg base CX0 2 f fd ["thing","least","greatest"] wQ:=by
 refine F.ok wY (fun vs H Q E h=>?_) (fun cdv A outer s H vs Q E hr h=>?_)
 ·obtain ⟨i,a,b,rfl,_⟩:=h
  rfl
 ·obtain ⟨i,a,b,rfl,h1,h2,q⟩:=h
  refine ⟨_,(aB (aR (cz (aZ dO (hr.mono (by decide)) (by rfl) bh.at_ bh.fn.kp bh.bd .nil bH (aa (pv 0) ao)) (dN (qO kY kY (pv 1) (pv 0) (pv 2)))))),?_⟩
  refine ⟨_,rfl,_,rfl,_,rfl,dm ?_⟩
  exact ⟨_,rfl,_,rfl,_,_,rfl,rfl,_,rfl,eF (decide_eq_true h1) ⟨_,rfl,_,_,rfl,rfl,pR (decide_eq_true h2) q⟩⟩
theorem Ba:aX ["thing","length"] ["thing","length"] (aH o8):=⟨rfl,rfl,rfl,by decide+kernel,rfl,by decide+kernel,by decide+kernel⟩
theorem Ht {f:Addr} {fd:FuncData} (F:Fun K "is_tuple_of" "is_tuple_of" o8 f fd) (B:Blt mg):aY P w K mg base CX0 1 f fd ["thing","length"] Aj:=by
 refine F.ok Ba (fun vs H Q E h=>?_) (fun cdv A outer s H vs Q E hr h=>?_)
 ·obtain ⟨r,xs,n,rfl,_⟩:=h
  rfl
 ·obtain ⟨r,xs,n,rfl,h1,h2,q⟩:=h
  refine ⟨_,(aB (aR (cz (aG cT (by rfl) B.isinstance aQ (aa (pv 0) (aa (fL (by rfl) B.tuple ju) ao))) (dN (cJ j9 (aG aO (by rfl) B.len b7 (aa (pv 0) ao)) (pv 1) (bA _)))))),?_⟩
  refine ⟨_,rfl,_,_,_,_,_,rfl,⟨rfl,.tup h1,q9 _ _⟩,_,rfl,dm ?_⟩
  exact ⟨_,rfl,r,_,rfl,.inr (SqT.of h1),_,rfl,rfl,pR (decide_eq_true (congrArg V.int h2)) q⟩
theorem wZ:aX ["houses","one","other"] ["houses","one","other"] (aH ou):=⟨rfl,rfl,rfl,by decide+kernel,rfl,by decide+kernel,by decide+kernel⟩
theorem Dj {f:Addr} {fd:FuncData} (F:Fun K "are_unlike_houses" "are_unlike_houses" ou f fd):aY P w K mg base CX0 1 f fd ["houses","one","other"] (wR K):=by
 refine F.ok wZ (fun vs H Q E h=>?_) (fun cdv A outer s H vs Q E hr h=>?_)
 ·obtain ⟨a,ys,x,y,rfl,_⟩:=h
  rfl
 ·obtain ⟨a,ys,x,y,rfl,hS,hx,hy,ne,q⟩:=h
  refine ⟨_,(aB (aR (cz (cJ oY (pv 1) (pv 0) (by rfl)) (cz (cJ oY (pv 2) (pv 0) (by rfl)) (dN (cJ wz (pv 1) (pv 2) (bA _))))))),?_⟩
  refine ⟨_,rfl,_,rfl,a,_,rfl,.inl hS,rfl,uA ys,_,rfl,eF (Ak hx) ?_⟩
  refine ⟨_,rfl,_,rfl,a,_,rfl,.inl hS,rfl,uA ys,_,rfl,eF (Ak hy) ?_⟩
  refine ⟨_,rfl,_,rfl,rfl,pR ?_ q⟩
  rw [decide_eq_false (fun z=>ne (V.str.inj z))]
  rfl
theorem O5:aX ["thing"] ["thing"] (aH Av):=⟨rfl,rfl,rfl,by decide+kernel,rfl,by decide+kernel,by decide+kernel⟩
theorem Lb {f:Addr} {fd:FuncData} (F:Fun K "is_name" "is_name" Av f fd) (B:Blt mg) (Cn:Gp mg):aY P w K mg base CX0 1 f fd ["thing"] Gn:=by
 refine F.ok O5 (fun vs H Q E h=>?_) (fun cdv A outer s H vs Q E hr h=>?_)
 ·obtain ⟨l,rfl,_⟩:=h
  rfl
 ·obtain ⟨l,rfl,hN,q⟩:=h
  refine ⟨_,(au (cF (PW.pt (jo (du (eE (aG cT (by rfl) B.isinstance aQ (aa (pv 0) (aa (fL (by rfl) B.str Gg) ao))))) (kW (du (nJ kY kY az (aG uZ (by rfl) B.len b7 (aa (pv 0) ao)) (lE (by rfl) Cn.MOST_SIGNS)))))) (aB (aR nG)) bF)
   (aB (aR (aG (jt rfl) (by rfl) B.all_ o5 (aa (nQ (N':=["sign"]) (cs:=[none]) rfl (Oh (pv 0)) rfl (by decide+kernel) rfl (by decide+kernel) (gY (fun p hp=>absurd hp (List.not_mem_nil))) rfl
    (.own .nil)
    (fun C s3 H3 fp pn=>⟨(bw (i:=0) (by show (["sign"]:List Str).Nodup;decide+kernel) rfl (.inl rfl)),gH,(qO uv uv cI (pv 0) cI)⟩)) ao))))),?_⟩
  have hl:=Gj l
  have hz:(S l).length≤sizeLine:=Nat.le_of_lt (aV (by rw [hl];have:=hN.2.1;omega))
  have h1:(1:Int)≤((S l).length:Int):=by have:=hN.1;omega
  have h8:((S l).length:Int)≤8:=by have:=hN.2.1;omega
  refine ⟨_,rfl,_,_,_,_,_,rfl,⟨rfl,.str _,q9 _ _⟩,_,rfl,dz ?_⟩
  refine ⟨_,rfl,_,rfl,hz,_,_,rfl,rfl,_,rfl,eF (decide_eq_true h1) ⟨_,_,rfl,rfl,_,rfl,Ab h8 ?_⟩⟩
  dsimp only [uh,yp,zT,tCB,kh]
  refine vm (J:=Its (S l)) (H1:=H) (xs:=signs (S l)) (rest:=[]) (fun R h=>⟨_,rfl,_,rfl,h⟩) rfl (Og _) (aV ?_) (fun _=>.bl true) (fun i x H2 R ex sm hR=>?_) (fun D H' h1 h2 h3=>?_)
  ·rw [Ah,List.length_map]
   have:=hN.2.1
   omega
  ·rw [Ah] at ex
   obtain ⟨k,hk,rfl⟩:=List.mem_map.mp (List.mem_of_getElem? ex)
   have hk2:=hN.2.2 k hk
   have e1:(!decide ((S [k]).cps.toList < (Str.ofString "a").cps.toList))=true:=by
    rw [sA]
    exact (Fv k 97).trans (decide_eq_true hk2.1)
   have e2:(!decide ((Str.ofString "z").cps.toList < (S [k]).cps.toList))=true:=by
    rw [sZ]
    exact (Fv 122 k).trans (decide_eq_true hk2.2)
   exact ⟨_,rfl,_,_,rfl,rfl,_,rfl,eF e1 ⟨_,_,rfl,rfl,pR e2 (hR H2 (aN.refl _))⟩⟩
  ·exact ⟨D,List.replicate (signs (S l)).length true,rfl,SqL.of (by rw [h2,rn]),pR (rA _) (q H' h3)⟩
theorem O6:aX ["things"] ["things"] (aH Aw):=⟨rfl,rfl,rfl,by decide+kernel,rfl,by decide+kernel,by decide+kernel⟩
theorem Ld {f fN:Addr} {fd fdN:FuncData} (F:Fun K "are_houses" "are_houses" Aw f fd) (B:Blt mg) (Cn:Gp mg) (gA:Dn K mg "is_name" Av ["thing"] fN fdN) (o9:aY P w K mg base CX0 1 fN fdN ["thing"] Gn):
  aY P w K mg base CX0 2 f fd ["things"] Gr:=by
 refine F.ok O6 (fun vs H Q E h=>?_) (fun cdv A outer s H vs Q E hr h=>?_)
 ·obtain ⟨a,hs,rfl,_⟩:=h
  rfl
 ·obtain ⟨a,hs,rfl,ha,hG,q⟩:=h
  refine ⟨_,(au (cF (PW.pt (jo (du (eE (aG cT (by rfl) B.isinstance aQ (aa (pv 0) (aa (fL (by rfl) B.list jT) ao))))) (kW (bL qN (aG aO (by rfl) B.len b7 (aa (pv 0) ao)) (lE (by rfl) Cn.MOST_HOUSES) (bA _))))) (aB (aR nG)) bF)
   (aB (aR (cz (aG (jt rfl) (by rfl) B.all_ o5 (aa (nQ (N':=["thing"]) (cs:=[none]) rfl (iw (pv 0)) rfl (by decide+kernel) rfl (by decide+kernel) (gY (fun p hp=>absurd hp (List.not_mem_nil))) rfl
    (.own .nil)
    (fun C s3 H3 fp pn=>⟨(bw (i:=0) (by show (["thing"]:List Str).Nodup;decide+kernel) rfl (.inl rfl)),gH,(aZ o9 (hr.mono (by decide)) (by rfl) gA.at_ gA.fn.kp gA.bd .nil bH (aa (pv 0) ao))⟩)) ao)) (dN (cJ j9 (aG tH (by rfl) B.len b7 (aa (gm (Fw rfl) (by rfl) B.set_ Ou (aa (pv 0) ao)) ao)) (aG aO (by rfl) B.len b7 (aa (pv 0) ao)) (bA _))))))),?_⟩
  have hl:=qu hs
  have hf:=hG.few
  refine ⟨_,rfl,_,_,_,_,_,rfl,⟨rfl,.lst ha,q9 _ _⟩,_,rfl,dz ?_⟩
  refine ⟨_,rfl,a,_,rfl,.inl (SqL.of ha),_,_,rfl,rfl,_,rfl,fM (decide_eq_false (by omega)) ?_⟩
  dsimp only [uh,yp,zT,tCB,kh]
  refine vm (J:=Itl K a) (H1:=H) (xs:=txs hs) (rest:=[]) (fun R h=>⟨_,rfl,a,rfl,⟨_,SqL.of ha⟩,h⟩) rfl (nT (SqL.of ha)) (aV (by omega)) (fun _=>.bl true) (fun i x H2 R ex sm hR=>?_) (fun D H' h1 h2 h3=>?_)
  ·obtain ⟨l,hl',rfl⟩:=List.mem_map.mp (List.mem_of_getElem? ex)
   exact ⟨_,rfl,l,rfl,hG.nm l hl',fun H' sm'=>hR H' sm'⟩
  ·refine ⟨D,List.replicate (txs hs).length true,rfl,SqL.of (by rw [h2,rn]),_,rfl,eF (rA _) ?_⟩
   have ha':=h3 _ _ ha
   refine ⟨_,rfl,a,hs.map S,rfl,SqL.of (by rw [ha',Ag]),(by rw [List.length_map];omega),fun p hp=>?_⟩
   have s2:aN H' (upd H' p (Kh P w p (o4 (fun i=>(hs.map S).getD i Str.empty) (hs.map S).length))):=aC hp
   refine ⟨p,_,rfl,aq,_,rfl,a,_,rfl,.inl (SqL.of (s2 _ _ ha')),rfl,pR (decide_eq_true ?_) (q _ (h3.trans s2))⟩
   rw [wH _ _ (Ks hG.nd),List.length_map,hl]
theorem O7:aX ["houses","thing"] ["houses","thing"] (aH Ax):=⟨rfl,rfl,rfl,by decide+kernel,rfl,by decide+kernel,by decide+kernel⟩
theorem Le {f f1 f2 f3:Addr} {fd fd1 fd2 fd3:FuncData} (F:Fun K "is_road" "is_road" Ax f fd) (Cn:Gp mg)
  (bM:Dn K mg "is_tuple_of" o8 ["thing","length"] f1 fd1) (fU:aY P w K mg base CX0 1 f1 fd1 ["thing","length"] Aj)
  (bI:Dn K mg "are_unlike_houses" ou ["houses","one","other"] f2 fd2) (fO:aY P w K mg base CX0 1 f2 fd2 ["houses","one","other"] (wR K))
  (bz:Dn K mg "is_whole_within" oh ["thing","least","greatest"] f3 fd3) (eQ:aY P w K mg base CX0 2 f3 fd3 ["thing","least","greatest"] wQ):
  aY P w K mg base CX0 3 f fd ["houses","thing"] (Gv K):=by
 refine F.ok O7 (fun vs H Q E h=>?_) (fun cdv A outer s H vs Q E hr h=>?_)
 ·obtain ⟨a,r,hs,d,rfl,_⟩:=h
  rfl
 ·obtain ⟨a,r,hs,d,rfl,hS,nd,ok,hr',q⟩:=h
  refine ⟨_,(aB (aR (cz (aZ fU (hr.mono (by decide)) (by rfl) bM.at_ bM.fn.kp bM.bd .nil bH (aa (pv 1) (aa az ao))) (cz (aZ fO (hr.mono (by decide)) (by rfl) bI.at_ bI.fn.kp bI.bd .nil bH (aa (pv 0) (aa (aM aU (pv 1) az (fun _ _=>rfl)) (aa (aM aU (pv 1) az (fun _ _=>rfl)) ao)))) (cz (aZ eQ (hr.mono (by decide)) (by rfl) bz.at_ bz.fn.kp bz.bd .nil bH (aa (aM aU (pv 1) az (fun _ _=>rfl)) (aa az (aa (lE (by rfl) Cn.MOST_TURNS) ao)))) (dN (aZ eQ (hr.mono (by decide)) (by rfl) bz.at_ bz.fn.kp bz.bd .nil bH (aa (aM aU (pv 1) az (fun _ _=>rfl)) (aa az (aa (lE (by rfl) Cn.MOST_ROOM) ao)))))))))),?_⟩
  have hS':SqL K H a ((hs.map S).map V.str):=by rw [←Ag];exact hS
  refine ⟨_,rfl,r,_,_,rfl,hr',rfl,_,rfl,dm ?_⟩
  refine ⟨_,rfl,_,rfl,r,_,_,_,rfl,rfl,SqT.of hr',rfl,_,rfl,r,_,_,_,rfl,rfl,SqT.of hr',rfl,a,hs.map S,_,_,rfl,hS',Gs ok.a,Gs ok.b,Rp nd ok.a ok.b ok.ne,_,rfl,dm ?_⟩
  refine ⟨_,rfl,r,_,_,_,rfl,rfl,SqT.of hr',rfl,_,_,_,rfl,ok.t.1,ok.t.2,_,rfl,dm ?_⟩
  exact ⟨_,rfl,r,_,_,_,rfl,rfl,SqT.of hr',rfl,_,_,_,rfl,ok.m.1,ok.m.2,q⟩
theorem O8:aX ["houses","things"] ["houses","things"] (aH Ay):=⟨rfl,rfl,rfl,by decide+kernel,rfl,by decide+kernel,by decide+kernel⟩
theorem Lf {f fN:Addr} {fd fdN:FuncData} (F:Fun K "are_roads" "are_roads" Ay f fd) (B:Blt mg) (Cn:Gp mg) (gB:Dn K mg "is_road" Ax ["houses","thing"] fN fdN) (ph:aY P w K mg base CX0 3 fN fdN ["houses","thing"] (Gv K)):
  aY P w K mg base CX0 4 f fd ["houses","things"] (Gx K):=by
 refine F.ok O8 (fun vs H Q E h=>?_) (fun cdv A outer s H vs Q E hr h=>?_)
 ·obtain ⟨a,b,hs,rs,ds,rfl,_⟩:=h
  rfl
 ·obtain ⟨a,b,hs,rs,ds,rfl,ha,nd,hb,hR,few,q⟩:=h
  refine ⟨_,(au (cF (PW.pt (jo (du (eE (aG cT (by rfl) B.isinstance aQ (aa (pv 1) (aa (fL (by rfl) B.list jT) ao))))) (kW (bL qN (aG aO (by rfl) B.len b7 (aa (pv 1) ao)) (lE (by rfl) Cn.MOST_ROADS) (bA _))))) (aB (aR nG)) bF)
   (aB (aR (aG (jt rfl) (by rfl) B.all_ o5 (aa (nQ (N':=["thing","houses"]) (cs:=[none,some 0]) rfl (iw (pv 1)) rfl (by decide+kernel) rfl (by decide+kernel) (gY (List.forall_mem_cons.mpr ⟨rfl,(fun p hp=>absurd hp (List.not_mem_nil))⟩)) rfl
    (.own (.cap rfl (.inl rfl) (.inl rfl) rfl .nil))
    (fun C s3 H3 fp pn=>⟨(bw (i:=0) (by show (["thing","houses"]:List Str).Nodup;decide+kernel) rfl (.inl rfl)),gH,(aZ ph (hr.mono (by decide)) (by rfl) gB.at_ gB.fn.kp gB.bd .nil bH (aa (pv 1) (aa (pv 0) ao)))⟩)) ao))))),?_⟩
  have hl:=bf rs
  refine ⟨_,rfl,_,_,_,_,_,rfl,⟨rfl,.lst hb,q9 _ _⟩,_,rfl,dz ?_⟩
  refine ⟨_,rfl,b,_,rfl,.inl (SqL.of hb),_,_,rfl,rfl,_,rfl,fM (decide_eq_false (by omega)) ?_⟩
  dsimp only [uh,yp,zT,tCB,kh]
  refine vm (J:=Itl K b) (H1:=H) (xs:=refs rs) (rest:=[some (.ref a)]) (fun R h=>⟨_,rfl,b,rfl,⟨_,SqL.of hb⟩,h⟩) rfl (nT (SqL.of hb)) (aV (by omega)) (fun _=>.bl true) (fun i x H2 R ex sm hr2=>?_) (fun D H' h1 h2 h3=>?_)
  ·unfold refs at ex
   rw [List.getElem?_map] at ex
   obtain ⟨r,er,rfl⟩:=Option.map_eq_some_iff.mp ex
   obtain ⟨d,_,ok,hd⟩:=hR.get er
   exact ⟨_,rfl,_,rfl,a,r,hs,d,rfl,sm.seq ha,nd,ok,sm _ _ hd,hr2 H2 (aN.refl _)⟩
  ·exact ⟨D,List.replicate (refs rs).length true,rfl,SqL.of (by rw [h2,rn]),pR (rA _) (q H' h3)⟩
noncomputable abbrev Bb:Stmt:=inClass (top 40) 0
noncomputable abbrev HB:Stmt:=inClass (top 40) 1
noncomputable abbrev qx:Stmt:=inClass (top 40) 2
theorem O9:aX ["self","houses","roads"] ["self","houses","roads"] (aH Bb):=⟨rfl,rfl,rfl,by decide+kernel,rfl,by decide+kernel,by decide+kernel⟩
theorem Lg {C f fH fR:Addr} {fd fdH fdR:FuncData} (F:Fun K "__init__" "Net.__init__" Bb f fd) (B:Blt mg) (NC:Ky K C)
  (dg:Dn K mg "are_houses" Aw ["things"] fH fdH) (jW:aY P w K mg base CX0 2 fH fdH ["things"] Gr)
  (dF:Dn K mg "are_roads" Ay ["houses","things"] fR fdR) (lL:aY P w K mg base CX0 4 fR fdR ["houses","things"] (Gx K)):
  aY P w K mg base CX0 5 f fd ["self","houses","roads"] (Gy K C):=by
 refine F.ok O9 (fun vs H Q E h=>?_) (fun cdv A outer s H vs Q E hr h=>?_)
 ·obtain ⟨x,dx,a,b,hs,rs,ds,rfl,_⟩:=h
  rfl
 ·obtain ⟨x,dx,a,b,hs,rs,ds,rfl,hx,ha,hG,hb,hR,few,q⟩:=h
  refine ⟨_,(au (cF (du (eE (aZ jW (hr.mono (by decide)) (by rfl) dg.at_ dg.fn.kp dg.bd .nil bH (aa (pv 1) ao)))) (aB qJ) bF)
   (au (cF (du (eE (aZ lL (hr.mono (by decide)) (by rfl) dF.at_ dF.fn.kp dF.bd .nil bH (aa (pv 1) (aa (pv 2) ao))))) (aB qJ) bF)
   (au (jm (pv 0) (gm iM (by rfl) B.list jT (aa (pv 1) ao)) rfl)
   (aB (jm (pv 0) (gm iM (by rfl) B.list jT (aa (pv 2) ao)) rfl))))),?_⟩
  refine ⟨_,rfl,a,hs,rfl,ha,hG,fun H1 s1=>⟨_,rfl,dz ?_⟩⟩
  refine ⟨_,rfl,_,rfl,a,b,hs,rs,ds,rfl,SqL.of (s1 _ _ ha),hG.nd,s1 _ _ hb,hR.same s1,few,fun H2 s2=>⟨_,rfl,dz ?_⟩⟩
  have s12:=s1.trans s2
  refine ⟨_,rfl,a,_,rfl,.inl (SqL.of (s12 _ _ ha)),fun a' ha'=>?_⟩
  have s3:aN H2 (upd H2 a' (.lst (txs hs))):=aC ha'
  have s13:=s12.trans s3
  have nx:x≠a':=aF (s12 _ _ hx) ha'
  refine ⟨_,rfl,x,C,dx,_,rfl,s13 _ _ hx,NC.cl,NC.nh,(by decide),?_⟩
  have hbx:b≠x:=fun e=>by rw [e,hx] at hb;cases hb
  have hb4:upd (upd H2 a' (.lst (txs hs))) x (.ins C dx (jN "kept_houses" (.ref a') [])) b=some (.lst (refs rs)):=by
   rw [aA hbx]
   exact s13 _ _ hb
  refine ⟨_,rfl,b,_,rfl,.inl (SqL.of hb4),fun b' hb'=>?_⟩
  have nx2:b'≠x:=fun e=>by rw [e,aq] at hb';cases hb'
  have nb:b'≠a':=fun e=>by rw [e,aA nx.symm,aq] at hb';cases hb'
  refine ⟨_,rfl,x,C,dx,_,rfl,(by rw [aA nx2.symm,aq]),NC.cl,NC.nr,(by show 1 < 1000;decide),?_⟩
  refine q _ a' b' (fun c o hc hH=>?_) (by rw [aq];rfl) ?_ ?_ ?_ ?_
  ·rw [aA hc]
   have:c≠b':=fun e=>by
    rw [←e,aA hc,s13 _ _ hH] at hb'
    cases hb'
   rw [aA this,aA hc]
   exact s13 _ _ hH
  ·rw [aA nx.symm,aA nb.symm,aA nx.symm,aq]
  ·rw [aA nx2,aq]
  ·exact s12.free ha'
  ·rw [aA nx2,aA nb] at hb'
   exact s12.free hb'
theorem Qw:aX ["self"] ["self"] (aH HB):=⟨rfl,rfl,rfl,by decide+kernel,rfl,by decide+kernel,by decide+kernel⟩
theorem HD:aX ["self"] ["self"] (aH qx):=⟨rfl,rfl,rfl,by decide+kernel,rfl,by decide+kernel,by decide+kernel⟩
theorem Dk {C f:Addr} {fd:FuncData} (F:Fun K "roads" "Net.roads" qx f fd) (B:Blt mg) (NC:Ky K C):aY P w K mg base CX0 1 f fd ["self"] (wU C):=by
 refine F.ok HD (fun vs H Q E h=>?_) (fun cdv A outer s H vs Q E hr h=>?_)
 ·obtain ⟨x,a',b',xs,ys,rfl,_⟩:=h
  rfl
 ·obtain ⟨x,a',b',xs,ys,rfl,n,q⟩:=h
  obtain ⟨dx,hx⟩:=n.ins
  refine ⟨_,(aB (aR (gm iM (by rfl) B.list jT (aa (iI (pv 0) (by rfl)) ao)))),?_⟩
  exact ⟨_,rfl,x,C,dx,_,_,rfl,hx,NC.cl,NC.nr,rfl,b',_,rfl,.inl (SqL.of n.roa),q⟩
end
open PySem L2 L3 M1
theorem M4 {P:Program} {w:World} {X:Cx}:jO (CXd P w) X E0:=fun _ _ _ _ _ _ _ h=>by
 obtain ⟨_,_,_,_,_,_,_,_,_,h⟩:=h
 exact h.elim
theorem Lh {wi:TI} {cs:List (Option Nat)} {te:TE} {σ rest:L2.St} {H H1:Hp} {Q:VK} {J:It} {xs:List L2.V} (hw:∀R:It→Hp→Prop,R J H1→wi σ H R) (hcs:jQ cs σ=none::rest) (wk:Wk J H1 xs) (hl:xs.length < sizeLine) (f:L2.V→List L2.V)
  (elt:∀(i:Nat) (x:L2.V) (H2:Hp) (R:VK),xs[i]?=some x→aN H1 H2→(∀r H5,aN H2 H5→H5 r=some (.tup (f x))→R (.ref r) H5)→te (some x::rest) H2 R)
  (fin:∀(D:Addr) (H':Hp) (rs:List Addr),H1 D=none→H' D=some (.lst (refs rs))→f9 H' rs (xs.map f)→aN H1 H'→Q (.ref D) H'):tLC wi cs (dX 0) u5 te σ H Q:=by
 refine hw _ fun D hD=>?_
 refine ⟨fun i m ys σ' H'=>m=xs.length - i∧i≤xs.length∧(∃rs,ys=refs rs∧f9 H' rs ((xs.take i).map f))∧(∃o,σ'=o::rest)∧aN H1 H'∧H' D=some (.lst ys),⟨xs.length,by simp,Nat.zero_le _,⟨[],rfl,.nil⟩,⟨none,hcs⟩,fun b o e=>?_,aq⟩,?_⟩
 ·rw [aA (aF e hD)]
  exact e
 ·rintro i m ys σ' H' ⟨rfl,hi,⟨rs,rfl,tp⟩,⟨o,rfl⟩,sm,hHD⟩
  obtain ⟨w1,w2,w3⟩:=wk H' sm
  have ln:=tp.len
  rw [List.length_map,List.length_take,Nat.min_eq_left hi] at ln
  refine ⟨hHD,Nat.lt_of_le_of_lt (by rw [bf];omega) hl,?_⟩
  by_cases hlt:i < xs.length
  ·refine .inr ⟨w2 i hlt,fun x H2 y=>?_⟩
   obtain ⟨rfl,ex⟩:=w3 i x H2 hlt y
   have tk:xs.take (i+1)=xs.take i++[x]:=by rw [List.take_add_one,ex];rfl
   show te (some x::rest) H2 _
   refine elt i x H2 _ ex sm fun r H5 s5 hr=>⟨s5 _ _ hHD,xs.length - (i+1),by omega,rfl,hlt,⟨rs++[r],uz rs r,?_⟩,⟨_,rfl⟩,fun b ob e=>?_,aq⟩
   ·rw [tk,List.map_append]
    exact f9.upd (Paired.snoc (F:=fun r d=>H5 r=some (.tup d)) hr (tp.same s5)) (s5 _ _ hHD) (by intro d z;cases z)
   ·rw [aA (aF e hD)]
    exact s5 _ _ (sm _ _ e)
  ·have e:i=xs.length:=by omega
   subst e
   rw [List.take_length] at tp
   exact .inl ⟨w1,fin D H' rs hD hHD tp sm⟩
theorem xf {K:PySem.W.Frag} {wi:TI} {cs:List (Option Nat)} {te:TE} {σ rest:L2.St} {H Hs:Hp} {Q:VK} {xs:List L2.V} (hw:∀R:It→Hp→Prop,(∀p,Hs p=none→R (Itl K p) (upd Hs p (.lst xs)))→wi σ H R) (hcs:jQ cs σ=none::rest) (hl:xs.length < sizeLine) (f:L2.V→List L2.V)
  (elt:∀(i:Nat) (x:L2.V) (H2:Hp) (R:VK),xs[i]?=some x→aN Hs H2→(∀r H5,aN H2 H5→H5 r=some (.tup (f x))→R (.ref r) H5)→te (some x::rest) H2 R)
  (fin:∀(D:Addr) (H':Hp) (rs:List Addr),H' D=some (.lst (refs rs))→f9 H' rs (xs.map f)→aN Hs H'→Q (.ref D) H'):tLC wi cs (dX 0) u5 te σ H Q:=
 hw _ fun p hp=>Lh (wi:=fun _ _ R=>R (Itl K p) (upd Hs p (.lst xs))) (H:=Hs) (fun R h=>h) hcs (nT (SqL.of aq)) hl f (fun i x H2 R ex sm k=>elt i x H2 R ex ((aC hp).trans sm) k) fun D H' rs _ h2 h3 h4=>fin D H' rs h2 h3 ((aC hp).trans h4)
theorem M5 {ds:List PyData} {n:Nat} (h:∀d∈ds,d.depth≤n):(PyData.list ds).depth≤n+1:=Nat.succ_le_succ (gw h)
theorem qy {wi:TI} {cs:List (Option Nat)} {te:TE} {σ rest:L2.St} {H H1:Hp} {Q:VK} {J:It} {xs:List L2.V} (hw:∀R:It→Hp→Prop,R J H1→wi σ H R) (hcs:jQ cs σ=none::rest) (wk:Wk J H1 xs) (hl:xs.length < sizeLine) (f:Nat→L2.V)
  (elt:∀(i:Nat) (x:L2.V) (H2:Hp) (R:VK),xs[i]?=some x→aN H1 H2→(∀H5,aN H2 H5→R (f i) H5)→te (some x::rest) H2 R)
  (fin:∀(D:Addr) (H':Hp),H1 D=none→H' D=some (.lst ((List.range xs.length).map f))→aN H1 H'→Q (.ref D) H'):tLC wi cs (dX 0) u5 te σ H Q:=by
 refine hw _ fun D hD=>?_
 refine ⟨fun i m ys σ' H'=>m=xs.length - i∧i≤xs.length∧ys=(List.range i).map f∧(∃o,σ'=o::rest)∧aN H1 H'∧H' D=some (.lst ys),⟨xs.length,by simp,Nat.zero_le _,rfl,⟨none,by rw [hcs]⟩,fun b o e=>?_,aq⟩,?_⟩
 ·rw [aA (aF e hD)]
  exact e
 ·rintro i m ys σ' H' ⟨rfl,hi,rfl,⟨o,rfl⟩,sm,hHD⟩
  obtain ⟨w1,w2,w3⟩:=wk H' sm
  refine ⟨hHD,Nat.lt_of_le_of_lt (by rw [List.length_map,List.length_range];omega) hl,?_⟩
  by_cases hlt:i < xs.length
  ·refine .inr ⟨w2 i hlt,fun x H2 y=>?_⟩
   obtain ⟨rfl,ex⟩:=w3 i x H2 hlt y
   show te (some x::rest) H2 _
   refine elt i x H2 _ ex sm fun H5 s5=>⟨s5 _ _ hHD,xs.length - (i+1),by omega,rfl,hlt,?_,⟨_,rfl⟩,fun b ob e=>?_,aq⟩
   ·rw [List.range_succ,List.map_append]
    rfl
   ·rw [aA (aF e hD)]
    exact s5 _ _ (sm _ _ e)
  ·have e:i=xs.length:=by omega
   subst e
   exact .inl ⟨w1,fin D H' hD hHD sm⟩
end K1
namespace L3
open PySem PySem.Spec PyProof.Rows L2
noncomputable def stepV {α:Type} (xs:List α) (lo hi:Option Int) (st:Int):List α:=
 (sliceRange (sliceBounds lo hi (some st) xs.length).1 (sliceBounds lo hi (some st) xs.length).2.1 (sliceBounds lo hi (some st) xs.length).2.2).filterMap (xs[·]?)
theorem pq {xs:List V} {us:List Value} (h:Vals xs us):∀is:List Nat,Vals (is.filterMap (xs[·]?)) (is.filterMap (us[·]?))
 | []=>.nil
 | i::r=>by
  cases e:xs[i]? with
  | none=>
   rw [List.filterMap_cons_none e,List.filterMap_cons_none (h.none_of e)]
   exact pq h r
  | some x=>
   obtain ⟨u,e2,ru⟩:=h.get e
   rw [List.filterMap_cons_some e,List.filterMap_cons_some e2]
   exact .cons ru (pq h r)
theorem uE {α β:Type} (f:α→β) (xs:List α) (lo hi:Option Int) (st:Int):stepV (xs.map f) lo hi st=(stepV xs lo hi st).map f:=by
 unfold stepV
 rw [List.length_map,List.map_filterMap]
 congr 1
 funext i
 exact List.getElem?_map
theorem uF {α:Type} (xs:List α) (lo hi:Nat):(stepV xs (some (lo:Int)) (some (hi:Int)) 2).length≤(hi - lo+1) / 2:=by
 unfold stepV
 refine Nat.le_trans (List.length_filterMap_le _ _) ?_
 unfold sliceRange
 rw [List.length_map,List.length_range]
 have e1:(sliceBounds (some (lo:Int)) (some (hi:Int)) (some 2) xs.length).1=max 0 (min (lo:Int) xs.length):=by
  have h0:¬((lo:Int) < 0):=by omega
  simp [sliceBounds,h0]
 have e2:(sliceBounds (some (lo:Int)) (some (hi:Int)) (some 2) xs.length).2.1=max 0 (min (hi:Int) xs.length):=by
  have h0:¬((hi:Int) < 0):=by omega
  simp [sliceBounds,h0]
 have e3:(sliceBounds (some (lo:Int)) (some (hi:Int)) (some 2) xs.length).2.2=2:=rfl
 rw [e1,e2,e3]
 rw [if_pos (by decide)]
 split <;> omega
theorem yQ {K:PySem.W.Frag} {a:Addr} {xs:List V} {H1:Hp} (h:SqT K H1 a xs) (k:∀H',aN H1 H'→SqT K H' a xs):Wk (Itt K a) H1 xs:=fun H' sm=>
 ⟨⟨xs,k H' sm,Nat.le_refl _⟩,fun i hi=>⟨xs,xs[i],k H' sm,by simp [hi]⟩,fun i x H2 _ y=>⟨y.1,y.2 xs (k H' sm)⟩⟩
section
variable {X:Cx} {e:Expr} {te:TE} {pos p2:Pos} {lo hi:Option Expr} {tl th:TO}
noncomputable def Ue (K:PySem.W.Frag) (te:TE) (tl th:TO) (tk:TE):TE:=fun σ H Q=>te σ H fun x H1=>tl σ H1 fun l H2=>th σ H2 fun u H3=>tk σ H3 fun k H4=>∃a xs i,x=.ref a∧k=.int i∧i≠0∧SqL K H4 a xs∧
 ∀p,H4 p=none→Q (.ref p) (upd H4 p (.lst (stepV xs l u i)))
theorem uG {st:Expr} {tk:TE} (he:PE X e te) (hl:PO X lo tl) (hu:PO X hi th) (hk:PE X st tk):PE X (.Subscript e (.Slice lo hi (some st) p2) pos) (Ue X.K te tl th tk):=by
 intro pins s σ H Q I h
 refine Subscript_ (thn (he pins s σ H _ I h) fun v s1 ⟨x,H1,I1,r1,q1⟩=>?_)
 refine wpAny_Slice (thn (hl pins s1 σ H1 _ I1 q1) fun vl s2 ⟨l,H2,I2,pl',q2⟩=>thn (hu pins s2 σ H2 _ I2 q2) fun vu s3 ⟨u,H3,I3,pu,q3⟩=>?_)
 rw [evalPart_some]
 refine thn (hk pins s3 σ H3 _ I3 q3) fun kv s4 ⟨k,H4,I4,r4,q4⟩=>?_
 obtain ⟨a,xs,i,rfl,rfl,hi0,hx,q⟩:=q4
 cases r1
 obtain ⟨t,rfl⟩:=r4
 have I5:Inv X pins σ H4 {s4 with heap:=s4.heap.push {cls:=.type "slice",data:=.fields #[vl,vu,.int i t]}}:=I4.kept (t':=s4.toks) fun b ob q=>Heap.get?_push_of_some _ q
 obtain ⟨its,r,pl,hz⟩:=I5.list hx
 have hlen:=r.length
 have hg:wpAny (model X.prog X.w) X.A (getItem (.ref a) (.ref s4.heap.objs.size)) (EP X pins σ Q) X.xe {s4 with heap:=s4.heap.push {cls:=.type "slice",data:=.fields #[vl,vu,.int i t]}}:=by
  refine wpAny_getItem_list_slice pl.isList (Heap.IsSliceOf.new ..) pl' pu (.int i t) (by intro z;exact hi0 (Option.some.inj z)) ?_ (by rw [List.size_toArray] <;> omega)
  have ep:slicePick its.toArray l u (some i)=(stepV its l u i).toArray:=by
   unfold slicePick stepV
   rw [List.size_toArray]
   simp only [List.getElem?_toArray]
  have rs:Vals (stepV xs l u i) (stepV its l u i):=by
   unfold stepV
   rw [hlen]
   exact pq r _
  have hz2:(stepV xs l u i).length≤sizeLine:=by
   have:=slicePick_size_le its.toArray l u (some i)
   rw [ep,List.size_toArray,List.size_toArray] at this
   rw [rs.length]
   omega
  rw [ep]
  refine ⟨.ref _,_,I5.laid (t':=s4.toks) (o:=.lst (stepV xs l u i)) (fun b ob q=>Heap.get?_push_of_some _ q) (Nat.le_refl _) ?_,rfl,q _ (I5.hok.fresh (Nat.le_refl _))⟩
  exact ⟨hz2,_,0,rs,Heap.get?_push_size _ rfl⟩
 show wpAny (model X.prog X.w) X.A (subscriptTail e (.Slice lo hi (some st) p2) (.ref a) (.ref s4.heap.objs.size)) (EP X pins σ Q) X.xe {s4 with heap:=s4.heap.push {cls:=.type "slice",data:=.fields #[vl,vu,.int i t]}}
 exact tail_any (ops:=[.ref a,.ref s4.heap.objs.size]) pl.isList.typeIs slot_list_getitem.lookup hg (by with_unfolding_all rfl)
theorem RB:bootBuiltins "min"=some (.builtin "min"):=by decide+kernel
theorem RD:bootBuiltins "max"=some (.builtin "max"):=by decide+kernel
end
end L3
namespace K1
open PySem L2 L3 M1
theorem HF {wi:TI} {cs:List (Option Nat)} {tt:TT} {te:TE} {σ rest:L2.St} {H H1:Hp} {Q:VK} {J:It} {xs:List L2.V} (hw:∀R:It→Hp→Prop,R J H1→wi σ H R) (hcs:jQ cs σ=none::rest) (wk:Wk J H1 xs) (hl:xs.length < sizeLine) (p:Nat→Bool) (f:Nat→L2.V)
  (test:∀(i:Nat) (x:L2.V) (H2:Hp) (R:Bool→Hp→Prop),xs[i]?=some x→aN H1 H2→(∀H5,aN H2 H5→R (p i) H5)→tt (some x::rest) H2 R)
  (elt:∀(i:Nat) (x:L2.V) (H2:Hp) (R:VK),xs[i]?=some x→p i=true→aN H1 H2→(∀H5,aN H2 H5→R (f i) H5)→te (some x::rest) H2 R)
  (fin:∀(D:Addr) (H':Hp),H1 D=none→H' D=some (.lst (((List.range xs.length).filter p).map f))→aN H1 H'→Q (.ref D) H'):tLC wi cs (dX 0) tt te σ H Q:=by
 refine hw _ fun D hD=>?_
 refine ⟨fun i m ys σ' H'=>m=xs.length - i∧i≤xs.length∧ys=((List.range i).filter p).map f∧(∃o,σ'=o::rest)∧aN H1 H'∧H' D=some (.lst ys),⟨xs.length,by simp,Nat.zero_le _,rfl,⟨none,by rw [hcs]⟩,fun b o e=>?_,aq⟩,?_⟩
 ·rw [aA (aF e hD)]
  exact e
 ·rintro i m ys σ' H' ⟨rfl,hi,rfl,⟨o,rfl⟩,sm,hHD⟩
  obtain ⟨w1,w2,w3⟩:=wk H' sm
  refine ⟨hHD,Nat.lt_of_le_of_lt ?_ hl,?_⟩
  ·rw [List.length_map]
   refine Nat.le_trans (List.length_filter_le _ _) ?_
   rw [List.length_range]
   exact hi
  by_cases hlt:i < xs.length
  ·refine .inr ⟨w2 i hlt,fun x H2 y=>?_⟩
   obtain ⟨rfl,ex⟩:=w3 i x H2 hlt y
   show tt (some x::rest) H2 _
   refine test i x H2 _ ex sm fun H4 s4=>?_
   cases hp:p i with
   | true=>
    refine dm ?_
    refine elt i x H4 _ ex hp (sm.trans s4) fun H5 s5=>⟨s5 _ _ (s4 _ _ hHD),xs.length - (i+1),by omega,rfl,hlt,?_,⟨_,rfl⟩,fun b ob e=>?_,aq⟩
    ·rw [List.range_succ,List.filter_append,List.map_append]
     simp [hp]
    ·rw [aA (aF e hD)]
     exact s5 _ _ (s4 _ _ (sm _ _ e))
   | false=>
    refine dz ⟨xs.length - (i+1),by omega,rfl,hlt,?_,⟨_,rfl⟩,sm.trans s4,s4 _ _ hHD⟩
    rw [List.range_succ,List.filter_append,List.map_append]
    simp [hp]
  ·have e:i=xs.length:=by omega
   subst e
   exact .inl ⟨w1,fin D H' hD hHD sm⟩
theorem dG {α:Type} {l:List α} {i:Nat} {x d:α} (e:l[i]?=some x):l.getD i d=x:=by rw [List.getD,e];rfl
theorem pA {α β:Type} (q:α→Bool) (g:α→β) (d0:α) (ls:List α):(((List.range ls.length).filter fun i=>q (ls.getD i d0)).map fun i=>g (ls.getD i d0))=(ls.filter q).map g:=by
 have h:ls=(List.range ls.length).map fun i=>ls.getD i d0:=by
  apply List.ext_getElem
  ·simp
  ·intro i h1 h2
   simp [List.getD,h1]
 have e:(ls.filter q).map g=(((List.range ls.length).map fun i=>ls.getD i d0).filter q).map g:=by rw [←h]
 rw [e,List.filter_map,List.map_map]
 rfl
structure Step where
 left:Int
 by_:Option Int
 house:Str
 due:Int
noncomputable def byV:Option Int→L2.V
 | none=>.non
 | some i=>.int i
noncomputable def stV (s:Step):List L2.V:=[.int s.left,byV s.by_,.str s.house,.int s.due]
noncomputable def vH (n g st:Addr):List (Str × L2.V):=[("net",.ref n),("goals",.ref g),("steps",.ref st)]
noncomputable def cD (H:Hp) (l:Addr) (ss:List Step):Prop:=∃ts,H l=some (.lst (refs ts))∧f9 H ts (ss.map stV)
structure WalkAt (C:Addr) (H:Hp) (x n g st:Addr) (gs:List Str) (ls:List Addr) (sss:List (List Step)):Prop where
 ins:∃dx,H x=some (.ins C dx (vH n g st))
 goals:H g=some (.lst (gs.map V.str))
 steps:H st=some (.lst (refs ls))
 each:Paired (cD H) ls sss
structure mQ (K:PySem.W.Frag) (C:Addr):Prop where
 cl:Cls K C
 nn:PySem.W.findIn K (.ref C) "net"=some none
 ng:PySem.W.findIn K (.ref C) "goals"=some none
 ns:PySem.W.findIn K (.ref C) "steps"=some none
inductive HH (C:Addr) (vs:(List L2.V)) (H:Hp) (Q:VK) (u_3:XK):Prop where
 | mk (x n g st:Addr) (gs:List Str) (ls:List Addr) (sss:List (List Step)) (k:Nat) (ss:List Step) (s:Step) (z1:vs=[.ref x,.int k]) (z2:WalkAt C H x n g st gs ls sss) (z3:sss[k]?=some (ss++[s])) (z4:Q (.str s.house) H)
noncomputable def vI (C:Addr):Sp:=fun vs H Q u_3=>HH C vs H Q u_3
inductive HJ (C:Addr) (vs:(List L2.V)) (H:Hp) (Q:VK) (u_3:XK):Prop where
 | mk (x n g st:Addr) (gs:List Str) (ls:List Addr) (sss:List (List Step)) (k:Nat) (ss:List Step) (s:Step) (z1:vs=[.ref x,.int k]) (z2:WalkAt C H x n g st gs ls sss) (z3:sss[k]?=some (ss++[s])) (z4:Q (.int s.due) H)
noncomputable def vJ (C:Addr):Sp:=fun vs H Q u_3=>HJ C vs H Q u_3
theorem pB {xs:List L2.V} {v:L2.V}:L2.atI (xs++[v]) (-1)=some v:=by
 unfold L2.atI L2.ixN
 rw [List.length_append,if_neg (by decide),if_pos (by show -((xs.length+1:Nat):Int)≤-1;omega)]
 show (xs++[v])[((-1:Int)+((xs.length+1:Nat):Int)).toNat]?=_
 have e:((-1:Int)+((xs.length+1:Nat):Int)).toNat=xs.length:=by omega
 rw [e]
 simp
section
variable {P:Program} {w:World} {K:PySem.W.Frag} {mg:Str→Option Value} {base:Heap}
noncomputable abbrev rF:Stmt:=inClass (top 23) 4
theorem Li:aX ["self","number"] ["self","number"] (aH rF):=⟨rfl,rfl,rfl,by decide+kernel,rfl,by decide+kernel,by decide+kernel⟩
theorem Bc {C:Addr} {H:Hp} {x n g st:Addr} {gs:List Str} {ls:List Addr} {sss:List (List Step)} {k:Nat} {ss:List Step} {s:Step} (W:WalkAt C H x n g st gs ls sss) (e:sss[k]?=some (ss++[s])):
  ∃l ts t,ls[k]?=some l∧H l=some (.lst (refs (ts++[t])))∧H t=some (.tup (stV s)):=by
 have ln:=Paired.length W.each
 obtain ⟨hk,_⟩:=List.getElem?_eq_some_iff.mp e
 obtain ⟨l,el⟩:∃l,ls[k]?=some l:=⟨_,List.getElem?_eq_getElem (by omega)⟩
 obtain ⟨ss',es,ts,hl,tp⟩:=Paired.get W.each el
 rw [e] at es
 cases es
 have lt:=tp.len
 rw [List.length_map,List.length_append] at lt
 simp only [List.length_cons,List.length_nil] at lt
 obtain ⟨t,et⟩:∃t,ts[ss.length]?=some t:=⟨_,List.getElem?_eq_getElem (by omega)⟩
 obtain ⟨d,ed,hd⟩:=Paired.get tp et
 rw [List.map_append,List.getElem?_append_right (by rw [List.length_map];omega),List.length_map,Nat.sub_self] at ed
 cases ed
 refine ⟨l,ts.take ss.length,t,el,?_,hd⟩
 have e2:ts=ts.take ss.length++[t]:=by
  have this:=(List.take_append_drop ss.length ts).symm
  have hd2:ts.drop ss.length=[t]:=by
   rw [List.drop_eq_getElem_cons (by omega:ss.length < ts.length)]
   rw [List.getElem?_eq_getElem (by omega:ss.length < ts.length)] at et
   cases et
   rw [List.drop_eq_nil_of_le (by omega)]
  rw [hd2] at this
  exact this
 rw [←e2]
 exact hl
theorem HN {C f:Addr} {fd:FuncData} (F:Fun K "last_house" "Walk.last_house" rF f fd) (WC:mQ K C):aY P w K mg base CX0 1 f fd ["self","number"] (vI C):=by
 refine F.ok Li (fun vs H Q E h=>?_) (fun cdv A outer s H vs Q E hr h=>?_)
 ·obtain ⟨x,n,g,st,gs,ls,sss,k,ss,s',rfl,_⟩:=h
  rfl
 ·obtain ⟨x,n,g,st,gs,ls,sss,k,ss,s',rfl,W,es,q⟩:=h
  obtain ⟨dx,hx⟩:=W.ins
  obtain ⟨l,ts,t,el,hl,ht⟩:=Bc W es
  refine ⟨_,(aB (aR (aM aU (aM bB (aM bB (iI (pv 0) (by rfl)) (pv 1) (fun _ _=>rfl)) (qL mY az) (fun _ _=>rfl)) az (fun _ _=>rfl)))),?_⟩
  have h1:L2.atI (refs (ts++[t])) (-1)=some (.ref t):=by unfold refs;rw [List.map_append];exact pB
  exact ⟨_,rfl,x,C,dx,_,_,rfl,hx,WC.cl,WC.ns,rfl,_,rfl,st,_,_,_,rfl,rfl,SqL.of W.steps,cu (by unfold refs;rw [List.getElem?_map,el];rfl),_,rfl,l,_,_,_,rfl,rfl,SqL.of hl,h1,t,_,_,_,rfl,rfl,SqT.of ht,rfl,q⟩
noncomputable abbrev rG:Stmt:=inClass (top 23) 5
theorem Lj:aX ["self","number"] ["self","number"] (aH rG):=⟨rfl,rfl,rfl,by decide+kernel,rfl,by decide+kernel,by decide+kernel⟩
theorem HQ {C f:Addr} {fd:FuncData} (F:Fun K "last_turn" "Walk.last_turn" rG f fd) (WC:mQ K C):aY P w K mg base CX0 1 f fd ["self","number"] (vJ C):=by
 refine F.ok Lj (fun vs H Q E h=>?_) (fun cdv A outer s H vs Q E hr h=>?_)
 ·obtain ⟨x,n,g,st,gs,ls,sss,k,ss,s',rfl,_⟩:=h
  rfl
 ·obtain ⟨x,n,g,st,gs,ls,sss,k,ss,s',rfl,W,es,q⟩:=h
  obtain ⟨dx,hx⟩:=W.ins
  obtain ⟨l,ts,t,el,hl,ht⟩:=Bc W es
  refine ⟨_,(aB (aR (aM aU (aM bB (aM bB (iI (pv 0) (by rfl)) (pv 1) (fun _ _=>rfl)) (qL mY az) (fun _ _=>rfl)) az (fun _ _=>rfl)))),?_⟩
  have h1:L2.atI (refs (ts++[t])) (-1)=some (.ref t):=by unfold refs;rw [List.map_append];exact pB
  exact ⟨_,rfl,x,C,dx,_,_,rfl,hx,WC.cl,WC.ns,rfl,_,rfl,st,_,_,_,rfl,rfl,SqL.of W.steps,cu (by unfold refs;rw [List.getElem?_map,el];rfl),_,rfl,l,_,_,_,rfl,rfl,SqL.of hl,h1,t,_,_,_,rfl,rfl,SqT.of ht,rfl,q⟩
noncomputable def rH (s:Step) (g:Str):L2.V:=if s.house=g then .int s.due else .non
inductive HR (C:Addr) (vs:(List L2.V)) (H:Hp) (Q:VK) (u_3:XK):Prop where
 | mk (x n g st:Addr) (gs:List Str) (ls:List Addr) (sss:List (List Step)) (k:Nat) (ss:List Step) (s:Step) (y:Str) (z1:vs=[.ref x,.int k]) (z2:WalkAt C H x n g st gs ls sss) (z3:sss[k]?=some (ss++[s])) (z4:gs[k]?=some y) (z5:Q (rH s y) H)
noncomputable def vK (C:Addr):Sp:=fun vs H Q u_3=>HR C vs H Q u_3
noncomputable abbrev rJ:Stmt:=inClass (top 23) 6
theorem Lk:aX ["self","number"] ["self","number"] (aH rJ):=⟨rfl,rfl,rfl,by decide+kernel,rfl,by decide+kernel,by decide+kernel⟩
theorem HW {C f f1 f2:Addr} {fd fd1 fd2:FuncData} (F:Fun K "home_turn" "Walk.home_turn" rJ f fd) (WC:mQ K C)
  (bD:Mn K C "last_house" "Walk.last_house" rF ["self","number"] f1 fd1) (gM:aY P w K mg base CX0 1 f1 fd1 ["self","number"] (vI C))
  (bJ:Mn K C "last_turn" "Walk.last_turn" rG ["self","number"] f2 fd2) (g8:aY P w K mg base CX0 1 f2 fd2 ["self","number"] (vJ C)):aY P w K mg base CX0 2 f fd ["self","number"] (vK C):=by
 have b8:=WC.cl
 refine F.ok Lk (fun vs H Q E h=>?_) (fun cdv A outer s H vs Q E hr h=>?_)
 ·obtain ⟨x,n,g,st,gs,ls,sss,k,ss,s',y,rfl,_⟩:=h
  rfl
 ·obtain ⟨x,n,g,st,gs,ls,sss,k,ss,s',y,rfl,W,es,ey,q⟩:=h
  obtain ⟨dx,hx⟩:=W.ins
  refine ⟨_,(au (cF (bL wz (gG (pv 0) b8 bD.me gM (hr.mono (by decide)) bD.bd .nil bH (aa (pv 1) ao)) (aM bB (iI (pv 0) (by rfl)) (pv 1) (fun _ _=>rfl)) (bA _)) (aB (aR iH)) bF)
   (aB (aR (gG (pv 0) b8 bJ.me g8 (hr.mono (by decide)) bJ.bd .nil bH (aa (pv 1) ao))))),?_⟩
  have ag:L2.atI (gs.map V.str) (k:Int)=some (.str y):=cu (by rw [List.getElem?_map,ey];rfl)
  refine ⟨_,rfl,x,dx,_,rfl,hx,rfl,_,rfl,x,n,g,st,gs,ls,sss,k,ss,s',rfl,W,es,?_⟩
  refine ⟨_,rfl,x,C,dx,_,_,rfl,hx,WC.cl,WC.ng,rfl,_,rfl,g,_,_,_,rfl,rfl,SqL.of W.goals,ag,rfl,_,rfl,?_⟩
  unfold rH at q
  by_cases he:s'.house=y
  ·rw [if_pos he] at q
   exact fM (by rw [he];simp) ⟨_,rfl,x,dx,_,rfl,hx,rfl,_,rfl,x,n,g,st,gs,ls,sss,k,ss,s',rfl,W,es,q⟩
  ·rw [if_neg he] at q
   exact eF (by simp [he]) q
noncomputable def ltT (d:Str × Int × Str):List L2.V:=[.str d.1,.int d.2.1,.str d.2.2]
noncomputable def bO (d:Str × Int × Str):List Step:=[⟨d.2.1,none,d.1,d.2.1⟩]
inductive Pa (C:Addr) (vs:(List L2.V)) (H:Hp) (Q:VK) (u_3:XK):Prop where
 | mk (x dx n lp:Addr) (rs:List Addr) (ds:List (Str × Int × Str)) (z1:vs=[.ref x,.ref n,.ref lp]) (z2:H x=some (.ins C dx [])) (z3:H lp=some (.lst (refs rs))) (z4:f9 H rs (ds.map ltT)) (z5:rs.length≤100) (z6:∀(H':Hp) (g st:Addr) (lls:List Addr),SameBut x H H'→WalkAt C H' x n g st (ds.map fun d=>d.2.2) lls (ds.map bO)→H g=none→H st=none→lls.Nodup→(∀l∈lls,H l=none∧l≠st∧l≠g)→g≠st→Q .non H')
noncomputable def M6 (C:Addr):Sp:=fun vs H Q u_3=>Pa C vs H Q u_3
noncomputable abbrev Ln:Stmt:=inClass (top 23) 0
inductive Lp (C:Addr) (vs:(List L2.V)) (H:Hp) (Q:VK) (u_3:XK):Prop where
 | mk (x dx n g st r:Addr) (gs:List Str) (ls:List Addr) (d:Str × Int × Str) (z1:vs=[.ref x,.ref r]) (z2:H x=some (.ins C dx (vH n g st))) (z3:H g=some (.lst (gs.map V.str))) (z4:H st=some (.lst (refs ls))) (z5:g≠st) (z6:H r=some (.tup (ltT d))) (z7:gs.length≤100) (z8:ls.length≤100) (z9:∀(H':Hp) (l t:Addr),(∀b o,b≠g→b≠st→H b=some o→H' b=some o)→H' g=some (.lst ((gs++[d.2.2]).map V.str))→H' st=some (.lst (refs (ls++[l])))→H l=none→H t=none→H' l=some (.lst [.ref t])→H' t=some (.tup (stV ⟨d.2.1,none,d.1,d.2.1⟩))→Q .non H')
noncomputable def HX (C:Addr):Sp:=fun vs H Q u_3=>Lp C vs H Q u_3
noncomputable abbrev Bd:Stmt:=inClass (top 23) 1
theorem Pb:aX ["self","letter"] ["self","letter"] (aH Bd):=⟨rfl,rfl,rfl,by decide+kernel,rfl,by decide+kernel,by decide+kernel⟩
theorem Lq {C f:Addr} {fd:FuncData} (F:Fun K "take_in" "Walk.take_in" Bd f fd) (WC:mQ K C):aY P w K mg base CX0 1 f fd ["self","letter"] (HX C):=by
 refine F.ok Pb (fun vs H Q E h=>?_) (fun cdv A outer s H vs Q E hr h=>?_)
 ·obtain ⟨x,dx,n,g,st,r,gs,ls,d,rfl,_⟩:=h
  rfl
 ·obtain ⟨x,dx,n,g,st,r,gs,ls,d,rfl,hx,hg,hst,ngs,hd,fg,fl,q⟩:=h
  refine ⟨_,(au (iu (qT PySem.F.plainAttrs_list PySem.F.slot_list_append PySem.F.type_list_append gr (iI (pv 0) (by rfl)) (aa (aM aU (pv 1) az (fun _ _=>rfl)) ao)))
   (aB (iu (qT PySem.F.plainAttrs_list PySem.F.slot_list_append PySem.F.type_list_append gr (iI (pv 0) (by rfl)) (aa (cj (aa (bN (aa (aM aU (pv 1) az (fun _ _=>rfl)) (aa iH (aa (aM aU (pv 1) az (fun _ _=>rfl)) (aa (aM aU (pv 1) az (fun _ _=>rfl)) ao))))) ao)) ao))))),?_⟩
  have ngx:x≠g:=iz hx hg (by intro z;cases z)
  have nsx:x≠st:=iz hx hst (by intro z;cases z)
  have ngr:r≠g:=iz hd hg (by intro z;cases z)
  have nsr:r≠st:=iz hd hst (by intro z;cases z)
  refine ⟨_,rfl,x,C,dx,_,_,rfl,hx,WC.cl,WC.ng,rfl,.inl ⟨rfl,_,SqL.of hg⟩,_,rfl,r,_,_,_,rfl,rfl,SqT.of hd,rfl,g,_,_,rfl,rfl,hg,aV (by rw [List.length_map];omega),?_⟩
  have hx1:upd H g (.lst (gs.map V.str++[V.str d.2.2])) x=_:=(aA ngx).trans hx
  have hs1:upd H g (.lst (gs.map V.str++[V.str d.2.2])) st=_:=(aA ngs.symm).trans hst
  have hd1:upd H g (.lst (gs.map V.str++[V.str d.2.2])) r=_:=(aA ngr).trans hd
  refine ⟨_,rfl,x,C,dx,_,_,rfl,hx1,WC.cl,WC.ns,rfl,.inl ⟨rfl,_,SqL.of hs1⟩,?_⟩
  refine ⟨_,rfl,r,_,_,_,rfl,rfl,SqT.of hd1,rfl,_,rfl,r,_,_,_,rfl,rfl,SqT.of hd1,rfl,_,rfl,r,_,_,_,rfl,rfl,SqT.of hd1,rfl,(by show 4≤sizeLine;decide),fun t nt=>⟨(by show 1≤sizeLine;decide),fun l nl=>?_⟩⟩
  have fr1:∀{b},upd H g (.lst (gs.map V.str++[V.str d.2.2])) b=none→H b=none∧b≠g:=fun {b} e=>by
   have nb:b≠g:=fun z=>by rw [z,aq] at e;cases e
   rw [aA nb] at e
   exact ⟨e,nb⟩
  have nlt:l≠t:=fun z=>by rw [z,aq] at nl;cases nl
  have nl1:=nl
  rw [aA nlt] at nl1
  have hs2:=(aC (o:=.lst [.ref t]) nl) _ _ ((aC (o:=.tup (stV ⟨d.2.1,none,d.1,d.2.1⟩)) nt) _ _ hs1)
  have nst:t≠st:=fun z=>by rw [z,hs1] at nt;cases nt
  have nsl:l≠st:=fun z=>by rw [z,hs1] at nl1;cases nl1
  refine ⟨st,_,_,rfl,rfl,hs2,aV (by rw [bf];omega),?_⟩
  refine q _ l t (fun b o h1 h2 e=>?_) ?_ ?_ (fr1 nl1).1 (fr1 nt).1 ?_ ?_
  ·have e1:upd H g (.lst (gs.map V.str++[V.str d.2.2])) b=some o:=by rw [aA h1];exact e
   rw [aA h2]
   exact (aC nl) _ _ ((aC nt) _ _ e1)
  ·rw [aA ngs,aA (fr1 nl1).2.symm,aA (fr1 nt).2.symm,aq,List.map_append]
   rfl
  ·rw [aq,uz]
  ·rw [aA nsl,aq]
  ·rw [aA nst,aA nlt.symm,aq]
   rfl
theorem M7:aX ["self","net","letters","letter"] ["self","net","letters"] (aH Ln):=⟨rfl,rfl,rfl,by decide+kernel,rfl,by decide+kernel,by decide+kernel⟩
theorem Pg {C f f1:Addr} {fd fd1:FuncData} (F:Fun K "__init__" "Walk.__init__" Ln f fd) (WC:mQ K C) (cU:Mn K C "take_in" "Walk.take_in" Bd ["self","letter"] f1 fd1) (rK:aY P w K mg base CX0 1 f1 fd1 ["self","letter"] (HX C)):aY P w K mg base CX0 2 f fd ["self","net","letters"] (M6 C):=by
 have b8:=WC.cl
 refine F.ok M7 (fun vs H Q E h=>?_) (fun cdv A outer s H vs Q E hr h=>?_)
 ·obtain ⟨x,dx,n,lp,rs,ds,rfl,_⟩:=h
  rfl
 ·obtain ⟨x,dx,n,lp,rs,ds,rfl,hx,hlp,tp,few,q⟩:=h
  refine ⟨_,(au (jm (pv 0) (pv 1) rfl)
   (au (jm (pv 0) (cj ao) rfl)
   (au (jm (pv 0) (cj ao) rfl)
   (aB (fY PassesOwn.never rfl (iw (pv 2)) (bw (i:=3) M7.nd rfl (Or.inl rfl))
    (aB (iu (gG (pv 0) b8 cU.me rK (hr.mono (by decide)) cU.bd .nil bH (aa (pv 3) ao))))))))),?_⟩
  refine ⟨_,rfl,_,rfl,x,C,dx,_,rfl,hx,WC.cl,WC.nn,(by show 0 < 1000;decide),?_⟩
  have nlp:lp≠x:=iz hlp hx (by intro z;cases z)
  refine ⟨(by show 0≤sizeLine;decide),fun g ng=>?_⟩
  have ngx:g≠x:=fun z=>by rw [z,aq] at ng;cases ng
  have ng0:=ng
  rw [aA ngx] at ng0
  refine ⟨_,rfl,x,C,dx,_,rfl,(by rw [aA ngx.symm,aq]),WC.cl,WC.ng,(by show 1 < 1000;decide),(by show 0≤sizeLine;decide),fun st nst=>?_⟩
  have nsx:st≠x:=fun z=>by rw [z,aq] at nst;cases nst
  rw [aA nsx] at nst
  have nsg:st≠g:=fun z=>by rw [z,aq] at nst;cases nst
  rw [aA nsg,aA nsx] at nst
  refine ⟨_,rfl,x,C,dx,_,rfl,(by rw [aA nsx.symm,aq]),WC.cl,WC.ns,(by show 2 < 1000;decide),?_⟩
  refine ⟨_,rfl,lp,rfl,⟨_,SqL.of (xs:=refs rs) ?_⟩,?_⟩
  ·rw [aA nlp,aA (aF hlp nst),aA nlp,aA (aF hlp ng0),aA nlp]
   exact hlp
  have lrs:=bf rs
  have ldr:rs.length=ds.length:=by have:=Paired.length tp;rw [List.length_map] at this;exact this
  refine nH (K:=K) (a:=lp) (xs:=refs rs) (fun j σ Hj=>∃v3 lls,σ=[some (.ref x),some (.ref n),some (.ref lp),v3]∧(∀b o,b≠x→H b=some o→Hj b=some o)∧Hj x=some (.ins C dx (vH n g st))∧Hj g=some (.lst (((ds.take j).map fun d=>d.2.2).map V.str))∧Hj st=some (.lst (refs lls))∧Paired (cD Hj) lls ((ds.take j).map bO)∧lls.Nodup∧(∀l∈lls,H l=none∧l≠st∧l≠g))
   ⟨none,[],rfl,fun b o nb e=>?_,aq,?_,?_,.nil,List.nodup_nil,fun l hl=>absurd hl List.not_mem_nil⟩ (fun j σ Hj _ ⟨_,_,_,h,_⟩=>SqL.of (h _ _ nlp hlp)) ?_ ?_
  ·rw [aA nb,aA (aF e nst),aA nb,aA (aF e ng0),aA nb]
   exact e
  ·rw [aA ngx,aA nsg.symm,aA ngx,aq]
   rfl
  ·rw [aA nsx,aq]
   rfl
  ·rintro j z σ Hj ez ⟨v3,lls,rfl,sj,hxj,hgj,hsj,ej,nd,fr⟩
   unfold refs at ez
   rw [List.getElem?_map] at ez
   obtain ⟨r,er,rfl⟩:=Option.map_eq_some_iff.mp ez
   obtain ⟨y,ey,hy⟩:=Paired.get tp er
   rw [List.getElem?_map] at ey
   obtain ⟨d,ed,rfl⟩:=Option.map_eq_some_iff.mp ey
   have ldj:=(List.getElem?_eq_some_iff.mp ed).1
   have ll:=Paired.length ej
   rw [List.length_map,List.length_take] at ll
   have tk:ds.take (j+1)=ds.take j++[d]:=by
    rw [List.take_add_one,ed]
    rfl
   refine ⟨_,rfl,x,dx,_,rfl,hxj,rfl,_,rfl,x,dx,n,g,st,r,_,lls,d,rfl,hxj,hgj,hsj,nsg.symm,sj _ _ (iz hy hx (by intro z;cases z)) hy,(by rw [List.length_map,List.length_take];omega),(by omega),?_⟩
   intro H' l t sb hg' hs' nl nt hl' ht'
   have ngj:∀{o},Hj l=some o→False:=fun {o} e=>by rw [nl] at e;cases e
   have free:∀{b},Hj b=none→H b=none:=fun {b} e=>by
    by_cases hb:b=x
    ·rw [hb,hxj] at e;cases e
    ·cases e2:H b with
     | none=>rfl
     | some o=>rw [sj _ _ hb e2] at e;cases e
   refine ⟨_,lls++[l],rfl,fun b o nb e=>?_,sb _ _ ngx.symm nsx.symm hxj,?_,hs',?_,?_,?_⟩
   ·exact sb _ _ (fun z=>by rw [z,ng0] at e;cases e) (fun z=>by rw [z,nst] at e;cases e) (sj _ _ nb e)
   ·rw [hg',tk]
    simp only [List.map_append,List.map_cons,List.map_nil]
   ·rw [tk,List.map_append]
    refine Paired.snoc ⟨[t],hl',.cons ht' .nil⟩ ?_
    have go:∀{ms:List Addr} {tss:List (List Step)},Paired (cD Hj) ms tss→(∀l∈ms,l≠st∧l≠g)→Paired (cD H') ms tss:=fun {ms tss} p=>by
     induction p with
     | nil=>exact fun _=>.nil
     | cons r t ih=>
      refine fun h=>.cons ?_ (ih fun l hl=>h l (.tail _ hl))
      obtain ⟨ts,h1,h2⟩:=r
      refine ⟨ts,sb _ _ (h _ (.head _)).2 (h _ (.head _)).1 h1,Paired.mapP h2 fun a b e=>sb _ _ (iz e hgj (by intro z;cases z)) (iz e hsj (by intro z;cases z)) e⟩
    exact go ej fun l hl=>(fr l hl).2
   ·rw [List.nodup_append]
    refine ⟨nd,List.nodup_cons.mpr ⟨List.not_mem_nil,List.nodup_nil⟩,fun a ha b hb=>?_⟩
    rw [List.mem_singleton] at hb
    subst hb
    rintro rfl
    obtain ⟨i,hi,e⟩:=List.getElem_of_mem ha
    obtain ⟨_,_,ts,h1,_⟩:=Paired.get ej (List.getElem?_eq_some_iff.mpr ⟨hi,e⟩)
    exact ngj h1
   ·intro l2 hl2
    rw [List.mem_append,List.mem_singleton] at hl2
    rcases hl2 with h | rfl
    ·exact fr _ h
    ·exact ⟨free nl,fun z=>(by rw [z] at nl;rw [nl] at hsj;cases hsj),fun z=>(by rw [z] at nl;rw [nl] at hgj;cases hgj)⟩
  ·rintro σ Hj ⟨v3,lls,rfl,sj,hxj,hgj,hsj,ej,nd,fr⟩
   rw [lrs,ldr,List.take_length] at hgj ej
   exact q Hj g st lls (fun b o nb e=>sj b o nb e) ⟨⟨dx,hxj⟩,hgj,hsj,ej⟩ ng0 nst nd fr nsg.symm
end
open PySem L2 L3 M1
section
variable {P:Program} {w:World} {K:PySem.W.Frag} {mg:Str→Option Value} {base:Heap}
noncomputable abbrev vL:Stmt:=inClass (top 40) 3
theorem Lr:aX ["self","number"] ["self","number"] (aH vL):=⟨rfl,rfl,rfl,by decide+kernel,rfl,by decide+kernel,by decide+kernel⟩
end
end K1
namespace L3
open PySem PySem.Spec PyProof.Rows L2 PySem.W
noncomputable def iR {α:Type} (lt:Nat→Nat→Bool):KasT α→α
 | .ret a=>a
 | .ask i j k=>iR lt (k (lt i j))
noncomputable def kB {α:Type} (n:Nat) (P:α→Prop):KasT α→Prop
 | .ret a=>P a
 | .ask i j k=>i < n∧j < n∧∀b,kB n P (k b)
theorem mF {α β:Type} {n:Nat} {P:α→Prop} {R:β→Prop} {f:α→KasT β} (hf:∀a,P a→kB n R (f a)):∀t:KasT α,kB n P t→kB n R (t.bind f)
 | .ret a,h=>hf a h
 | .ask i j k,h=>⟨h.1,h.2.1,fun b=>mF hf (k b) (h.2.2 b)⟩
theorem lM {α:Type} {n:Nat} {P:α→Prop} {c:Prop} [Decidable c] {s t:KasT α} (h1:c→kB n P s) (h2:¬c→kB n P t):kB n P (if c then s else t):=by
 by_cases h:c
 ·rw [if_pos h];exact h1 h
 ·rw [if_neg h];exact h2 h
theorem oA {α:Type} {lt:Nat→Nat→Bool} {n:Nat} {P:α→Prop}:∀t:KasT α,kB n P t→P (iR lt t)
 | .ret _,p=>p
 | .ask i j k,p=>oA (k (lt i j)) (p.2.2 _)
noncomputable def AB (n:Nat) (p:Array Nat):Prop:=p.Perm (List.toArray (List.range n))
theorem AB.lt {n:Nat} {p:Array Nat} (h:AB n p) {x:Nat} (hx:x∈p):x < n:=by
 have:=h.mem_iff.mp hx
 have:x∈List.range n:=by simpa using this
 exact List.mem_range.mp this
theorem AB.list {n:Nat} {p:Array Nat} (h:AB n p):p.toList.Perm (List.range n):=by
 have:=Array.perm_iff_toList_perm.mp h
 simpa using this
theorem AB.at {n:Nat} {p:Array Nat} (h:AB n p) (h0:0 < n) (k:Nat):p.getD k 0 < n:=by
 by_cases hk:k < p.size
 ·have e:p.getD k 0=p[k]:=by simp [Array.getD,hk]
  rw [e]
  exact h.lt (Array.getElem_mem hk)
 ·have e:p.getD k 0=0:=by simp [Array.getD,hk]
  rw [e]
  exact h0
theorem AB.perm {n:Nat} {p q:Array Nat} (h:AB n p) (e:q.Perm p):AB n q:=Array.Perm.trans e h
theorem AB.rev {n:Nat} {p:Array Nat} (h:AB n p) (i j:Nat):AB n (kas_rev p i j):=h.perm (mirror_perm ..)
theorem AB.bub {n:Nat} {p:Array Nat} (h:AB n p) (i j:Nat):AB n (bubble p i j):=h.perm (bubble_perm ..)
section
variable {n:Nat}
theorem HY {p:Array Nat} (h0:0 < n) (h:AB n p):∀f k,kB n (fun _=>True) (kas_asc p f k)
 | 0,_=>trivial
 | f+1,k=>⟨h.at h0 _,h.at h0 _,fun b=>lM (fun _=>trivial) fun _=>HY h0 h f (k+1)⟩
theorem vM (h0:0 < n):∀(f:Nat) (p:Array Nat) (k q:Nat),AB n p→kB n (fun r=>AB n r.1) (kas_desc f p k q)
 | 0,p,k,q,h=>h
 | f+1,p,k,q,h=>⟨h.at h0 _,h.at h0 _,fun b=>lM (fun _=>lM (fun _=>vM h0 f _ _ _ (h.rev _ _)) fun _=>vM h0 f _ _ _ h)
   fun _=>⟨h.at h0 _,h.at h0 _,fun b=>lM (fun _=>h) fun _=>vM h0 f _ _ _ h⟩⟩
theorem Be {p:Array Nat} (h0:0 < n) (h:AB n p) (k m:Nat):kB n (fun r=>AB n r.2) (kas_tail3 k m p):=by
 unfold kas_tail3
 refine mF (P:=fun _=>True) (fun a _=>?_) _ (HY h0 (h.rev _ _) _ _)
 exact h.rev _ _
theorem rM {p:Array Nat} (h0:0 < n) (h:AB n p) (k m:Nat):kB n (fun r=>AB n r.2) (kas_descPart k m p):=
 mF (fun r hr=>lM (fun _=>Be h0 (AB.rev hr _ _) _ _) fun _=>Be h0 hr _ _) _ (vM h0 _ _ _ _ h)
theorem Ls {p:Array Nat} (h0:0 < n) (h:AB n p) (m:Nat):kB n (fun r=>AB n r.2) (kas_count m p):=by
 unfold kas_count
 refine mF (P:=fun _=>True) (fun k _=>?_) _ (HY h0 h _ _)
 refine lM (fun _=>h) fun _=>lM (fun _=>⟨h.at h0 _,h.at h0 _,fun b=>lM (fun _=>h) fun _=>rM h0 (h.rev _ _) _ _⟩) fun _=>rM h0 h _ _
theorem vN {p:Array Nat} (h0:0 < n) (h:AB n p) (k:Nat):∀f l r,kB n (fun _=>True) (kas_place p k f l r)
 | 0,_,_=>trivial
 | f+1,l,r=>lM (fun _=>trivial) fun _=>⟨h.at h0 _,h.at h0 _,fun b=>lM (fun _=>vN h0 h k f _ _) fun _=>vN h0 h k f _ _⟩
theorem Ia (h0:0 < n):∀(f:Nat) (p:Array Nat) (k:Nat),AB n p→kB n (AB n) (kas_bin f p k)
 | 0,p,k,h=>h
 | f+1,p,k,h=>mF (fun l _=>Ia h0 f _ _ (h.bub _ _)) _ (vN h0 h k _ _ _)
theorem Ib (h0:0 < n):kB n (AB n) (kas_sort n):=by
 have hr:AB n (List.toArray (List.range n)):=Array.Perm.refl _
 unfold kas_sort
 refine mF (P:=fun r=>AB n r.2) (fun r h2=>?_) _ (Ls h0 hr n)
 exact lM (fun _=>Ia h0 _ _ _ h2) fun _=>h2
end
noncomputable def oE (lt:Nat→Nat→Bool) (n:Nat):List Nat:=if n < 2 then List.range n else (iR lt (kas_sort n)).toList
noncomputable def jb {α:Type} (d:α) (lt:Nat→Nat→Bool) (xs:List α):List α:=(oE lt xs.length).map fun i=>xs.getD i d
theorem rN {lt:Nat→Nat→Bool} {n i:Nat} (h:i∈oE lt n):i < n:=by
 unfold oE at h
 split at h
 ·exact List.mem_range.mp h
 ·rename_i h2
  exact AB.lt (oA (lt:=lt) (kas_sort n) (Ib (by omega))) (by simpa using h)
theorem jX (lt:Nat→Nat→Bool) (n:Nat):(oE lt n).Perm (List.range n):=by
 unfold oE
 split
 ·exact List.Perm.refl _
 ·exact AB.list (oA (lt:=lt) (kas_sort n) (Ib (by omega)))
theorem Dl {α:Type} (d:α) (lt:Nat→Nat→Bool) (xs:List α):(jb d lt xs).Perm xs:=by
 have e:xs=(List.range xs.length).map fun i=>xs.getD i d:=by
  apply List.ext_getElem
  ·simp
  ·intro i h1 h2
   simp [List.getD,h1]
 have p:=(jX lt xs.length).map fun i=>xs.getD i d
 rw [←e] at p
 exact p
theorem rO {α:Type} (d:α) (lt:Nat→Nat→Bool) (xs:List α):(jb d lt xs).length=xs.length:=(Dl d lt xs).length_eq
theorem Dm {lt:Nat→Nat→Bool} {xs:List V} {us:List Value} (h:Vals xs us):Vals (jb .non lt xs) (jb .none lt us):=by
 unfold jb
 rw [h.length]
 have:∀is:List Nat,(∀i∈is,i < xs.length)→Vals (is.map fun i=>xs.getD i .non) (is.map fun i=>us.getD i .none):=fun is=>by
  induction is with
  | nil=>intro _;exact .nil
  | cons i r ih=>
   intro hi
   refine .cons ?_ (ih fun j hj=>hi j (.tail _ hj))
   have hlt:i < xs.length:=hi i (.head _)
   have e1:xs[i]?=some xs[i]:=List.getElem?_eq_getElem hlt
   obtain ⟨u,e2,ru⟩:=h.get e1
   show RelV (xs[i]?.getD .non) (us[i]?.getD .none)
   rw [e1,e2]
   exact ru
 exact this _ fun i hi=>by rw [h.length];exact rN hi
theorem Ie {α:Type} (d:α) (lt:Nat→Nat→Bool) {xs:List α} (h:xs.length < 2):jb d lt xs=xs:=by
 unfold jb oE
 rw [if_pos h]
 apply List.ext_getElem
 ·simp
 ·intro i h1 h2
  simp [List.getD,h2]
noncomputable def yR (a:Addr) (h h':Heap):Prop:=∀b o,b≠a→h.get? b=some o→h'.get? b=some o
open PySem PySem.Spec PyProof.Rows L2 PySem.W
noncomputable def xg (h h':Heap):Prop:=∀b o,h.get? b=some o→h'.get? b=some o
noncomputable def lexLt:List Key→List Key→Bool
 | .inl a::r,.inl b::q=>if a=b then lexLt r q else decide (a < b)
 | .inr a::r,.inr b::q=>if a=b then lexLt r q else decide (a.cps.toList < b.cps.toList)
 | _,_=>false
noncomputable def kSh:List Key→List Bool:=List.map fun k=>match k with
 | .inl _=>true
 | .inr _=>false
theorem Ig (a b:Int):PyData.eqv (.int a) (.int b)=decide (a=b):=by
 by_cases h:a=b
 ·subst h;rw [decide_eq_true rfl];simp [PyData.eqv]
 ·rw [decide_eq_false h];simp [PyData.eqv,h]
theorem Ih (x y:Str):PyData.eqv (.str x) (.str y)=decide (x=y):=by
 by_cases h:x=y
 ·subst h;rw [decide_eq_true rfl];simp [PyData.eqv]
 ·rw [decide_eq_false h];simp [PyData.eqv,h]
section
variable {prog:Program} {w:World} {A:Around} {E:Value→Shared→Prop} {s:Shared}
theorem rP {Q:Bool→Shared→Prop}:∀(d e:List Key) (us ws:List Value) (i:Nat),Vals (d.map kV) us→Vals (e.map kV) ws→kSh d=kSh e→Q (lexLt d e) s→KatLex prog w A true false Q (us.zip ws) i s
 | [],e,us,ws,i,v1,v2,hs,h=>by
  cases v1
  have e0:e=[]:=by
   cases e with
   | nil=>rfl
   | cons _ _=>cases hs
  subst e0
  exact kat_nil h
 | .inl a::r,[],_,_,_,_,_,hs,_=>by cases hs
 | .inr a::r,[],_,_,_,_,_,hs,_=>by cases hs
 | .inl a::r,.inr b::q,_,_,_,_,_,hs,_=>by simp [kSh] at hs
 | .inr a::r,.inl b::q,_,_,_,_,_,hs,_=>by simp [kSh] at hs
 | .inl a::r,.inl b::q,_,_,i,.cons r1 t1,.cons r2 t2,hs,h=>by
  obtain ⟨t,rfl⟩:=r1
  obtain ⟨u,rfl⟩:=r2
  have hs':kSh r=kSh q:=by simpa [kSh] using hs
  unfold lexLt at h
  refine kat_cons (keq_flat (d:=.int a) (e:=.int b) (fun _=>.int a t) (fun _=>.int b u) prog w _ _ ?_)
  rw [Ig]
  by_cases e:a=b
  ·rw [if_pos e] at h
   rw [decide_eq_true e]
   exact kat_yes (rP r q _ _ _ t1 t2 hs' h)
  ·rw [if_neg e] at h
   rw [decide_eq_false e]
   refine kat_no ?_
   cases i with
   | zero=>exact oneLt_int h
   | succ i=>exact kat_one _ _ (lt_int h)
 | .inr a::r,.inr b::q,_,_,i,.cons r1 t1,.cons r2 t2,hs,h=>by
  obtain ⟨t,rfl⟩:=r1
  obtain ⟨u,rfl⟩:=r2
  have hs':kSh r=kSh q:=by simpa [kSh] using hs
  unfold lexLt at h
  refine kat_cons (keq_flat (d:=.str a) (e:=.str b) (fun _=>.str a t) (fun _=>.str b u) prog w _ _ ?_)
  rw [Ih]
  by_cases e:a=b
  ·rw [if_pos e] at h
   rw [decide_eq_true e]
   exact kat_yes (rP r q _ _ _ t1 t2 hs' h)
  ·rw [if_neg e] at h
   rw [decide_eq_false e]
   refine kat_no ?_
   cases i with
   | zero=>exact oneLt_str h
   | succ i=>exact kat_one _ _ (lt_str h)
end
noncomputable def ltK (ds:List (List Key)) (i j:Nat):Bool:=lexLt (ds.getD i []) (ds.getD j [])
noncomputable def isI:Key→Bool
 | .inl _=>true
 | .inr _=>false
noncomputable def tyK (b:Bool):Value:=if b=true then .type "int" else .type "str"
theorem Ii {P:Program} {w:World} {H:Hp} {h h1:Heap} (ok:HOk P w H h) (x:xg h h1) {b:Bool}:∀{ts:List Addr} {ds:List (List Key)},Paired (fun r d=>H r=some (.tup (d.map kV))) ts ds→(∀d∈ds,∃r,kSh d=b::r)→
  ∃fs,KatTups h1 (ts.map Value.ref) fs∧fs.length=ts.length∧∀v∈fs,∃k:Key,isI k=b∧RelV (kV k) v
 | [],[],_,_=>⟨[],KatTups.nil,rfl,fun _ h=>absurd h List.not_mem_nil⟩
 | t::ts,d::ds,.cons r q,hd=>by
  obtain ⟨fs,k1,k2,k3⟩:=Ii ok x q fun d' h'=>hd d' (.tail _ h')
  obtain ⟨sr,hs⟩:=hd d (.head _)
  obtain ⟨_,its,rv,o,ho,hc,n,hdat⟩:=ok t _ r
  cases d with
  | nil=>cases hs
  | cons k d=>
   cases rv with
   | cons rk rr=>
    rename_i f fr
    refine ⟨f::fs,KatTups.cons (x _ _ ho) hc hdat (by simp) k1,by simp [k2],fun v hv=>?_⟩
    rcases List.mem_cons.mp hv with rfl | hv2
    ·refine ⟨k,?_,rk⟩
     have:kSh (k::d)=isI k::kSh d:=by cases k <;> rfl
     rw [this] at hs
     exact (List.cons.inj hs).1
    ·exact k3 v hv2
 | [],d::ds,h,_=>nomatch h
 | t::ts,[],h,_=>nomatch h
section
variable {X:Cx}
theorem Do:bootBuiltins "sorted"=some (.builtin "sorted"):=by decide+kernel
end
open PySem PySem.Spec PyProof.Rows L2
noncomputable def DEs (h:Heap) (d:Addr) (es:Array DictEntry) (ep:Nat):Prop:=∃o,h.get? d=some o∧o.ExactDict∧o.data=.dict es ep
section
variable {prog:Program} {w:World} {A:Around} {E:Value→Shared→Prop} {s:Shared} {it d:Addr} {i ep:Nat} {es:Array DictEntry}
theorem Ph {Q:Option Value→Shared→Prop} (hit:s.heap.IsKeyIter it d i es.size ep) (hd:DEs s.heap d es ep) (hi:i < es.size)
  (hQ:∀h',h'.IsKeyIter it d (i+1) es.size ep→Heap.SameBut it s.heap h'→Q (some es[i].key) {s with heap:=h'}):wpAny (model prog w) A (pyNext (.ref it)) Q E s:=by
 obtain ⟨oi,hoi,hci,hdi⟩:=id hit
 obtain ⟨o,ho,_,hdat⟩:=hd
 have T0:=hit.typeIs
 have noNone:¬((Value.ref d==Value.none)=true):=Bool.false_ne_true
 have own:Builtin.Dict_items.ownsTuple "dict_keyiterator"=false:=by decide
 unfold pyNext
 refine wpAny_bind (wpAny_attempt (wpAny_callSpecial?_slot (name:=Str.ofString "__next__") T0 F.slot_dict_keyiterator_next (wpAny_call_entry F.slot_dict_keyiterator_next T0 F.entry_dict_keyiterator_next ?_ (F.args_dict_keyiterator_next_1 _))))
 refine wpAny_bind (wpAny_pure (wpAny_bind (wpAny_bind ?_)))
 first
 | refine wpAny_bind (wpAny_typeNameOfWhole_keyiter T0 (wpAny_pure (wpAny_bind (wpAny_fieldsOf hoi hdi ?_))))
 | refine wpAny_bind (wpAny_typeNameOf_keyiter T0 (wpAny_pure (wpAny_bind (wpAny_fieldsOf hoi hdi ?_))))
 simp only [own,Bool.false_eq_true,if_false];change wpAny _ _ (ite ((Value.ref d==Value.none)=true) _ _) _ _ s
 rw [if_neg noNone]
 refine wpAny_bind (wpAny_pure (wpAny_bind (wpAny_dictEntries ho hdat ?_)))
 rw [if_neg (by simp)]
 refine wpAny_bind (wpAny_pure (wpAny_bind (wpAny_dictEpoch ho hdat ?_)))
 rw [if_neg (by simp)]
 refine wpAny_pure ?_
 simp only [show ¬((i:Int) < 0) from by omega,if_false,Int.toNat_natCast,Array.getElem?_eq_getElem hi]
 refine wpAny_bind ?_
 first
 | refine wpAny_bind (wpAny_typeNameOfWhole_keyiter T0 (wpAny_pure (wpAny_bind (wpAny_isOneOf_keyiter T0 ?_))))
 | refine wpAny_bind (wpAny_typeNameOf_keyiter T0 (wpAny_pure (wpAny_bind (wpAny_isOneOf_keyiter T0 ?_))))
 change wpAny _ _ (setField (.ref it) 1 (rawInt ((i:Int)+1)) >>=_) _ _ s
 refine wpAny_bind (wpAny_setField hoi hdi (by simp) ?_)
 have next:(s.heap.update it (Obj.mapFields (·.setIfInBounds 1 (rawInt ((i:Int)+1))))).IsKeyIter it d (i+1) es.size ep:=
  ⟨_,Heap.get?_update_self _ hoi (Obj.isFreed_of_fields (Obj.data_mapFields hdi _)),(Obj.cls_mapFields ..).trans hci,by simp [Obj.data_mapFields hdi,rawInt]⟩
 refine wpAny_bind (wpAny_holding (wpAny_bind (wpAny_isOneOf_keyiter (s:={s with heap:=s.heap.update it (Obj.mapFields (·.setIfInBounds 1 (rawInt ((i:Int)+1))))}) next.typeIs ?_)))
 exact wpAny_pure (wpAny_pure ⟨_,rfl,wpAny_pure (hQ _ next (Heap.SameBut.update ..))⟩)
theorem Lw {Q:Option Value→Shared→Prop} (hh:A.handled=none) (hit:s.heap.IsKeyIter it d i es.size ep) (hd:DEs s.heap d es ep) (hi:es.size≤i)
  (hQ:∀h',Heap.ExtBut it s.heap h'→Q none {s with heap:=h'}):
  wpAny (model prog w) A (pyNext (Value.ref it)) Q E s:=by
 obtain ⟨oi,hoi,hci,hdi⟩:=id hit
 obtain ⟨o,ho,_,hdat⟩:=hd
 have T0:=hit.typeIs
 have noNone:¬((Value.ref d==Value.none)=true):=Bool.false_ne_true
 have own:Builtin.Dict_items.ownsTuple "dict_keyiterator"=false:=by decide
 unfold pyNext
 refine wpAny_bind (wpAny_attempt (wpAny_callSpecial?_slot (name:=Str.ofString "__next__") T0 F.slot_dict_keyiterator_next (wpAny_call_entry F.slot_dict_keyiterator_next T0 F.entry_dict_keyiterator_next ?_ (F.args_dict_keyiterator_next_1 _))))
 refine wpAny_bind (wpAny_pure (wpAny_bind (wpAny_bind ?_)))
 first
 | refine wpAny_bind (wpAny_typeNameOfWhole_keyiter T0 (wpAny_pure (wpAny_bind (wpAny_fieldsOf hoi hdi ?_))))
 | refine wpAny_bind (wpAny_typeNameOf_keyiter T0 (wpAny_pure (wpAny_bind (wpAny_fieldsOf hoi hdi ?_))))
 simp only [own,Bool.false_eq_true,if_false];change wpAny _ _ (ite ((Value.ref d==Value.none)=true) _ _) _ _ s
 rw [if_neg noNone]
 refine wpAny_bind (wpAny_pure (wpAny_bind (wpAny_dictEntries ho hdat ?_)))
 rw [if_neg (by simp)]
 refine wpAny_bind (wpAny_pure (wpAny_bind (wpAny_dictEpoch ho hdat ?_)))
 rw [if_neg (by simp)]
 refine wpAny_pure ?_
 simp only [show ¬((i:Int) < 0) from by omega,if_false,Int.toNat_natCast,Array.getElem?_eq_none hi]
 refine wpAny_bind ?_
 first
 | refine wpAny_bind (wpAny_typeNameOfWhole_keyiter T0 (wpAny_pure ?_))
 | refine wpAny_bind (wpAny_typeNameOf_keyiter T0 (wpAny_pure ?_))
 change wpAny _ _ (setField (.ref it) 0 Value.none >>=_) _ _ s;refine wpAny_bind (wpAny_setField hoi hdi (by simp) ?_)
 change wpAny _ _ (newExc (.type "StopIteration") [] >>=_) _ _ _;refine wpAny_bind ?_
 simp only [newExc,newTuple];refine wpAny_bind (wpAny_newObj_type ?_ (by size_fits))
 refine wpAny_bind (m:=firstArgMember _ _) (wpAny_of_eq (a:=Value.none) (by first | rfl | (simp only [firstArgMember];rfl)) (wpAny_newObj_type ?_ (by size_fits)))
 have hin:A.in1.handled=none:=hh
 simp only [raiseNew];refine wpAny_bind (wpAny_handled ?_)
 rw [hin];refine wpAny_bind (wpAny_pure (wpAny_throw ?_))
 refine wpAny_bind (wpAny_isInstance (b:=true) (T:="StopIteration") ⟨_,Heap.get?_push_size _ rfl,rfl⟩ isSubtype_stop ?_)
 exact wpAny_pure (hQ _ (Heap.ExtBut.push (Heap.ExtBut.push (Heap.SameBut.extBut (Heap.SameBut.update ..)) _) _))
theorem Lx {Q:Value→Shared→Prop} (hs:(d==sysModules)=false) (hd:DEs s.heap d es ep)
  (hQ:Q (.ref s.heap.objs.size) {s with heap:=s.heap.push {cls:=.type "dict_keyiterator",data:=.fields #[.ref d,.int 0 0,.int es.size 0,.int ep 0]}}):wpAny (model prog w) A (pyIter (.ref d)) Q E s:=by
 obtain ⟨o,ho,hx,hdat⟩:=hd
 have T0:s.TypeIs (.ref d) "dict":=⟨o,ho,hx.1⟩
 refine wpAny_pyIter_slot T0 F.slot_dict_iter (wpAny_call_entry F.slot_dict_iter T0 F.entry_dict_iter ?_ (F.args_dict_iter_1 _))
 unfold Builtin.«dict.__iter__» Builtin.Dict.dictSlotNone;refine wpAny_bind (wpAny_bind (wpAny_notOrdered_dict T0 ?_))
 change wpAny _ _ (pure (Value.ref d)) _ _ s;refine wpAny_pure ?_
 change wpAny _ _ (Builtin.Dict.showsAll d >>=_) _ _ s;unfold Builtin.Dict.showsAll
 rw [if_neg (by rw [hs];exact Bool.false_ne_true)]
 refine wpAny_bind (wpAny_pure (wpAny_bind (wpAny_dictEntries ho hdat (wpAny_bind (wpAny_dictEpoch ho hdat ?_)))))
 refine wpAny_bind (wpAny_newObj_type ?_)
 refine wpAny_pure ⟨_,rfl,"dict_keyiterator",_,⟨_,Heap.get?_push_size _ rfl,rfl⟩,F.slot_dict_keyiterator_next.lookup,?_⟩
 simpa [rawInt] using hQ
end
open PySem PySem.Spec PyProof.Rows L2
section
variable {prog:Program} {w:World} {K:Type} [DecidableEq K] {knd:HeapKind prog w K} {A:Around} {E:Value→Shared→Prop} {s:Shared}
theorem qg {d a:Addr} {xs:List (K × Addr × Value)} {k:K} {v:Value} {Q:Value→Shared→Prop} (hu:knd.room A) (hkey:knd.is s.heap k a) (hm:s.heap.DictOfH knd d xs) (hz:xs.length≤sizeLine)
  (hold:∀p,atKey xs k=some p→Q p.2 {s with toks:=s.toks+knd.draws k})
  (hnew:atKey xs k=none→∀h',h'.DictOfH knd d (storedH xs k a v)→Heap.SameBut d s.heap h'→Q v {s with heap:=h',toks:=s.toks+knd.draws k}):
  wpAny (model prog w) A (dictSetDefault d (.ref a) v) Q E s:=by
 obtain ⟨o,es,ep,ho,hc,hd,he,his,hn⟩:=hm
 unfold dictSetDefault
 try with_reducible refine wpAny_holding ?_
 refine wpAny_bind (knd.pyHash hu hkey ?_)
 refine wpAny_bind (wpAny_dictFind_heap (s:={s with toks:=s.toks+knd.draws k}) hu hkey ho hd he his hn ?_ ?_)
 ·intro hno
  have hnot:k∉xs.map (·.1):=not_mem_keys_of_get hno
  refine wpAny_bind (wpAny_rule (wpAny_bind (wpAny_updateDictKeys (hz:=by have e:=size_of_entries he;omega) (s:={s with toks:=s.toks+knd.draws k}) ho hd (wpAny_pure (hnew (atKey_none_of_get hno) _ ⟨_,_,ep+1,Heap.get?_update_self _ ho (Obj.isFreed_of_dict (Obj.data_mapDictKeys hd _)),
   hc.mapDictKeys _,Obj.data_mapDictKeys hd _,?_,?_,?_⟩ (Heap.SameBut.update ..))))))
  ·rw [storedH_new (atKey_none_of_get hno)]
   simp [he,entryOfKey]
  ·rw [storedH_new (atKey_none_of_get hno)]
   intro x hx
   rcases List.mem_append.mp hx with hx | hx
   ·exact knd.keeps (his x hx) ho hd (Heap.SameBut.update ..)
   ·simp only [List.mem_singleton] at hx
    subst hx
    exact knd.keeps hkey ho hd (Heap.SameBut.update ..)
  ·rw [storedH_new (atKey_none_of_get hno)]
   rw [List.map_append,List.nodup_append]
   refine ⟨hn,by simp,?_⟩
   intro x hx y hy
   simp only [List.map_cons,List.map_nil,List.mem_singleton] at hy
   subst hy
   exact fun e=>hnot (e▸hx)
 ·intro j p hj
  refine wpAny_bind (wpAny_dictEntries (s:={s with toks:=s.toks+knd.draws k}) ho hd ?_)
  rw [entry_at he j,hj]
  exact wpAny_bind (wpAny_rule (wpAny_pure (hold p (atKey_of_get hn hj))))
theorem Ly {d a:Addr} {xs:List (K × Addr × Value)} {k:K} {v:Value} {Q:Value→Shared→Prop} (hs:(d==sysModules)=false) (hu:knd.room A.in1) (hkey:knd.is s.heap k a) (hm:s.heap.DictOfH knd d xs) (hz:xs.length≤sizeLine)
  (hold:∀p,atKey xs k=some p→∀t,Q p.2 {s with toks:=t})
  (hnew:atKey xs k=none→∀h' t,h'.DictOfH knd d (storedH xs k a v)→Heap.SameBut d s.heap h'→Q v {s with heap:=h',toks:=t}):
  wpAny (model prog w) A (call (.builtin "dict.setdefault") [.ref d,.ref a,v]) Q E s:=by
 obtain ⟨o,es,ep,ho,hc,hd,he,his,hn⟩:=id hm
 have T0:s.TypeIs (.ref d) "dict":=⟨o,ho,hc.1⟩
 refine wpAny_call_entry F.slot_dict_setdefault T0 F.entry_dict_setdefault ?_ (F.args_dict_setdefault_3 _ _ _)
 unfold Builtin.«dict.setdefault» Builtin.Dict.keyAndDefault
 refine wpAny_bind (wpAny_bind (wpAny_notOrdered_dict T0 ?_))
 change wpAny _ _ (pure (d,Value.ref a,some v)) _ _ s;refine wpAny_pure ?_
 dsimp only
 rw [if_neg (by rw [hs];exact Bool.false_ne_true)]
 refine wpAny_bind (qg (v:=v) hu hkey hm hz (fun p hp=>wpAny_pure ⟨_,rfl,hold p hp _⟩) fun h0 h' dd hb=>wpAny_pure ⟨_,rfl,hnew h0 h' _ dd hb⟩)
end
section
variable {X:Cx} {o e f:Expr} {td ty tx:TE} {apos cpos:Pos}
noncomputable def Pj (td ty tx:TE):TE:=fun σ H Q=>td σ H fun x H1=>∃a,x=.ref a∧IsD H1 a∧ty σ H1 fun y H2=>tx σ H2 fun z H3=>∃kvs k b,y=.ref b∧H3 a=some (.dT kvs)∧kvs.length < sizeLine∧H3 b=some (.tup (k.map kV))∧
 (∀v,gJ kvs k=some v→Q v H3)∧(gJ kvs k=none→Q z (upd H3 a (.dT (putK kvs k z))))
theorem Ij (hu:X.A.units+1 < cLine) (ho:PE X o td) (he:PE X e ty) (hf:PE X f tx) (m:M2 X o "setdefault" apos e f cpos):PE X (.Call (.Attribute o "setdefault" apos) [e,f] [] cpos) (Pj td ty tx):=by
 intro pins s σ H Q I h
 refine wpAny_Call_method m.base m.few m.line PySem.F.plainAttrs_dict PySem.F.slot_dict_setdefault PySem.F.type_dict_setdefault (thn (ho pins s σ H _ I h) fun u s1 ⟨x,H1,I1,rx,a,ex,d,q1⟩=>?_)
 subst ex
 obtain rfl:u=Value.ref a:=rx
 obtain ⟨t1,t2,_⟩:=FT I1 d
 refine ⟨t1,t2,?_⟩
 rw [m.trees]
 refine Calls.callWith_builtin rfl (Calls.evalArgs_plain (Calls.spliced_cons (thn (he pins s1 σ H1 _ I1 q1) fun iv s2 ⟨y,H2,I2,ry,q2⟩=>Calls.spliced_cons (thn (hf pins s2 σ H2 _ I2 q2) fun fv s3 ⟨z,H3,I3,rz,kvs,k,b,ey,ea,lk,eb,q,q'⟩=>Calls.spliced_nil ?_))))
 subst ey
 obtain rfl:iv=Value.ref b:=ry
 obtain ⟨zl,hs,xs,rel,dd⟩:=FN I3.hok ea
 have hzl:xs.length≤sizeLine:=by rw [←Paired.length rel];exact zl
 have r0:=KT.val rel k
 refine Ly (knd:=tupleKind (cZ X.prog X.w)) hs (tupleKind_room_in1 hu) (qZ I3.hok eb) dd hzl (fun p hp t=>?_) fun h0 h' t dd' hsb=>?_
 ·rw [hp] at r0
  cases ev:gJ kvs k with
  | none=>rw [ev] at r0;exact r0.elim
  | some v1=>
   rw [ev] at r0
   exact ⟨v1,H3,I3.tok t,r0,q v1 ev⟩
 ·have v0:gJ kvs k=none:=by
   rw [h0] at r0
   cases ev:gJ kvs k with
   | none=>rfl
   | some v=>rw [ev] at r0;exact r0.elim
  have hl:(putK kvs k z).length≤sizeLine:=by have:=ji kvs k z;omega
  obtain ⟨ob,es,ep,hq,h2,h3,h4,_,h5⟩:=dd'
  refine ⟨z,_,vf (t':=t) (ob:=.dT (putK kvs k z)) I3 (by rw [ea];exact True.intro) hsb ⟨ob,hq⟩ ⟨hl,hs,_,(rel.put k eb rz).keeps fun c ys ec=>?_,ob,es,ep,hq,h2,h3,h4,h5⟩,rz,q' v0⟩
  rw [aA (iz ec ea (fun z=>nomatch z))]
  exact ec
end
open PySem PySem.Spec PyProof.Rows L2 PySem.W
section
variable {prog:Program} {w:World} {A:Around} {E:Value→Shared→Prop} {s:Shared} {d:Addr} {ep:Nat} {es:Array DictEntry}
theorem DEs.lt {h:Heap} (x:DEs h d es ep):d < h.objs.size:=let ⟨_,ho,_⟩:=x;Heap.lt_size ho
theorem DEs.at' {h h':Heap} (x:DEs h d es ep) (k:∀o,h.get? d=some o→h'.get? d=some o):DEs h' d es ep:=let ⟨o,ho,r⟩:=x;⟨o,k o ho,r⟩
theorem yS (hh:A.handled=none) (I:Addr) (hne:d≠I):Walks prog w A I [I,d] [I] es.size (fun i v=>∃e,es[i]?=some e∧v=e.key) (fun i h=>h.IsKeyIter I d i es.size ep∧DEs h d es ep) where
 sub:=fun b hb=>by simp at hb;simp [hb]
 frame:=fun _ _ _ st hk=>⟨st.1.at fun o e=>hk I (by simp) o e,st.2.at' fun o e=>hk d (by simp) o e⟩
 item:=fun i s Q E hi st hQ=>by
  refine Ph st.1 st.2 hi fun h' st' sb=>hQ _ h' s.toks ⟨es[i],by simp [hi],rfl⟩ ⟨st',st.2.at' fun o e=>(sb.2 d hne).trans e⟩ fun b o hb e=>(sb.2 b (fun z=>hb (by simp [z]))).trans e
 done:=fun s Q E st hQ=>Lw hh st.1 st.2 (Nat.le_refl _) fun h' eb=>hQ h' s.toks fun b o hb e=>eb b o (fun z=>hb (by simp [z])) e
 self:=fun _ _ _ _ st hQ=>wpAny_pyIter_keyiter st.1 hQ
theorem Ik (lo:(d==sysModules)=false):KdlSrc prog w "dict" d d es.size (fun i v=>∃e,es[i]?=some e∧v=e.key) (fun h=>DEs h d es ep) where
 type:=fun _ hm=>let ⟨o,ho,hx,_⟩:=hm;⟨o,ho,hx.1⟩
 there:=fun _ hm=>⟨hm.lt,hm.lt⟩
 keep:=fun _ _ hm hk=>hm.at' fun o e=>hk d (.inl rfl) o e
 notList:=by decide
 notTuple:=by decide
 hint:=fun _ _ _ _ hm hq=>kdl_hint_dict (let ⟨o,ho,hx,_⟩:=hm;⟨o,ho,hx.1⟩) hq
 iter:=fun _ s hh hm=>⟨_,_,(fun _ _ hq=>Lx lo hm hq),yS hh _ (Nat.ne_of_lt hm.lt),⟨⟨_,Heap.get?_push_size _ rfl,rfl,rfl⟩,hm.at' fun o e=>Heap.get?_push_of_some _ e⟩⟩
end
theorem oF:∀ts:List Addr,Vals (ts.map V.ref) (ts.map Value.ref)
 | []=>.nil
 | _::ts=>.cons rfl (oF ts)
open PySem PySem.Spec PyProof.Rows L2 PySem.W
section
variable {prog:Program} {w:World} {A:Around} {E:Value→Shared→Prop} {s:Shared}
theorem Lz {a b:Addr} {i1 i2 j1 j2:Int} {t1 t2 u1 u2:Tok} {Q:Value→Shared→Prop} (hx:IsTup s.heap a #[.int i1 t1,.int i2 t2]) (hy:IsTup s.heap b #[.int j1 u1,.int j2 u2]) (hu:A.units < cLine)
  (h:Q (.bool (if i1=j1 then decide (i2≤j2) else decide (i1≤j1))) s):wpAny (model prog w) A (compareOp .LtE (.ref a) (.ref b)) Q E s:=by
 obtain ⟨oa,hoa,hca,na,hda⟩:=hx
 obtain ⟨ob,hob,hcb,nb,hdb⟩:=hy
 have Ta:s.TypeIs (.ref a) "tuple":=⟨oa,hoa,hca⟩
 have Tb:s.TypeIs (.ref b) "tuple":=⟨ob,hob,hcb⟩
 show wpAny _ _ (richCompare .LtE (.ref a) (.ref b)) _ _ _
 refine wpAny_richCompare_same_room (op:=.LtE) Ta Tb F.slot_tuple_le (wpAny_call_entry F.slot_tuple_le Ta F.entry_tuple_le ?_ (F.args_tuple_le_2 _ _)) hu
 show wpAny _ _ (isInstance (.ref b) (.type "tuple") >>=_) _ _ s
 refine wpAny_bind (wpAny_isInstance Tb isSubtype_tuple_tuple ?_)
 simp only [Bool.not_true,Bool.false_eq_true,if_false]
 refine wpAny_bind (wpAny_tupleItemsOf hoa hda ?_)
 refine wpAny_bind (wpAny_tupleItemsOf hob hdb ?_)
 refine wpAny_bind ?_
 simp only [List.zip_cons_cons,List.zip_nil_left,List.forIn_cons,List.forIn_nil]
 refine wpAny_bind (wpAny_bind (wpAny_eqBool_int ?_))
 by_cases e1:i1=j1
 ·rw [if_pos e1] at h
  have b1:(i1==j1)=true:=by simp [e1]
  rw [b1]
  simp only [Bool.not_true,Bool.false_eq_true,if_false]
  refine wpAny_pure (wpAny_bind (wpAny_bind (wpAny_eqBool_int ?_)))
  by_cases e2:i2=j2
  ·have b2:(i2==j2)=true:=by simp [e2]
   rw [b2]
   simp only [Bool.not_true,Bool.false_eq_true,if_false]
   refine wpAny_pure (wpAny_pure ?_)
   refine wpAny_pure ⟨_,rfl,(fun z=>nomatch z),?_⟩
   rw [decide_eq_true (by omega)] at h
   exact h
  ·have b2:(i2==j2)=false:=by simp [e2]
   rw [b2]
   simp only [Bool.not_false,if_true]
   refine wpAny_bind (wpAny_rule (wpAny_bind ?_))
   show wpAny _ _ (compareOp .LtE (Value.int i2 t2) (Value.int j2 u2)) _ _ _
   exact le_int (wpAny_bind (wpAny_pure (wpAny_pure (wpAny_pure (wpAny_pure ⟨_,rfl,(fun z=>nomatch z),h⟩)))))
 ·rw [if_neg e1] at h
  have b1:(i1==j1)=false:=by simp [e1]
  rw [b1]
  simp only [Bool.not_false,if_true]
  refine wpAny_bind (wpAny_rule (wpAny_bind ?_))
  show wpAny _ _ (compareOp .LtE (Value.int i1 t1) (Value.int j1 u1)) _ _ _
  exact le_int (wpAny_bind (wpAny_pure (wpAny_pure (wpAny_pure (wpAny_pure ⟨_,rfl,(fun z=>nomatch z),h⟩)))))
end
section
variable {X:Cx}
theorem Il (hu:X.A.units < cLine):OpR X (compareOp .LtE) (fun x y H Q=>∃a b i1 i2 j1 j2,x=.ref a∧y=.ref b∧SqT X.K H a [.int i1,.int i2]∧SqT X.K H b [.int j1,.int j2]∧Q (.bl (if i1=j1 then decide (i2≤j2) else decide (i1≤j1))) H):=by
 intro pins s σ H x y v u Q I rx ry h
 obtain ⟨a,b,i1,i2,j1,j2,rfl,rfl,ha,hb,q⟩:=h
 cases rx
 cases ry
 obtain ⟨xs,r1,t1,_⟩:=I.tuple ha
 obtain ⟨ys,r2,t2,_⟩:=I.tuple hb
 cases r1 with
 | cons p1 r1=>
  cases r1 with
  | cons p2 r1=>
   cases r1
   cases r2 with
   | cons q1 r2=>
    cases r2 with
    | cons q2 r2=>
     cases r2
     obtain ⟨_,rfl⟩:=p1
     obtain ⟨_,rfl⟩:=p2
     obtain ⟨_,rfl⟩:=q1
     obtain ⟨_,rfl⟩:=q2
     exact Lz t1 t2 hu (bV I q rfl)
theorem rQ {K:PySem.W.Frag} (hK:X.K=K):fK X (.type "tuple") (fun xs H Q=>∃p ys,xs=[.ref p]∧((SqL K H p ys∧∀l,H l=none→Q (.ref l) (upd H l (.tup ys)))∨(SqT K H p ys∧Q (.ref p) H))):=by
 subst hK
 exact tE
end
end L3
namespace K1
open PySem L2 L3 M1
noncomputable abbrev Kt:=Int × Nat
noncomputable def rd0:M1.Rd:=⟨0,0,0,0⟩
noncomputable def iT (hs:List (List Nat)) (ds:List M1.Rd) (r:Nat):Str:=S (hs.getD (ds.getD r rd0).a [])
noncomputable def iU (hs:List (List Nat)) (ds:List M1.Rd) (r:Nat):Str:=S (hs.getD (ds.getD r rd0).b [])
noncomputable def rTn (ds:List M1.Rd) (r:Nat):Int:=(ds.getD r rd0).t
noncomputable def rRm (ds:List M1.Rd) (r:Nat):Int:=(ds.getD r rd0).m
noncomputable def stepK (hs:List (List Nat)) (ds:List M1.Rd) (k:Kt):Step:=⟨k.1,some k.2,iU hs ds k.2,k.1+rTn ds k.2⟩
noncomputable def gO (st:Step) (ns:List Nat) (sss:List (List Step)):List (List Step):=sss.mapIdx fun i ss=>if i∈ns then ss++[st] else ss
theorem ie (st:Step) (ns:List Nat) (sss:List (List Step)):(gO st ns sss).length=sss.length:=by
 unfold gO
 rw [List.length_mapIdx]
theorem gC (st:Step) (ns:List Nat) (sss:List (List Step)) (i:Nat):(gO st ns sss)[i]?=(sss[i]?).map fun ss=>if i∈ns then ss++[st] else ss:=by
 unfold gO
 rw [List.getElem?_mapIdx]
theorem Dp (st:Step) (sss:List (List Step)):gO st [] sss=sss:=by
 apply List.ext_getElem?
 intro i
 rw [gC]
 simp
theorem yU (st:Step) {ns:List Nat} {n:Nat} (h:n∉ns) {sss:List (List Step)} {ss:List Step} (e:sss[n]?=some ss):gO st (ns++[n]) sss=(gO st ns sss).set n (ss++[st]):=by
 apply List.ext_getElem?
 intro i
 rw [gC,List.getElem?_set,gC,ie]
 by_cases hi:n=i
 ·subst hi
  have hl:=(List.getElem?_eq_some_iff.mp e).1
  rw [if_pos rfl,if_pos hl,e]
  simp
 ·rw [if_neg hi]
  have:(i∈ns++[n])↔i∈ns:=by
   rw [List.mem_append,List.mem_singleton]
   exact ⟨fun z=>z.elim id fun w=>absurd w.symm hi,.inl⟩
  simp only [this]
noncomputable def mask (H:Hp) (ts:List Addr):Hp:=fun b=>if b∈ts then none else H b
theorem qz {H:Hp} {ts:List Addr} {b:Addr} {o:HO} (e:H b=some o) (n:b∉ts):mask H ts b=some o:=by
 unfold mask
 rw [if_neg n]
 exact e
theorem LK {H:Hp} {ts:List Addr} {b:Addr} (h:b∈ts):mask H ts b=none:=if_pos h
theorem Dq (H:Hp) (ts:List Addr):aN (mask H ts) H:=fun b o e=>by
 unfold mask at e
 split at e
 ·cases e
 ·exact e
noncomputable def gU (H:Hp) (a:Addr) (b:Kt × List Nat):Prop:=∃c,H a=some (.tup [.int b.1.1,.int b.1.2,.ref c])∧H c=some (.tup (b.2.map fun n:Nat=>V.int n))
theorem gU.same {H H':Hp} {a:Addr} {b:Kt × List Nat} (h:gU H a b) (sm:aN H H'):gU H' a b:=let ⟨c,h1,h2⟩:=h;⟨c,sm _ _ h1,sm _ _ h2⟩
structure rR (C:Addr) (H:Hp) (x n g st:Addr) (gs:List Str) (ls:List Addr):Prop where
 ins:∃dx,H x=some (.ins C dx (vH n g st))
 goals:H g=some (.lst (gs.map V.str))
 steps:H st=some (.lst (refs ls))
theorem rR.same {C:Addr} {H H':Hp} {x n g st:Addr} {gs:List Str} {ls:List Addr} (h:rR C H x n g st gs ls) (sm:aN H H'):rR C H' x n g st gs ls:=
 let ⟨dx,e⟩:=h.ins;⟨⟨dx,sm _ _ e⟩,sm _ _ h.goals,sm _ _ h.steps⟩
theorem rR.at_ {C:Addr} {H:Hp} {x n g st:Addr} {gs:List Str} {ls:List Addr} {sss:List (List Step)} (h:rR C H x n g st gs ls) (e:Paired (cD H) ls sss):WalkAt C H x n g st gs ls sss:=⟨h.ins,h.goals,h.steps,e⟩
theorem cD.same {H H':Hp} {l:Addr} {ss:List Step} (h:cD H l ss) (sm:aN H H'):cD H' l ss:=let ⟨ts,a,b⟩:=h;⟨ts,sm _ _ a,b.same sm⟩
theorem pC {H H':Hp} {ls:List Addr} {sss:List (List Step)} (h:Paired (cD H) ls sss) (sm:aN H H'):Paired (cD H') ls sss:=Paired.mapP h fun _ _ e=>e.same sm
theorem WalkAt.same {C:Addr} {H H':Hp} {x n g st:Addr} {gs:List Str} {ls:List Addr} {sss:List (List Step)} (h:WalkAt C H x n g st gs ls sss) (sm:aN H H'):WalkAt C H' x n g st gs ls sss:=
 let ⟨dx,e⟩:=h.ins;⟨⟨dx,sm _ _ e⟩,sm _ _ h.goals,sm _ _ h.steps,pC h.each sm⟩
theorem xj {H H':Hp} {l:Addr} {ss':List Step} (new:cD H' l ss') (old:∀l' ss,l'≠l→cD H l' ss→cD H' l' ss):∀{ls:List Addr} {sss:List (List Step)} {n:Nat},Paired (cD H) ls sss→ls.Nodup→ls[n]?=some l→Paired (cD H') ls (sss.set n ss')
 | _,_,n,.nil,_,e=>by simp at e
 | a::ls,s0::sss,0,.cons r t,nd,e=>by
  simp only [List.getElem?_cons_zero,Option.some.injEq] at e
  subst e
  rw [List.nodup_cons] at nd
  refine .cons new ?_
  have:∀{ms:List Addr} {tss:List (List Step)},Paired (cD H) ms tss→a∉ms→Paired (cD H') ms tss:=fun {ms tss} p=>by
   induction p with
   | nil=>exact fun _=>.nil
   | cons r t ih=>exact fun h=>.cons (old _ _ (fun z=>h (by rw [z];exact .head _)) r) (ih fun z=>h (.tail _ z))
  exact this t nd.1
 | a::ls,s0::sss,n+1,.cons r t,nd,e=>by
  rw [List.nodup_cons] at nd
  have e':ls[n]?=some l:=by simpa using e
  exact .cons (old _ _ (fun z=>nd.1 (by rw [z];exact List.mem_of_getElem? e')) r) (xj new old t nd.2 e')
section
variable {P:Program} {w:World} {K:PySem.W.Frag} {mg:Str→Option Value} {base:Heap}
inductive Im (C:Addr) (vs:(List L2.V)) (H:Hp) (Q:VK) (u_3:XK):Prop where
 | mk (x a' b':Addr) (xs ys:List L2.V) (k:Int) (v:L2.V) (z1:vs=[.ref x,.int k]) (z2:kj C H x a' b' xs ys) (z3:0≤k) (z4:k < ys.length) (z5:L2.atI ys k=some v) (z6:Q v H)
noncomputable def Bf (C:Addr):Sp:=fun vs H Q u_3=>Im C vs H Q u_3
theorem Io {C f:Addr} {fd:FuncData} (F:Fun K "road" "Net.road" vL f fd) (B:Blt mg) (NC:Ky K C):aY P w K mg base CX0 1 f fd ["self","number"] (Bf C):=by
 refine F.ok Lr (fun vs H Q E h=>?_) (fun cdv A outer s H vs Q E hr h=>?_)
 ·obtain ⟨x,a',b',xs,ys,k,v,rfl,_⟩:=h
  rfl
 ·obtain ⟨x,a',b',xs,ys,k,v,rfl,n,h0,h1,hv,q⟩:=h
  obtain ⟨dx,hx⟩:=n.ins
  refine ⟨_,(au (cF (du (nJ kY qM az (pv 1) (aG aO (by rfl) B.len b7 (aa (iI (pv 0) (by rfl)) ao)))) (aB qJ) bF)
   (aB (aR (aM bB (iI (pv 0) (by rfl)) (pv 1) (fun _ _=>rfl))))),?_⟩
  refine ⟨_,rfl,_,_,rfl,rfl,_,rfl,?_⟩
  refine eF (decide_eq_true h0) ⟨_,rfl,x,C,dx,_,_,rfl,hx,NC.cl,NC.nr,rfl,b',_,rfl,.inl (SqL.of n.roa),_,_,rfl,rfl,_,rfl,?_⟩
  refine Ab h1 ?_
  exact ⟨_,rfl,x,C,dx,_,_,rfl,hx,NC.cl,NC.nr,rfl,_,rfl,b',_,_,_,rfl,rfl,SqL.of n.roa,hv,q⟩
inductive LQ (C CN:Addr) (vs:(List L2.V)) (H:Hp) (Q:VK) (u_3:XK):Prop where
 | mk (Hb:Hp) (x n g st a' b' bg:Addr) (gs:List Str) (ls rs:List Addr) (sss:List (List Step)) (hs:List (List Nat)) (ds:List M1.Rd) (b:Kt × List Nat) (z1:vs=[.ref x,.ref bg]) (z2:aN Hb H) (z3:rR C Hb x n g st gs ls) (z4:Paired (cD H) ls sss) (z5:ls.Nodup) (z6:(∀l∈ls,Hb l=none)) (z7:kj CN Hb n a' b' (txs hs) (refs rs)) (z8:cB Hb hs rs ds) (z9:gU Hb bg b) (z10:b.1.2 < ds.length) (z11:b.2.Nodup) (z12:(∀i∈b.2,i < sss.length)) (z13:(∀ss∈sss,ss.length≤100)) (z14:∀H',aN Hb H'→Paired (cD H') ls (gO (stepK hs ds b.1) b.2 sss)→Q .non H')
noncomputable def Ip (C CN:Addr):Sp:=fun vs H Q u_3=>LQ C CN vs H Q u_3
noncomputable abbrev Bg:Stmt:=inClass (top 23) 2
theorem yV:aX ["self","bag","road","number"] ["self","bag"] (aH Bg):=⟨rfl,rfl,rfl,by decide+kernel,rfl,by decide+kernel,by decide+kernel⟩
theorem LR {C CN f f1:Addr} {fd fd1:FuncData} (F:Fun K "send" "Walk.send" Bg f fd) (WC:mQ K C) (jY:Cls K CN) (gf:Mn K CN "road" "Net.road" vL ["self","number"] f1 fd1) (yW:aY P w K mg base CX0 1 f1 fd1 ["self","number"] (Bf CN)):
  aY P w K mg base CX0 2 f fd ["self","bag"] (Ip C CN):=by
 refine F.ok yV (fun vs H Q E h=>?_) (fun cdv A outer s H vs Q E hr h=>?_)
 ·obtain ⟨Hb,x,n,g,st,a',b',bg,gs,ls,rs,sss,hs,ds,b,rfl,_⟩:=h
  rfl
 ·obtain ⟨Hb,x,n,g,st,a',b',bg,gs,ls,rs,sss,hs,ds,b,rfl,sb,W,each,nd,fr,N,R,hbg,hr2,ndb,hlt,few,q⟩:=h
  obtain ⟨dx,hx⟩:=W.ins
  obtain ⟨dn,hn⟩:=N.ins
  obtain ⟨c,hb1,hb2⟩:=hbg
  have rl:=R.len
  refine ⟨_,(au (aP (i:=2) yV.nd rfl (Or.inl rfl) (gG (iI (pv 0) (by rfl)) jY gf.me yW (hr.mono (by decide)) gf.bd .nil bH (aa (aM aU (pv 1) az (fun _ _=>rfl)) ao)))
   (aB (fY PassesOwn.never rfl (oV (aM aU (pv 1) az (fun _ _=>rfl))) (bw (i:=3) yV.nd rfl (Or.inl rfl))
    (aB (iu (qT PySem.F.plainAttrs_list PySem.F.slot_list_append PySem.F.type_list_append gr (aM bB (iI (pv 0) (by rfl)) (pv 3) (fun _ _=>rfl)) (aa (bN (aa (aM aU (pv 1) az (fun _ _=>rfl)) (aa (aM aU (pv 1) az (fun _ _=>rfl)) (aa (aM aU (pv 2) az (fun _ _=>rfl)) (aa (aL cg (aM aU (pv 1) az (fun _ _=>rfl)) (aM aU (pv 2) az (fun _ _=>rfl))) ao))))) ao))))))),?_⟩
  obtain ⟨r,er⟩:∃r,rs[b.1.2]?=some r:=⟨_,List.getElem?_eq_getElem (by omega)⟩
  obtain ⟨d,ed,_,hd⟩:=R.get er
  have e0:ds.getD b.1.2 rd0=d:=dG ed
  refine ⟨_,rfl,x,C,dx,_,_,rfl,sb _ _ hx,WC.cl,WC.nn,rfl,n,dn,_,rfl,sb _ _ hn,rfl,_,rfl,bg,_,_,_,rfl,rfl,SqT.of (sb _ _ hb1),rfl,n,a',b',_,_,_,_,rfl,N.same sb,(by omega),(by have:=bf rs;omega),(cu (by unfold refs;rw [List.getElem?_map,er];rfl)),?_⟩
  refine ⟨_,rfl,bg,_,_,_,rfl,rfl,SqT.of (sb _ _ hb1),rfl,c,rfl,?_⟩
  refine ⟨⟨_,SqT.of (sb _ _ hb2)⟩,?_⟩
  have eV:rdV hs d=[.str (iT hs ds b.1.2),.str (iU hs ds b.1.2),.int (rTn ds b.1.2),.int (rRm ds b.1.2)]:=by
   unfold rdV iT iU rTn rRm
   rw [e0]
  rw [eV] at hd
  refine uU (K:=K) (a:=c) (xs:=b.2.map fun n:Nat=>V.int n) (fun j σ Hj=>∃v3,σ=[some (.ref x),some (.ref bg),some (.ref r),v3]∧aN Hb Hj∧Paired (cD Hj) ls (gO (stepK hs ds b.1) (b.2.take j) sss))
   ⟨none,rfl,sb,by rw [List.take_zero,Dp];exact each⟩ (fun j σ Hj _ ⟨_,_,h,_⟩=>SqT.of (h _ _ hb2)) ?_ ?_
  ·rintro j z σ Hj ez ⟨v3,rfl,sj,ej⟩
   rw [List.getElem?_map] at ez
   obtain ⟨i,ei,rfl⟩:=Option.map_eq_some_iff.mp ez
   have hi:=hlt i (List.mem_of_getElem? ei)
   obtain ⟨ss,es⟩:∃ss,sss[i]?=some ss:=⟨_,List.getElem?_eq_getElem hi⟩
   have ni:i∉b.2.take j:=fun z=>by
    have hj:=(List.getElem?_eq_some_iff.mp ei).1
    have e2:=List.take_append_drop j b.2
    rw [List.drop_eq_getElem_cons hj] at e2
    rw [←e2,List.nodup_append] at ndb
    have e3:b.2[j]=i:=by
     rw [List.getElem?_eq_getElem hj] at ei
     exact Option.some.inj ei
    exact ndb.2.2 i z i (by rw [e3];exact .head _) rfl
   have ga:(gO (stepK hs ds b.1) (b.2.take j) sss)[i]?=some ss:=by rw [gC,es];simp [ni]
   have ln:=Paired.length ej
   obtain ⟨l,el⟩:∃l,ls[i]?=some l:=⟨_,List.getElem?_eq_getElem (by rw [ie] at ln;omega)⟩
   obtain ⟨ss2,es2,ts,hl,tp⟩:=Paired.get ej el
   rw [ga] at es2
   cases es2
   have hb1j:=SqT.of (K:=K) (sj _ _ hb1)
   have hdj:=SqT.of (K:=K) (sj _ _ hd)
   have tl:=tp.len
   rw [List.length_map] at tl
   have fs:=few ss (List.mem_of_getElem? es)
   have fl:(refs ts).length < sizeLine:=aV (by rw [bf];omega)
   refine ⟨_,rfl,x,C,dx,_,_,rfl,sj _ _ hx,WC.cl,WC.ns,rfl,_,rfl,st,_,_,_,rfl,rfl,SqL.of (sj _ _ W.steps),(show L2.atI (refs ls) (i:Int)=some (.ref l) from cu (by unfold refs;rw [List.getElem?_map,el];rfl)),.inl ⟨rfl,_,SqL.of hl⟩,?_⟩
   refine ⟨_,rfl,bg,_,_,_,rfl,rfl,hb1j,rfl,_,rfl,bg,_,_,_,rfl,rfl,hb1j,rfl,_,rfl,r,_,_,_,rfl,rfl,hdj,rfl,_,rfl,bg,_,_,_,rfl,rfl,hb1j,rfl,_,rfl,r,_,_,_,rfl,rfl,hdj,rfl,_,_,rfl,rfl,(by show 4≤sizeLine;decide),fun t nt=>?_⟩
   have sjt:=aC (o:=.tup [V.int b.1.1,V.int b.1.2,V.str (iU hs ds b.1.2),V.int (b.1.1+rTn ds b.1.2)]) nt
   have hl2:=sjt _ _ hl
   refine ⟨l,_,_,rfl,rfl,hl2,fl,_,rfl,?_,?_⟩
   ·exact gZ (fr l (List.mem_of_getElem? el)) (sj.trans sjt)
   ·have tk:b.2.take (j+1)=b.2.take j++[i]:=by
     rw [List.take_add_one,ei]
     rfl
    rw [tk,yU _ ni es]
    refine xj ?_ (fun l' ss' nl h=>?_) ej nd el
    ·refine ⟨ts++[t],by rw [aq];unfold refs;rw [List.map_append];rfl,?_⟩
     rw [List.map_append]
     refine Paired.snoc ?_ ((tp.same sjt).upd hl2 (by intro d z;cases z))
     show upd _ l _ t=some (.tup (stV (stepK hs ds b.1)))
     rw [aA (aF hl nt).symm,aq]
     rfl
    ·obtain ⟨ts',h1,h2⟩:=h
     exact ⟨ts',by rw [aA nl];exact sjt _ _ h1,(h2.same sjt).upd hl2 (by intro d z;cases z)⟩
  ·rintro σ Hj ⟨v3,rfl,sj,ej⟩
   refine q Hj sj ?_
   rw [List.length_map,List.take_length] at ej
   exact ej
end
end K1
namespace M1
noncomputable def kI (c:Int):Int:=c * 1099087573 % 10000000000037
noncomputable def oG (n:Nat) (c:Int):Int:=kI c % n
noncomputable def mend (n:Nat) (c:Int):Int:=(oG n c+1+kI c / n % ((n:Int) - 1)) % n
noncomputable def oH (c:Int):Int:=if kI c / 27000 % 5=0 then 1+kI c / 135000 % 10 ^ 9 else 1+kI c / 9000 % 3
noncomputable def mrd (n:Nat) (c:Int):Rd:=⟨(oG n c).toNat,(mend n c).toNat,1+kI c / 1000 % 9,oH c⟩
theorem Pk {n:Nat} (h:1 < n) (c:Int):(mrd n c).Ok n:=by
 have b1:0≤oG n c:=Int.emod_nonneg _ (by omega)
 have b2:oG n c < n:=Int.emod_lt_of_pos _ (by omega)
 have e1:0≤mend n c:=Int.emod_nonneg _ (by omega)
 have e2:mend n c < n:=Int.emod_lt_of_pos _ (by omega)
 have d1:0≤kI c / n % ((n:Int) - 1):=Int.emod_nonneg _ (by omega)
 have d2:kI c / n % ((n:Int) - 1) < (n:Int) - 1:=Int.emod_lt_of_pos _ (by omega)
 have ne:oG n c≠mend n c:=by
  intro z
  have e3:mend n c=(oG n c+1+kI c / n % ((n:Int) - 1)) % n:=rfl
  generalize kI c / n % ((n:Int) - 1)=x at d1 d2 e3
  by_cases hlt:oG n c+1+x < n
  ·rw [Int.emod_eq_of_lt (by omega) hlt] at e3
   omega
  ·have h5:(oG n c+1+x) % (n:Int)=(oG n c+1+x - n) % (n:Int):=by rw [Int.sub_emod_right]
   rw [h5,Int.emod_eq_of_lt (by omega) (by omega)] at e3
   omega
 have t1:0≤kI c / 1000 % 9:=Int.emod_nonneg _ (by decide)
 have t2:kI c / 1000 % 9 < 9:=Int.emod_lt_of_pos _ (by decide)
 have m:1≤oH c∧oH c≤1000000000:=by
  unfold oH
  split
  ·have p9:(10:Int) ^ 9=1000000000:=by decide
   rw [p9]
   omega
  ·omega
 exact ⟨by show (oG n c).toNat < n;omega,by show (mend n c).toNat < n;omega,by show (oG n c).toNat≠(mend n c).toNat;omega,by show 1≤1+_∧1+_≤9;omega,m⟩
end M1
namespace K1
open PySem L2 L3 M1
inductive Pn (vs:(List L2.V)) (H:Hp) (Q:VK) (u_3:XK):Prop where
 | mk (c:Int) (a:Addr) (hs:List (List Nat)) (z1:vs=[.int c,.ref a]) (z2:H a=some (.lst (txs hs))) (z3:2≤hs.length) (z4:hs.length≤12) (z5:∀r,H r=none→Q (.ref r) (upd H r (.tup (rdV hs (mrd hs.length c)))))
noncomputable def M8:Sp:=fun vs H Q u_3=>Pn vs H Q u_3
theorem vO {t:TS} {D:Ends} {σ:L2.St} {H:Hp} (P:Ends→Prop) (h1:P D) (h2:∀D',P D'→t D' σ H):t D σ H:=h2 D h1
section
variable {P:Program} {w:World} {K:PySem.W.Frag} {mg:Str→Option Value} {base:Heap}
noncomputable abbrev Ma:Stmt:=top 44
noncomputable abbrev Ug:List Str:=["_law_cell","_law_names","_law_n","_law_many","_law_first","_law_last","_law_room"]
theorem rT:aX Ug ["_law_cell","_law_names"] (aH Ma):=⟨rfl,rfl,rfl,by decide+kernel,rfl,by decide+kernel,by decide+kernel⟩
theorem Pq {f:Addr} {fd:FuncData} (F:Fun K "_law_road" "_law_road" Ma f fd) (B:Blt mg):aY P w K mg base CX0 1 f fd ["_law_cell","_law_names"] M8:=by
 refine F.ok rT (fun vs H Q E h=>?_) (fun cdv A outer s H vs Q E hr h=>?_)
 ·obtain ⟨c,a,hs,rfl,_⟩:=h
  rfl
 ·obtain ⟨c,a,hs,rfl,ha,h2,h12,q⟩:=h
  refine ⟨_,(au (aP (i:=2) rT.nd rfl (Or.inl rfl) (aL bR (aL jM (pv 0) az) az))
   (au (aP (i:=3) rT.nd rfl (Or.inl rfl) (aG aO (by rfl) B.len b7 (aa (pv 1) ao)))
   (au (aP (i:=4) rT.nd rfl (Or.inl rfl) (aL bR (pv 2) (pv 3)))
   (au (aP (i:=5) rT.nd rfl (Or.inl rfl) (aL bR (aL cg (aL cg (pv 4) az) (aL bR (aL eG (pv 2) (pv 3)) (aL jL (pv 3) az))) (pv 3)))
   (au (aP (i:=6) rT.nd rfl (Or.inl rfl) (aL cg az (aL bR (aL eG (pv 2) az) az)))
   (au (cF (bL j9 (aL bR (aL eG (pv 2) az) az) az (bA _)) (aB (aP (i:=6) rT.nd rfl (Or.inl rfl) (aL cg az (aL bR (aL eG (pv 2) az) (aL yu az az))))) bF)
   (aB (aR (bN (aa (aM bB (pv 1) (pv 4) (fun _ _=>rfl)) (aa (aM bB (pv 1) (pv 5) (fun _ _=>rfl)) (aa (aL cg az (aL bR (aL eG (pv 2) az) az)) (aa (pv 6) ao))))))))))))),?_⟩
  have hl:=qu hs
  have b1:0≤oG hs.length c:=Int.emod_nonneg _ (by omega)
  have b2:oG hs.length c < hs.length:=Int.emod_lt_of_pos _ (by omega)
  have e1:0≤mend hs.length c:=Int.emod_nonneg _ (by omega)
  have e2:mend hs.length c < hs.length:=Int.emod_lt_of_pos _ (by omega)
  refine ⟨_,rfl,_,_,rfl,rfl,.inr ⟨by decide,by decide⟩,_,_,rfl,rfl,(by show (0:Int) < 10000000000037;decide),?_⟩
  refine ⟨_,rfl,a,_,rfl,.inl (SqL.of ha),?_⟩
  rw [hl]
  refine ⟨_,rfl,_,rfl,_,_,rfl,rfl,(by show (0:Int) < (hs.length:Int);omega),?_⟩
  refine ⟨_,rfl,_,_,rfl,rfl,_,rfl,_,rfl,_,_,rfl,rfl,⟨by show (0:Int) < (hs.length:Int);omega,by show (hs.length:Int) < 1073741824;omega⟩,_,rfl,_,_,rfl,rfl,_,_,rfl,rfl,(by show (0:Int) < (hs.length:Int) - 1;omega),_,_,rfl,rfl,_,rfl,_,_,rfl,rfl,(by show (0:Int) < (hs.length:Int);omega),?_⟩
  refine ⟨_,rfl,_,_,rfl,rfl,⟨by decide,by decide⟩,_,_,rfl,rfl,(by show (0:Int) < 3;decide),_,_,rfl,rfl,?_⟩
  dsimp only [dX,oU]
  refine vO (t:=Eo _ _ _) (fun D'=>D'.nx [some (.int c),some (.ref a),some (.int (kI c)),some (.int hs.length),some (.int (oG hs.length c)),some (.int (mend hs.length c)),some (.int (oH c))] H) ?_ fun D' rest=>?_
  ·refine ⟨_,rfl,_,rfl,a,_,_,_,rfl,rfl,SqL.of ha,vp b1 b2,_,rfl,_,rfl,a,_,_,_,rfl,rfl,SqL.of ha,vp e1 e2,_,rfl,_,_,rfl,rfl,⟨by decide,by decide⟩,_,_,rfl,rfl,(by show (0:Int) < 9;decide),_,_,rfl,rfl,_,rfl,(by show 4≤sizeLine;decide),q⟩
  ·refine ⟨_,rfl,_,_,rfl,rfl,⟨by decide,by decide⟩,_,_,rfl,rfl,(by show (0:Int) < 5;decide),rfl,_,rfl,?_⟩
   by_cases h5:kI c / 27000 % 5=0
   ·refine eF (by show decide (V.int (kI c / 27000 % 5)=V.int 0)=true;rw [h5];decide) ?_
    refine ⟨_,rfl,_,_,rfl,rfl,⟨by decide,by decide⟩,_,_,rfl,rfl,⟨by decide,by decide,by decide⟩,_,_,rfl,rfl,(by show (0:Int) < 10 ^ (9:Int).toNat;decide),_,_,rfl,rfl,?_⟩
    have e6:oH c=1+kI c / 135000 % 10 ^ (9:Int).toNat:=by unfold oH;rw [if_pos h5];rfl
    rw [e6] at rest
    exact rest
   ·refine fM (by show decide (V.int (kI c / 27000 % 5)=V.int 0)=false;exact decide_eq_false fun z=>h5 (V.int.inj z)) ?_
    have e6:oH c=1+kI c / 9000 % 3:=by unfold oH;rw [if_neg h5]
    rw [e6] at rest
    exact rest
end
open PySem L2 L3 M1
section
variable {P:Program} {w:World} {K:PySem.W.Frag} {mg:Str→Option Value} {base:Heap}
noncomputable def pD (s:Step) (y h:Str) (t:Int):Bool:=decide (s.house≠y) && (decide (s.house=h) && decide (s.due≤t))
noncomputable def Ir (C:Addr):Sp:=fun vs H Q _=>∃(x n g st:Addr) (gs:List Str) (ls:List Addr) (sss:List (List Step)) (k:Nat) (ss:List Step) (s:Step) (y h:Str) (t:Int),vs=[.ref x,.int k,.str h,.int t]∧WalkAt C H x n g st gs ls sss∧sss[k]?=some (ss++[s])∧gs[k]?=some y∧Q (.bl (pD s y h t)) H
noncomputable abbrev Bh:Stmt:=inClass (top 23) 7
theorem Pr:aX ["self","number","house","turn"] ["self","number","house","turn"] (aH Bh):=⟨rfl,rfl,rfl,by decide+kernel,rfl,by decide+kernel,by decide+kernel⟩
theorem Mf {C f f1 f2 f3:Addr} {fd fd1 fd2 fd3:FuncData} (F:Fun K "can_leave" "Walk.can_leave" Bh f fd) (WC:mQ K C)
  (bD:Mn K C "last_house" "Walk.last_house" rF ["self","number"] f1 fd1) (gM:aY P w K mg base CX0 1 f1 fd1 ["self","number"] (vI C))
  (bJ:Mn K C "last_turn" "Walk.last_turn" rG ["self","number"] f2 fd2) (g8:aY P w K mg base CX0 1 f2 fd2 ["self","number"] (vJ C))
  (bK:Mn K C "home_turn" "Walk.home_turn" rJ ["self","number"] f3 fd3) (ig:aY P w K mg base CX0 2 f3 fd3 ["self","number"] (vK C)):aY P w K mg base CX0 3 f fd ["self","number","house","turn"] (Ir C):=by
 have b8:=WC.cl
 refine F.ok Pr (fun vs H Q E h=>?_) (fun cdv A outer s H vs Q E hr h=>?_)
 ·obtain ⟨x,n,g,st,gs,ls,sss,k,ss,s',y,h',t,rfl,_⟩:=h
  rfl
 ·obtain ⟨x,n,g,st,gs,ls,sss,k,ss,s',y,h',t,rfl,W,es,ey,q⟩:=h
  obtain ⟨dx,hx⟩:=W.ins
  refine ⟨_,(aB (aR (cz (cJ N5 (gG (pv 0) b8 bK.me ig (hr.mono (by decide)) bK.bd .nil bH (aa (pv 1) ao)) iH (bA _)) (cz (cJ j9 (gG (pv 0) b8 bD.me gM (hr.mono (by decide)) bD.bd .nil bH (aa (pv 1) ao)) (pv 2) (bA _)) (dN (cJ kY (gG (pv 0) b8 bJ.me g8 (hr.mono (by decide)) bJ.bd .nil bH (aa (pv 1) ao)) (pv 3) (bA _))))))),?_⟩
  refine ⟨_,rfl,x,dx,_,rfl,hx,rfl,_,rfl,x,n,g,st,gs,ls,sss,k,ss,s',y,rfl,W,es,ey,rfl,_,rfl,?_⟩
  unfold pD at q
  by_cases h1:s'.house=y
  ·have e:decide (rH s' y=L2.V.non)=false:=by
    unfold rH
    rw [if_pos h1]
    exact decide_eq_false (by intro z;cases z)
   rw [decide_eq_false (fun z=>z h1),Bool.false_and] at q
   exact fM e q
  ·have e:decide (rH s' y=L2.V.non)=true:=by
    unfold rH
    rw [if_neg h1]
    exact decide_eq_true rfl
   rw [decide_eq_true h1,Bool.true_and] at q
   refine eF e ⟨_,rfl,x,dx,_,rfl,hx,rfl,_,rfl,x,n,g,st,gs,ls,sss,k,ss,s',rfl,W,es,_,rfl,rfl,_,rfl,?_⟩
   by_cases h2:s'.house=h'
   ·rw [decide_eq_true h2,Bool.true_and] at q
    exact eF (decide_eq_true (congrArg V.str h2)) ⟨_,rfl,x,dx,_,rfl,hx,rfl,_,rfl,x,n,g,st,gs,ls,sss,k,ss,s',rfl,W,es,_,rfl,_,_,rfl,rfl,q⟩
   ·rw [decide_eq_false h2,Bool.false_and] at q
    exact fM (decide_eq_false fun z=>h2 (V.str.inj z)) q
noncomputable abbrev vP:Stmt:=top 24
theorem Mg:aX ["thing"] ["thing"] (aH vP):=⟨rfl,rfl,rfl,by decide+kernel,rfl,by decide+kernel,by decide+kernel⟩
noncomputable abbrev Mh:Stmt:=top 25
theorem Bj:aX ["numbers","bound","ahead","number"] ["numbers","bound"] (aH Mh):=⟨rfl,rfl,rfl,by decide+kernel,rfl,by decide+kernel,by decide+kernel⟩
noncomputable def RG:Option Kt→Kt→Prop
 | none,_=>True
 | some a,k=>a.1 < k.1∨(a.1=k.1∧a.2 < k.2)
structure Iu (hs:List (List Nat)) (ds:List M1.Rd) (gs:List Str) (sss:List (List Step)) (ah:Option Kt) (b:Kt × List Nat):Prop where
 ne:b.2≠[]
 few:b.2.length≤100
 ord:RG ah b.1
 rd:b.1.2 < ds.length
 room:(b.2.length:Int)≤rRm ds b.1.2
 ris:b.2.Pairwise (· < ·)
 lt:∀i∈b.2,i < sss.length
 can:∀i∈b.2,∃ss s y,sss[i]?=some (ss++[s])∧gs[i]?=some y∧pD s y (iT hs ds b.1.2) b.1.1=true
noncomputable abbrev Mi:Stmt:=top 26
theorem Iv:aX ["walk","net","letters","ahead","thing","roads","road"] ["walk","net","letters","ahead","thing"] (aH Mi):=⟨rfl,rfl,rfl,by decide+kernel,rfl,by decide+kernel,by decide+kernel⟩
inductive Wks (hs:List (List Nat)) (ds:List M1.Rd) (gs:List Str):List (List Step)→Option Kt→List (Kt × List Nat)→List (List Step)→Prop
 | nil {sss ah}:Wks hs ds gs sss ah [] sss
 | cons {sss ah b bs fin} (ok:Iu hs ds gs sss ah b) (t:Wks hs ds gs (gO (stepK hs ds b.1) b.2 sss) (some b.1) bs fin):Wks hs ds gs sss ah (b::bs) fin
noncomputable abbrev xm:Stmt:=top 27
theorem m9:aX ["net","letters","plan","walk","ahead","place","thing","reason"] ["net","letters","plan"] (aH xm):=⟨rfl,rfl,rfl,by decide+kernel,rfl,by decide+kernel,by decide+kernel⟩
end
open PySem L2 L3 M1
theorem qm (i j:Int):decide (V.int i=V.int j)=decide (i=j):=by
 by_cases h:i=j
 ·rw [decide_eq_true h,decide_eq_true (congrArg V.int h)]
 ·rw [decide_eq_false h,decide_eq_false fun z=>h (V.int.inj z)]
noncomputable def Iw (n:Int):PyData→Bool
 | .tuple ds=>decide ((ds.length:Int)=n)
 | _=>false
inductive Dr (vs:(List L2.V)) (H:Hp) (Q:VK) (u_3:XK):Prop where
 | mk (v:L2.V) (d:PyData) (z1:vs=[v]) (z2:Th H v d) (z3:Q (.bl (bG d)) H)
noncomputable def jw:Sp:=fun vs H Q u_3=>Dr vs H Q u_3
inductive yX (vs:(List L2.V)) (H:Hp) (Q:VK) (u_3:XK):Prop where
 | mk (v:L2.V) (d:PyData) (lo hi:Int) (z1:vs=[v,.int lo,.int hi]) (z2:Th H v d) (z3:Q (.bl (KH lo hi d)) H)
noncomputable def Ds:Sp:=fun vs H Q u_3=>yX vs H Q u_3
inductive Du (vs:(List L2.V)) (H:Hp) (Q:VK) (u_3:XK):Prop where
 | mk (v:L2.V) (d:PyData) (n:Int) (z1:vs=[v,.int n]) (z2:Th H v d) (z3:Q (.bl (Iw n d)) H)
noncomputable def xq:Sp:=fun vs H Q u_3=>Du vs H Q u_3
inductive yZ (vs:(List L2.V)) (H:Hp) (Q:VK) (u_3:XK):Prop where
 | mk (a:Addr) (hs:List PyData) (v u:L2.V) (d e:PyData) (z1:vs=[.ref a,v,u]) (z2:Th H (.ref a) (.list hs)) (z3:Th H v d) (z4:Th H u e) (z5:d.depth≤60) (z6:e.depth≤60) (z7:Q (.bl (KJ hs d e)) H)
noncomputable def Dv:Sp:=fun vs H Q u_3=>yZ vs H Q u_3
theorem Dw {ds:List PyData} {d:PyData} (h:d∈ds):d.depth≤PyData.depthAll ds:=by
 induction ds with
 | nil=>cases h
 | cons x r ih=>
  simp only [PyData.depthAll]
  rcases List.mem_cons.mp h with rfl | h
  ·exact Nat.le_max_left _ _
  ·exact Nat.le_trans (ih h) (Nat.le_max_right _ _)
section
variable {P:Program} {w:World} {K:PySem.W.Frag} {mg:Str→Option Value} {base:Heap}
theorem Dy {f:Addr} {fd:FuncData} (F:Fun K "is_whole" "is_whole" m8 f fd) (B:Blt mg):aY P w K mg base CX0 1 f fd ["thing"] jw:=by
 refine F.ok Az (fun vs H Q E h=>?_) (fun cdv A outer s H vs Q E hr h=>?_)
 ·obtain ⟨v,d,rfl,_⟩:=h
  rfl
 ·obtain ⟨v,d,rfl,h,q⟩:=h
  refine ⟨_,(aB (aR (cz (aG cT (by rfl) B.isinstance aQ (aa (pv 0) (aa (fL (by rfl) B.int vg) ao))) (dN (yo (aG cT (by rfl) B.isinstance aQ (aa (pv 0) (aa (fL (by rfl) B.bool vh) ao)))))))),?_⟩
  refine ⟨_,rfl,_,_,_,_,_,rfl,⟨rfl,h.ty,lG K (GF d)⟩,_,rfl,?_⟩
  cases d with
  | int i=>exact dm ⟨_,rfl,_,_,_,_,_,rfl,⟨rfl,h.ty,lG K (qw _)⟩,_,rfl,q⟩
  | bool b=>exact dm ⟨_,rfl,_,_,_,_,_,rfl,⟨rfl,h.ty,lG K (qw _)⟩,_,rfl,q⟩
  | _=>exact dz q
theorem za {f fW:Addr} {fd fdW:FuncData} (F:Fun K "is_whole_within" "is_whole_within" oh f fd) (bh:Dn K mg "is_whole" m8 ["thing"] fW fdW)
  (dO:aY P w K mg base CX0 1 fW fdW ["thing"] jw):aY P w K mg base CX0 2 f fd ["thing","least","greatest"] Ds:=by
 refine F.ok wY (fun vs H Q E h=>?_) (fun cdv A outer s H vs Q E hr h=>?_)
 ·obtain ⟨v,d,lo,hi,rfl,_⟩:=h
  rfl
 ·obtain ⟨v,d,lo,hi,rfl,h,q⟩:=h
  refine ⟨_,(aB (aR (cz (aZ dO (hr.mono (by decide)) (by rfl) bh.at_ bh.fn.kp bh.bd .nil bH (aa (pv 0) ao)) (dN (qO kY kY (pv 1) (pv 0) (pv 2)))))),?_⟩
  refine ⟨_,rfl,v,d,rfl,h,_,rfl,?_⟩
  cases h with
  | int i=>
   have q:Q (.bl (decide (lo≤i) && decide (i≤hi))) H:=q
   refine dm ⟨_,rfl,_,rfl,_,_,rfl,rfl,_,rfl,?_⟩
   by_cases h1:lo≤i
   ·rw [decide_eq_true h1,Bool.true_and] at q
    exact eF (decide_eq_true h1) ⟨_,rfl,_,_,rfl,rfl,q⟩
   ·rw [decide_eq_false h1,Bool.false_and] at q
    exact fM (decide_eq_false h1) q
  | _=>exact dz q
theorem Dz {f:Addr} {fd:FuncData} (F:Fun K "is_tuple_of" "is_tuple_of" o8 f fd) (B:Blt mg):aY P w K mg base CX0 1 f fd ["thing","length"] xq:=by
 refine F.ok Ba (fun vs H Q E h=>?_) (fun cdv A outer s H vs Q E hr h=>?_)
 ·obtain ⟨v,d,n,rfl,_⟩:=h
  rfl
 ·obtain ⟨v,d,n,rfl,h,q⟩:=h
  refine ⟨_,(aB (aR (cz (aG cT (by rfl) B.isinstance aQ (aa (pv 0) (aa (fL (by rfl) B.tuple ju) ao))) (dN (cJ j9 (aG aO (by rfl) B.len b7 (aa (pv 0) ao)) (pv 1) (bA _)))))),?_⟩
  refine ⟨_,rfl,_,_,_,_,_,rfl,⟨rfl,h.ty,lG K (nW d)⟩,_,rfl,?_⟩
  cases h with
  | @tup a xs ds ha z t=>
   refine dm ⟨_,rfl,a,_,rfl,.inr (SqT.of ha),_,rfl,rfl,?_⟩
   show Q (.bl (decide (V.int (xs.length:Int)=V.int n))) H
   rw [qm,t.len]
   exact q
  | _=>exact dz q
theorem zb {f:Addr} {fd:FuncData} (F:Fun K "are_unlike_houses" "are_unlike_houses" ou f fd):aY P w K mg base CX0 1 f fd ["houses","one","other"] Dv:=by
 refine F.ok wZ (fun vs H Q E h=>?_) (fun cdv A outer s H vs Q E hr h=>?_)
 ·obtain ⟨a,hs,v,u,d,e,rfl,_⟩:=h
  rfl
 ·obtain ⟨a,hs,v,u,d,e,rfl,ha,hv,hu,dd,de,q⟩:=h
  refine ⟨_,(aB (aR (cz (cJ (Gf (Ri hr)) (pv 1) (pv 0) (by rfl)) (cz (cJ (Gf (Ri hr)) (pv 2) (pv 0) (by rfl)) (dN (cJ (yL hr.units) (pv 1) (pv 2) (bA _))))))),?_⟩
  have can:PyData.canLayAll0 hs=true:=ha.can
  have sd:SeqAt.shaped d=true:=iV hv.can dd (by decide)
  have se:SeqAt.shaped e=true:=iV hu.can de (by decide)
  have q:Q (.bl (inD d hs && inD e hs && !PyData.eqv d e)) H:=q
  refine ⟨_,rfl,_,rfl,d,hs,hv.dt,ha.dt,sd,can,_,rfl,?_⟩
  show if inD d hs=true then _ else _
  cases h1:inD d hs with
  | false=>
   rw [h1] at q
   exact dz q
  | true=>
   rw [h1] at q
   refine dm ⟨_,rfl,_,rfl,e,hs,hu.dt,ha.dt,se,can,_,rfl,?_⟩
   show if inD e hs=true then _ else _
   cases h2:inD e hs with
   | false=>
    rw [h2] at q
    exact dz q
   | true=>
    rw [h2] at q
    exact dm ⟨_,rfl,_,rfl,d,e,hv.dt,hu.dt,sd,se,q⟩
end
end K1
namespace L3
open PySem PySem.Spec PyProof.Rows L2
section
variable {X:Cx}
theorem jj {K:PySem.W.Frag} {C D:Addr} {b:Bool} (hc:PySem.W.isClsIn K D=true) (ht:PySem.W.typeIn K (.ref D)=some (.type "type")) (hs:PySem.W.subIn K (.ref C) (.ref D)=some b) (hn:(Value.ref C==Value.ref D)=true→b=true):
  PySem.W.kitOne K (.ref C) (.ref D)=some b:=by
 unfold PySem.W.kitOne
 by_cases h:(Value.ref C==Value.ref D)=true
 ·rw [if_pos h,hn h]
 ·rw [if_neg h]
  unfold PySem.W.kitCls
  have h1:(PySem.W.clsIn K D).isSome=true:=hc
  have h2:(PySem.W.typeIn K (.ref D)==some (.type "type"))=true:=by rw [ht];decide
  show (if ((PySem.W.clsIn K D).isSome && PySem.W.typeIn K (.ref D)==some (.type "type"))=true then _ else _)=_
  rw [h1,h2]
  exact (if_pos rfl).trans hs
structure Mk0 (K:PySem.W.Frag) (C:Addr):Prop where
 makes:PySem.W.makesIn K C=true
 init:PySem.W.findIn K (.ref C) "__init__"=some (some (.builtin "object.__init__"))
 kp:PySem.W.keepIn K (.ref C)=true
noncomputable def Pu (C:Addr):TE:=fun _ H Q=>∀x dx,H x=none→H dx=none→dx≠x→Q (.ref x) (upd (upd H dx (.own x)) x (.ins C dx []))
theorem zf {C:Addr} {pins:List (Addr × Obj)} {σ:L2.St} {H:Hp} {s:Shared} {Q:VK} (M:Mk0 X.K C) (I:Inv X pins σ H s)
  (h:∀x dx,H x=none→H dx=none→dx≠x→Q (.ref x) (upd (upd H dx (.own x)) x (.ins C dx []))):
  wpAny (model X.prog X.w) X.A (call (.ref C) []) (EP X pins σ Q) X.xe s:=by
 have I2:=Inv.made (C:=C) I
 have Y:=PySem.W.makes_of (M:=model X.prog X.w) I.kIn M.makes
 obtain ⟨_,_,_,hx,_⟩:=(show bQ X.prog X.w _ _ _ (.ins C s.heap.objs.size []) from I2.hok (s.heap.objs.size+1) _ aq)
 refine wpAny_call (Cm I.kIn M.makes M.init (fun self=>PySem.W.Looks.of_pure (PySem.W.oi_bind self)) ?_)
 have t1:PySem.W.Looks (model X.prog X.w) ((s.heap.push PySem.W.emptyDict).push (PySem.W.instObj C s.heap.objs.size)) (typeOf (.ref (s.heap.objs.size+1))) (.ref C):=(PySem.W.Looks.ld hx).andThen .now
 have t2:PySem.W.Looks (model X.prog X.w) ((s.heap.push PySem.W.emptyDict).push (PySem.W.instObj C s.heap.objs.size)) (isInstance (.ref (s.heap.objs.size+1)) (.type "object")) true:=t1.andThen (Y.top.keeps fun b o e=>Heap.get?_push_of_some _ (Heap.get?_push_of_some _ e))
 refine codeAny_call_builtin PySem.W.oi_plain PySem.W.entry_oi (@PySem.W.check_slot (model X.prog X.w) _ _ _ "object.__init__" "object" "__init__" (.ref (s.heap.objs.size+1)) [] [] _ PySem.W.oi_kind PySem.W.oi_split t2 (PySem.W.oi_args (.ref (s.heap.objs.size+1))) ?_)
 rw [PySem.W.oi_run]
 exact wpAny_pure (And.intro rfl ⟨V.ref (s.heap.objs.size+1),_,I2,rfl,h _ _ (I.hok.fresh (Nat.le_succ _)) (I.hok.fresh (Nat.le_refl _)) (Nat.ne_of_lt (Nat.lt_succ_self _))⟩)
theorem Iz {C:Addr} {x:Str} {p pos:Pos} (M:Mk0 X.K C) (hg:Gl X x) (hm:X.mg x=some (.ref C)) (hdb:(x==("__debug__":Str))=false:=by decide):PE X (.Call (.Name x p) [] [] pos) (Pu C):=by
 intro pins s σ H Q I h
 refine wpAny_Call_Name_kw (jh I hg hm ?_ hdb)
 exact PySem.W.callWith_K0 I.kIn M.kp (zf M I h)
end
end L3
namespace K1
open PySem L2 L3 M1
noncomputable def RJ (C:Addr) (a:Str):Sp:=fun vs H Q _=>∃(x dx:Addr) (u:L2.V),vs=[.ref x,u]∧H x=some (.ins C dx [])∧Q .non (upd H x (.ins C dx [(a,u)]))
noncomputable def Mj (C:Addr) (a b:Str):Sp:=fun vs H Q _=>∃(x dx:Addr) (u v:L2.V),vs=[.ref x,u,v]∧H x=some (.ins C dx [])∧Q .non (upd H x (.ins C dx [(a,u),(b,v)]))
section
variable {P:Program} {w:World} {K:PySem.W.Frag} {mg:Str→Option Value} {base:Heap}
noncomputable abbrev sIH:Stmt:=inClass (top 19) 0
noncomputable abbrev sIR:Stmt:=inClass (top 20) 0
noncomputable abbrev sIA:Stmt:=inClass (top 21) 0
theorem Uh:aX ["self","at","since"] ["self","at","since"] (aH sIH):=⟨rfl,rfl,rfl,by decide+kernel,rfl,by decide+kernel,by decide+kernel⟩
theorem RK {C f:Addr} {fd:FuncData} (F:Fun K "__init__" "AtHouse.__init__" sIH f fd) (cl:Cls K C) (n1:PySem.W.findIn K (.ref C) "at"=some none) (n2:PySem.W.findIn K (.ref C) "since"=some none):aY P w K mg base CX0 1 f fd ["self","at","since"] (Mj C "at" "since"):=by
 refine F.ok Uh (fun vs H Q E h=>?_) (fun cdv A outer s H vs Q E hr h=>?_)
 ·obtain ⟨x,dx,u,v,rfl,_⟩:=h
  rfl
 ·obtain ⟨x,dx,u,v,rfl,hx,q⟩:=h
  refine ⟨_,(au (jm (pv 0) (pv 1) rfl)
   (aB (jm (pv 0) (pv 2) rfl))),?_⟩
  refine ⟨_,rfl,_,rfl,x,C,dx,_,rfl,hx,cl,n1,(by show 0 < 1000;decide),?_⟩
  refine ⟨_,rfl,_,rfl,x,C,dx,_,rfl,aq,cl,n2,(by show 1 < 1000;decide),?_⟩
  show Q .non (upd (upd H x (.ins C dx [("at",u)])) x (.ins C dx [("at",u),("since",v)]))
  rw [qj]
  exact q
theorem Ui:aX ["self","by","due"] ["self","by","due"] (aH sIR):=⟨rfl,rfl,rfl,by decide+kernel,rfl,by decide+kernel,by decide+kernel⟩
theorem RL {C f:Addr} {fd:FuncData} (F:Fun K "__init__" "OnRoad.__init__" sIR f fd) (cl:Cls K C) (n1:PySem.W.findIn K (.ref C) "by"=some none) (n2:PySem.W.findIn K (.ref C) "due"=some none):aY P w K mg base CX0 1 f fd ["self","by","due"] (Mj C "by" "due"):=by
 refine F.ok Ui (fun vs H Q E h=>?_) (fun cdv A outer s H vs Q E hr h=>?_)
 ·obtain ⟨x,dx,u,v,rfl,_⟩:=h
  rfl
 ·obtain ⟨x,dx,u,v,rfl,hx,q⟩:=h
  refine ⟨_,(au (jm (pv 0) (pv 1) rfl)
   (aB (jm (pv 0) (pv 2) rfl))),?_⟩
  refine ⟨_,rfl,_,rfl,x,C,dx,_,rfl,hx,cl,n1,(by show 0 < 1000;decide),?_⟩
  refine ⟨_,rfl,_,rfl,x,C,dx,_,rfl,aq,cl,n2,(by show 1 < 1000;decide),?_⟩
  show Q .non (upd (upd H x (.ins C dx [("by",u)])) x (.ins C dx [("by",u),("due",v)]))
  rw [qj]
  exact q
theorem Uj:aX ["self","since"] ["self","since"] (aH sIA):=⟨rfl,rfl,rfl,by decide+kernel,rfl,by decide+kernel,by decide+kernel⟩
theorem RM {C f:Addr} {fd:FuncData} (F:Fun K "__init__" "AtHome.__init__" sIA f fd) (cl:Cls K C) (n1:PySem.W.findIn K (.ref C) "since"=some none):aY P w K mg base CX0 1 f fd ["self","since"] (RJ C "since"):=by
 refine F.ok Uj (fun vs H Q E h=>?_) (fun cdv A outer s H vs Q E hr h=>?_)
 ·obtain ⟨x,dx,u,rfl,_⟩:=h
  rfl
 ·obtain ⟨x,dx,u,rfl,hx,q⟩:=h
  refine ⟨_,(aB (jm (pv 0) (pv 1) rfl)),?_⟩
  exact ⟨_,rfl,_,rfl,x,C,dx,_,rfl,hx,cl,n1,(by show 0 < 1000;decide),q⟩
end
open PySem L2 L3 M1
theorem Bk {wi:TI} {cs:List (Option Nat)} {te:TE} {σ rest:L2.St} {H H1:Hp} {Q:VK} {J:It} {xs:List L2.V} (hw:∀R:It→Hp→Prop,R J H1→wi σ H R) (hcs:jQ cs σ=none::rest) (wk:Wk J H1 xs) (hl:xs.length < sizeLine) (F:Nat→L2.V→Hp→Prop)
  (st:∀i v H2 H3,aN H2 H3→F i v H2→F i v H3) (sl:∀i v H2 D ys zs,H2 D=some (.lst ys)→F i v H2→F i v (upd H2 D (.lst zs)))
  (elt:∀(i:Nat) (x:L2.V) (H2:Hp) (R:VK),xs[i]?=some x→aN H1 H2→(∀v H5,aN H2 H5→F i v H5→R v H5)→te (some x::rest) H2 R)
  (fin:∀(D:Addr) (H':Hp) (vs:List L2.V),H1 D=none→H' D=some (.lst vs)→vs.length=xs.length→(∀i v,vs[i]?=some v→F i v H')→aN H1 H'→Q (.ref D) H'):tLC wi cs (dX 0) u5 te σ H Q:=by
 refine hw _ fun D hD=>?_
 refine ⟨fun i m ys σ' H'=>m=xs.length - i∧i≤xs.length∧(ys.length=i∧∀j v,ys[j]?=some v→F j v H')∧(∃o,σ'=o::rest)∧aN H1 H'∧H' D=some (.lst ys),⟨xs.length,by simp,Nat.zero_le _,⟨rfl,fun j v e=>by simp at e⟩,⟨none,by rw [hcs]⟩,fun b o e=>?_,aq⟩,?_⟩
 ·rw [aA (aF e hD)]
  exact e
 ·rintro i m ys σ' H' ⟨rfl,hi,⟨yl,hy⟩,⟨o,rfl⟩,sm,hHD⟩
  obtain ⟨w1,w2,w3⟩:=wk H' sm
  refine ⟨hHD,Nat.lt_of_le_of_lt (by omega) hl,?_⟩
  by_cases hlt:i < xs.length
  ·refine .inr ⟨w2 i hlt,fun x H2 y=>?_⟩
   obtain ⟨rfl,ex⟩:=w3 i x H2 hlt y
   show te (some x::rest) H2 _
   refine elt i x H2 _ ex sm fun v H5 s5 hv=>⟨s5 _ _ hHD,xs.length - (i+1),by omega,rfl,hlt,⟨by rw [List.length_append,yl];rfl,fun j u e=>?_⟩,⟨_,rfl⟩,fun b ob e=>?_,aq⟩
   ·refine sl j u H5 D ys _ (s5 _ _ hHD) ?_
    by_cases hj:j < ys.length
    ·rw [List.getElem?_append_left hj] at e
     exact st j u _ _ s5 (hy j u e)
    ·rw [List.getElem?_append_right (by omega)] at e
     have ej:j=i:=by
      by_cases hz:j - ys.length=0
      ·omega
      ·rw [List.getElem?_eq_none (by simp;omega)] at e
       cases e
     subst ej
     rw [yl,Nat.sub_self] at e
     cases e
     exact hv
   ·rw [aA (aF e hD)]
    exact s5 _ _ (sm _ _ e)
  ·have e:i=xs.length:=by omega
   subst e
   exact .inl ⟨w1,fin D H' ys hD hHD yl hy sm⟩
inductive Spt where
 | ny
 | at_ (h:Str) (t:Int)
 | on (r:Option Int) (t:Int)
 | home (t:Int)
structure SpA where
 ny:Addr
 at_:Addr
 on:Addr
 home:Addr
noncomputable def IK (S:SpA) (H:Hp) (v:L2.V):Spt→Prop
 | .ny=>∃x dx,v=.ref x∧H x=some (.ins S.ny dx [])
 | .at_ h t=>∃x dx,v=.ref x∧H x=some (.ins S.at_ dx [("at",.str h),("since",.int t)])
 | .on r t=>∃x dx,v=.ref x∧H x=some (.ins S.on dx [("by",byV r),("due",.int t)])
 | .home t=>∃x dx,v=.ref x∧H x=some (.ins S.home dx [("since",.int t)])
noncomputable def IV (s:Step) (y:Str) (t:Int):Spt:=if t < s.due then .on s.by_ s.due else if s.house=y then .home s.due else .at_ s.house s.due
noncomputable def spotOf (ss:List Step) (y:Str) (t:Int):Spt:=match (ss.filter fun s=>decide (s.left≤t)).getLast? with
 | none=>.ny
 | some s=>IV s y t
theorem picked {H:Hp} {ts:List Addr} {ss:List Step} (tp:f9 H ts (ss.map stV)) (s0:Step) (q:Step→Bool):
  ∃us,((List.range (refs ts).length).filter fun i=>q (ss.getD i s0)).map (fun i=>(refs ts).getD i .non)=refs us∧f9 H us ((ss.filter q).map stV):=by
 have tl:=tp.len
 rw [List.length_map] at tl
 have rl:=bf ts
 have e1:ss.filter q=((List.range (refs ts).length).filter fun i=>q (ss.getD i s0)).map fun i=>ss.getD i s0:=by
  have:=pA q id s0 ss
  rw [List.map_id] at this
  rw [rl,tl,←this]
  rfl
 refine ⟨((List.range (refs ts).length).filter fun i=>q (ss.getD i s0)).map fun i=>ts.getD i 0,?_,?_⟩
 ·unfold refs
  rw [List.map_map]
  refine List.map_congr_left fun i hi=>?_
  have hi2:=List.mem_range.mp (List.mem_filter.mp hi).1
  rw [List.length_map] at hi2
  show ((ts.map V.ref)[i]?).getD _=V.ref ((ts[i]?).getD 0)
  rw [List.getElem?_map,List.getElem?_eq_getElem hi2]
  rfl
 ·rw [e1,List.map_map]
  generalize hx:(List.range (refs ts).length).filter (fun i=>q (ss.getD i s0))=idx
  have all:∀i∈idx,i < ts.length:=fun i hi=>by
   rw [←hx] at hi
   have:=List.mem_range.mp (List.mem_filter.mp hi).1
   omega
  clear hx e1
  induction idx with
  | nil=>exact .nil
  | cons i r ih=>
   refine .cons ?_ (ih fun j hj=>all j (.tail _ hj))
   have hi:=all i (.head _)
   obtain ⟨d,ed,hd⟩:=Paired.get tp (List.getElem?_eq_getElem hi)
   rw [List.getElem?_map] at ed
   obtain ⟨s',e',rfl⟩:=Option.map_eq_some_iff.mp ed
   show H ((ts[i]?).getD 0)=some (.tup (stV (ss.getD i s0)))
   rw [dG e',List.getElem?_eq_getElem hi]
   exact hd
theorem DG {H:Hp} {us:List Addr} {pre:List Step} {s:Step} (tp:f9 H us ((pre++[s]).map stV)):∃ps u,us=ps++[u]∧H u=some (.tup (stV s)):=by
 rcases List.eq_nil_or_concat us with rfl | ⟨ps,u,rfl⟩
 ·have:=tp.len
  simp at this
 ·have l:=tp.len
  rw [List.concat_eq_append] at *
  refine ⟨ps,u,rfl,?_⟩
  obtain ⟨d,ed,hd⟩:=Paired.get tp (i:=ps.length) (x:=u) (by simp)
  have pl:ps.length=pre.length:=by simpa using l
  rw [pl,List.map_append,List.getElem?_append_right (by rw [List.length_map];omega)] at ed
  simp at ed
  rw [←ed] at hd
  exact hd
section
variable {P:Program} {w:World} {K:PySem.W.Frag} {mg:Str→Option Value} {base:Heap}
noncomputable def IW (C:Addr) (S:SpA):Sp:=fun vs H Q _=>∃(x n g st:Addr) (gs:List Str) (ls:List Addr) (sss:List (List Step)) (k:Nat) (ss:List Step) (y:Str) (t:Int),vs=[.ref x,.int k,.int t]∧WalkAt C H x n g st gs ls sss∧sss[k]?=some ss∧ss.length≤100∧gs[k]?=some y∧∀v H',aN H H'→IK S H' v (spotOf ss y t)→Q v H'
noncomputable abbrev Bl:Stmt:=inClass (top 23) 8
theorem zg:aX ["self","number","turn","begun","last"] ["self","number","turn"] (aH Bl):=⟨rfl,rfl,rfl,by decide+kernel,rfl,by decide+kernel,by decide+kernel⟩
theorem Ml {C f f1 f2 f3:Addr} {fd fd1 fd2 fd3:FuncData} {S:SpA} (F:Fun K "spot_at" "Walk.spot_at" Bl f fd) (WC:mQ K C) (jx:mg "NotYet"=some (.ref S.ny)) (jc:mg "AtHouse"=some (.ref S.at_)) (jy:mg "OnRoad"=some (.ref S.on)) (jz:mg "AtHome"=some (.ref S.home))
  (Mk0_NotYet:Mk0 K S.ny) (zj:Mk K S.at_ f1) (cV:Inn K S.at_ "AtHouse.__init__" sIH ["self","at","since"] f1 fd1) (rW:aY P w K mg base CX0 1 f1 fd1 ["self","at","since"] (Mj S.at_ "at" "since"))
  (DK:Mk K S.on f2) (dh:Inn K S.on "OnRoad.__init__" sIR ["self","by","due"] f2 fd2) (tQ:aY P w K mg base CX0 1 f2 fd2 ["self","by","due"] (Mj S.on "by" "due"))
  (DN:Mk K S.home f3) (dj:Inn K S.home "AtHome.__init__" sIA ["self","since"] f3 fd3) (tR:aY P w K mg base CX0 1 f3 fd3 ["self","since"] (RJ S.home "since")):
  aY P w K mg base CX0 3 f fd ["self","number","turn"] (IW C S):=by
 refine F.ok zg (fun vs H Q E h=>?_) (fun cdv A outer s H vs Q E hr h=>?_)
 ·obtain ⟨x,n,g,st,gs,ls,sss,k,ss,y,t,rfl,_⟩:=h
  rfl
 ·obtain ⟨x,n,g,st,gs,ls,sss,k,ss,y,t,rfl,W,es,few,ey,q⟩:=h
  obtain ⟨dx,hx⟩:=W.ins
  refine ⟨_,(au (nR (i:=3) zg.nd rfl rfl rfl (N':=["step","turn"]) (cs:=[none,some 2]) rfl (iw (aM bB (iI (pv 0) (by rfl)) (pv 1) (fun _ _=>rfl))) rfl (by decide+kernel) rfl (by decide+kernel) (gY (List.forall_mem_cons.mpr ⟨rfl,(fun p hp=>absurd hp (List.not_mem_nil))⟩)) rfl
    (.own (.cap rfl (.inl rfl) (.inl rfl) rfl .nil))
    (fun C s3 H3 fp pn=>⟨(bw (i:=0) (by show (["step","turn"]:List Str).Nodup;decide+kernel) rfl (.inl rfl)),(Ac (bL kY (aM (mC (K:=K) rfl) (pv 0) az (fun _ _=>rfl)) (pv 1) (bA _))),(pv 0)⟩))
   (au (cF (du (Ew (pv 3) (fun _=>rfl))) (aB (aR (Iz Mk0_NotYet (by rfl) jx))) bF)
   (au (aP (i:=4) zg.nd rfl (Or.inl rfl) (aM bB (pv 3) (qL mY az) (fun _ _=>rfl)))
   (au (cF (bL qN (aM aU (pv 4) az (fun _ _=>rfl)) (pv 2) (bA _)) (aB (aR (nO DK tQ (hr.mono (by decide)) (by rfl) jy dh.bd .nil bH (aa (aM aU (pv 4) az (fun _ _=>rfl)) (aa (aM aU (pv 4) az (fun _ _=>rfl)) ao))))) bF)
   (au (cF (bL j9 (aM aU (pv 4) az (fun _ _=>rfl)) (aM bB (iI (pv 0) (by rfl)) (pv 1) (fun _ _=>rfl)) (bA _)) (aB (aR (nO DN tR (hr.mono (by decide)) (by rfl) jz dj.bd .nil bH (aa (aM aU (pv 4) az (fun _ _=>rfl)) ao)))) bF)
   (aB (aR (nO zj rW (hr.mono (by decide)) (by rfl) jc cV.bd .nil bH (aa (aM aU (pv 4) az (fun _ _=>rfl)) (aa (aM aU (pv 4) az (fun _ _=>rfl)) ao)))))))))),?_⟩
  have ln:=Paired.length W.each
  have hk:=(List.getElem?_eq_some_iff.mp es).1
  obtain ⟨l,el⟩:∃l,ls[k]?=some l:=⟨_,List.getElem?_eq_getElem (by omega)⟩
  obtain ⟨ss2,es2,ts,hl,tp⟩:=Paired.get W.each el
  rw [es] at es2
  cases es2
  have tl:=tp.len
  rw [List.length_map] at tl
  have al:L2.atI (refs ls) (k:Int)=some (.ref l):=cu (by unfold refs;rw [List.getElem?_map,el];rfl)
  have hl2:=bf ts
  let s0:Step:=⟨0,none,Str.ofString "",0⟩
  dsimp only [oU,yq]
  refine HF (J:=Itl K l) (H1:=H) (xs:=refs ts) (rest:=[some (.int t)]) (fun R h=>⟨_,rfl,x,C,dx,_,_,rfl,hx,WC.cl,WC.ns,rfl,_,rfl,st,_,_,_,rfl,rfl,SqL.of W.steps,al,l,rfl,⟨_,SqL.of hl⟩,h⟩) rfl (nT (SqL.of hl)) (aV (by omega)) (fun i=>decide ((ss.getD i s0).left≤t)) (fun i=>(refs ts).getD i .non) (fun i v H2 R ev sm k2=>?_) (fun i v H2 R ev hp sm k2=>?_) (fun D H2 nD hD sD=>?_)
  ·unfold refs at ev
   rw [List.getElem?_map] at ev
   obtain ⟨r,er,rfl⟩:=Option.map_eq_some_iff.mp ev
   obtain ⟨d,ed,hd⟩:=Paired.get tp er
   rw [List.getElem?_map] at ed
   obtain ⟨s',e',rfl⟩:=Option.map_eq_some_iff.mp ed
   have e0:ss.getD i s0=s':=dG e'
   rw [e0] at k2
   exact ⟨_,rfl,r,_,_,_,rfl,rfl,SqT.of (sm _ _ hd),rfl,_,rfl,_,_,rfl,rfl,_,rfl,k2 H2 (aN.refl _)⟩
  ·refine ⟨_,rfl,?_⟩
   rw [dG ev] at k2
   exact k2 H2 (aN.refl _)
  ·obtain ⟨us,eu,tu⟩:=picked tp s0 (fun s'=>decide (s'.left≤t))
   rw [eu] at hD
   unfold spotOf at q
   have mkd:∀{x' dx':Addr} {o:HO},H2 x'=none→H2 dx'=none→aN H (upd (upd H2 dx' (.own x')) x' o):=fun {x' dx' o} n1 n2 b v e=>by
    have e2:=sD _ _ e
    rw [aA (aF e2 n1),aA (aF e2 n2)]
    exact e2
   have mk2:∀{x' dx':Addr} {o o2:HO},H2 x'=none→H2 dx'=none→aN H (upd (upd (upd H2 dx' (.own x')) x' o) x' o2):=fun {x' dx' o o2} n1 n2=>by
    rw [qj]
    exact mkd n1 n2
   rcases List.eq_nil_or_concat (ss.filter fun s'=>decide (s'.left≤t)) with e | ⟨pre,s',e⟩
   ·rw [e] at tu q
    have u0:us=[]:=by
     have:=tu.len
     exact List.length_eq_zero_iff.mp this
    subst u0
    exact ⟨_,rfl,false,.inl ⟨_,SqL.of hD,rfl⟩,dm fun x' dx' n1 n2 _=>q _ _ (mkd n1 n2) ⟨x',dx',rfl,aq⟩⟩
   ·rw [List.concat_eq_append] at e
    rw [e] at tu q
    rw [List.getLast?_append,List.getLast?_singleton] at q
    obtain ⟨ps,u,rfl,hu⟩:=DG tu
    have hu2:=sD _ _ hu
    have tu2:=SqT.of (K:=K) hu2
    have nz:(refs (ps++[u])).isEmpty=false:=by unfold refs;rw [List.map_append];cases ps <;> rfl
    have la:L2.atI (refs (ps++[u])) (-1)=some (.ref u):=by unfold refs;rw [List.map_append];exact pB
    refine ⟨_,rfl,true,.inl ⟨_,SqL.of hD,by rw [nz];rfl⟩,dz ?_⟩
    refine ⟨_,rfl,_,rfl,D,_,_,_,rfl,rfl,SqL.of hD,la,?_⟩
    refine ⟨_,rfl,u,_,_,_,rfl,rfl,tu2,rfl,_,rfl,_,_,rfl,rfl,_,rfl,?_⟩
    show (if decide (t < s'.due)=true then _ else _)
    change ∀v H',aN H H'→IK S H' v (IV s' y t)→Q v H' at q
    unfold IV at q
    by_cases h1:t < s'.due
    ·rw [if_pos h1] at q
     refine eF (decide_eq_true h1) ⟨_,rfl,u,_,_,_,rfl,rfl,tu2,rfl,_,rfl,u,_,_,_,rfl,rfl,tu2,rfl,fun x' dx' n1 n2 _=>⟨x',dx',_,_,rfl,aq,rfl,?_⟩⟩
     exact q _ _ (mk2 n1 n2) ⟨x',dx',rfl,aq⟩
    ·rw [if_neg h1] at q
     refine fM (decide_eq_false h1) ?_
     have ag:L2.atI (gs.map V.str) (k:Int)=some (.str y):=cu (by rw [List.getElem?_map,ey];rfl)
     refine ⟨_,rfl,u,_,_,_,rfl,rfl,tu2,rfl,_,rfl,x,C,dx,_,_,rfl,sD _ _ hx,WC.cl,WC.ng,rfl,_,rfl,g,_,_,_,rfl,rfl,SqL.of (sD _ _ W.goals),ag,rfl,_,rfl,?_⟩
     by_cases h2:s'.house=y
     ·rw [if_pos h2] at q
      refine eF (decide_eq_true (congrArg V.str h2)) ⟨_,rfl,u,_,_,_,rfl,rfl,tu2,rfl,fun x' dx' n1 n2 _=>⟨x',dx',_,rfl,aq,rfl,?_⟩⟩
      exact q _ _ (mk2 n1 n2) ⟨x',dx',rfl,aq⟩
     ·rw [if_neg h2] at q
      refine fM (decide_eq_false fun z=>h2 (V.str.inj z)) ⟨_,rfl,u,_,_,_,rfl,rfl,tu2,rfl,_,rfl,u,_,_,_,rfl,rfl,tu2,rfl,fun x' dx' n1 n2 _=>⟨x',dx',_,_,rfl,aq,rfl,?_⟩⟩
      exact q _ _ (mk2 n1 n2) ⟨x',dx',rfl,aq⟩
end
open PySem L2 L3 M1
noncomputable def fP:PyData→Bool
 | .tuple [a,b,.tuple ns]=>bG a && (bG b && (decide (0 < ns.length) && ns.all bG))
 | _=>false
noncomputable def tU (t r:Int) (ns:List Int):PyData:=.tuple [.int t,.int r,.tuple (ns.map PyData.int)]
noncomputable def intD:PyData→Int
 | .int i=>i
 | _=>0
noncomputable def toB:PyData→Int × Int × List Int
 | .tuple [a,b,.tuple ns]=>(intD a,intD b,ns.map intD)
 | _=>(0,0,[])
theorem pF {d:PyData} (h:bG d=true):d=.int (intD d):=by
 cases d <;> first | rfl | cases h
theorem rY:∀{ds:List PyData},ds.all bG=true→ds=(ds.map intD).map PyData.int
 | [],_=>rfl
 | d::ds,h=>by
  rw [List.all_cons,Bool.and_eq_true] at h
  rw [List.map_cons,List.map_cons,←pF h.1,←rY h.2]
theorem pG {d:PyData} (h:fP d=true):d=tU (toB d).1 (toB d).2.1 (toB d).2.2∧(toB d).2.2≠[]:=by
 unfold fP at h
 split at h
 ·rename_i a b ns
  simp only [Bool.and_eq_true,decide_eq_true_eq] at h
  obtain ⟨h1,h2,h3,h4⟩:=h
  refine ⟨?_,fun z=>?_⟩
  ·show PyData.tuple [a,b,.tuple ns]=.tuple [.int (intD a),.int (intD b),.tuple ((ns.map intD).map PyData.int)]
   rw [←pF h1,←pF h2,←rY h4]
  ·have z:ns.map intD=[]:=z
   rw [List.map_eq_nil_iff] at z
   rw [z] at h3
   exact absurd h3 (by simp)
 ·cases h
theorem Bm (t r:Int) (ns:List Int):toB (tU t r ns)=(t,r,ns):=by
 show (t,r,(ns.map PyData.int).map intD)=_
 rw [List.map_map]
 have:(intD∘PyData.int)=id:=funext fun i=>rfl
 rw [this,List.map_id]
theorem DP {t r:Int} {ns:List Int} (h:ns≠[]):fP (tU t r ns)=true:=by
 show (true && (true && (decide (0 < (ns.map PyData.int).length) && (ns.map PyData.int).all bG)))=true
 rw [decide_eq_true (by rw [List.length_map];exact List.length_pos_iff.mpr h),Bool.true_and,Bool.true_and,Bool.true_and,List.all_map,List.all_eq_true]
 intro i _
 rfl
theorem Bo {ds:List PyData} (h:ds.length≠3):fP (.tuple ds)=false:=by
 rcases ds with _ | ⟨a,_ | ⟨b,_ | ⟨c,_ | ⟨e,r⟩⟩⟩⟩
 ·rfl
 ·rfl
 ·rfl
 ·exact absurd rfl h
 ·cases c <;> rfl
theorem Bp {a b c:PyData} (h:isTup c=false):fP (.tuple [a,b,c])=false:=by
 cases c <;> first | rfl | cases h
theorem xr {H:Hp}:∀{vs:List L2.V} {ns:List Int},Ths H vs (ns.map PyData.int)→vs=ns.map V.int
 | [],[],_=>rfl
 | _::_,[],h=>nomatch h
 | [],_::_,h=>nomatch h
 | v::vs,n::ns,h=>by
  cases h with
  | cons a b=>
   cases a
   rw [List.map_cons,xr b]
theorem zm {H:Hp} {v:L2.V} {t r:Int} {ns:List Int} (h:Th H v (tU t r ns)):∃a c,v=.ref a∧H a=some (.tup [.int t,.int r,.ref c])∧H c=some (.tup (ns.map V.int))∧ns.length≤100:=by
 unfold tU at h
 cases h with
 | @tup a xs _ ha z ts=>
  cases ts with
  | cons t0 ts=>
   cases ts with
   | cons t1 ts=>
    cases ts with
    | cons t2 ts=>
     cases ts
     cases t0
     cases t1
     cases t2 with
     | @tup c ys _ hc zc tc=>
      have e:=xr tc
      subst e
      exact ⟨a,c,rfl,ha,hc,by rw [List.length_map] at zc;exact zc⟩
noncomputable def rZ (ah:Option (Int × Int)) (t r:Int):Bool:=match ah with
 | none=>false
 | some k=>if t=k.1 then decide (r≤k.2) else decide (t≤k.1)
noncomputable def jg (m:Int):Int→List Int→Bool
 | _,[]=>true
 | a,n::r=>if a < n∧n < m then jg m n r else false
noncomputable def dD (hs:List (List Nat)) (ds:List M1.Rd) (gs:List Str) (sss:List (List Step)) (t r:Int) (n:Int):Bool:=pD (lastAt' sss n.toNat) (gs.getD n.toNat Str.empty) (iT hs ds r.toNat) t
where lastAt' (sss:List (List Step)) (n:Nat):Step:=(sss.getD n []).getLastD ⟨0,none,Str.empty,0⟩
noncomputable def zp:Str:=Str.ofString "order"
noncomputable def Ja:Str:=Str.ofString "road"
noncomputable def Jb:Str:=Str.ofString "room"
noncomputable def qC:Str:=Str.ofString "letter"
noncomputable def zq:Str:=Str.ofString "there"
noncomputable def M9:Str:=Str.ofString "bag"
noncomputable def zr (hs:List (List Nat)) (ds:List M1.Rd) (gs:List Str) (sss:List (List Step)) (ah:Option (Int × Int)) (b:Int × Int × List Int):Option Str:=
 if rZ ah b.1 b.2.1=true then some zp
 else if ¬(0≤b.2.1∧b.2.1 < ds.length) then some Ja
 else if rRm ds b.2.1.toNat < b.2.2.length then some Jb
 else if jg sss.length (-1) b.2.2=false then some qC
 else if b.2.2.all (dD hs ds gs sss b.1 b.2.1)=false then some zq
 else none
noncomputable def kJ (hs:List (List Nat)) (ds:List M1.Rd) (gs:List Str) (sss:List (List Step)) (ah:Option (Int × Int)) (d:PyData):Option Str:=if fP d=true then zr hs ds gs sss ah (toB d) else some M9
noncomputable def RN:Option Str→L2.V
 | none=>.non
 | some e=>.str e
theorem qD {m:Int}:∀{ns:List Int} {a:Int},jg m a ns=true→ns.Pairwise (· < ·)∧∀n∈ns,a < n∧n < m
 | [],_,_=>⟨.nil,fun n h=>nomatch h⟩
 | n::r,a,h=>by
  unfold jg at h
  split at h
  ·rename_i c
   obtain ⟨h1,h2⟩:=qD h
   refine ⟨List.pairwise_cons.mpr ⟨fun x hx=>(h2 x hx).1,h1⟩,fun x hx=>?_⟩
   rcases List.mem_cons.mp hx with rfl | hx
   ·exact c
   ·have:=h2 x hx
    exact ⟨by omega,this.2⟩
  ·cases h
structure OkB (hs:List (List Nat)) (ds:List M1.Rd) (gs:List Str) (sss:List (List Step)) (ah:Option (Int × Int)) (d:PyData) (t:Int) (r:Nat) (ns:List Nat):Prop where
 d:d=tU t r (ns.map fun n:Nat=>(n:Int))
 ne:ns≠[]
 rd:r < ds.length
 ris:ns.Pairwise (· < ·)
 lt:∀i∈ns,i < sss.length
theorem Jc {hs:List (List Nat)} {ds:List M1.Rd} {gs:List Str} {sss:List (List Step)} {ah:Option (Int × Int)} {d:PyData} (h:kJ hs ds gs sss ah d=none):OkB hs ds gs sss ah d (toB d).1 (toB d).2.1.toNat ((toB d).2.2.map Int.toNat):=by
 unfold kJ at h
 split at h
 ·rename_i hb
  obtain ⟨e,ne⟩:=pG hb
  unfold zr at h
  split at h
  ·cases h
  split at h
  ·cases h
  rename_i c2
  split at h
  ·cases h
  split at h
  ·cases h
  rename_i c4
  have c4:jg sss.length (-1) (toB d).2.2=true:=by
   cases z:jg sss.length (-1) (toB d).2.2 with
   | true=>rfl
   | false=>exact absurd z c4
  obtain ⟨pw,mem⟩:=qD c4
  have c2:0≤(toB d).2.1∧(toB d).2.1 < ds.length:=Decidable.not_not.mp c2
  have back:((toB d).2.2.map Int.toNat).map (fun n:Nat=>(n:Int))=(toB d).2.2:=by
   rw [List.map_map]
   refine (List.map_congr_left fun x hx=>?_).trans (List.map_id _)
   have:=(mem x hx).1
   show ((x.toNat:Nat):Int)=x
   omega
  refine ⟨?_,fun z=>ne (List.map_eq_nil_iff.mp z),by omega,?_,fun i hi=>?_⟩
  ·rw [back,Int.toNat_of_nonneg c2.1]
   exact e
  ·rw [List.pairwise_map]
   refine List.Pairwise.imp_of_mem (fun {x y} hx hy l=>?_) pw
   have h1:=(mem x hx).1
   have h2:=(mem y hy).1
   omega
  ·obtain ⟨x,hx,rfl⟩:=List.mem_map.mp hi
   have:=mem x hx
   omega
 ·cases h
section
variable {P:Program} {w:World} {K:PySem.W.Frag} {mg:Str→Option Value} {base:Heap}
inductive Mm (vs:List L2.V) (H:Hp) (Q:VK) (u_3:XK):Prop where
 | mk (v:L2.V) (d:PyData) (z1:vs=[v]) (z2:Th H v d) (z3:∀H',aN H H'→Q (.bl (fP d)) H')
noncomputable def Jd:Sp:=fun vs H Q u_3=>Mm vs H Q u_3
theorem all_map {α:Type} (p:α→Bool) (l:List α):(l.map p).all id=l.all p:=by rw [List.all_map];rfl
seal PA PE PS PSs
theorem Mp {f f1 f2:Addr} {fd fd1 fd2:FuncData} (F:Fun K "is_bag" "is_bag" vP f fd) (B:Blt mg) (bh:Dn K mg "is_whole" m8 ["thing"] f1 fd1) (dO:aY P w K mg base CX0 1 f1 fd1 ["thing"] jw)
  (bM:Dn K mg "is_tuple_of" o8 ["thing","length"] f2 fd2) (fU:aY P w K mg base CX0 1 f2 fd2 ["thing","length"] xq):aY P w K mg base CX0 2 f fd ["thing"] Jd:=by
 refine F.ok Mg (fun vs H Q E h=>?_) (fun cdv A outer s H vs Q E hr h=>?_)
 ·obtain ⟨v,d,rfl,_⟩:=h
  rfl
 ·obtain ⟨v,d,rfl,hv,q⟩:=h
  refine ⟨_,(aB (aR (cz (aZ fU (hr.mono (by decide)) (by rfl) bM.at_ bM.fn.kp bM.bd .nil bH (aa (pv 0) (aa az ao))) (cz (aZ dO (hr.mono (by decide)) (by rfl) bh.at_ bh.fn.kp bh.bd .nil bH (aa (aM aU (pv 0) az (fun _ _=>rfl)) ao)) (cz (aZ dO (hr.mono (by decide)) (by rfl) bh.at_ bh.fn.kp bh.bd .nil bH (aa (aM aU (pv 0) az (fun _ _=>rfl)) ao)) (cz (aG cT (by rfl) B.isinstance aQ (aa (aM aU (pv 0) az (fun _ _=>rfl)) (aa (fL (by rfl) B.tuple ju) ao))) (cz (cJ qN (aG aO (by rfl) B.len b7 (aa (aM aU (pv 0) az (fun _ _=>rfl)) ao)) az (bA _)) (dN (aG (jt rfl) (by rfl) B.all_ o5 (aa (nQ (N':=["number"]) (cs:=[none]) rfl (oV (aM aU (pv 0) az (fun _ _=>rfl))) rfl (by decide+kernel) rfl (by decide+kernel) (gY (fun p hp=>absurd hp (List.not_mem_nil))) rfl
    (.own .nil)
    (fun C s3 H3 fp pn=>⟨(bw (i:=0) (by show (["number"]:List Str).Nodup;decide+kernel) rfl (.inl rfl)),gH,(aZ dO (hr.mono (by decide)) (by rfl) bh.at_ bh.fn.kp bh.bd .nil bH (aa (pv 0) ao))⟩)) ao)))))))))),?_⟩
  refine ⟨_,rfl,v,d,3,rfl,hv,_,rfl,?_⟩
  have no:Iw 3 d=false→fP d=false:=fun z=>by
   cases d with
   | tuple ds=>exact Bo (fun y=>by have:Iw 3 (.tuple ds)=decide ((ds.length:Int)=3):=rfl;rw [this,y] at z;cases z)
   | _=>rfl
  cases h3:Iw 3 d with
  | false=>
   have:=q H (aN.refl _)
   rw [no h3] at this
   exact dz this
  | true=>
   cases hv with
   | @tup a xs ds ha z ts=>
    have l3:ds.length=3:=by
     have:Iw 3 (.tuple ds)=decide ((ds.length:Int)=3):=rfl
     rw [this,decide_eq_true_eq] at h3
     omega
    obtain ⟨d0,d1,d2,rfl⟩:∃d0 d1 d2,ds=[d0,d1,d2]:=by
     rcases ds with _ | ⟨a,_ | ⟨b,_ | ⟨c,_ | ⟨e,r⟩⟩⟩⟩ <;> first | exact ⟨_,_,_,rfl⟩ | (simp at l3)
    cases ts with
    | @cons v0 _ _ _ t0 ts=>
    cases ts with
    | @cons v1 _ _ _ t1 ts=>
    cases ts with
    | @cons v2 _ _ _ t2 ts=>
    cases ts
    have sq:=SqT.of (K:=K) ha
    refine dm ⟨_,rfl,a,_,_,_,rfl,rfl,sq,rfl,v0,d0,rfl,t0,_,rfl,?_⟩
    have isb:isTup d2=true→fP (.tuple [d0,d1,d2])=(bG d0 && (bG d1 && match d2 with | .tuple ns=>decide (0 < ns.length) && ns.all bG | _=>false)):=fun z=>by
     cases d2 <;> first | rfl | cases z
    have nob:isTup d2=false→fP (.tuple [d0,d1,d2])=false:=fun z=>Bp z
    have fst:bG d0=false→fP (.tuple [d0,d1,d2])=false:=fun z=>by
     cases zz:isTup d2 with
     | false=>exact nob zz
     | true=>rw [isb zz,z];rfl
    have snd:bG d1=false→fP (.tuple [d0,d1,d2])=false:=fun z=>by
     cases zz:isTup d2 with
     | false=>exact nob zz
     | true=>rw [isb zz,z,Bool.false_and,Bool.and_false]
    cases w0:bG d0 with
    | false=>
     have:=q H (aN.refl _)
     rw [fst w0] at this
     exact dz this
    | true=>
    refine dm ⟨_,rfl,a,_,_,_,rfl,rfl,sq,rfl,v1,d1,rfl,t1,_,rfl,?_⟩
    cases w1:bG d1 with
    | false=>
     have:=q H (aN.refl _)
     rw [snd w1] at this
     exact dz this
    | true=>
    refine dm ⟨_,rfl,a,_,_,_,rfl,rfl,sq,rfl,_,_,_,_,_,rfl,⟨rfl,t2.ty,lG K (nW d2)⟩,_,rfl,?_⟩
    cases tt:isTup d2 with
    | false=>
     have:=q H (aN.refl _)
     rw [nob tt] at this
     exact dz this
    | true=>
    rw [isb tt,w0,w1,Bool.true_and,Bool.true_and] at q
    refine dm ?_
    cases t2 with
    | @tup c ys es hc zc tc=>
     have sc:=SqT.of (K:=K) hc
     have q:∀H',aN H H'→Q (.bl (decide (0 < es.length) && es.all bG)) H':=q
     have el:=tc.len
     refine ⟨_,rfl,a,_,_,_,rfl,rfl,sq,rfl,c,_,rfl,.inr sc,_,_,rfl,rfl,_,rfl,?_⟩
     by_cases pos:0 < es.length
     ·rw [decide_eq_true pos,Bool.true_and] at q
      refine eF (decide_eq_true (by omega)) ?_
      dsimp only [tCB,kh]
      refine qy (J:=Itt K c) (H1:=H) (xs:=ys) (rest:=[]) (fun R h=>⟨_,rfl,a,_,_,_,rfl,rfl,sq,rfl,c,rfl,⟨_,sc⟩,h⟩) rfl (yQ sc fun H' sm=>SqT.of (sm _ _ hc)) (aV (by omega)) (fun i=>.bl (bG (es.getD i .none))) (fun i v H2 R ev sm k=>?_) (fun D H2 nD hD sD=>?_)
      ·obtain ⟨e,ee,he⟩:=tc.get ev
       have:=k H2 (aN.refl _)
       rw [dG ee] at this
       exact ⟨_,rfl,v,e,rfl,he.same sm,this⟩
      ·refine ⟨D,(List.range ys.length).map (fun i=>bG (es.getD i .none)),rfl,SqL.of (by rw [hD,List.map_map];rfl),?_⟩
       have e2:(List.range ys.length).map (fun i=>bG (es.getD i PyData.none))=es.map bG:=by
        rw [el]
        refine List.ext_getElem (by simp) fun i h1 h2=>?_
        rw [List.length_map] at h2
        rw [List.getElem_map,List.getElem_range,List.getElem_map,dG (List.getElem?_eq_getElem h2)]
       rw [e2,all_map]
       exact q _ sD
     ·rw [decide_eq_false pos,Bool.false_and] at q
      exact fM (decide_eq_false (by omega)) (q H (aN.refl _))
    | _=>cases tt
   | _=>cases h3
inductive Px (vs:List L2.V) (H:Hp) (Q:VK) (u_3:XK):Prop where
 | mk (c:Addr) (ns:List Int) (m:Int) (z1:vs=[.ref c,.int m]) (z2:H c=some (.tup (ns.map V.int))) (z3:Q (.bl (jg m (-1) ns)) H)
noncomputable def Nb:Sp:=fun vs H Q u_3=>Px vs H Q u_3
theorem Py {f:Addr} {fd:FuncData} (F:Fun K "are_rising_below" "are_rising_below" Mh f fd):aY P w K mg base CX0 1 f fd ["numbers","bound"] Nb:=by
 refine F.ok Bj (fun vs H Q E h=>?_) (fun cdv A outer s H vs Q E hr h=>?_)
 ·obtain ⟨c,ns,m,rfl,_⟩:=h
  rfl
 ·obtain ⟨c,ns,m,rfl,hc,q⟩:=h
  refine ⟨_,(au (aP (i:=2) Bj.nd rfl (Or.inl rfl) (qL mY az))
   (au (fY PassesOwn.never rfl (oV (pv 0)) (bw (i:=3) Bj.nd rfl (Or.inl rfl))
    (au (cF (du (nJ qM qM (pv 2) (pv 3) (pv 1))) (aB (aR nG)) bF)
   (aB (aP (i:=2) Bj.nd rfl (Or.inl rfl) (pv 3)))))
   (aB (aR nG)))),?_⟩
  refine ⟨_,rfl,_,rfl,c,rfl,⟨_,SqT.of hc⟩,?_⟩
  refine uU (K:=K) (a:=c) (xs:=ns.map V.int) (fun j σ Hj=>∃(ah:Int) (v:Option L2.V),σ=[some (.ref c),some (.int m),some (.int ah),v]∧Hj=H∧jg m (-1) ns=jg m ah (ns.drop j)) ⟨-1,none,rfl,rfl,rfl⟩ (fun j σ Hj _ ⟨_,_,_,h,_⟩=>h▸SqT.of hc) ?_ ?_
  ·rintro j z σ Hj ez ⟨ah,v,rfl,rfl,ha⟩
   rw [List.getElem?_map] at ez
   obtain ⟨n,en,rfl⟩:=Option.map_eq_some_iff.mp ez
   have hj:=(List.getElem?_eq_some_iff.mp en).1
   have e3:ns[j]=n:=by
    rw [List.getElem?_eq_getElem hj] at en
    exact Option.some.inj en
   have dr:ns.drop j=n::ns.drop (j+1):=by rw [List.drop_eq_getElem_cons hj,e3]
   rw [dr] at ha
   have ha:jg m (-1) ns=if ah < n∧n < m then jg m n (ns.drop (j+1)) else false:=ha
   refine ⟨_,rfl,_,rfl,_,_,rfl,rfl,_,rfl,?_⟩
   by_cases h1:ah < n
   ·refine eF (decide_eq_true h1) ⟨_,rfl,_,_,rfl,rfl,_,rfl,?_⟩
    by_cases h2:n < m
    ·refine Ab h2 ?_
     rw [if_pos ⟨h1,h2⟩] at ha
     exact ⟨_,rfl,n,some (.int n),rfl,rfl,ha⟩
    ·rw [if_neg (fun z=>h2 z.2)] at ha
     rw [ha] at q
     exact eF (by rw [decide_eq_false h2];rfl) q
   ·rw [if_neg (fun z=>h1 z.1)] at ha
    rw [ha] at q
    exact fM (decide_eq_false h1) ⟨_,rfl,dm q⟩
  ·rintro σ Hj ⟨ah,v,rfl,rfl,ha⟩
   rw [List.length_map,List.drop_length] at ha
   rw [ha] at q
   exact q
unseal PA PE PS PSs
end
open PySem L2 L3 M1
noncomputable def AhI (H:Hp) (v:L2.V):Option (Int × Int)→Prop
 | none=>v=.non
 | some k=>∃a c,v=.ref a∧H a=some (.tup [.int k.1,.int k.2,c])
theorem AhI.same {H H':Hp} {v:L2.V} (sm:aN H H'):∀{o:Option (Int × Int)},AhI H v o→AhI H' v o
 | none,h=>h
 | some _,⟨a,c,e,h⟩=>⟨a,c,e,sm _ _ h⟩
theorem Je {sss:List (List Step)} {n:Nat} {ss:List Step} (e:sss[n]?=some ss) (ne:ss≠[]):∃pre,sss[n]?=some (pre++[dD.lastAt' sss n]):=by
 rcases List.eq_nil_or_concat ss with z | ⟨pre,s,z⟩
 ·exact absurd z ne
 ·rw [List.concat_eq_append] at z
  refine ⟨pre,?_⟩
  have:dD.lastAt' sss n=s:=by
   unfold dD.lastAt'
   rw [dG e,z]
   simp
  rw [this,e,z]
section
variable {P:Program} {w:World} {K:PySem.W.Frag} {mg:Str→Option Value} {base:Heap}
inductive Pz (C CN:Addr) (vs:List L2.V) (H:Hp) (Q:VK) (u_3:XK):Prop where
 | mk (x n g st a' b' lp:Addr) (gs:List Str) (ls rs:List Addr) (sss:List (List Step)) (hs:List (List Nat)) (ds:List M1.Rd) (v va:L2.V) (d:PyData) (ah:Option (Int × Int)) (ts:List L2.V) (z1:vs=[.ref x,.ref n,.ref lp,va,v]) (z2:WalkAt C H x n g st gs ls sss) (z3:kj CN H n a' b' (txs hs) (refs rs)) (z4:cB H hs rs ds) (z5:rs.length≤40) (z6:Th H v d) (z7:AhI H va ah) (z8:H lp=some (.lst ts)) (z9:ts.length=sss.length) (z10:gs.length=sss.length) (z11:∀ss∈sss,ss≠[]) (z12:∀H',aN H H'→Q (RN (kJ hs ds gs sss ah d)) H')
noncomputable def Nf (C CN:Addr):Sp:=fun vs H Q u_3=>Pz C CN vs H Q u_3
seal PA PE PS PSs
theorem PB {C CN f f1 f2 f3 f4:Addr} {fd fd1 fd2 fd3 fd4:FuncData} (F:Fun K "reason_against" "reason_against" Mi f fd) (B:Blt mg) (b8:Cls K C) (jY:Cls K CN)
  (iB:Dn K mg "is_bag" vP ["thing"] f1 fd1) (Jf:aY P w K mg base CX0 2 f1 fd1 ["thing"] Jd)
  (bT:Dn K mg "are_rising_below" Mh ["numbers","bound"] f2 fd2) (nj:aY P w K mg base CX0 1 f2 fd2 ["numbers","bound"] Nb)
  (eU:Mn K CN "roads" "Net.roads" qx ["self"] f3 fd3) (xu:aY P w K mg base CX0 1 f3 fd3 ["self"] (wU CN))
  (cA:Mn K C "can_leave" "Walk.can_leave" Bh ["self","number","house","turn"] f4 fd4) (pH:aY P w K mg base CX0 3 f4 fd4 ["self","number","house","turn"] (Ir C)):
  aY P w K mg base CX0 4 f fd ["walk","net","letters","ahead","thing"] (Nf C CN):=by
 refine F.ok Iv (fun vs H Q E h=>?_) (fun cdv A outer s H vs Q E hr h=>?_)
 ·obtain ⟨x,n,g,st,a',b',lp,gs,ls,rs,sss,hs,ds,v,va,d,ah,ts,rfl,_⟩:=h
  rfl
 ·obtain ⟨x,n,g,st,a',b',lp,gs,ls,rs,sss,hs,ds,v,va,d,ah,ts,rfl,W,N,R,few,hv,hav,hlp,tl,gl,ne,q⟩:=h
  refine ⟨_,(au (cF (du (eE (aZ Jf (hr.mono (by decide)) (by rfl) iB.at_ iB.fn.kp iB.bd .nil bH (aa (pv 4) ao)))) (aB (aR cI)) bF)
   (au (cF (PW.pt (uT (bL zY (pv 3) iH (bA _)) (ql (bL (Il (Nat.lt_of_succ_lt (qU hr))) (jr Fe (pv 4) my (iy az)) (jr Fe (pv 3) my (iy az)) (bA _))))) (aB (aR cI)) bF)
   (au (aP (i:=5) Iv.nd rfl (Or.inl rfl) (EY (pv 1) jY eU.me xu (hr.mono (by decide)) eU.bd .nil bH))
   (au (cF (du (nJ kY qM az (aM aU (pv 4) az (fun _ _=>rfl)) (aG aO (by rfl) B.len b7 (aa (pv 5) ao)))) (aB (aR cI)) bF)
   (au (aP (i:=6) Iv.nd rfl (Or.inr rfl) (aM bB (pv 5) (aM aU (pv 4) az (fun _ _=>rfl)) (fun _ _=>rfl)))
   (au (cF (bL qN (aG aO (by rfl) B.len b7 (aa (aM aU (pv 4) az (fun _ _=>rfl)) ao)) (aM aU (pv 6) az (fun _ _=>rfl)) (bA _)) (aB (aR cI)) bF)
   (au (cF (du (eE (aZ nj (hr.mono (by decide)) (by rfl) bT.at_ bT.fn.kp bT.bd .nil bH (aa (aM aU (pv 4) az (fun _ _=>rfl)) (aa (aG aO (by rfl) B.len b7 (aa (pv 2) ao)) ao))))) (aB (aR cI)) bF)
   (au (cF (du (eE (aG (jt rfl) (by rfl) B.all_ o5 (aa (nQ (N':=["number","walk","road","thing"]) (cs:=[none,some 0,some 6,some 4]) rfl (oV (aM aU (pv 4) az (fun _ _=>rfl))) rfl (by decide+kernel) rfl (by decide+kernel) (gY (List.forall_mem_cons.mpr ⟨rfl,(List.forall_mem_cons.mpr ⟨rfl,(List.forall_mem_cons.mpr ⟨rfl,(fun p hp=>absurd hp (List.not_mem_nil))⟩)⟩)⟩)) rfl
    (.own (.cap rfl (.inl rfl) (.inl rfl) rfl (.cap rfl (.inl rfl) (.inl rfl) rfl (.cap rfl (.inl rfl) (.inl rfl) rfl .nil))))
    (fun C s3 H3 fp pn=>⟨(bw (i:=0) (by show (["number","walk","road","thing"]:List Str).Nodup;decide+kernel) rfl (.inl rfl)),gH,(gG (pv 1) b8 cA.me pH (hr.mono (by decide)) cA.bd .nil bH (aa (pv 0) (aa (aM (mC (K:=K) rfl) (pv 2) az (fun _ _=>rfl)) (aa (aM (mC (K:=K) rfl) (pv 3) az (fun _ _=>rfl)) ao))))⟩)) ao)))) (aB (aR cI)) bF)
   (aB (aR iH)))))))))),?_⟩
  unfold kJ at q
  refine ⟨_,rfl,v,d,rfl,hv,fun H1 s1=>⟨_,rfl,?_⟩⟩
  cases hb:fP d with
  | false=>
   have:=q H1 s1
   rw [hb] at this
   exact dm this
  | true=>
  rw [if_pos hb] at q
  obtain ⟨ed,ne2⟩:=pG hb
  generalize toB d=b3 at q ed ne2
  obtain ⟨t,r,ns⟩:=b3
  have ed:d=tU t r ns:=ed
  have ne2:ns≠[]:=ne2
  subst ed
  obtain ⟨bg,c,rfl,hb1,hb2,l100⟩:=zm hv
  refine dz ?_
  dsimp only [uh,oU]
  unfold zr at q
  refine vO (t:=Eo _ _ _) (fun D'=>(rZ ah t r=true→∀H2,aN H H2→D'.rt (.str zp) H2)∧(rZ ah t r=false→∀H2,aN H H2→D'.nx [some (.ref x),some (.ref n),some (.ref lp),some va,some (.ref bg),none,none] H2)) ⟨fun ho H2 s2=>?_,fun ho H2 s2=>?_⟩ fun D' rest=>?_
  ·have:=q H2 s2
   rw [if_pos ho] at this
   exact this
  ·rw [if_neg (by rw [ho];simp)] at q
   obtain ⟨dn,hn⟩:=N.ins
   refine ⟨_,rfl,n,dn,_,rfl,s2 _ _ hn,rfl,n,a',b',_,_,rfl,N.same s2,fun l nl=>?_⟩
   have s3:=s2.trans (aC (o:=.lst (refs rs)) nl)
   have hl3:=aq (H:=H2) (a:=l) (o:=.lst (refs rs))
   generalize upd H2 l (.lst (refs rs))=H3 at s3 hl3 ⊢
   have t1:=SqT.of (K:=K) (s3 _ _ hb1)
   have t2:=SqT.of (K:=K) (s3 _ _ hb2)
   have rl:=R.len
   have rfl':=bf rs
   refine ⟨_,rfl,bg,_,_,_,rfl,rfl,t1,rfl,_,_,rfl,rfl,_,rfl,?_⟩
   by_cases h0:0≤r
   ·refine eF (decide_eq_true h0) ⟨_,rfl,l,_,rfl,.inl (SqL.of hl3),_,_,rfl,rfl,_,rfl,?_⟩
    by_cases h1:r < ds.length
    ·refine Ab (by omega) ?_
     rw [if_neg (fun z=>z ⟨h0,h1⟩)] at q
     obtain ⟨r',er'⟩:∃r':Nat,r=(r':Int):=⟨r.toNat,by omega⟩
     subst er'
     obtain ⟨ra,er⟩:∃ra,rs[r']?=some ra:=⟨_,List.getElem?_eq_getElem (by omega)⟩
     obtain ⟨dd,ed,_,hd⟩:=R.get er
     have e0:ds.getD r' rd0=dd:=dG ed
     have eV:rdV hs dd=[.str (iT hs ds r'),.str (iU hs ds r'),.int (rTn ds r'),.int (rRm ds r')]:=by
      unfold rdV iT iU rTn rRm
      rw [e0]
     rw [eV] at hd
     have td:=SqT.of (K:=K) (s3 _ _ hd)
     refine ⟨_,rfl,_,rfl,bg,_,_,_,rfl,rfl,t1,rfl,l,_,_,_,rfl,rfl,SqL.of hl3,(show L2.atI (refs rs) (r':Int)=some (.ref ra) from cu (by unfold refs;rw [List.getElem?_map,er];rfl)),?_⟩
     refine ⟨_,rfl,bg,_,_,_,rfl,rfl,t1,rfl,c,_,rfl,.inr t2,_,rfl,ra,_,_,_,rfl,rfl,td,rfl,_,_,rfl,rfl,_,rfl,?_⟩
     have q:∀H',aN H H'→Q (RN (if rRm ds r' < (ns.length:Int) then some Jb else if jg sss.length (-1) ns=false then some qC else if ns.all (dD hs ds gs sss t (r':Int))=false then some zq else none)) H':=q
     by_cases h2:rRm ds r' < (ns.length:Int)
     ·rw [if_pos h2] at q
      exact eF (decide_eq_true (by rw [List.length_map];exact h2)) (q _ s3)
     rw [if_neg h2] at q
     refine fM (decide_eq_false (by rw [List.length_map];exact h2)) ?_
     refine ⟨_,rfl,bg,_,_,_,rfl,rfl,t1,rfl,_,rfl,lp,_,rfl,.inl (SqL.of (s3 _ _ hlp)),c,ns,_,rfl,s3 _ _ hb2,_,rfl,?_⟩
     rw [tl]
     cases h4:jg sss.length (-1) ns with
     | false=>
      rw [if_pos h4] at q
      exact dm (q _ s3)
     | true=>
     rw [if_neg (by rw [h4];simp)] at q
     refine dz ?_
     obtain ⟨pw,mem⟩:=qD h4
     dsimp only [uh,oU,Eo,Qy,tB,tCB,kh]
     have W3:=W.same s3
     obtain ⟨dx,hx⟩:=W3.ins
     refine qy (J:=Itt K c) (H1:=H3) (xs:=ns.map V.int) (rest:=[some (.ref x),some (.ref ra),some (.ref bg)]) (fun R h=>⟨_,rfl,bg,_,_,_,rfl,rfl,t1,rfl,c,rfl,⟨_,t2⟩,h⟩) rfl (yQ t2 fun H' sm=>SqT.of (sm _ _ (s3 _ _ hb2))) (aV (by rw [List.length_map];omega)) (fun i=>.bl (dD hs ds gs sss t (r':Int) (ns.getD i 0))) (fun i v H4 Rr ev sm k=>?_) (fun D H4 nD hD sD=>?_)
     ·rw [List.getElem?_map] at ev
      obtain ⟨m,em,rfl⟩:=Option.map_eq_some_iff.mp ev
      have mm:=mem m (List.mem_of_getElem? em)
      obtain ⟨m',rfl⟩:∃m':Nat,m=(m':Int):=⟨m.toNat,by omega⟩
      have hm:m' < sss.length:=by omega
      obtain ⟨pre,es⟩:=Je (List.getElem?_eq_getElem hm) (ne _ (List.getElem_mem hm))
      obtain ⟨y,ey⟩:∃y,gs[m']?=some y:=⟨_,List.getElem?_eq_getElem (by omega)⟩
      refine ⟨_,rfl,x,dx,_,rfl,sm _ _ hx,rfl,_,rfl,_,rfl,ra,_,_,_,rfl,rfl,SqT.of (sm _ _ (s3 _ _ hd)),rfl,_,rfl,bg,_,_,_,rfl,rfl,SqT.of (sm _ _ (s3 _ _ hb1)),rfl,x,n,g,st,gs,ls,sss,m',pre,_,y,_,_,rfl,W3.same sm,es,ey,?_⟩
      have:=k H4 (aN.refl _)
      rw [dG em] at this
      unfold dD at this
      rw [Int.toNat_natCast,Int.toNat_natCast,dG ey] at this
      exact this
     ·refine ⟨D,(List.range (ns.map V.int).length).map (fun i=>dD hs ds gs sss t (r':Int) (ns.getD i 0)),rfl,SqL.of (by rw [hD,List.map_map];rfl),_,rfl,?_⟩
      have e2:(List.range (ns.map V.int).length).map (fun i=>dD hs ds gs sss t (r':Int) (ns.getD i 0))=ns.map (dD hs ds gs sss t (r':Int)):=by
       rw [List.length_map]
       refine List.ext_getElem (by simp) fun i h1 h2=>?_
       rw [List.length_map] at h2
       rw [List.getElem_map,List.getElem_range,List.getElem_map,dG (List.getElem?_eq_getElem h2)]
      rw [e2,all_map]
      cases h5:ns.all (dD hs ds gs sss t (r':Int)) with
      | false=>
       rw [if_pos h5] at q
       exact dm (q _ (s3.trans sD))
      | true=>
       rw [if_neg (by rw [h5];simp)] at q
       exact dz (q _ (s3.trans sD))
    ·rw [if_pos (fun z=>h1 z.2)] at q
     exact eF (by rw [decide_eq_false (by omega)];rfl) (q _ s3)
   ·rw [if_pos (fun z=>h0 z.1)] at q
    exact fM (decide_eq_false h0) ⟨_,rfl,dm (q _ s3)⟩
  ·refine ⟨_,rfl,rfl,_,rfl,?_⟩
   cases ah with
   | none=>
    obtain rfl:va=.non:=hav
    exact fM rfl (dz (rest.2 rfl H1 s1))
   | some k0=>
    obtain ⟨a0,c0,rfl,h01⟩:=hav
    refine eF rfl ⟨_,rfl,_,rfl,bg,_,rfl,SqT.of (s1 _ _ hb1),(by show ¬((0:Nat)=0∧(2:Nat)=3);omega),fun p1 np1=>?_⟩
    have s2:=s1.trans (aC (o:=.tup [V.int t,V.int r]) np1)
    have hp1:=aq (H:=H1) (a:=p1) (o:=.tup [V.int t,V.int r])
    refine ⟨_,rfl,_,rfl,a0,_,rfl,SqT.of (s2 _ _ h01),(by show ¬((0:Nat)=0∧(2:Nat)=3);omega),fun p2 np2=>?_⟩
    have s3:=s2.trans (aC (o:=.tup [V.int k0.1,V.int k0.2]) np2)
    refine ⟨p1,p2,_,_,_,_,rfl,rfl,SqT.of (aC np2 _ _ hp1),SqT.of aq,_,rfl,?_⟩
    show if (if t=k0.1 then decide (r≤k0.2) else decide (t≤k0.1))=true then _ else _
    cases ho:rZ (some k0) t r with
    | true=>exact eF ho (rest.1 ho _ s3)
    | false=>exact fM ho (rest.2 ho _ s3)
unseal PA PE PS PSs
end
open PySem L2 L3 M1
section
variable {P:Program} {w:World} {K:PySem.W.Frag} {mg:Str→Option Value} {base:Heap}
noncomputable abbrev vQ:Stmt:=top 29
theorem Bq:aX ["net","letters","plan","turn","walk"] ["net","letters","plan","turn"] (aH vQ):=⟨rfl,rfl,rfl,by decide+kernel,rfl,by decide+kernel,by decide+kernel⟩
end
open PySem L2 L3 M1
noncomputable def Ng (ss:List Step) (y:Str):L2.V:=match ss.getLast? with
 | none=>.non
 | some s=>rH s y
section
variable {P:Program} {w:World} {K:PySem.W.Frag} {mg:Str→Option Value} {base:Heap}
noncomputable abbrev Jg:Stmt:=top 28
theorem Nh:aX ["net","letters","plan","walk"] ["net","letters","plan"] (aH Jg):=⟨rfl,rfl,rfl,by decide+kernel,rfl,by decide+kernel,by decide+kernel⟩
end
end K1
namespace L3
open PySem PySem.Spec PyProof.Rows L2
end L3
namespace K1
open PySem L2 L3 M1
theorem PJ {Ha Hc:Hp} {b:Addr} (sm:aN Ha Hc) (e:Hc b=none):Ha b=none:=by
 cases e2:Ha b with
 | none=>rfl
 | some o=>rw [sm _ _ e2] at e;cases e
noncomputable def zu (d:PyData):Int × Int:=((toB d).1,(toB d).2.1)
noncomputable def tV (hs:List (List Nat)) (ds:List M1.Rd) (d:PyData) (sss:List (List Step)):List (List Step):=gO (stepK hs ds ((toB d).1,(toB d).2.1.toNat)) ((toB d).2.2.map Int.toNat) sss
noncomputable def walkD (hs:List (List Nat)) (ds:List M1.Rd) (gs:List Str):Option (Int × Int)→List (List Step)→Nat→List PyData→(Nat × Str) ⊕ List (List Step)
 | _,sss,_,[]=>.inr sss
 | ah,sss,p,d::r=>match kJ hs ds gs sss ah d with
  | some e=>.inl (p,e)
  | none=>walkD hs ds gs (some (zu d)) (tV hs ds d sss) (p+1) r
theorem Mq {hs:List (List Nat)} {ds:List M1.Rd} {d:PyData} {sss:List (List Step)} (h:∀ss∈sss,ss≠[]):∀ss∈tV hs ds d sss,ss≠[]:=fun ss hss=>by
 obtain ⟨i,hi⟩:=List.getElem?_of_mem hss
 unfold tV at hi
 rw [gC] at hi
 obtain ⟨s0,e0,rfl⟩:=Option.map_eq_some_iff.mp hi
 have:=h s0 (List.mem_of_getElem? e0)
 split
 ·simp
 ·exact this
theorem Jh {hs:List (List Nat)} {ds:List M1.Rd} {d:PyData} {sss:List (List Step)} {k:Nat} (h:∀ss∈sss,ss.length≤k):∀ss∈tV hs ds d sss,ss.length≤k+1:=fun ss hss=>by
 obtain ⟨i,hi⟩:=List.getElem?_of_mem hss
 unfold tV at hi
 rw [gC] at hi
 obtain ⟨s0,e0,rfl⟩:=Option.map_eq_some_iff.mp hi
 have:=h s0 (List.mem_of_getElem? e0)
 split
 ·simp;omega
 ·omega
section
variable {P:Program} {w:World} {K:PySem.W.Frag} {mg:Str→Option Value} {base:Heap}
inductive RP (C:Addr) (vs:List L2.V) (H:Hp) (Q:VK) (u_3:XK):Prop where
 | mk (e:Addr) (v u:L2.V) (z1:vs=[.ref e,v,u]) (z2:H e=some (exU e C)) (z3:∀dx H',H dx=none→dx≠e→(∀b o,H b=some o→b≠e→H' b=some o)→H' e=some (exF e C dx)→H' dx=some (xdO dx [("place",v),("reason",u)])→Q .non H')
noncomputable def RQ (C:Addr):Sp:=fun vs H Q u_3=>RP C vs H Q u_3
noncomputable abbrev sIB:Stmt:=inClass (top 7) 0
theorem Uk:aX ["self","place","reason"] ["self","place","reason"] (aH sIB):=⟨rfl,rfl,rfl,by decide+kernel,rfl,by decide+kernel,by decide+kernel⟩
theorem RT {C R f:Addr} {fd:FuncData} (F:Fun K "__init__" "BadBag.__init__" sIB f fd) (xc:XC K mg "RoadError" C R) (cL:mg "RoadError"=some (.ref R)) (h1:PySem.W.findIn K (.ref C) "place"=some none) (h2:PySem.W.findIn K (.ref C) "reason"=some none):aY P w K mg base CX0 1 f fd ["self","place","reason"] (RQ C):=by
 refine F.ok Uk (fun vs H Q E h=>?_) (fun cdv A outer s H vs Q E hr h=>?_)
 ·obtain ⟨e,v,u,rfl,_⟩:=h
  rfl
 ·obtain ⟨e,v,u,rfl,he,q⟩:=h
  refine ⟨_,(au (iu (GX (by rfl) cL xc.rd xc.fc xc.sg (aa (pv 0) (aa cI ao))))
   (au (An (y:="RoadError") (R:=R) (pv 0) (pv 1) rfl)
   (aB (An (y:="RoadError") (R:=R) (pv 0) (pv 2) rfl)))),?_⟩
  refine ⟨_,rfl,e,C,_,rfl,he,xc,(by show 1≤sizeLine;decide),?_⟩
  refine ⟨_,rfl,_,rfl,e,C,rfl,xc,h1,.inl ⟨he,fun dx nd nde=>?_⟩⟩
  refine ⟨_,rfl,_,rfl,e,C,rfl,xc,h2,.inr ⟨dx,[("place",v)],aq,?_,(by show 1 < 100;decide),?_⟩⟩
  ·rw [aA nde];exact aq
  refine q dx _ nd nde (fun b o hb hbe=>?_) ?_ aq
  ·have nb:b≠dx:=fun z=>by rw [z,nd] at hb;cases hb
   rw [aA nb,aA hbe,aA nb]
   exact hb
  ·rw [aA (Ne.symm nde)];exact aq
inductive PK (C CN BB:Addr) (vs:List L2.V) (H:Hp) (Q:VK) (E:XK):Prop where
 | mk (n a' b' lp pp:Addr) (rs lr:List Addr) (lts:List (Str × Int × Str)) (hs:List (List Nat)) (ds:List M1.Rd) (zs:List L2.V) (pd:List PyData) (z1:vs=[.ref n,.ref lp,.ref pp]) (z2:kj CN H n a' b' (txs hs) (refs rs)) (z3:cB H hs rs ds) (z4:rs.length≤40) (z5:H lp=some (.lst (refs lr))) (z6:f9 H lr (lts.map ltT)) (z7:lr.length≤100) (z8:H pp=some (.lst zs)) (z9:Ths H zs pd) (z10:pd.length≤98)
   (z11:∀sss,walkD hs ds (lts.map fun d=>d.2.2) none (lts.map bO) 0 pd=.inr sss→sss.length=lts.length→(∀ss∈sss,ss≠[])→(∀ss∈sss,ss.length≤100)→∀(H':Hp) (x g st:Addr) (ls:List Addr),aN H H'→WalkAt C H' x n g st (lts.map fun d=>d.2.2) ls sss→Q (.ref x) H')
   (z12:∀p e,walkD hs ds (lts.map fun d=>d.2.2) none (lts.map bO) 0 pd=.inl (p,e)→∀dx H',H dx=none→aN H H'→H' dx=some (xdO dx [("place",.int (p:Int)),("reason",.str e)])→E (.ref BB) (some dx) H')
noncomputable def Ji (C CN BB:Addr):Sp:=fun vs H Q E=>PK C CN BB vs H Q E
inductive Ul (n lp pp x:Addr) (Hb:Hp) (lls:List Addr) (hs:List (List Nat)) (ds:List M1.Rd) (lts:List (Str × Int × Str)) (pd:List PyData) (j:Nat) (σ:L2.St) (Hj:Hp):Prop where
 | mk (va:L2.V) (ah:Option (Int × Int)) (sss:List (List Step)) (v5 v6 v7:Option L2.V) (z1:σ=[some (.ref n),some (.ref lp),some (.ref pp),some (.ref x),some va,v5,v6,v7]) (z2:aN Hb Hj) (z3:Paired (cD Hj) lls sss) (z4:AhI Hb va ah) (z5:walkD hs ds (lts.map fun d=>d.2.2) none (lts.map bO) 0 pd=walkD hs ds (lts.map fun d=>d.2.2) ah sss j (pd.drop j)) (z6:sss.length=lts.length) (z7:∀ss∈sss,ss≠[]) (z8:∀ss∈sss,ss.length≤j+1)
seal PA PE PS PSs
theorem PN {C CN BB R f f1 f2 f3 fI:Addr} {fd fd1 fd2 fd3 fdI:FuncData} (F:Fun K "walk_of" "walk_of" xm f fd) (B:Blt mg) (WC:mQ K C) (oJ:mg "Walk"=some (.ref C))
  (bZ:Dn K mg "reason_against" Mi ["walk","net","letters","ahead","thing"] f1 fd1) (pI:aY P w K mg base CX0 4 f1 fd1 ["walk","net","letters","ahead","thing"] (Nf C CN))
  (Mr:Mk K C f2) (eX:Inn K C "Walk.__init__" Ln ["self","net","letters"] f2 fd2) (xx:aY P w K mg base CX0 2 f2 fd2 ["self","net","letters"] (M6 C))
  (eY:Mn K C "send" "Walk.send" Bg ["self","bag"] f3 fd3) (xF:aY P w K mg base CX0 2 f3 fd3 ["self","bag"] (Ip C CN))
  (mG:XC K mg "RoadError" BB R) (fJ:mg "BadBag"=some (.ref BB)) (DQ:PySem.W.keepIn K (.ref BB)=true) (DR:PySem.W.findIn K (.ref BB) "__init__"=some (some (.ref fI))) (DW:PySem.W.isFn K (.ref fI)=true)
  (tW:aY P w K mg base CX0 1 fI fdI ["self","place","reason"] (RQ BB)) (DX:Binds K fdI ["self","place","reason"] []):
  aY P w K mg base (CXd P w) 5 f fd ["net","letters","plan"] (Ji C CN BB):=by
 have b8:=WC.cl
 refine okD F m9 (fun vs H Q E h=>?_) (fun cdv A outer s H vs Q E hr h=>?_)
 ·obtain ⟨n,a',b',lp,pp,rs,lr,lts,hs,ds,zs,pd,rfl,_⟩:=h
  rfl
 ·obtain ⟨n,a',b',lp,pp,rs,lr,lts,hs,ds,zs,pd,rfl,N,R,few,hlp,tpl,fewl,hpp,hpd,p98,q,qE⟩:=h
  refine ⟨_,(au (aP (i:=3) m9.nd rfl (Or.inl rfl) (nO Mr xx (hr.mono (by decide)) (by rfl) oJ eX.bd .nil bH (aa (pv 0) (aa (pv 1) ao))))
   (au (aP (i:=4) m9.nd rfl (Or.inl rfl) iH)
   (au (fY PassesOwn.leaving rfl (vd rfl B.enumerate (aa (pv 2) ao)) (mX rfl (cG (bw (i:=5) m9.nd rfl (Or.inl rfl)) (cG (bw (i:=6) m9.nd rfl (Or.inl rfl)) jJ)))
    (au (aP (i:=7) m9.nd rfl (Or.inl rfl) (aZ pI (hr.mono (by decide)) (by rfl) bZ.at_ bZ.fn.kp bZ.bd .nil bH (aa (pv 3) (aa (pv 0) (aa (pv 1) (aa (pv 4) (aa (pv 6) ao)))))))
   (au (cF (bL zY (pv 7) iH (bA _)) (aB (Df mG fJ DQ DR DW tW (hr.mono (by decide)) DX rfl (aa (pv 5) (aa (pv 7) ao)))) bF)
   (au (iu (gG (pv 3) b8 eY.me xF (hr.mono (by decide)) eY.bd .nil bH (aa (pv 6) ao)))
   (aB (aP (i:=4) m9.nd rfl (Or.inl rfl) (pv 6)))))))
   (aB (aR (pv 3)))))),?_⟩
  refine ⟨_,rfl,_,rfl,fun x dx nx ndx nd=>?_⟩
  have mk:∀{b:Addr} {v:HO},H b=some v→upd (upd H dx (.own x)) x (.ins C dx []) b=some v:=fun {b v} e=>by
   rw [aA (aF e nx),aA (aF e ndx)]
   exact e
  refine ⟨x,dx,n,lp,lr,lts,rfl,aq,mk hlp,tpl.same (fun b v e=>mk e),fewl,fun H1 g st lls sb W ng nst ndl fr ngst=>⟨rfl,?_⟩⟩
  have s1:aN H H1:=uB nx ndx sb
  have frH:∀l∈lls,H l=none:=fun l hl=>by
   cases e:H l with
   | none=>rfl
   | some o=>have:=(fr l hl).1;rw [mk e] at this;cases this
  obtain ⟨Hb,eHb⟩:∃Hb,Hb=mask H1 lls:=⟨_,rfl⟩
  have sb1:aN Hb H1:=by rw [eHb];exact Dq _ _
  have sHb:aN H Hb:=fun b o e=>by
   rw [eHb]
   exact qz (s1 _ _ e) fun hb=>by rw [frH b hb] at e;cases e
  have frb:∀l∈lls,Hb l=none:=fun l hl=>by rw [eHb];exact LK hl
  have xn:x∉lls:=fun hl=>by have:=(fr x hl).1;rw [aq] at this;cases this
  have gn:g∉lls:=fun hl=>(fr g hl).2.2 rfl
  have sn:st∉lls:=fun hl=>(fr st hl).2.1 rfl
  have WB:rR C Hb x n g st (lts.map fun d=>d.2.2) lls:=by
   obtain ⟨dx',e⟩:=W.ins
   rw [eHb]
   exact ⟨⟨dx',qz e xn⟩,qz W.goals gn,qz W.steps sn⟩
  have lrl:lr.length=lts.length:=by have:=tpl.len;rw [List.length_map] at this;exact this
  have pal:=hpd.len
  have eb:=W.each
  clear W sb mk nx ndx nd ng nst fr ngst xn gn sn frH eHb
  refine ⟨_,rfl,pp,rfl,⟨_,SqL.of (s1 _ _ hpp)⟩,?_⟩
  refine rD (K:=K) (a:=pp) (xs:=zs) (Ul n lp pp x Hb lls hs ds lts pd) ⟨.non,none,lts.map bO,none,none,none,rfl,sb1,eb,rfl,rfl,List.length_map _,fun ss hs=>by obtain ⟨d,_,rfl⟩:=List.mem_map.mp hs;simp [bO],fun ss hs=>by obtain ⟨d,_,rfl⟩:=List.mem_map.mp hs;exact Nat.le_refl _⟩ (fun j σ Hj ⟨_,_,_,_,_,_,_,h,_,_,_,_,_,_⟩=>SqL.of (h _ _ (sHb _ _ hpp))) ?_ ?_
  ·rintro j v σ Hj p ez ⟨va,ah,sss,v5,v6,v7,rfl,sj,ej,hav,wj,ln,nej,fj⟩ np
   obtain ⟨d,ebs,hvd⟩:=hpd.get ez
   have jl:=(List.getElem?_eq_some_iff.mp ebs).1
   have sjp:=aC (o:=.tup [V.int (j:Int),v]) np
   refine ⟨p,_,rfl,SqT.of aq,rfl,?_⟩
   have sb2:=sj.trans sjp
   have ej2:=pC ej sjp
   generalize upd Hj p (.tup [V.int (j:Int),v])=Hk at sb2 ej2 ⊢
   have dr:pd.drop j=d::pd.drop (j+1):=by
    rw [List.drop_eq_getElem_cons jl]
    rw [List.getElem?_eq_getElem jl] at ebs
    rw [Option.some.inj ebs]
   rw [dr] at wj
   have nb:=sHb.trans sb2
   refine ⟨_,_,rfl,_,_,rfl,rfl,?_⟩
   refine ⟨_,rfl,_,rfl,_,rfl,_,rfl,_,rfl,x,n,g,st,a',b',lp,_,lls,rs,sss,hs,ds,v,va,d,ah,_,rfl,(WB.same sb2).at_ ej2,N.same nb,R.same nb,few,hvd.same nb,hav.same sb2,nb _ _ hlp,(by rw [bf,lrl,ln]),(by rw [List.length_map,ln]),nej,fun Hl sl=>?_⟩
   have sb3:=sb2.trans sl
   have snH:=sHb.trans sb3
   have wj:walkD hs ds (lts.map fun d=>d.2.2) none (lts.map bO) 0 pd=(match kJ hs ds (lts.map fun d=>d.2.2) sss ah d with | some e=>.inl (j,e) | none=>walkD hs ds (lts.map fun d=>d.2.2) (some (zu d)) (tV hs ds d sss) (j+1) (pd.drop (j+1))):=wj
   cases hr:kJ hs ds (lts.map fun d=>d.2.2) sss ah d with
   | some e=>
    rw [hr] at wj
    refine ⟨_,rfl,rfl,_,rfl,eF rfl ?_⟩
    refine ⟨_,rfl,_,rfl,(by show 2≤sizeLine;decide),fun ea nea=>?_⟩
    refine ⟨ea,_,_,rfl,aq,fun dx H3 nd nde keep h3e h3d=>⟨rfl,dx,h3e,?_⟩⟩
    have nd2:Hl dx=none:=by rw [aA nde] at nd;exact nd
    refine qE j e wj dx _ (PJ snH nd2) (fun b o hb=>?_) ?_
    ·have hbl:=snH _ _ hb
     have nbe:b≠ea:=aF hbl nea
     rw [jV nbe]
     exact keep b o (by rw [aA nbe];exact hbl) nbe
    ·rw [jV nde]
     exact h3d
   | none=>
    rw [hr] at wj
    refine ⟨_,rfl,rfl,_,rfl,fM rfl ?_⟩
    have ok:=Jc hr
    have hvb:=hvd.same sHb
    rw [ok.d] at hvb
    obtain ⟨bg,c,rfl,hb1,hb2,_⟩:=zm hvb
    have bag:gU Hb bg (((toB d).1,(toB d).2.1.toNat),(toB d).2.2.map Int.toNat):=⟨c,hb1,by rw [hb2,List.map_map];rfl⟩
    obtain ⟨dx',hx'⟩:=WB.ins
    refine ⟨_,rfl,x,dx',_,rfl,sb3 _ _ hx',rfl,_,rfl,Hb,x,n,g,st,a',b',bg,_,lls,rs,sss,hs,ds,_,rfl,sb3,WB,pC ej2 sl,ndl,frb,N.same sHb,R.same sHb,bag,ok.rd,(ok.ris.imp fun h=>Nat.ne_of_lt h),ok.lt,(fun ss hss=>by have:=fj ss hss;omega),fun Hm sm em=>?_⟩
    have ah':AhI Hb (.ref bg) (some (zu d)):=by
     refine ⟨bg,.ref c,rfl,?_⟩
     rw [hb1]
     have e:=ok.d
     have e2:=congrArg toB e
     rw [Bm] at e2
     show some (HO.tup [V.int (toB d).1,V.int ((toB d).2.1.toNat:Int),V.ref c])=some (HO.tup [V.int (toB d).1,V.int (toB d).2.1,V.ref c])
     rw [show (toB d).2.1=((toB d).2.1.toNat:Int) from congrArg (fun z=>z.2.1) e2]
     simp
    exact ⟨_,rfl,_,_,_,_,_,_,rfl,sm,em,ah',wj,by rw [ie];exact ln,Mq nej,Jh fj⟩
  ·rintro σ Hj ⟨va,ah,sss,v5,v6,v7,rfl,sj,ej,hav,wj,ln,nej,fj⟩
   rw [pal,List.drop_length] at wj
   exact ⟨_,rfl,q sss wj ln nej (fun ss h=>by have:=fj ss h;omega) Hj x g st lls (sHb.trans sj) ((WB.same sj).at_ ej)⟩
unseal PA PE PS PSs
end
end K1
namespace L3
open PySem PySem.Spec PyProof.Rows L2
section
variable {P:Program} {w:World} {K:PySem.W.Frag} {mg:Str→Option Value} {base:Heap} {N:List Str} {qual:Str} {scope:Scope} {f:Addr} {cdv:Value} {A:Around} {outer:List Env} {s:Shared} {H:Hp} {E:XK}
theorem Jj {E2:Value→Shared→Prop} {pins:List (Addr × Obj)} {σ:L2.St} {Hc H':Hp} {sc s':Shared} {ea:Addr} {cls a0:Value} {B:Heap} (I:Inv (cxE P w K mg base N qual scope f cdv A outer s H E) pins σ Hc sc) (T:gW P w (cxE P w K mg base N qual scope f cdv A outer s H E).stack Hc sc ea cls a0 H' B s') (hE:E cls none H'):
  wpAny (model P w) (A.deeper (envOfC qual scope s.heap.objs.size f cdv)) (leaving (envOfC qual scope s.heap.objs.size f cdv) (.ref ea)) (fun _ s2=>CXe P w outer H s E (.ref ea) s2) E2 s':=by
 refine wpAny_leaves_onW I.ok.frames rfl T.fl fun h2 x1 x2=>?_
 have T2:Un (frs (cxE P w K mg base N qual scope f cdv A outer s H E).stack) [] Hc H' sc.heap s'.heap:=T.un
 have oldB:∀b o,s.heap.get? b=some o→b∉frs outer→∃o',B.get? b=some o'∧(H b=none→o'=o):=fun b o e hb=>by
  obtain ⟨o1,z⟩:=I.base.there b o e (by simp [cxE,nP])
  obtain ⟨o',z',q⟩:=T.inB b o1 z (Ae I e hb)
  refine ⟨o',z',fun n=>?_⟩
  have z2:=I.base.keep b o e n hb (by simp [cxE,nP])
  rw [z] at z2
  cases z2
  exact q (I.base.free b _ e n (by simp [cxE,nP]))
 refine ⟨ea,cls,a0,H',B,rfl,⟨x1,T.os.trans I.os,T.bare,T.ok,⟨fun b o e n hb hx'=>?_,fun b o e n hb hx'=>?_,fun b o e n hx'=>?_,fun b o e hx'=>?_,fun b xs q=>T.un.tups b xs (I.base.tups b xs q),fun b o u q=>T.un.frzs b o u (I.base.frzs b o u q),fun b ps q=>?_⟩,oldB⟩,hE⟩
 ·obtain ⟨o',z,q⟩:=oldB b o e hb
  rw [q n] at z
  exact x1.1 b o z
 ·obtain ⟨sl,z⟩:=I.base.slot b o e n hb hx'
  have hb':b∈frs (cxE P w K mg base N qual scope f cdv A outer s H E).stack:=by
   show b∈frs (_::outer)
   unfold frs
   rw [List.filterMap_cons]
   exact List.mem_cons_of_mem _ hb
  obtain ⟨sl2,z2⟩:=T2.slot b _ z (I.base.free b o e n hx') hb' (by simp)
  obtain ⟨_,ob,e',nf⟩:=T.fl.2.2.1.mem hb'
  rw [z2] at e'
  cases e'
  obtain ⟨sl',z'⟩:=x2 b _ z2 nf
  exact ⟨sl',z'⟩
 ·obtain ⟨o1,z⟩:=I.base.there b o e hx'
  exact T2.free b o1 z (I.base.free b o e n hx') (by simp)
 ·by_cases hb:b∈frs outer
  ·obtain ⟨_,ob,e',nf⟩:=x1.2.2.1.mem hb
   exact ⟨ob,e'⟩
  ·obtain ⟨o',z,_⟩:=oldB b o e hb
   exact ⟨o',x1.1 b o' z⟩
 ·obtain ⟨m1,e1⟩:=I.base.tbls b ps q
  obtain ⟨m2,e2⟩:=T.un.tbls b _ e1
  exact ⟨m1++m2,by rw [e2,Array.append_assoc]⟩
theorem uH:jO (CXd P w) (cxD P w K mg base N qual scope f cdv A outer s H E) E:=by
 rintro pins σ Hc sc e s' I ⟨ea,cls,a0,H',B,od,rfl,T,L,hE⟩
 have h0:=Jj (K:=K) (mg:=mg) (base:=base) (N:=N) (qual:=qual) (scope:=scope) (f:=f) (cdv:=cdv) (A:=A) (outer:=outer) (s:=s) (H:=H) (E:=fun c _ H''=>c=cls∧H''=H') (E2:=fun _ _=>False) (I.wish _) T ⟨rfl,rfl⟩
 refine wpAny_mono (lJ nZ h0) (fun _ s2 h2=>?_) fun _ _ z=>z.1.elim
 obtain ⟨⟨ea',cls',a0',H2,B2,e1,T2,e2,e3⟩,sd⟩:=h2
 cases e1
 subst e2 e3
 refine ⟨ea,cls',a0',H2,B2,od,rfl,T2,fun dx hd=>?_,hE⟩
 obtain ⟨o,ho,hd2⟩:=L dx hd
 obtain ⟨ob,hob,_⟩:=T2.fl.there
 exact ⟨ob,hob,(sd.dict ho hob).trans hd2⟩
end
end L3
namespace K1
open PySem L2 L3 M1
section
variable {P:Program} {w:World} {K:PySem.W.Frag} {mg:Str→Option Value} {base:Heap}
inductive PP (C CN BB:Addr) (vs:List L2.V) (H:Hp) (Q:VK) (E:XK):Prop where
 | mk (n a' b' lp pp:Addr) (rs lr:List Addr) (lts:List (Str × Int × Str)) (hs:List (List Nat)) (ds:List M1.Rd) (zs:List L2.V) (pd:List PyData) (z1:vs=[.ref n,.ref lp,.ref pp]) (z2:kj CN H n a' b' (txs hs) (refs rs)) (z3:cB H hs rs ds) (z4:rs.length≤40) (z5:H lp=some (.lst (refs lr))) (z6:f9 H lr (lts.map ltT)) (z7:lr.length≤100) (z8:H pp=some (.lst zs)) (z9:Ths H zs pd) (z10:pd.length≤98)
   (z11:∀sss,walkD hs ds (lts.map fun d=>d.2.2) none (lts.map bO) 0 pd=.inr sss→∀(H':Hp) (D:Addr) (us:List L2.V),aN H H'→H' D=some (.lst us)→us.length=lts.length→Q (.ref D) H')
   (z12:∀p e,walkD hs ds (lts.map fun d=>d.2.2) none (lts.map bO) 0 pd=.inl (p,e)→∀dx H',H dx=none→aN H H'→H' dx=some (xdO dx [("place",.int (p:Int)),("reason",.str e)])→E (.ref BB) (some dx) H')
noncomputable def Jk (C CN BB:Addr):Sp:=fun vs H Q E=>PP C CN BB vs H Q E
seal PA PE PS PSs
theorem PQ {C CN BB f f1 f2:Addr} {fd fd1 fd2:FuncData} (F:Fun K "arrivals" "arrivals" Jg f fd) (B:Blt mg) (b8:Cls K C)
  (cQ:Dn K mg "walk_of" xm ["net","letters","plan"] f1 fd1) (pJ:aY P w K mg base (CXd P w) 5 f1 fd1 ["net","letters","plan"] (Ji C CN BB))
  (bK:Mn K C "home_turn" "Walk.home_turn" rJ ["self","number"] f2 fd2) (ig:aY P w K mg base CX0 2 f2 fd2 ["self","number"] (vK C)):
  aY P w K mg base (CXd P w) 6 f fd ["net","letters","plan"] (Jk C CN BB):=by
 refine okD F Nh (fun vs H Q E h=>?_) (fun cdv A outer s H vs Q E hr h=>?_)
 ·obtain ⟨n,a',b',lp,pp,rs,lr,lts,hs,ds,zs,pd,rfl,_⟩:=h
  rfl
 ·obtain ⟨n,a',b',lp,pp,rs,lr,lts,hs,ds,zs,pd,rfl,N,R,few,hlp,tpl,fewl,hpp,hpd,p98,q,qE⟩:=h
  refine ⟨_,(au (aP (i:=3) Nh.nd rfl (Or.inr rfl) (aZ pJ (hr.mono (by decide)) (by rfl) cQ.at_ cQ.fn.kp cQ.bd .nil uH (aa (pv 0) (aa (pv 1) (aa (pv 2) ao)))))
   (aB (aR (nQ (N':=["number","walk"]) (cs:=[none,some 3]) rfl (gV rfl B.range (aa (aG aO (by rfl) B.len b7 (aa (pv 1) ao)) ao)) rfl (by decide+kernel) rfl (by decide+kernel) (gY (List.forall_mem_cons.mpr ⟨rfl,(fun p hp=>absurd hp (List.not_mem_nil))⟩)) rfl
    (.own (.cap rfl (.inl rfl) (.inl rfl) rfl .nil))
    (fun C s3 H3 fp pn=>⟨(bw (i:=0) (by show (["number","walk"]:List Str).Nodup;decide+kernel) rfl (.inl rfl)),gH,(gG (pv 1) b8 bK.me ig (hr.mono (by decide)) bK.bd .nil bH (aa (pv 0) ao))⟩))))),?_⟩
  have ll:lr.length=lts.length:=by have:=tpl.len;rw [List.length_map] at this;exact this
  have rl:=bf lr
  refine ⟨_,rfl,_,rfl,_,rfl,n,a',b',lp,pp,rs,lr,lts,hs,ds,zs,pd,rfl,N,R,few,hlp,tpl,fewl,hpp,hpd,p98,fun fin ew fl fne few1 H1 x g st ls s1 W=>?_,fun p e ew dx H' nd sm hd=>qE p e ew dx H' nd sm hd⟩
  obtain ⟨dx,hx⟩:=W.ins
  have hlp1:=s1 _ _ hlp
  dsimp only [yp]
  refine qy (J:=Itr 0 (refs lr).length) (H1:=H1) (xs:=(List.range (refs lr).length).map fun i:Nat=>V.int ((0:Int)+(i:Int))) (rest:=[some (.ref x)]) (fun R h=>⟨_,rfl,lp,_,rfl,.inl (SqL.of hlp1),_,rfl,(by show -(2 ^ 62)≤((refs lr).length:Int);omega),(by show ((refs lr).length:Int) < 2 ^ 62;omega),h⟩) rfl (qW 0 _) (aV (by rw [List.length_map,List.length_range];omega))
   (fun i=>Ng (fin.getD i []) ((lts.map fun d:Str × Int × Str=>d.2.2).getD i (Str.ofString ""))) (fun i v H2 R ev sm k=>?_) (fun D H2 nD hD sD=>?_)
  ·rw [List.getElem?_map] at ev
   obtain ⟨j,ej,rfl⟩:=Option.map_eq_some_iff.mp ev
   obtain ⟨hi,e⟩:=List.getElem?_eq_some_iff.mp ej
   rw [List.length_range] at hi
   rw [List.getElem_range] at e
   subst e
   obtain ⟨ss,es⟩:∃ss,fin[i]?=some ss:=⟨_,List.getElem?_eq_getElem (by omega)⟩
   obtain ⟨y,ey⟩:∃y,(lts.map fun d=>d.2.2)[i]?=some y:=⟨_,List.getElem?_eq_getElem (by rw [List.length_map];omega)⟩
   rw [dG es,dG ey] at k
   rcases List.eq_nil_or_concat ss with z | ⟨pre,s',z⟩
   ·exact absurd z (fne ss (List.mem_of_getElem? es))
   ·rw [List.concat_eq_append] at z
    subst z
    unfold Ng at k
    rw [List.getLast?_append,List.getLast?_singleton] at k
    refine ⟨_,rfl,x,dx,_,rfl,sm _ _ hx,rfl,_,rfl,x,n,g,st,_,ls,fin,i,pre,s',y,?_,W.same sm,es,ey,k H2 (aN.refl _)⟩
    rw [Int.zero_add]
    rfl
  ·exact q fin ew H2 D _ (s1.trans sD) hD (by rw [List.length_map,List.length_range,List.length_map,List.length_range,rl,ll])
inductive PX (C CN BB:Addr) (vs:List L2.V) (H:Hp) (Q:VK) (E:XK):Prop where
 | mk (n a' b' lp pp:Addr) (rs lr:List Addr) (lts:List (Str × Int × Str)) (hs:List (List Nat)) (ds:List M1.Rd) (zs:List L2.V) (pd:List PyData) (t:Int) (z1:vs=[.ref n,.ref lp,.ref pp,.int t]) (z2:kj CN H n a' b' (txs hs) (refs rs)) (z3:cB H hs rs ds) (z4:rs.length≤40) (z5:H lp=some (.lst (refs lr))) (z6:f9 H lr (lts.map ltT)) (z7:lr.length≤100) (z8:H pp=some (.lst zs)) (z9:Ths H zs pd) (z10:pd.length≤98)
   (z11:∀sss,walkD hs ds (lts.map fun d=>d.2.2) none (lts.map bO) 0 pd=.inr sss→∀(H':Hp) (D:Addr),aN H H'→Q (.ref D) H')
   (z12:∀p e,walkD hs ds (lts.map fun d=>d.2.2) none (lts.map bO) 0 pd=.inl (p,e)→∀dx H',H dx=none→aN H H'→H' dx=some (xdO dx [("place",.int (p:Int)),("reason",.str e)])→E (.ref BB) (some dx) H')
noncomputable def Ni (C CN BB:Addr):Sp:=fun vs H Q E=>PX C CN BB vs H Q E
theorem P0 {C CN BB f f1 f2:Addr} {fd fd1 fd2:FuncData} {S:SpA} (F:Fun K "spots_at" "spots_at" vQ f fd) (B:Blt mg) (b8:Cls K C)
  (cQ:Dn K mg "walk_of" xm ["net","letters","plan"] f1 fd1) (pJ:aY P w K mg base (CXd P w) 5 f1 fd1 ["net","letters","plan"] (Ji C CN BB))
  (cW:Mn K C "spot_at" "Walk.spot_at" Bl ["self","number","turn"] f2 fd2) (su:aY P w K mg base CX0 3 f2 fd2 ["self","number","turn"] (IW C S)):
  aY P w K mg base (CXd P w) 6 f fd ["net","letters","plan","turn"] (Ni C CN BB):=by
 refine okD F Bq (fun vs H Q E h=>?_) (fun cdv A outer s H vs Q E hr h=>?_)
 ·obtain ⟨n,a',b',lp,pp,rs,lr,lts,hs,ds,zs,pd,t,rfl,_⟩:=h
  rfl
 ·obtain ⟨n,a',b',lp,pp,rs,lr,lts,hs,ds,zs,pd,t,rfl,N,R,few,hlp,tpl,fewl,hpp,hpd,p98,q,qE⟩:=h
  refine ⟨_,(au (aP (i:=4) Bq.nd rfl (Or.inr rfl) (aZ pJ (hr.mono (by decide)) (by rfl) cQ.at_ cQ.fn.kp cQ.bd .nil uH (aa (pv 0) (aa (pv 1) (aa (pv 2) ao)))))
   (aB (aR (nQ (N':=["number","turn","walk"]) (cs:=[none,some 3,some 4]) rfl (gV rfl B.range (aa (aG aO (by rfl) B.len b7 (aa (pv 1) ao)) ao)) rfl (by decide+kernel) rfl (by decide+kernel) (gY (List.forall_mem_cons.mpr ⟨rfl,(List.forall_mem_cons.mpr ⟨rfl,(fun p hp=>absurd hp (List.not_mem_nil))⟩)⟩)) rfl
    (.own (.cap rfl (.inl rfl) (.inl rfl) rfl (.cap rfl (.inl rfl) (.inl rfl) rfl .nil)))
    (fun C s3 H3 fp pn=>⟨(bw (i:=0) (by show (["number","turn","walk"]:List Str).Nodup;decide+kernel) rfl (.inl rfl)),gH,(gG (pv 2) b8 cW.me su (hr.mono (by decide)) cW.bd .nil bH (aa (pv 0) (aa (pv 1) ao)))⟩))))),?_⟩
  have ll:lr.length=lts.length:=by have:=tpl.len;rw [List.length_map] at this;exact this
  have rl:=bf lr
  refine ⟨_,rfl,_,rfl,_,rfl,n,a',b',lp,pp,rs,lr,lts,hs,ds,zs,pd,rfl,N,R,few,hlp,tpl,fewl,hpp,hpd,p98,fun fin ew fl fne few1 H1 x g st ls s1 W=>?_,fun p e ew dx H' nd sm hd=>qE p e ew dx H' nd sm hd⟩
  obtain ⟨dx,hx⟩:=W.ins
  have hlp1:=s1 _ _ hlp
  dsimp only [yp]
  refine Bk (J:=Itr 0 (refs lr).length) (H1:=H1) (xs:=(List.range (refs lr).length).map fun i:Nat=>V.int ((0:Int)+(i:Int))) (rest:=[some (.int t),some (.ref x)]) (fun R h=>⟨_,rfl,lp,_,rfl,.inl (SqL.of hlp1),_,rfl,(by show -(2 ^ 62)≤((refs lr).length:Int);omega),(by show ((refs lr).length:Int) < 2 ^ 62;omega),h⟩) rfl (qW 0 _) (aV (by rw [List.length_map,List.length_range];omega))
   (fun _ _ _=>True) (fun _ _ _ _ _ _=>trivial) (fun _ _ _ _ _ _ _ _=>trivial) (fun i v H2 R ev sm k=>?_) (fun D H2 us nD hD _ _ sD=>q fin ew H2 D (s1.trans sD))
  rw [List.getElem?_map] at ev
  obtain ⟨j,ej,rfl⟩:=Option.map_eq_some_iff.mp ev
  obtain ⟨hi,e⟩:=List.getElem?_eq_some_iff.mp ej
  rw [List.length_range] at hi
  rw [List.getElem_range] at e
  subst e
  obtain ⟨ss,es⟩:∃ss,fin[i]?=some ss:=⟨_,List.getElem?_eq_getElem (by omega)⟩
  obtain ⟨y,ey⟩:∃y,(lts.map fun d=>d.2.2)[i]?=some y:=⟨_,List.getElem?_eq_getElem (by rw [List.length_map];omega)⟩
  refine ⟨_,rfl,x,dx,_,rfl,sm _ _ hx,rfl,_,rfl,_,rfl,x,n,g,st,_,ls,fin,i,ss,y,t,?_,W.same sm,es,few1 ss (List.mem_of_getElem? es),ey,fun v H' s' _=>k v H' s' trivial⟩
  rw [Int.zero_add]
  rfl
unseal PA PE PS PSs
end
open PySem L2 L3 M1
noncomputable def kk (k:Kt):List Key:=[.inl k.1,.inl (k.2:Int)]
theorem zx {a b:Kt} (h:kk a=kk b):a=b:=by
 obtain ⟨a1,a2⟩:=a
 obtain ⟨b1,b2⟩:=b
 simp only [kk,List.cons.injEq,Sum.inl.injEq,and_true] at h
 rw [h.1,Int.ofNat.inj h.2]
noncomputable def Jl (hs:List (List Nat)) (ds:List M1.Rd) (k:Kt):List L2.V:=[.int k.1,.int k.2,.int (k.1+rTn ds k.2),.str (iU hs ds k.2)]
noncomputable def lN (hs:List (List Nat)) (ds:List M1.Rd) (h:Str) (ks:List Kt):Str:=match ks.getLast? with
 | none=>h
 | some k=>iU hs ds k.2
noncomputable def oK (ds:List M1.Rd) (t:Int) (ks:List Kt):Int:=match ks.getLast? with
 | none=>t
 | some k=>k.1+rTn ds k.2
theorem uI (hs:List (List Nat)) (ds:List M1.Rd) (h:Str) (ks:List Kt) (k:Kt):lN hs ds h (ks++[k])=iU hs ds k.2:=by
 unfold lN
 rw [List.getLast?_append,List.getLast?_singleton]
 rfl
theorem mH (ds:List M1.Rd) (t:Int) (ks:List Kt) (k:Kt):oK ds t (ks++[k])=k.1+rTn ds k.2:=by
 unfold oK
 rw [List.getLast?_append,List.getLast?_singleton]
 rfl
noncomputable def gP (hs:List (List Nat)) (ds:List M1.Rd) (h:Str) (t:Int) (g:Str) (ks:List Kt):Prop:=
 ∀j k,ks[j]?=some k→k.2 < ds.length∧iT hs ds k.2=lN hs ds h (ks.take j)∧lN hs ds h (ks.take j)≠g∧oK ds t (ks.take j)≤k.1
theorem gP.snoc {hs:List (List Nat)} {ds:List M1.Rd} {h:Str} {t:Int} {g:Str} {ks:List Kt} {k:Kt} (c:gP hs ds h t g ks) (h1:k.2 < ds.length) (h2:iT hs ds k.2=lN hs ds h ks) (h3:lN hs ds h ks≠g) (h4:oK ds t ks≤k.1):gP hs ds h t g (ks++[k]):=fun j k' e=>by
 by_cases hj:j < ks.length
 ·rw [List.getElem?_append_left hj] at e
  rw [List.take_append_of_le_length (by omega)]
  exact c j k' e
 ·rw [List.getElem?_append_right (by omega)] at e
  have ej:j=ks.length:=by
   by_cases hz:j - ks.length=0
   ·omega
   ·rw [List.getElem?_eq_none (by simp;omega)] at e
    cases e
  subst ej
  rw [Nat.sub_self] at e
  cases e
  rw [List.take_append_of_le_length (Nat.le_refl _),List.take_length]
  exact ⟨h1,h2,h3,h4⟩
noncomputable def vR (kvs:List (List Key × L2.V)) (ks:List Kt):Prop:=(∀k:Kt,(gJ kvs (kk k)).getD (.int 0)=.int (ks.count k))∧kvs.length≤ks.length
theorem vR.put {kvs:List (List Key × L2.V)} {ks:List Kt} (h:vR kvs ks) (k:Kt):vR (putK kvs (kk k) (.int (ks.count k+1))) (ks++[k]):=by
 refine ⟨fun k'=>?_,?_⟩
 ·rw [Fz,List.count_append]
  by_cases e:k'=k
  ·subst e
   rw [if_pos rfl,List.count_singleton_self]
   show V.int ((ks.count k':Int)+1)=_
   congr 1
  ·rw [if_neg (fun z=>e (zx z)),h.1 k']
   rw [List.count_singleton,if_neg (by simp;exact fun z=>e z.symm)]
   rfl
 ·have:=ji kvs (kk k) (V.int (ks.count k+1))
  rw [List.length_append]
  have:=h.2
  simp only [List.length_cons,List.length_nil]
  omega
noncomputable def jd (hs:List (List Nat)) (ds:List M1.Rd) (H:Hp) (m:Addr) (ks:List Kt):Prop:=∃ts,H m=some (.lst (refs ts))∧f9 H ts (ks.map (Jl hs ds))
theorem jd.same {hs:List (List Nat)} {ds:List M1.Rd} {H H':Hp} {m:Addr} {ks:List Kt} (h:jd hs ds H m ks) (sm:aN H H'):jd hs ds H' m ks:=let ⟨ts,a,b⟩:=h;⟨ts,sm _ _ a,b.same sm⟩
theorem jd.upd {hs:List (List Nat)} {ds:List M1.Rd} {H:Hp} {m p:Addr} {ks:List Kt} {o u:HO} (h:jd hs ds H m ks) (e:H p=some u) (hu:∀d,u≠.tup d) (n:m≠p):jd hs ds (upd H p o) m ks:=by
 obtain ⟨ts,a,b⟩:=h
 exact ⟨ts,by rw [aA n];exact a,b.upd e hu⟩
structure sy (hs:List (List Nat)) (ds:List M1.Rd) (H Hc:Hp) (p4 p5:Addr) (kvs:List (List Key × L2.V)) (ms:List Addr) (legs:List (List Kt)) (ks:List Kt):Prop where
 sm:aN H Hc
 ld:Hc p4=some (.dT kvs)
 lg:Hc p5=some (.lst (refs ms))
 ea:Paired (jd hs ds Hc) ms legs
 lo:vR kvs (legs.flatten++ks)
 cn:∀k,((legs.flatten++ks).count k:Int)≤rRm ds k.2
 n5:p5∉ms
theorem sy.same {hs:List (List Nat)} {ds:List M1.Rd} {H Hc Hd:Hp} {p4 p5:Addr} {kvs:List (List Key × L2.V)} {ms:List Addr} {legs:List (List Kt)} {ks:List Kt} (s:sy hs ds H Hc p4 p5 kvs ms legs ks) (sm:aN Hc Hd):sy hs ds H Hd p4 p5 kvs ms legs ks:=
 ⟨s.sm.trans sm,sm _ _ s.ld,sm _ _ s.lg,Paired.mapP s.ea fun _ _ e=>e.same sm,s.lo,s.cn,s.n5⟩
theorem sy.load {hs:List (List Nat)} {ds:List M1.Rd} {H Hc:Hp} {p4 p5:Addr} {kvs:List (List Key × L2.V)} {ms:List Addr} {legs:List (List Kt)} {ks:List Kt} (s:sy hs ds H Hc p4 p5 kvs ms legs ks) (n4:H p4=none) (p45:p4≠p5) (k:Kt) (room:((legs.flatten++ks).count k:Int) < rRm ds k.2):
  sy hs ds H (upd Hc p4 (.dT (putK kvs (kk k) (.int ((legs.flatten++ks).count k+1))))) p4 p5 (putK kvs (kk k) (.int ((legs.flatten++ks).count k+1))) ms legs (ks++[k]):=by
 refine ⟨gZ n4 s.sm,aq,by rw [aA p45.symm];exact s.lg,Paired.mapP s.ea fun m l e=>?_,?_,fun k'=>?_,s.n5⟩
 ·obtain ⟨ts,h1,h2⟩:=id e
  exact e.upd s.ld (by intro d z;cases z) (iz h1 s.ld (by intro z;cases z))
 ·rw [←List.append_assoc]
  exact s.lo.put k
 ·rw [←List.append_assoc,List.count_append,List.count_singleton]
  by_cases e:k=k'
  ·subst e
   rw [if_pos (by simp)]
   omega
  ·rw [if_neg (by simpa using e)]
   exact s.cn k'
theorem sy.mine {hs:List (List Nat)} {ds:List M1.Rd} {H Hc:Hp} {p4 p5 pm:Addr} {kvs:List (List Key × L2.V)} {ms:List Addr} {legs:List (List Kt)} {ks:List Kt} {us vs:List L2.V} (s:sy hs ds H Hc p4 p5 kvs ms legs ks) (nm:H pm=none) (e4:p4≠pm) (e5:p5≠pm) (em:pm∉ms) (hp:Hc pm=some (.lst us)):sy hs ds H (upd Hc pm (.lst vs)) p4 p5 kvs ms legs ks:=by
 refine ⟨gZ nm s.sm,by rw [aA e4];exact s.ld,by rw [aA e5];exact s.lg,?_,s.lo,s.cn,s.n5⟩
 have:∀{ls:List Addr} {gs:List (List Kt)},Paired (jd hs ds Hc) ls gs→pm∉ls→Paired (jd hs ds (upd Hc pm (.lst vs))) ls gs:=fun {ls gs} p=>by
  induction p with
  | nil=>exact fun _=>.nil
  | cons r t ih=>exact fun h=>.cons (r.upd hp (by intro d z;cases z) (fun z=>h (by rw [z];exact .head _))) (ih fun z=>h (.tail _ z))
 exact this s.ea em
noncomputable def ahead (ks:List Kt) (r:Nat) (t:Int):Nat:=(ks.filter fun k=>decide (k.2=r∧t≤k.1)).length
theorem Jm {ks:List Kt} {r:Nat} {t:Int} (h:(t,r)∈ks):ahead ks r (t+1) < ahead ks r t:=by
 unfold ahead
 induction ks with
 | nil=>exact absurd h List.not_mem_nil
 | cons k ks ih=>
  have le:∀l:List Kt,(l.filter fun k=>decide (k.2=r∧t+1≤k.1)).length≤(l.filter fun k=>decide (k.2=r∧t≤k.1)).length:=fun l=>by
   induction l with
   | nil=>exact Nat.le_refl _
   | cons k l ih2=>
    rw [List.filter_cons,List.filter_cons]
    by_cases a:k.2=r∧t+1≤k.1
    ·rw [if_pos (decide_eq_true a),if_pos (decide_eq_true ⟨a.1,by omega⟩)]
     exact Nat.succ_le_succ ih2
    ·rw [if_neg (by simpa using a)]
     split
     ·exact Nat.le_succ_of_le ih2
     ·exact ih2
  rw [List.filter_cons,List.filter_cons]
  rcases List.mem_cons.mp h with e | e
  ·subst e
   rw [if_neg (by simp;omega),if_pos (by simp)]
   exact Nat.lt_succ_of_le (le ks)
  ·have:=ih e
   by_cases a:k.2=r∧t+1≤k.1
   ·rw [if_pos (decide_eq_true a),if_pos (decide_eq_true ⟨a.1,by omega⟩)]
    exact Nat.succ_lt_succ this
   ·rw [if_neg (by simpa using a)]
    split
    ·exact Nat.lt_succ_of_lt this
    ·exact this
theorem Jo (ks:List Kt) (r:Nat) (t:Int):ahead ks r t≤ks.length:=List.length_filter_le _ _
section
variable {P:Program} {w:World} {K:PySem.W.Frag} {mg:Str→Option Value} {base:Heap}
structure vU (hs:List (List Nat)) (ds:List M1.Rd) (lts:List (Str × Int × Str)) (legs:List (List Kt)):Prop where
 len:legs.length=lts.length
 ch:∀(i:Nat) d ks,lts[i]?=some d→legs[i]?=some ks→gP hs ds d.1 d.2.1 d.2.2 ks∧ks.length≤3∧oK ds d.2.1 ks≤d.2.1+200 * ks.length
 cn:∀k,(legs.flatten.count k:Int)≤rRm ds k.2
noncomputable def Jp (K:PySem.W.Frag):Sp:=fun vs H Q _=>∃(b lp a:Addr) (rs lr:List Addr) (hs:List (List Nat)) (ds:List M1.Rd) (lts:List (Str × Int × Str)) (ns:List Int) (hp:Int),vs=[.ref b,.ref lp,.ref a,.int hp]∧H b=some (.lst (refs rs))∧cB H hs rs ds∧rs.length≤40∧
 H lp=some (.lst (refs lr))∧f9 H lr (lts.map ltT)∧lr.length≤40∧SqL K H a (ns.map V.int)∧(lr=[]∨0 < ns.length)∧0≤hp∧hp≤3∧
 ∀(H':Hp) (l:Addr) (ms:List Addr) (legs:List (List Kt)),H l=none→aN H H'→H' l=some (.lst (refs ms))→Paired (jd hs ds H') ms legs→vU hs ds lts legs→Q (.ref l) H'
noncomputable abbrev Br:Stmt:=top 46
noncomputable abbrev RV:List Str:=["_law_lines","_law_letters","_law_cells","_law_hops","_law_load","_law_legs_here","_law_number","_law_letter_here","_law_cell","_law_at","_law_ready","_law_mine","_law_k","_law_outs","_law_road_here"]
noncomputable abbrev Bs:List Str:=["_law_lines","_law_letters","_law_cells","_law_hops"]
theorem eZ:aX RV Bs (aH Br):=⟨rfl,rfl,rfl,by decide+kernel,rfl,by decide+kernel,by decide+kernel⟩
theorem Ms {f:Addr} {fd:FuncData} (F:Fun K "_law_legs" "_law_legs" Br f fd) (B:Blt mg):aY P w K mg base CX0 1 f fd Bs (Jp K):=by
 refine F.ok eZ (fun vs H Q E h=>?_) (fun cdv A outer s H vs Q E hr h=>?_)
 ·obtain ⟨b,lp,a,rs,lr,hs,ds,lts,ns,hp,rfl,_⟩:=h
  rfl
 ·obtain ⟨b,lp,a,rs,lr,hs,ds,lts,ns,hp,rfl,hb,R,few,hlp,tpl,fewl,ha,hne,hp0,hp3,q⟩:=h
  refine ⟨_,(au (aP (i:=4) eZ.nd rfl (Or.inl rfl) wM)
   (au (aP (i:=5) eZ.nd rfl (Or.inl rfl) (cj ao))
   (au (fY PassesOwn.never rfl (vd rfl B.enumerate (aa (pv 1) ao)) (mX rfl (cG (bw (i:=6) eZ.nd rfl (Or.inl rfl)) (cG (bw (i:=7) eZ.nd rfl (Or.inl rfl)) jJ)))
    (au (aP (i:=8) eZ.nd rfl (Or.inl rfl) (aL cg (aL bR (aL jM (aM bB (pv 2) (aL bR (pv 6) (aG aO (by rfl) B.len b7 (aa (pv 2) ao))) (fun _ _=>rfl)) az) az) (pv 6)))
   (au (aP (i:=9) eZ.nd rfl (Or.inr rfl) (aM aU (pv 7) az (fun _ _=>rfl)))
   (au (aP (i:=10) eZ.nd rfl (Or.inl rfl) (aM aU (pv 7) az (fun _ _=>rfl)))
   (au (aP (i:=11) eZ.nd rfl (Or.inl rfl) (cj ao))
   (au (fY PassesOwn.never rfl (gV rfl B.range (aa (aL bR (pv 8) (aL cg (pv 3) az)) ao)) (bw (i:=12) eZ.nd rfl (Or.inl rfl))
    (au (aP (i:=8) eZ.nd rfl (Or.inl rfl) (aL bR (aL jM (pv 8) az) az))
   (au (nR (i:=13) eZ.nd rfl rfl rfl (N':=["_law_n","_law_at","_law_lines"]) (cs:=[none,some 9,some 0]) rfl (gV rfl B.range (aa (aG aO (by rfl) B.len b7 (aa (pv 0) ao)) ao)) rfl (by decide+kernel) rfl (by decide+kernel) (gY (List.forall_mem_cons.mpr ⟨rfl,(List.forall_mem_cons.mpr ⟨rfl,(fun p hp=>absurd hp (List.not_mem_nil))⟩)⟩)) rfl
    (.own (.cap rfl (.inl rfl) (.inl rfl) rfl (.cap rfl (.inl rfl) (.inl rfl) rfl .nil)))
    (fun C s3 H3 fp pn=>⟨(bw (i:=0) (by show (["_law_n","_law_at","_law_lines"]:List Str).Nodup;decide+kernel) rfl (.inl rfl)),(Ac (bL j9 (aM (mC (K:=K) rfl) (aM (Fy (K:=K) rfl) (pv 2) (pv 0) (fun _ _=>rfl)) az (fun _ _=>rfl)) (pv 1) (bA _))),(pv 0)⟩))
   (aB (cF (PW.pt (uT (bL (yL hr.units) (pv 13) (cj ao) (bA _)) (ql (bL wz (pv 9) (aM aU (pv 7) az (fun _ _=>rfl)) (bA _))))) (au (aP (i:=14) eZ.nd rfl (Or.inl rfl) (aM bB (pv 13) (aL bR (pv 8) (aG aO (by rfl) B.len b7 (aa (pv 13) ao))) (fun _ _=>rfl)))
   (au (aP (i:=10) eZ.nd rfl (Or.inl rfl) (aL cg (pv 10) (aL bR (aL eG (pv 8) az) az)))
   (au (Er PassesOwn.never (bL zX (wN (qU hr) (pv 4) (bN (aa (pv 10) (aa (pv 14) ao))) az ⟨rfl,rfl,rfl,rfl⟩) (aM aU (aM bB (pv 0) (pv 14) (fun _ _=>rfl)) az (fun _ _=>rfl)) (bA _))
    (aB (aP (i:=10) eZ.nd rfl (Or.inl rfl) (aL cg (pv 10) az))))
   (au (Kp (qU hr) (pv 4) (bN (aa (pv 10) (aa (pv 14) ao))) (aL cg (wN (qU hr) (pv 4) (bN (aa (pv 10) (aa (pv 14) ao))) az ⟨rfl,rfl,rfl,rfl⟩) az) rfl)
   (au (iu (qT PySem.F.plainAttrs_list PySem.F.slot_list_append PySem.F.type_list_append gr (pv 11) (aa (bN (aa (pv 10) (aa (pv 14) (aa (aL cg (pv 10) (aM aU (aM bB (pv 0) (pv 14) (fun _ _=>rfl)) az (fun _ _=>rfl))) (aa (aM aU (aM bB (pv 0) (pv 14) (fun _ _=>rfl)) az (fun _ _=>rfl)) ao))))) ao)))
   (au (aP (i:=9) eZ.nd rfl (Or.inr rfl) (aM aU (aM bB (pv 0) (pv 14) (fun _ _=>rfl)) az (fun _ _=>rfl)))
   (aB (aP (i:=10) eZ.nd rfl (Or.inl rfl) (aL cg (pv 10) (aM aU (aM bB (pv 0) (pv 14) (fun _ _=>rfl)) az (fun _ _=>rfl))))))))))) bF)))))
   (aB (iu (qT PySem.F.plainAttrs_list PySem.F.slot_list_append PySem.F.type_list_append gr (pv 5) (aa (pv 11) ao))))))))))
   (aB (aR (pv 5)))))),?_⟩
  have lrl:lr.length=lts.length:=by have:=tpl.len;rw [List.length_map] at this;exact this
  have rl:=bf rs
  have rlen:=R.len
  intro p4 n4
  have s4:=aC (o:=.dT []) n4
  have h4:=aq (H:=H) (a:=p4) (o:=.dT [])
  generalize upd H p4 (.dT [])=H4 at s4 h4 ⊢
  refine ⟨Nat.zero_le _,fun p5 n5=>?_⟩
  have s45:=aC (o:=.lst []) n5
  have h5:=aq (H:=H4) (a:=p5) (o:=.lst [])
  have h45:=s45 _ _ h4
  have p45:p4≠p5:=aF h4 n5
  have n5':H p5=none:=by
   cases e:H p5 with
   | none=>rfl
   | some o=>rw [s4 _ _ e] at n5;cases n5
  have s05:=s4.trans s45
  generalize upd H4 p5 (.lst [])=H5 at s45 h5 h45 s05 ⊢
  clear s4 s45 h4
  refine ⟨_,rfl,lp,rfl,⟨_,SqL.of (s05 _ _ hlp)⟩,?_⟩
  refine rD (K:=K) (a:=lp) (xs:=refs lr) (fun i σ Hc=>∃(kvs:List (List Key × L2.V)) (ms:List Addr) (legs:List (List Kt)) (v6 v7 v8 v9 v10 v11 v12 v13 v14:Option L2.V),σ=[some (.ref b),some (.ref lp),some (.ref a),some (.int hp),some (.ref p4),some (.ref p5),v6,v7,v8,v9,v10,v11,v12,v13,v14]∧sy hs ds H Hc p4 p5 kvs ms legs []∧legs.length=i∧legs.flatten.length≤3 * i∧
   ∀(j:Nat) d ks,lts[j]?=some d→legs[j]?=some ks→gP hs ds d.1 d.2.1 d.2.2 ks∧ks.length≤3∧oK ds d.2.1 ks≤d.2.1+200 * ks.length)
   ⟨[],[],[],none,none,none,none,none,none,none,none,none,rfl,⟨s05,h45,h5,.nil,⟨fun k=>rfl,Nat.le_refl _⟩,?_,List.not_mem_nil⟩,rfl,Nat.le_refl _,fun j d ks _ e=>by simp at e⟩ (fun i σ Hc ⟨_,_,_,_,_,_,_,_,_,_,_,_,_,h,_⟩=>SqL.of (h.sm _ _ hlp)) ?_ ?_
  ·intro k
   show (([]:List Kt).count k:Int)≤_
   rw [List.count_nil]
   unfold rRm
   by_cases hk:k.2 < ds.length
   ·rw [List.getD,List.getElem?_eq_getElem hk]
    have:=(R.ok _ (List.getElem_mem hk)).m
    show (0:Int)≤ds[k.2].m
    omega
   ·rw [List.getD,List.getElem?_eq_none (by omega)]
    exact Int.le_refl _
  ·rintro i z σ Hc pt ez ⟨kvs,ms,legs,v6,v7,v8,v9,v10,v11,v12,v13,v14,rfl,J,ll,fl,ch⟩ npt
   unfold refs at ez
   rw [List.getElem?_map] at ez
   obtain ⟨r,er,rfl⟩:=Option.map_eq_some_iff.mp ez
   have il:=(List.getElem?_eq_some_iff.mp er).1
   obtain ⟨dv,edv,hr1⟩:=Paired.get tpl er
   rw [List.getElem?_map] at edv
   obtain ⟨d,ed,rfl⟩:=Option.map_eq_some_iff.mp edv
   have nsl:0 < ns.length:=by
    rcases hne with z | z
    ·rw [z] at il;simp at il
    ·exact z
   have spt:=aC (o:=.tup [V.int (i:Int),V.ref r]) npt
   refine ⟨pt,_,rfl,SqT.of aq,rfl,?_⟩
   have J:=J.same spt
   generalize upd Hc pt (.tup [V.int (i:Int),V.ref r])=Hd at spt J ⊢
   clear spt npt
   refine ⟨_,_,rfl,_,_,rfl,rfl,?_⟩
   have aD:=J.sm.seq ha
   have nm:0 < (ns.map V.int).length:=by rw [List.length_map];exact nsl
   have k0:0≤(i:Int) % ((ns.map V.int).length:Int):=Int.emod_nonneg _ (by omega)
   have k1:(i:Int) % ((ns.map V.int).length:Int) < ((ns.map V.int).length:Int):=Int.emod_lt_of_pos _ (by omega)
   refine ⟨_,rfl,_,rfl,_,rfl,a,_,rfl,.inl aD,_,_,rfl,rfl,(by show (0:Int) < ((ns.map V.int).length:Int);omega),a,_,_,_,rfl,rfl,aD,vo k0 k1,_,_,rfl,rfl,.inr ⟨by decide,by decide⟩,_,_,rfl,rfl,(by show (0:Int) < 2147483647;decide),_,rfl,_,_,rfl,rfl,?_⟩
   dsimp only
   generalize ns.getD ((i:Int) % ((ns.map V.int).length:Int)).toNat 0 * 48271 % 2147483647+(i:Int)=c0
   have hrD:=SqT.of (K:=K) (J.sm _ _ hr1)
   refine ⟨_,rfl,r,_,_,_,rfl,rfl,hrD,rfl,_,rfl,r,_,_,_,rfl,rfl,hrD,rfl,Nat.zero_le _,fun pm nm2=>?_⟩
   have spm:=aC (o:=.lst []) nm2
   have hpm:=aq (H:=Hd) (a:=pm) (o:=.lst [])
   have pm4:p4≠pm:=aF J.ld nm2
   have pm5:p5≠pm:=aF J.lg nm2
   have pmm:pm∉ms:=fun hm=>by
    obtain ⟨j,hj,e⟩:=List.getElem_of_mem hm
    obtain ⟨ks',_,ts',h1,_⟩:=Paired.get J.ea (List.getElem?_eq_getElem hj)
    rw [e,nm2] at h1
    cases h1
   have pmH:H pm=none:=by
    cases e:H pm with
    | none=>rfl
    | some o=>rw [J.sm _ _ e] at nm2;cases nm2
   have J:=J.same spm
   generalize upd Hd pm (.lst [])=He at spm hpm J ⊢
   clear spm nm2 aD hrD
   have m0:0≤c0 % (hp+1):=Int.emod_nonneg _ (by omega)
   have m1:c0 % (hp+1) < hp+1:=Int.emod_lt_of_pos _ (by omega)
   refine ⟨_,rfl,_,rfl,_,_,rfl,rfl,_,_,rfl,rfl,(by show (0:Int) < hp+1;omega),_,rfl,(by show -(2 ^ 62)≤c0 % (hp+1);omega),(by show c0 % (hp+1) < 2 ^ 62;omega),?_⟩
   refine mq (lo:=0) (n:=(c0 % (hp+1)).toNat) (fun j σ Hf=>∃(kvs:List (List Key × L2.V)) (ks:List Kt) (cc:Int) (ts:List Addr) (v12 v13 v14:Option L2.V),σ=[some (.ref b),some (.ref lp),some (.ref a),some (.int hp),some (.ref p4),some (.ref p5),some (.int (i:Int)),some (.ref r),some (.int cc),some (.str (lN hs ds d.1 ks)),some (.int (oK ds d.2.1 ks)),some (.ref pm),v12,v13,v14]∧
    sy hs ds H Hf p4 p5 kvs ms legs ks∧Hf pm=some (.lst (refs ts))∧f9 Hf ts (ks.map (Jl hs ds))∧gP hs ds d.1 d.2.1 d.2.2 ks∧ks.length≤j∧oK ds d.2.1 ks≤d.2.1+200 * ks.length)
    ⟨kvs,[],c0,[],v12,v13,v14,rfl,J,hpm,.nil,fun j k e=>by simp at e,Nat.le_refl _,by show d.2.1≤d.2.1+200 * (0:Int);omega⟩ ?_ ?_
   ·rintro j σ Hf hj ⟨kvs,ks,cc,ts,v12,v13,v14,rfl,J,hpm,tp,cok,kl,et⟩
    refine ⟨_,rfl,_,_,rfl,rfl,.inr ⟨by decide,by decide⟩,_,_,rfl,rfl,(by show (0:Int) < 2147483647;decide),?_⟩
    have hbf:=SqL.of (K:=K) (J.sm _ _ hb)
    have Rf:=R.same J.sm
    dsimp only [oU,yq,dX]
    generalize cc * 48271 % 2147483647=c2
    refine HF (J:=Itr 0 (refs rs).length) (H1:=Hf) (xs:=(List.range (refs rs).length).map fun i:Nat=>V.int ((0:Int)+(i:Int))) (rest:=[some (.str (lN hs ds d.1 ks)),some (.ref b)]) (fun R h=>⟨_,rfl,b,_,rfl,.inl hbf,_,rfl,(by show -(2 ^ 62)≤((refs rs).length:Int);omega),(by show ((refs rs).length:Int) < 2 ^ 62;omega),h⟩) rfl (qW 0 _) (aV (by rw [List.length_map,List.length_range];omega))
     (fun n=>decide (iT hs ds n=lN hs ds d.1 ks)) (fun n=>V.int n) (fun n v H2 R2 ev sm k2=>?_) (fun n v H2 R2 ev hp2 sm k2=>?_) (fun D Hg nD hD sD=>?_)
    ·rw [List.getElem?_map] at ev
     obtain ⟨n',en,rfl⟩:=Option.map_eq_some_iff.mp ev
     obtain ⟨hn,e⟩:=List.getElem?_eq_some_iff.mp en
     rw [List.length_range] at hn
     rw [List.getElem_range] at e
     subst e
     have err:rs[n]?=some rs[n]:=List.getElem?_eq_getElem (by omega)
     obtain ⟨d1,ed1,_,hd1⟩:=Rf.get err
     have e0:ds.getD n rd0=d1:=dG ed1
     have eb:decide (V.str (S (hs.getD d1.a []))=V.str (lN hs ds d.1 ks))=decide (iT hs ds n=lN hs ds d.1 ks):=by
      unfold iT
      rw [e0]
      exact decide_eq_decide.mpr ⟨fun z=>V.str.inj z,fun z=>congrArg V.str z⟩
     refine ⟨_,rfl,_,rfl,b,_,_,_,rfl,rfl,SqL.of (sm _ _ (J.sm _ _ hb)),KC err,rs[n],_,_,_,rfl,rfl,SqT.of (sm _ _ hd1),rfl,_,rfl,rfl,_,rfl,?_⟩
     show R2 (decide (V.str (S (hs.getD d1.a []))=V.str (lN hs ds d.1 ks))) H2
     rw [eb]
     exact k2 H2 (aN.refl _)
    ·rw [List.getElem?_map] at ev
     obtain ⟨n',en,rfl⟩:=Option.map_eq_some_iff.mp ev
     obtain ⟨hn,e⟩:=List.getElem?_eq_some_iff.mp en
     rw [List.getElem_range] at e
     subst e
     refine ⟨_,rfl,?_⟩
     rw [Int.zero_add]
     exact k2 H2 (aN.refl _)
    obtain ⟨O,eO⟩:∃O,O=(List.range (refs rs).length).filter fun n=>decide (iT hs ds n=lN hs ds d.1 ks):=⟨_,rfl⟩
    have hO:∀n∈O,n < ds.length∧iT hs ds n=lN hs ds d.1 ks:=fun n hn=>by
     rw [eO] at hn
     have h1:=List.mem_filter.mp hn
     have h2:=List.mem_range.mp h1.1
     exact ⟨by omega,of_decide_eq_true h1.2⟩
    have lO:O.length≤40:=by
     rw [eO]
     have:=List.length_filter_le (fun n=>decide (iT hs ds n=lN hs ds d.1 ks)) (List.range (refs rs).length)
     rw [List.length_range] at this
     omega
    rw [List.length_map,List.length_range,←eO] at hD
    have hD':Hg D=some (.lst ((O.map fun n:Nat=>(n:Int)).map V.int)):=by rw [hD,List.map_map];rfl
    have J:=J.same sD
    have hpm:=sD _ _ hpm
    have tp:=tp.same sD
    refine ⟨_,rfl,Nat.zero_le _,fun le nle=>?_⟩
    have sle:=aC (o:=.lst []) nle
    have can1:(PyData.list ((O.map fun n:Nat=>(n:Int)).map PyData.int)).canLay0=true:=mD fun d hd=>by
     obtain ⟨z,_,rfl⟩:=List.mem_map.mp hd
     rfl
    have sh1:=iV can1 (M5 (n:=0) fun d hd=>by obtain ⟨z,_,rfl⟩:=List.mem_map.mp hd;exact Nat.le_refl _) (by decide)
    refine ⟨.list ((O.map fun n:Nat=>(n:Int)).map PyData.int),.list [],.lst (SqL.of (sle _ _ hD')) (wV _),.lst (SqL.of aq) .nil,sh1,rfl,_,rfl,?_⟩
    have J:=J.same sle
    have hpm:=sle _ _ hpm
    have tp:=tp.same sle
    have hD':=sle _ _ hD'
    generalize upd Hg le (.lst [])=Hh at sle J hpm tp hD' ⊢
    refine Od (fun hne2=>?_) (fun _=>⟨kvs,ks,c2,ts,_,_,_,rfl,J,hpm,tp,cok,Nat.le_succ_of_le kl,et⟩)
    have hrh:=SqT.of (K:=K) (J.sm _ _ hr1)
    refine ⟨_,rfl,_,rfl,r,_,_,_,rfl,rfl,hrh,rfl,rfl,_,rfl,?_⟩
    by_cases hg:lN hs ds d.1 ks=d.2.2
    ·refine fM (by rw [hg];simp) ?_
     exact ⟨kvs,ks,c2,ts,_,_,_,rfl,J,hpm,tp,cok,Nat.le_succ_of_le kl,et⟩
    refine eF (by simp [hg]) ?_
    have Ol:0 < ((O.map fun n:Nat=>(n:Int)).map V.int).length:=by
     rw [List.length_map,List.length_map]
     refine List.length_pos_iff.mpr fun z=>?_
     have e:=qX (.list []) rfl
     rw [z,List.map_nil,List.map_nil,e] at hne2
     cases hne2
    have q0:0≤c2 % (((O.map fun n:Nat=>(n:Int)).map V.int).length:Int):=Int.emod_nonneg _ (by omega)
    have q1:c2 % (((O.map fun n:Nat=>(n:Int)).map V.int).length:Int) < (((O.map fun n:Nat=>(n:Int)).map V.int).length:Int):=Int.emod_lt_of_pos _ (by omega)
    obtain ⟨n0,hn0,en0⟩:∃n0∈O,(O.map fun n:Nat=>(n:Int)).getD (c2 % (((O.map fun n:Nat=>(n:Int)).map V.int).length:Int)).toNat 0=(n0:Int):=by
     have lt:(c2 % (((O.map fun n:Nat=>(n:Int)).map V.int).length:Int)).toNat < O.length:=by
      rw [List.length_map,List.length_map] at q1
      rw [List.length_map,List.length_map] at q0
      rw [List.length_map,List.length_map]
      omega
     refine ⟨O[(c2 % (((O.map fun n:Nat=>(n:Int)).map V.int).length:Int)).toNat],List.getElem_mem lt,?_⟩
     rw [List.getD,List.getElem?_map,List.getElem?_eq_getElem lt]
     rfl
    have at0:=vo q0 q1
    rw [en0] at at0
    refine ⟨_,rfl,_,rfl,_,rfl,D,_,rfl,.inl (SqL.of hD'),_,_,rfl,rfl,(by show (0:Int) < (((O.map fun n:Nat=>(n:Int)).map V.int).length:Int);omega),D,_,_,_,rfl,rfl,SqL.of hD',at0,?_⟩
    refine ⟨_,rfl,_,rfl,_,_,rfl,rfl,⟨by decide,by decide⟩,_,_,rfl,rfl,(by show (0:Int) < 4;decide),_,_,rfl,rfl,?_⟩
    have w0:0≤c2 / 64 % 4:=Int.emod_nonneg _ (by decide)
    have w1:c2 / 64 % 4 < 4:=Int.emod_lt_of_pos _ (by decide)
    dsimp only
    generalize c2 / 64 % 4=wt at w0 w1 ⊢
    obtain ⟨n0l,n0b⟩:=hO n0 hn0
    obtain ⟨r0,er0⟩:∃r0,rs[n0]?=some r0:=⟨_,List.getElem?_eq_getElem (by omega)⟩
    obtain ⟨d0,ed0,ok0,hd0⟩:=R.get er0
    have e0:ds.getD n0 rd0=d0:=dG ed0
    have eV:rdV hs d0=[.str (iT hs ds n0),.str (iU hs ds n0),.int (rTn ds n0),.int (rRm ds n0)]:=by
     unfold rdV iT iU rTn rRm
     rw [e0]
    rw [eV] at hd0
    have hm1:1≤rRm ds n0:=by unfold rRm;rw [e0];exact ok0.m.1
    have ht9:1≤rTn ds n0∧rTn ds n0≤9:=by unfold rTn;rw [e0];exact ok0.t
    have ar0:L2.atI (refs rs) (n0:Int)=some (.ref r0):=cu (by unfold refs;rw [List.getElem?_map,er0];rfl)
    refine ⟨fun m σ Hx=>∃(t:Int),σ=[some (.ref b),some (.ref lp),some (.ref a),some (.int hp),some (.ref p4),some (.ref p5),some (.int (i:Int)),some (.ref r),some (.int c2),some (.str (lN hs ds d.1 ks)),some (.int t),some (.ref pm),some (.int (0+(j:Int))),some (.ref D),some (.int (n0:Int))]∧aN Hh Hx∧oK ds d.2.1 ks+wt≤t∧m=ahead (legs.flatten++ks) n0 t∧t+(m:Int)≤oK ds d.2.1 ks+wt+((legs.flatten++ks).length:Int),
     ⟨_,_,rfl,aN.refl _,Int.le_refl _,rfl,by have:=Jo (legs.flatten++ks) n0 (oK ds d.2.1 ks+wt);omega⟩,?_⟩
    rintro m σ Hx ⟨t,rfl,sx,t1,rfl,t2⟩
    have J:=J.same sx
    have hpm:=sx _ _ hpm
    have tp:=tp.same sx
    have cnt:=J.lo.1 (t,n0)
    refine ⟨_,rfl,p4,rfl,.inr ⟨_,.inl J.ld⟩,_,rfl,_,rfl,(by show 2≤sizeLine;decide),fun q1' nq1=>?_⟩
    have sq1:=aC (o:=.tup [V.int t,V.int (n0:Int)]) nq1
    have J:=J.same sq1
    have hpm:=sq1 _ _ hpm
    have tp:=tp.same sq1
    have hq1:upd Hx q1' (.tup [V.int t,V.int (n0:Int)]) q1'=some (.tup ((kk (t,n0)).map kV)):=aq
    have sx2:=sx.trans sq1
    generalize upd Hx q1' (.tup [V.int t,V.int (n0:Int)])=Hy at J hpm tp hq1 sx2 ⊢
    clear sq1 nq1
    refine ⟨_,tK.t J.ld hq1,_,rfl,_,rfl,b,_,_,_,rfl,rfl,SqL.of (J.sm _ _ hb),ar0,r0,_,_,_,rfl,rfl,SqT.of (J.sm _ _ hd0),rfl,_,_,cnt,rfl,_,rfl,?_⟩
    refine Od (fun full=>?_) (fun room=>?_)
    ·have full:=of_decide_eq_true full
     have mem:(t,n0)∈legs.flatten++ks:=List.count_pos_iff.mp (by omega)
     have al:=Jm mem
     refine ⟨_,fun σ' H' h=>⟨ahead (legs.flatten++ks) n0 (t+1),al,h⟩,_,rfl,_,_,rfl,rfl,t+1,rfl,sx2,by omega,rfl,by omega⟩
    have room:((legs.flatten++ks).count (t,n0):Int) < rRm ds n0:=Int.not_le.mp fun z=>room (decide_eq_true z)
    have kvl:kvs.length≤1000:=by
     have h1:=J.lo.2
     rw [List.length_append] at h1
     have:ks.length≤3:=by omega
     omega
    refine ⟨_,rfl,p4,rfl,.inr ⟨_,.inl J.ld⟩,_,rfl,_,rfl,(by show 2≤sizeLine;decide),fun q2 nq2=>?_⟩
    have sq2:=aC (o:=.tup [V.int t,V.int (n0:Int)]) nq2
    have J:=J.same sq2
    have hpm:=sq2 _ _ hpm
    have tp:=tp.same sq2
    have hq2:upd Hy q2 (.tup [V.int t,V.int (n0:Int)]) q2=some (.tup ((kk (t,n0)).map kV)):=aq
    generalize upd Hy q2 (.tup [V.int t,V.int (n0:Int)])=Hz at J hpm tp hq2 ⊢
    refine ⟨_,tK.t J.ld hq2,_,_,cnt,rfl,_,rfl,_,rfl,_,rfl,(by show 2≤sizeLine;decide),fun q3 nq3=>?_⟩
    have sq3:=aC (o:=.tup [V.int t,V.int (n0:Int)]) nq3
    have J:=J.same sq3
    have hpm:=sq3 _ _ hpm
    have tp:=tp.same sq3
    have hq3:upd Hz q3 (.tup [V.int t,V.int (n0:Int)]) q3=some (.tup ((kk (t,n0)).map kV)):=aq
    generalize upd Hz q3 (.tup [V.int t,V.int (n0:Int)])=Hu at J hpm tp hq3 ⊢
    refine ⟨p4,_,rfl,FP.t J.ld hq3 (aV kvl),?_⟩
    have hpm:upd Hu p4 (.dT (putK kvs (kk (t,n0)) (.int ((legs.flatten++ks).count (t,n0)+1)))) pm=some (.lst (refs ts)):=by rw [aA pm4.symm];exact hpm
    have tp:f9 (upd Hu p4 (.dT (putK kvs (kk (t,n0)) (.int ((legs.flatten++ks).count (t,n0)+1))))) ts (ks.map (Jl hs ds)):=tp.upd J.ld (by intro d z;cases z)
    have J:=J.load n4 p45 (t,n0) room
    show oU _ _ _ _ (upd Hu p4 (.dT (putK kvs (kk (t,n0)) (.int ((legs.flatten++ks).count (t,n0)+1)))))
    generalize upd Hu p4 (.dT (putK kvs (kk (t,n0)) (.int ((legs.flatten++ks).count (t,n0)+1))))=Hv at J hpm tp ⊢
    have tsl:ts.length=ks.length:=by have:=tp.len;rw [List.length_map] at this;exact this
    have rfl2:=bf ts
    have hbv:=SqL.of (K:=K) (J.sm _ _ hb)
    have hdv:=SqT.of (K:=K) (J.sm _ _ hd0)
    refine ⟨_,rfl,.inl ⟨rfl,_,SqL.of hpm⟩,_,rfl,_,rfl,_,rfl,_,rfl,_,rfl,b,_,_,_,rfl,rfl,hbv,ar0,r0,_,_,_,rfl,rfl,hdv,rfl,_,_,rfl,rfl,_,rfl,_,rfl,b,_,_,_,rfl,rfl,hbv,ar0,r0,_,_,_,rfl,rfl,hdv,rfl,(by show 4≤sizeLine;decide),fun q4 nq4=>?_⟩
    have sq4:=aC (o:=.tup [V.int t,V.int (n0:Int),V.int (t+rTn ds n0),V.str (iU hs ds n0)]) nq4
    have npm:q4≠pm:=(aF hpm nq4).symm
    have J:=J.same sq4
    have hpm:=sq4 _ _ hpm
    have tp:=tp.same sq4
    have hq4:=aq (H:=Hv) (a:=q4) (o:=.tup [V.int t,V.int (n0:Int),V.int (t+rTn ds n0),V.str (iU hs ds n0)])
    refine ⟨pm,_,_,rfl,rfl,hpm,aV (by omega),?_⟩
    show oU _ _ _ _ (upd (upd Hv q4 (.tup [V.int t,V.int (n0:Int),V.int (t+rTn ds n0),V.str (iU hs ds n0)])) pm (.lst (refs ts++[V.ref q4])))
    generalize upd Hv q4 (.tup [V.int t,V.int (n0:Int),V.int (t+rTn ds n0),V.str (iU hs ds n0)])=Hw at J hpm tp hq4 ⊢
    have tp:f9 (upd Hw pm (.lst (refs ts++[V.ref q4]))) (ts++[q4]) ((ks++[(t,n0)]).map (Jl hs ds)):=by
     rw [List.map_append]
     refine Paired.snoc ?_ (tp.upd hpm (by intro d z;cases z))
     show upd Hw pm _ q4=some (.tup (Jl hs ds (t,n0)))
     rw [aA npm]
     exact hq4
    have J:=J.mine (vs:=refs ts++[V.ref q4]) pmH pm4 pm5 pmm hpm
    have hpm:upd Hw pm (.lst (refs ts++[V.ref q4])) pm=some (.lst (refs (ts++[q4]))):=by rw [aq];unfold refs;rw [List.map_append];rfl
    generalize upd Hw pm (.lst (refs ts++[V.ref q4]))=Hr at J hpm tp ⊢
    have hbr:=SqL.of (K:=K) (J.sm _ _ hb)
    have hdr:=SqT.of (K:=K) (J.sm _ _ hd0)
    refine ⟨_,rfl,_,rfl,b,_,_,_,rfl,rfl,hbr,ar0,r0,_,_,_,rfl,rfl,hdr,rfl,?_⟩
    refine ⟨_,rfl,_,rfl,_,rfl,b,_,_,_,rfl,rfl,hbr,ar0,r0,_,_,_,rfl,rfl,hdr,rfl,_,_,rfl,rfl,?_⟩
    refine ⟨_,ks++[(t,n0)],c2,ts++[q4],some (.int (0+(j:Int))),some (.ref D),some (.int (n0:Int)),?_,J,hpm,tp,cok.snoc n0l n0b hg (by show oK ds d.2.1 ks≤t;omega),?_,?_⟩
    ·rw [uI,mH]
     rfl
    ·rw [List.length_append]
     exact Nat.succ_le_succ kl
    ·rw [mH,List.length_append]
     show t+rTn ds n0≤d.2.1+200 * ((ks.length+1:Nat):Int)
     have h1:(legs.flatten++ks).length≤140:=by
      rw [List.length_append]
      have:ks.length≤3:=by omega
      omega
     omega
   ·rintro σ Hf ⟨kvs,ks,cc,ts,v12,v13,v14,rfl,J,hpm,tp,cok,kl,et⟩
    have k3:ks.length≤3:=by omega
    have ml:=Paired.length J.ea
    refine ⟨_,rfl,.inl ⟨rfl,_,SqL.of J.lg⟩,_,rfl,p5,_,_,rfl,rfl,J.lg,aV (by rw [bf];omega),?_⟩
    refine ⟨kvs,ms++[pm],legs++[ks],_,_,_,_,_,_,_,_,_,rfl,⟨gZ n5' J.sm,by rw [aA p45];exact J.ld,by rw [aq];unfold refs;rw [List.map_append];rfl,?_,?_,?_,?_⟩,by rw [List.length_append,ll];rfl,?_,?_⟩
    ·have:∀{ls:List Addr} {gs:List (List Kt)},Paired (jd hs ds Hf) ls gs→p5∉ls→Paired (jd hs ds (upd Hf p5 (.lst (refs ms++[V.ref pm])))) ls gs:=fun {ls gs} p=>by
      induction p with
      | nil=>exact fun _=>.nil
      | cons r t ih=>exact fun h=>.cons (r.upd J.lg (by intro d z;cases z) (fun z=>h (by rw [z];exact .head _))) (ih fun z=>h (.tail _ z))
     refine Paired.snoc ?_ (this J.ea J.n5)
     exact jd.upd ⟨ts,hpm,tp⟩ J.lg (by intro d z;cases z) pm5.symm
    ·rw [List.flatten_append,List.append_nil]
     simpa using J.lo
    ·rw [List.flatten_append,List.append_nil]
     simpa using J.cn
    ·rw [List.mem_append]
     exact fun z=>z.elim J.n5 fun y=>pm5 (List.mem_singleton.mp y)
    ·rw [List.flatten_append,List.length_append]
     have:[ks].flatten.length=ks.length:=by simp
     omega
    ·intro j' d' ks' e1 e2
     by_cases hj:j' < legs.length
     ·rw [List.getElem?_append_left hj] at e2
      exact ch j' d' ks' e1 e2
     ·rw [List.getElem?_append_right (by omega)] at e2
      have ej:j'=i:=by
       by_cases hz:j' - legs.length=0
       ·omega
       ·rw [List.getElem?_eq_none (by simp;omega)] at e2
        cases e2
      subst ej
      rw [ll,Nat.sub_self] at e2
      cases e2
      rw [ed] at e1
      cases e1
      exact ⟨cok,k3,et⟩
  ·rintro σ Hc ⟨kvs,ms,legs,v6,v7,v8,v9,v10,v11,v12,v13,v14,rfl,J,ll,fl,ch⟩
   refine ⟨_,rfl,q Hc p5 ms legs n5' J.sm J.lg J.ea ⟨?_,ch,?_⟩⟩
   ·rw [ll,bf,lrl]
   ·have:=J.cn
    rw [List.append_nil] at this
    exact this
end
end K1
namespace L3
open PySem PySem.Spec PyProof.Rows L2 PySem.W
structure lQ (n:Nat) (lt:Nat→Nat→Bool):Prop where
 tr:∀i j k,lt i j=true→lt j k=true→lt i k=true
 to:∀i j,i < n→j < n→i≠j→lt i j=true∨lt j i=true
 ir:∀i,lt i i=false
noncomputable abbrev gx (p:Array Nat) (a:Nat):Nat:=p.getD a 0
noncomputable def jA (lt:Nat→Nat→Bool) (p:Array Nat) (k:Nat):Prop:=∀a b,a < b→b < k→lt (gx p a) (gx p b)=true
theorem iW {α β:Type} (lt:Nat→Nat→Bool) (f:α→KasT β):∀t:KasT α,iR lt (t.bind f)=iR lt (f (iR lt t))
 | .ret _=>rfl
 | .ask i j k=>iW lt f (k (lt i j))
theorem Bt {α:Type} (lt:Nat→Nat→Bool) {c:Prop} [Decidable c] (s t:KasT α):iR lt (if c then s else t)=if c then iR lt s else iR lt t:=by split <;> rfl
theorem AB.size {n:Nat} {p:Array Nat} (h:AB n p):p.size=n:=by
 have:=h.list.length_eq
 simpa using this
theorem AB.inj {n:Nat} {p:Array Nat} (h:AB n p) {a b:Nat} (ha:a < n) (hb:b < n) (e:gx p a=gx p b):a=b:=by
 have nd:p.toList.Nodup:=h.list.nodup_iff.mpr List.nodup_range
 have sz:=h.size
 have e1:gx p a=p.toList[a]'(by simp;omega):=by simp [gx,Array.getD,show a < p.size by omega]
 have e2:gx p b=p.toList[b]'(by simp;omega):=by simp [gx,Array.getD,show b < p.size by omega]
 rw [e1,e2] at e
 exact (List.getElem_inj nd).mp e
section
variable {n:Nat} {lt:Nat→Nat→Bool}
theorem lQ.or (o:lQ n lt) {p:Array Nat} (h:AB n p) {a b:Nat} (ha:a < n) (hb:b < n) (ne:a≠b) (f:lt (gx p a) (gx p b)=false):lt (gx p b) (gx p a)=true:=by
 have h0:0 < n:=by omega
 rcases o.to (gx p a) (gx p b) (h.at h0 a) (h.at h0 b) (fun e=>ne (h.inj ha hb e)) with z | z
 ·rw [z] at f;cases f
 ·exact z
theorem jA.succ (o:lQ n lt) {p:Array Nat} {k:Nat} (s:jA lt p k) (h1:1≤k) (h:lt (gx p (k - 1)) (gx p k)=true):jA lt p (k+1):=fun a b hab hb=>by
 by_cases e:b=k
 ·subst e
  by_cases e2:a=b - 1
  ·rw [e2];exact h
  ·exact o.tr _ _ _ (s a (b - 1) (by omega) (by omega)) h
 ·exact s a b hab (by omega)
theorem zy (o:lQ n lt) {p:Array Nat} (h:AB n p):∀f k,1≤k→k+f≤n→jA lt p k→∃m,iR lt (kas_asc p f k)=m∧k≤m∧m≤k+f∧jA lt p m∧(m < k+f→lt (gx p m) (gx p (m - 1))=true)
 | 0,k,h1,h2,s=>⟨k,rfl,Nat.le_refl _,Nat.le_refl _,s,fun z=>absurd z (by omega)⟩
 | f+1,k,h1,h2,s=>by
  show ∃m,iR lt (if lt (gx p k) (gx p (k - 1))=true then .ret k else kas_asc p f (k+1))=m∧_
  cases e:lt (gx p k) (gx p (k - 1)) with
  | true=>
   rw [if_pos rfl]
   exact ⟨k,rfl,Nat.le_refl _,by omega,s,fun _=>e⟩
  | false=>
   rw [if_neg (by decide)]
   have up:=o.or h (a:=k) (b:=k - 1) (by omega) (by omega) (by omega) e
   obtain ⟨m,e1,e2,e3,e4,e5⟩:=zy o h f (k+1) (by omega) (by omega) (s.succ o h1 up)
   exact ⟨m,e1,by omega,by omega,e4,fun z=>e5 (by omega)⟩
noncomputable def Bu (lt:Nat→Nat→Bool) (p:Array Nat) (k:Nat):Prop:=∀a b,a < b→b < k→lt (gx p b) (gx p a)=true
theorem Bv (o:lQ n lt) {p:Array Nat} (h:AB n p):∀f k,1≤k→k+f≤n→Bu lt p k→∃m,iR lt (kas_desc f p k 0)=(p,m,0)∧k≤m∧m≤k+f∧Bu lt p m
 | 0,k,h1,h2,s=>⟨k,rfl,Nat.le_refl _,Nat.le_refl _,s⟩
 | f+1,k,h1,h2,s=>by
  show ∃m,iR lt (if lt (gx p k) (gx p (k - 1))=true then (if 0 > 0 then kas_desc f (kas_rev p (k - (0+1)) k) (k+1) 0 else kas_desc f p (k+1) 0) else .ask (gx p (k - 1)) (gx p k) fun d=>if d=true then .ret (p,k,0) else kas_desc f p (k+1) (0+1))=(p,m,0)∧_
  cases e:lt (gx p k) (gx p (k - 1)) with
  | true=>
   rw [if_pos rfl,if_neg (by omega)]
   have s2:Bu lt p (k+1):=fun a b hab hb=>by
    by_cases eb:b=k
    ·subst eb
     by_cases e2:a=b - 1
     ·rw [e2];exact e
     ·exact o.tr _ _ _ e (s a (b - 1) (by omega) (by omega))
    ·exact s a b hab (by omega)
   obtain ⟨m,e1,e2,e3,e4⟩:=Bv o h f (k+1) (by omega) (by omega) s2
   exact ⟨m,e1,by omega,by omega,e4⟩
  | false=>
   rw [if_neg (by decide)]
   have up:=o.or h (a:=k) (b:=k - 1) (by omega) (by omega) (by omega) e
   show ∃m,iR lt (if lt (gx p (k - 1)) (gx p k)=true then .ret (p,k,0) else kas_desc f p (k+1) (0+1))=(p,m,0)∧_
   rw [if_pos up]
   exact ⟨k,rfl,Nat.le_refl _,by omega,s⟩
theorem uJ {p q:Array Nat} {a b:Nat} (e:p[a]?=q[b]?):gx p a=gx q b:=by
 have f:∀(r:Array Nat) (c:Nat),gx r c=(r[c]?).getD 0:=fun r c=>by
  show r.getD c 0=_
  by_cases hc:c < r.size
  ·rw [Array.getElem?_eq_getElem hc]
   simp [Array.getD,hc]
  ·rw [Array.getElem?_eq_none (by omega)]
   simp [Array.getD,hc]
 rw [f,f,e]
theorem Jq {p:Array Nat} {r i:Nat} (hr:r≤p.size) (hi:i < r):gx (kas_rev p 0 r) i=gx p (r - 1 - i):=by
 have h:=getElem?_mirror_all (xs:=p) (i:=0) (j:=r) hr i
 rw [if_pos ⟨Nat.zero_le _,hi⟩,show 0+r - 1 - i=r - 1 - i by omega] at h
 exact uJ h
theorem Jr (o:lQ n lt) {p:Array Nat} (h:AB n p) {k:Nat} (h1:1≤k) (h2:k≤n) (s:Bu lt p k):∃m q,iR lt (kas_tail3 k n p)=(m,q)∧1≤m∧m≤n∧jA lt q m∧AB n q:=by
 unfold kas_tail3
 rw [iW]
 have hr:=h.rev 0 k
 have sr:jA lt (kas_rev p 0 k) k:=fun a b hab hb=>by
  rw [Jq (by rw [h.size];exact h2) (by omega),Jq (by rw [h.size];exact h2) hb]
  exact s _ _ (by omega) (by omega)
 obtain ⟨m,e1,e2,e3,e4,_⟩:=zy o hr (n - k) k h1 (by omega) sr
 rw [e1]
 exact ⟨m,_,rfl,by omega,by omega,e4,hr⟩
theorem Js (o:lQ n lt) {p:Array Nat} (h:AB n p) (h0:2≤n):∃m q,iR lt (kas_count n p)=(m,q)∧1≤m∧m≤n∧jA lt q m∧AB n q:=by
 unfold kas_count
 rw [iW]
 obtain ⟨m,e1,e2,e3,e4,e5⟩:=zy o h (n - 1) 1 (Nat.le_refl _) (by omega) (fun a b hab hb=>by omega)
 rw [e1,Bt]
 by_cases c1:m=n
 ·rw [if_pos (by simpa using c1)]
  exact ⟨m,p,rfl,e2,by omega,e4,h⟩
 ·rw [if_neg (by simpa using c1),Bt]
  have lt1:=e5 (by omega)
  by_cases c2:m > 1
  ·rw [if_pos c2]
   show ∃m' q,iR lt (if lt (gx p 0) (gx p (m - 1))=true then .ret (m,p) else kas_descPart m n (kas_rev p 0 m))=(m',q)∧_
   rw [if_pos (e4 0 (m - 1) (by omega) (by omega))]
   exact ⟨m,p,rfl,e2,by omega,e4,h⟩
  ·rw [if_neg c2]
   have m1:m=1:=by omega
   subst m1
   unfold kas_descPart
   rw [iW]
   obtain ⟨k,d1,d2,d3,d4⟩:=Bv o h (n - (1+1)) (1+1) (by omega) (by omega) (fun a b hab hb=>by
    have:a=0∧b=1:=by omega
    rw [this.1,this.2]
    exact lt1)
   rw [d1]
   show ∃m' q,iR lt (if 0 > 0 then kas_tail3 k n (kas_rev p (k - (0+1)) k) else kas_tail3 k n p)=(m',q)∧_
   rw [if_neg (by omega)]
   exact Jr o h (by omega) (by omega) d4
theorem sE (o:lQ n lt) {p:Array Nat} (h:AB n p) {k:Nat} (hk:k < n) (s:jA lt p k):∀f l r,l≤r→r≤k→r - l≤f→(∀a,a < l→lt (gx p a) (gx p k)=true)→(∀a,r≤a→a < k→lt (gx p k) (gx p a)=true)→
  ∃m,iR lt (kas_place p k f l r)=m∧m≤k∧(∀a,a < m→lt (gx p a) (gx p k)=true)∧∀a,m≤a→a < k→lt (gx p k) (gx p a)=true
 | 0,l,r,h1,h2,h3,hl,hr=>⟨l,rfl,by omega,hl,fun a ha=>hr a (by omega)⟩
 | f+1,l,r,h1,h2,h3,hl,hr=>by
  show ∃m,iR lt (if l ≥ r then .ret l else .ask (gx p k) (gx p ((l+r) / 2)) fun c=>if c=true then kas_place p k f l ((l+r) / 2) else kas_place p k f ((l+r) / 2+1) r)=m∧_
  by_cases c:l ≥ r
  ·rw [if_pos c]
   exact ⟨l,rfl,by omega,hl,fun a ha=>hr a (by omega)⟩
  ·rw [if_neg c]
   show ∃m,iR lt (if lt (gx p k) (gx p ((l+r) / 2))=true then kas_place p k f l ((l+r) / 2) else kas_place p k f ((l+r) / 2+1) r)=m∧_
   have md:l≤(l+r) / 2∧(l+r) / 2 < r:=by omega
   cases e:lt (gx p k) (gx p ((l+r) / 2)) with
   | true=>
    rw [if_pos rfl]
    refine sE o h hk s f l ((l+r) / 2) md.1 (by omega) (by omega) hl fun a ha hak=>?_
    by_cases ea:a=(l+r) / 2
    ·rw [ea];exact e
    ·exact o.tr _ _ _ e (s _ _ (by omega) hak)
   | false=>
    rw [if_neg (by decide)]
    have up:=o.or h (a:=k) (b:=(l+r) / 2) hk (by omega) (by omega) e
    refine sE o h hk s f ((l+r) / 2+1) r (by omega) h2 (by omega) (fun a ha=>?_) hr
    by_cases ea:a=(l+r) / 2
    ·rw [ea];exact up
    ·exact o.tr _ _ _ (s a _ (by omega) (by omega)) up
theorem zA {p:Array Nat} {k l i:Nat} (hk:k < p.size) (hl:l≤k):gx (bubble p k (k - l)) i=if i=l then gx p k else if l < i∧i≤k then gx p (i - 1) else gx p i:=by
 have h:=getElem?_bubble (xs:=p) hk (k - l) (by omega) i
 rw [show k - (k - l)=l by omega] at h
 by_cases c:i=l
 ·rw [if_pos c] at h ⊢
  exact uJ h
 ·rw [if_neg c] at h ⊢
  by_cases c2:l < i∧i≤k
  ·rw [if_pos c2] at h ⊢
   exact uJ h
  ·rw [if_neg c2] at h ⊢
   exact uJ h
theorem Jt (o:lQ n lt):∀(f:Nat) (p:Array Nat) (k:Nat),AB n p→jA lt p k→k+f=n→jA lt (iR lt (kas_bin f p k)) n
 | 0,p,k,h,s,e=>by
  have:k=n:=by omega
  subst this
  exact s
 | f+1,p,k,h,s,e=>by
  show jA lt (iR lt ((kas_place p k k 0 k).bind fun l=>kas_bin f (bubble p k (k - l)) (k+1))) n
  rw [iW]
  obtain ⟨m,e1,e2,e3,e4⟩:=sE o h (k:=k) (by omega) s k 0 k (Nat.zero_le _) (Nat.le_refl _) (by omega) (fun a ha=>absurd ha (by omega)) (fun a h1 h2=>absurd h2 (by omega))
  rw [e1]
  refine Jt o f _ _ (h.bub _ _) (fun a b hab hb=>?_) (by omega)
  have hk:k < p.size:=by rw [h.size];omega
  rw [zA hk e2,zA hk e2]
  by_cases a1:a=m
  ·rw [if_pos a1,if_neg (by omega),if_pos ⟨by omega,by omega⟩]
   exact e4 (b - 1) (by omega) (by omega)
  ·rw [if_neg a1]
   by_cases b1:b=m
   ·rw [if_pos b1,if_neg (by omega)]
    exact e3 a (by omega)
   ·rw [if_neg b1]
    by_cases a2:m < a∧a≤k
    ·rw [if_pos a2,if_pos ⟨by omega,by omega⟩]
     exact s _ _ (by omega) (by omega)
    ·rw [if_neg a2]
     by_cases b2:m < b∧b≤k
     ·rw [if_pos b2]
      exact s _ _ (by omega) (by omega)
     ·rw [if_neg b2]
      exact s _ _ hab (by omega)
theorem oM (o:lQ n lt):(oE lt n).Pairwise fun i j=>lt i j=true:=by
 unfold oE
 by_cases h2:n < 2
 ·rw [if_pos h2]
  have:n=0∨n=1:=by omega
  rcases this with e | e <;> subst e <;> simp [List.range_succ]
 ·rw [if_neg h2]
  have hr:AB n (List.toArray (List.range n)):=Array.Perm.refl _
  unfold kas_sort
  rw [iW]
  obtain ⟨m,q,e1,e2,e3,e4,e5⟩:=Js o hr (by omega)
  rw [e1]
  show ((iR lt (if m < n then kas_bin (n - max m 1) q (max m 1) else .ret q)).toList).Pairwise _
  have mx:max m 1=m:=by omega
  rw [mx]
  have fin:∀q':Array Nat,AB n q'→jA lt q' n→q'.toList.Pairwise fun i j=>lt i j=true:=fun q' a s=>by
   rw [List.pairwise_iff_getElem]
   intro i j hi hj hij
   have hj':j < n:=by rw [←a.size];simpa using hj
   have:=s i j hij hj'
   have si:i < q'.size:=by rw [a.size];omega
   have sj:j < q'.size:=by rw [a.size];omega
   have f1:gx q' i=q'[i]:=by simp [gx,Array.getD,si]
   have f2:gx q' j=q'[j]:=by simp [gx,Array.getD,sj]
   rw [f1,f2] at this
   simpa using this
  by_cases c:m < n
  ·rw [if_pos c]
   refine fin _ ?_ (Jt o _ _ _ e5 e4 (by omega))
   exact oA (lt:=lt) _ (Ia (by omega) _ _ _ e5)
  ·rw [if_neg c]
   have:m=n:=by omega
   subst this
   exact fin q e5 e4
end
end L3
namespace BS
open PySem PySem.Spec PyProof.Rows L3 PySem.W
noncomputable def fX:Bool→Keyed→Array Keyed→Nat→Nat→Nat→StateT SortSt Sem (Option Nat):=sortPriv% PySem.Builtin.gallop
noncomputable def sG:Array Keyed→Array Keyed→StateT SortSt Sem (Array Keyed):=sortPriv% PySem.Builtin.mergeLo
noncomputable def sH:Array Keyed→Array Keyed→StateT SortSt Sem (Array Keyed):=sortPriv% PySem.Builtin.mergeHi
noncomputable def jZ:Nat→StateT SortSt Sem Unit:=sortPriv% PySem.Builtin.setMinGallop
structure Ctx where
 prog:Program
 w:World
 A:Around
 E:Value→Shared→Prop
 κ:SortKind
 it:Array Keyed
 s:Shared
 n:Nat
 lt:Nat→Nat→Bool
 hc:∀i j C,i < n→j < n→C (lt i j) s→kas_cmp prog w A κ it i j C s
 ok:lQ n lt
variable (X:Ctx)
noncomputable def W {α:Type} (m:StateT SortSt Sem α) (Q:α→SortSt→Prop) (st:SortSt):Prop:=kasC (model X.prog X.w) X.A X.E m (fun a st' s'=>s'=X.s∧Q a st') st X.s
noncomputable abbrev Ctx.item (i:Nat):Keyed:=kas_item X.it i
noncomputable def ST (p:Array Nat) (pd:Array (Nat × Nat × Nat)) (g:Nat):SortSt:=SortSt.mk' X.κ (p.map X.item) pd g none
variable {X}
theorem aJ {α:Type} {a:α} {Q:α→SortSt→Prop} {st:SortSt} (h:Q a st):W X (pure a) Q st:=kasC_pure ⟨rfl,h⟩
theorem Ju {α:Type} {m:StateT SortSt Sem α} {Q Q':α→SortSt→Prop} {st:SortSt} (h:W X m Q st) (hq:∀a st',Q a st'→Q' a st'):W X m Q' st:=by
 unfold W kasC at h ⊢
 exact wpAny_mono h (fun r s' z=>⟨z.1,hq _ _ z.2⟩) fun _ _ e=>e
theorem aK {α β:Type} {m:StateT SortSt Sem α} {f:α→StateT SortSt Sem β} {Q:β→SortSt→Prop} {st:SortSt} (h:W X m (fun a st'=>W X (f a) Q st') st):W X (m >>=f) Q st:=by
 refine kasC_bind ?_
 unfold W kasC at h
 unfold kasC
 refine wpAny_mono h (fun r s' z=>?_) fun _ _ e=>e
 obtain ⟨e,z⟩:=z
 rw [e]
 exact z
theorem km {Q:SortSt→SortSt→Prop} {st:SortSt} (h:Q st st):W X get Q st:=kasC_get ⟨rfl,h⟩
theorem fV {f:SortSt→SortSt} {Q:PUnit→SortSt→Prop} {st:SortSt} (h:Q ⟨⟩ (f st)):W X (modify f) Q st:=kasC_modify ⟨rfl,h⟩
theorem Jv {α:Type} {m:Sem α} {Q:α→SortSt→Prop} {st:SortSt} (h:wpAny (model X.prog X.w) X.A m (fun a s'=>s'=X.s∧Q a st) X.E X.s):W X (liftM m) Q st:=kasC_lift h
theorem pK {x:String} {Q:Unit→SortSt→Prop} {st:SortSt} (h:Q () st):W X (liftM (rule x)) Q st:=Jv (wpAny_rule ⟨rfl,h⟩)
theorem Jw {i j:Nat} {Q:Option Bool→SortSt→Prop} {p:Array Nat} {pd:Array (Nat × Nat × Nat)} {g:Nat} (hi:i < X.n) (hj:j < X.n) (h:Q (some (X.lt i j)) (ST X p pd g)):W X (lt' (X.item i) (X.item j)) Q (ST X p pd g):=by
 rw [lt'_eq]
 refine aK (km (aK (Jv ?_)))
 refine wpAny_attempt (wpAny_mono (X.hc i j (fun c s'=>c=X.lt i j∧s'=X.s) hi hj ⟨rfl,rfl⟩) (fun c s' z=>?_) fun _ _ hF=>hF.elim)
 obtain ⟨e1,e2⟩:=z
 rw [e1]
 exact ⟨e2,aJ h⟩
theorem Jx {l:List Nat} {k:Nat} {Q:Keyed→SortSt→Prop} {st:SortSt} (hk:k < l.length) (h:Q (X.item l[k]) st):W X (elem' (l.map X.item).toArray k) Q st:=by
 rw [elem'_eq]
 have e:((l.map X.item).toArray)[k]?=some (X.item l[k]):=by simp [hk]
 rw [e]
 exact aJ h
theorem RW {β:Type} {N:Nat} {b:β} {f:Nat→β→StateT SortSt Sem (ForInStep β)} {Q:β→SortSt→Prop} {st:SortSt} (Inv:Nat→β→SortSt→Prop) (h0:Inv 0 b st)
  (step:∀k b st,k < N→Inv k b st→W X (f k b) (fun r st'=>match r with | .done b'=>Q b' st' | .yield b'=>Inv (k+1) b' st') st) (fin:∀b st,Inv N b st→Q b st):W X (forIn [0:N] b f) Q st:=by
 refine kasC_range ?_
 have gen:∀(m k:Nat) (b:β) (st:SortSt),k+m=N→Inv k b st→kasC (model X.prog X.w) X.A X.E (forIn (List.range' k m) b f) (fun a st' s'=>s'=X.s∧Q a st') st X.s:=by
  intro m
  induction m with
  | zero=>
   intro k b st e h
   have:k=N:=by omega
   subst this
   exact kasC_nil ⟨rfl,fin b st h⟩
  | succ m ih=>
   intro k b st e h
   rw [List.range'_succ]
   refine kasC_cons ?_
   have s1:=step k b st (by omega) h
   unfold W kasC at s1
   unfold kasC
   refine wpAny_mono s1 (fun r s' z=>?_) fun _ _ e=>e
   obtain ⟨r1,st'⟩:=r
   cases r1 with
   | done b'=>exact z
   | yield b'=>
    obtain ⟨e1,z2⟩:=z
    rw [e1]
    exact ih (k+1) b' st' (by omega) z2
 exact gen (N - 0) 0 b st (by omega) h0
theorem gh {α β:Type} {N:Nat} {b:β} {f:Nat→β→StateT SortSt Sem (ForInStep β)} {cont:β→StateT SortSt Sem α} {Q:α→SortSt→Prop} {st:SortSt} (Post:β→SortSt→Prop) (Inv:Nat→β→SortSt→Prop) (h0:Inv 0 b st)
  (step:∀k b st,k < N→Inv k b st→W X (f k b) (fun r st'=>match r with | .done b'=>Post b' st' | .yield b'=>Inv (k+1) b' st') st) (fin:∀b st,Inv N b st→Post b st) (k:∀b st,Post b st→W X (cont b) Q st):W X (forIn [0:N] b f >>=cont) Q st:=
 aK (Ju (RW Inv h0 step fin) k)
theorem zB (left:Bool) (key:Keyed) (arr:Array Keyed) (base n hint:Nat):fX left key arr base n hint=(do
  let beyond (i:Nat):StateT SortSt Sem (Option Bool):=do
   let x ←elem' arr (base+i)
   if left then lt' x key else return (←lt' key x).map (!·)
  let mut lastofs:=0
  let mut ofs:=1
  let mut lo:=0
  let mut hi:=0
  let some right ←beyond hint | return none
  if right then
   let maxofs:=n - hint
   for _ in [0:n] do
    if ofs ≥ maxofs then break
    let some more ←beyond (hint+ofs) | return none
    if !more then break
    lastofs:=ofs
    ofs:=2 * ofs+1
   lo:=hint+lastofs+1
   hi:=hint+min ofs maxofs
  else
   let maxofs:=hint+1
   for _ in [0:n] do
    if ofs ≥ maxofs then break
    let some found ←beyond (hint - ofs) | return none
    if found then break
    lastofs:=ofs
    ofs:=2 * ofs+1
   lo:=hint+1 - min ofs maxofs
   hi:=hint - lastofs
  for _ in [0:n] do
   if lo ≥ hi then break
   let m:=lo+(hi - lo) / 2
   let some more ←beyond m | return none
   if more then lo:=m+1 else hi:=m
  return some hi):=rfl
noncomputable def byd (X:Ctx) (left:Bool) (key:Nat) (l:List Nat) (i:Nat):Bool:=if left then X.lt (l.getD i 0) key else !X.lt key (l.getD i 0)
theorem jB {left:Bool} {key:Nat} {l:List Nat} {base m hint:Nat} {Q:Option Nat→SortSt→Prop} {p:Array Nat} {pd:Array (Nat × Nat × Nat)} {g:Nat} (hk:key < X.n) (hl:∀x∈l,x < X.n) (hb:base+m≤l.length) (hh:hint < m)
  (mono:∀i j,i < j→j < m→byd X left key l (base+j)=true→byd X left key l (base+i)=true)
  (h:∀k,k≤m→(∀i,i < k→byd X left key l (base+i)=true)→(∀i,k≤i→i < m→byd X left key l (base+i)=false)→Q (some k) (ST X p pd g)):
  W X (fX left (X.item key) (l.map X.item).toArray base m hint) Q (ST X p pd g):=by
 rw [zB]
 have bey:∀(i:Nat) {R:Option Bool→SortSt→Prop},i < m→R (some (byd X left key l (base+i))) (ST X p pd g)→W X (do
   let x ←elem' (l.map X.item).toArray (base+i)
   if left=true then lt' x (X.item key) else do
    let r ←lt' (X.item key) x
    pure (r.map (!·))) R (ST X p pd g):=fun i R hi hR=>by
  have hi2:base+i < l.length:=by omega
  have e:l.getD (base+i) 0=l[base+i]:=by rw [List.getD,List.getElem?_eq_getElem hi2];rfl
  refine aK (Jx hi2 ?_)
  unfold byd at hR
  rw [e] at hR
  cases left with
  | true=>exact Jw (hl _ (List.getElem_mem hi2)) hk hR
  | false=>exact aK (Jw hk (hl _ (List.getElem_mem hi2)) (aJ hR))
 generalize byd X left key l=bd at *
 have lowf:∀k,k < m→bd (base+k)=true→∀i,i < k+1→bd (base+i)=true:=fun k hk hb' i hi=>by
  by_cases e:i=k
  ·rw [e];exact hb'
  ·exact mono i k (by omega) hk hb'
 have highf:∀k,k < m→bd (base+k)=false→∀i,k≤i→i < m→bd (base+i)=false:=fun k hk hb' i hi him=>by
  by_cases e:i=k
  ·rw [e];exact hb'
  ·cases e2:bd (base+i) with
   | false=>rfl
   | true=>rw [mono k i (by omega) him e2] at hb';cases hb'
 dsimp only
 refine aK (bey hint hh ?_)
 dsimp only
 cases eh:bd (base+hint) with
 | true=>
  rw [if_pos rfl]
  refine gh (Post:=fun b st'=>st'=ST X p pd g∧∃la ofs,b=(none,la,ofs)∧bd (base+(hint+la))=true∧la < m - hint∧la < ofs∧(m - hint≤ofs∨bd (base+(hint+ofs))=false))
   (fun k b st'=>st'=ST X p pd g∧∃la ofs,b=(none,la,ofs)∧bd (base+(hint+la))=true∧la < m - hint∧la < ofs∧k+1≤ofs) ⟨rfl,0,1,rfl,eh,by omega,by omega,by omega⟩ ?_ ?_ ?_
  ·rintro k b st' hk ⟨rfl,la,ofs,rfl,q1,q2,q3,q4⟩
   dsimp only
   by_cases c:ofs ≥ m - hint
   ·rw [if_pos c]
    exact aJ ⟨rfl,la,ofs,rfl,q1,q2,q3,.inl c⟩
   ·rw [if_neg c]
    refine aK (bey _ (by omega) ?_)
    dsimp only
    cases e:bd (base+(hint+ofs)) with
    | true=>
     rw [if_neg (by decide)]
     exact aJ ⟨rfl,_,_,rfl,e,by omega,by omega,by omega⟩
    | false=>
     rw [if_pos (by decide)]
     exact aJ ⟨rfl,la,ofs,rfl,q1,q2,q3,.inr e⟩
  ·rintro b st' ⟨rfl,la,ofs,rfl,q1,q2,q3,q4⟩
   exact ⟨rfl,la,ofs,rfl,q1,q2,q3,.inl (by omega)⟩
  ·rintro b st' ⟨rfl,la,ofs,rfl,q1,q2,q3,q4⟩
   dsimp only
   have low:=lowf (hint+la) (by omega) q1
   have high:∀i,hint+min ofs (m - hint)≤i→i < m→bd (base+i)=false:=fun i h1 h2=>by
    rcases q4 with z | z
    ·omega
    ·by_cases c:m - hint≤ofs
     ·omega
     ·exact highf (hint+ofs) (by omega) z i (by omega) h2
   refine gh (Post:=fun b st'=>st'=ST X p pd g∧∃hi,b=(none,hi,hi)∧hi≤m∧(∀i,i < hi→bd (base+i)=true)∧∀i,hi≤i→i < m→bd (base+i)=false)
    (fun k b st'=>st'=ST X p pd g∧∃lo hi,b=(none,lo,hi)∧lo≤hi∧hi≤m∧hi - lo≤m - k∧(∀i,i < lo→bd (base+i)=true)∧∀i,hi≤i→i < m→bd (base+i)=false) ⟨rfl,hint+la+1,hint+min ofs (m - hint),rfl,by omega,by omega,by omega,low,high⟩ ?_ ?_ ?_
   ·rintro k b st' hk ⟨rfl,lo,hi,rfl,h1,h2,h5,h3,h4⟩
    dsimp only
    by_cases c:lo ≥ hi
    ·rw [if_pos c]
     have:lo=hi:=by omega
     subst this
     exact aJ ⟨rfl,lo,rfl,h2,h3,h4⟩
    ·rw [if_neg c]
     have hm:lo+(hi - lo) / 2 < m:=by omega
     refine aK (bey _ hm ?_)
     dsimp only
     cases e:bd (base+(lo+(hi - lo) / 2)) with
     | true=>
      rw [if_pos rfl]
      exact aJ ⟨rfl,_,_,rfl,by omega,h2,by omega,lowf _ hm e,h4⟩
     | false=>
      rw [if_neg (by decide)]
      exact aJ ⟨rfl,_,_,rfl,by omega,by omega,by omega,h3,highf _ hm e⟩
   ·rintro b st' ⟨rfl,lo,hi,rfl,h1,h2,h5,h3,h4⟩
    have:lo=hi:=by omega
    subst this
    exact ⟨rfl,lo,rfl,h2,h3,h4⟩
   ·rintro b st' ⟨rfl,hi,rfl,h2,h3,h4⟩
    exact aJ (h hi h2 h3 h4)
 | false=>
  rw [if_neg (by decide)]
  refine gh (Post:=fun b st'=>st'=ST X p pd g∧∃la ofs,b=(none,la,ofs)∧bd (base+(hint - la))=false∧la < hint+1∧la < ofs∧(hint+1≤ofs∨bd (base+(hint - ofs))=true))
   (fun k b st'=>st'=ST X p pd g∧∃la ofs,b=(none,la,ofs)∧bd (base+(hint - la))=false∧la < hint+1∧la < ofs∧k+1≤ofs) ⟨rfl,0,1,rfl,eh,by omega,by omega,by omega⟩ ?_ ?_ ?_
  ·rintro k b st' hk ⟨rfl,la,ofs,rfl,q1,q2,q3,q4⟩
   dsimp only
   by_cases c:ofs ≥ hint+1
   ·rw [if_pos c]
    exact aJ ⟨rfl,la,ofs,rfl,q1,q2,q3,.inl c⟩
   ·rw [if_neg c]
    refine aK (bey _ (by omega) ?_)
    dsimp only
    cases e:bd (base+(hint - ofs)) with
    | true=>
     rw [if_pos rfl]
     exact aJ ⟨rfl,la,ofs,rfl,q1,q2,q3,.inr e⟩
    | false=>
     rw [if_neg (by decide)]
     exact aJ ⟨rfl,_,_,rfl,e,by omega,by omega,by omega⟩
  ·rintro b st' ⟨rfl,la,ofs,rfl,q1,q2,q3,q4⟩
   exact ⟨rfl,la,ofs,rfl,q1,q2,q3,.inl (by omega)⟩
  ·rintro b st' ⟨rfl,la,ofs,rfl,q1,q2,q3,q4⟩
   dsimp only
   have high:=highf (hint - la) (by omega) q1
   have low:∀i,i < hint+1 - min ofs (hint+1)→bd (base+i)=true:=fun i hi=>by
    rcases q4 with z | z
    ·omega
    ·by_cases c:hint+1≤ofs
     ·omega
     ·exact lowf (hint - ofs) (by omega) z i (by omega)
   refine gh (Post:=fun b st'=>st'=ST X p pd g∧∃hi,b=(none,hi,hi)∧hi≤m∧(∀i,i < hi→bd (base+i)=true)∧∀i,hi≤i→i < m→bd (base+i)=false)
    (fun k b st'=>st'=ST X p pd g∧∃lo hi,b=(none,lo,hi)∧lo≤hi∧hi≤m∧hi - lo≤m - k∧(∀i,i < lo→bd (base+i)=true)∧∀i,hi≤i→i < m→bd (base+i)=false) ⟨rfl,hint+1 - min ofs (hint+1),hint - la,rfl,by omega,by omega,by omega,low,high⟩ ?_ ?_ ?_
   ·rintro k b st' hk ⟨rfl,lo,hi,rfl,h1,h2,h5,h3,h4⟩
    dsimp only
    by_cases c:lo ≥ hi
    ·rw [if_pos c]
     have:lo=hi:=by omega
     subst this
     exact aJ ⟨rfl,lo,rfl,h2,h3,h4⟩
    ·rw [if_neg c]
     have hm:lo+(hi - lo) / 2 < m:=by omega
     refine aK (bey _ hm ?_)
     dsimp only
     cases e:bd (base+(lo+(hi - lo) / 2)) with
     | true=>
      rw [if_pos rfl]
      exact aJ ⟨rfl,_,_,rfl,by omega,h2,by omega,lowf _ hm e,h4⟩
     | false=>
      rw [if_neg (by decide)]
      exact aJ ⟨rfl,_,_,rfl,by omega,by omega,by omega,h3,highf _ hm e⟩
   ·rintro b st' ⟨rfl,lo,hi,rfl,h1,h2,h5,h3,h4⟩
    have:lo=hi:=by omega
    subst this
    exact ⟨rfl,lo,rfl,h2,h3,h4⟩
   ·rintro b st' ⟨rfl,hi,rfl,h2,h3,h4⟩
    exact aJ (h hi h2 h3 h4)
theorem xG (a b:Array Keyed):sG a b=(do
 rule "list.sort.merge-lo"
 let total:=a.size+b.size
 let done (out:Array Keyed) (ia ib:Nat):=out++a.extract ia a.size++b.extract ib b.size
 let lastOfA (out:Array Keyed) (ia ib:Nat):=out++b.extract ib b.size++a.extract ia a.size
 let mut out:Array Keyed:=#[←elem' b 0]
 let mut ia:=0
 let mut ib:=1
 if ib==b.size then return done out ia ib
 if ia+1==a.size then return lastOfA out ia ib
 let mut minGallop:=gallopOf (←get)
 for _ in [0:total] do
  let mut acount:=0
  let mut bcount:=0
  for _ in [0:total] do
   let some bWins ←lt' (←elem' b ib) (←elem' a ia) | return done out ia ib
   if bWins then
    out:=out.push (←elem' b ib);ib:=ib+1;bcount:=bcount+1;acount:=0
    if ib==b.size then return done out ia ib
    if bcount ≥ minGallop then break
   else
    out:=out.push (←elem' a ia);ia:=ia+1;acount:=acount+1;bcount:=0
    if ia+1==a.size then return lastOfA out ia ib
    if acount ≥ minGallop then break
  rule "list.sort.gallop"
  minGallop:=minGallop+1
  for _ in [0:total] do
   if minGallop > 1 then minGallop:=minGallop - 1
   jZ minGallop
   let some k ←fX false (←elem' b ib) a ia (a.size - ia) 0 | return done out ia ib
   acount:=k
   if k > 0 then
    out:=out++a.extract ia (ia+k);ia:=ia+k
    if ia+1==a.size then return lastOfA out ia ib
    if ia==a.size then return done out ia ib
   out:=out.push (←elem' b ib);ib:=ib+1
   if ib==b.size then return done out ia ib
   let some k ←fX true (←elem' a ia) b ib (b.size - ib) 0 | return done out ia ib
   bcount:=k
   if k > 0 then
    out:=out++b.extract ib (ib+k);ib:=ib+k
    if ib==b.size then return done out ia ib
   out:=out.push (←elem' a ia);ia:=ia+1
   if ia+1==a.size then return lastOfA out ia ib
   if acount < 7 && bcount < 7 then break
  minGallop:=minGallop+1
  jZ minGallop
 unsupported "internal:list.sort.merge-bound"):=rfl
theorem xH (a b:Array Keyed):sH a b=(do
 rule "list.sort.merge-hi"
 let total:=a.size+b.size
 let done (out:Array Keyed) (na nb:Nat):=a.extract 0 na++b.extract 0 nb++out.reverse
 let firstOfB (out:Array Keyed) (na nb:Nat):=b.extract 0 nb++a.extract 0 na++out.reverse
 let mut na:=a.size - 1
 let mut nb:=b.size
 let mut out:Array Keyed:=#[←elem' a na]
 if na==0 then return done out na nb
 if nb==1 then return firstOfB out na nb
 let mut minGallop:=gallopOf (←get)
 for _ in [0:total] do
  let mut acount:=0
  let mut bcount:=0
  for _ in [0:total] do
   let some aWins ←lt' (←elem' b (nb - 1)) (←elem' a (na - 1)) | return done out na nb
   if aWins then
    na:=na - 1;out:=out.push (←elem' a na);acount:=acount+1;bcount:=0
    if na==0 then return done out na nb
    if acount ≥ minGallop then break
   else
    nb:=nb - 1;out:=out.push (←elem' b nb);bcount:=bcount+1;acount:=0
    if nb==1 then return firstOfB out na nb
    if bcount ≥ minGallop then break
  rule "list.sort.gallop"
  minGallop:=minGallop+1
  for _ in [0:total] do
   if minGallop > 1 then minGallop:=minGallop - 1
   jZ minGallop
   let some at_ ←fX false (←elem' b (nb - 1)) a 0 na (na - 1) | return done out na nb
   let k:=na - at_
   acount:=k
   if k > 0 then
    out:=out++(a.extract at_ na).reverse;na:=at_
    if na==0 then return done out na nb
   nb:=nb - 1;out:=out.push (←elem' b nb)
   if nb==1 then return firstOfB out na nb
   let some at_ ←fX true (←elem' a (na - 1)) b 0 nb (nb - 1) | return done out na nb
   let k:=nb - at_
   bcount:=k
   if k > 0 then
    out:=out++(b.extract at_ nb).reverse;nb:=at_
    if nb==1 then return firstOfB out na nb
    if nb==0 then return done out na nb
   na:=na - 1;out:=out.push (←elem' a na)
   if na==0 then return done out na nb
   if acount < 7 && bcount < 7 then break
  minGallop:=minGallop+1
  jZ minGallop
 unsupported "internal:list.sort.merge-bound"):=rfl
variable {X:Ctx}
noncomputable def Ctx.arr (X:Ctx) (l:List Nat):Array Keyed:=(l.map X.item).toArray
theorem jC (l:List Nat):(X.arr l).size=l.length:=by simp [Ctx.arr]
theorem cX (l m:List Nat):X.arr l++X.arr m=X.arr (l++m):=by simp [Ctx.arr]
theorem jD (l:List Nat) (x:Nat):(X.arr l).push (X.item x)=X.arr (l++[x]):=by simp [Ctx.arr]
theorem dU (l:List Nat) (i j:Nat):(X.arr l).extract i j=X.arr ((l.drop i).take (j - i)):=by
 unfold Ctx.arr
 rw [List.extract_toArray,List.extract_eq_drop_take,List.map_take,List.map_drop]
theorem mJ (l:List Nat):(X.arr l).reverse=X.arr l.reverse:=by simp [Ctx.arr]
theorem jE (l:List Nat) (i:Nat):(X.arr l).extract i (X.arr l).size=X.arr (l.drop i):=by
 rw [dU,jC,List.take_of_length_le (by rw [List.length_drop];omega)]
theorem jF {l:List Nat} {k:Nat} {Q:Keyed→SortSt→Prop} {st:SortSt} (hk:k < l.length) (h:Q (X.item l[k]) st):W X (elem' (X.arr l) k) Q st:=Jx hk h
noncomputable abbrev Ctx.Lt (X:Ctx) (i j:Nat):Prop:=X.lt i j=true
structure MS (X:Ctx) (la lb:List Nat):Prop where
 sa:la.Pairwise X.Lt
 sb:lb.Pairwise X.Lt
 na:∀x∈la,x < X.n
 nb:∀x∈lb,x < X.n
 di:∀x∈la,∀y∈lb,x≠y
 fst:∀(h:0 < lb.length),∀y∈la,X.Lt lb[0] y
 lst:∀(h:la.length - 1 < la.length),∀y∈lb,X.Lt y la[la.length - 1]
theorem MS.ro {la lb:List Nat} (m:MS X la lb) {x y:Nat} (hx:x∈la) (hy:y∈lb) (h:X.lt y x=false):X.Lt x y:=by
 rcases X.ok.to x y (m.na x hx) (m.nb y hy) (m.di x hx y hy) with z | z
 ·exact z
 ·rw [z] at h;cases h
structure MI (X:Ctx) (la lb o:List Nat) (ia ib:Nat):Prop where
 pm:(o++la.drop ia++lb.drop ib).Perm (la++lb)
 so:o.Pairwise X.Lt
 la_:∀x∈o,∀y∈la.drop ia,X.Lt x y
 lb_:∀x∈o,∀y∈lb.drop ib,X.Lt x y
noncomputable def MR (X:Ctx) (la lb r:List Nat):Prop:=r.Perm (la++lb)∧r.Pairwise X.Lt
section
variable {la lb o:List Nat} {ia ib:Nat}
theorem MI.takeA (M:MS X la lb) (h:MI X la lb o ia ib) (k:Nat) (hk:∀x∈(la.drop ia).take k,∀y∈lb.drop ib,X.Lt x y):MI X la lb (o++(la.drop ia).take k) (ia+k) ib:=by
 have e:(la.drop ia).take k++la.drop (ia+k)=la.drop ia:=by
  rw [←List.drop_drop]
  exact List.take_append_drop k _
 have sd:=M.sa.sublist (List.drop_sublist ia la)
 rw [←e,List.pairwise_append] at sd
 refine ⟨?_,?_,fun x hx y hy=>?_,fun x hx y hy=>?_⟩
 ·rw [List.append_assoc o,e]
  exact h.pm
 ·rw [List.pairwise_append]
  exact ⟨h.so,sd.1,fun x hx y hy=>h.la_ x hx y (List.mem_of_mem_take hy)⟩
 ·rcases List.mem_append.mp hx with z | z
  ·exact h.la_ x z y (by rw [←e];exact List.mem_append.mpr (.inr hy))
  ·exact sd.2.2 x z y hy
 ·rcases List.mem_append.mp hx with z | z
  ·exact h.lb_ x z y hy
  ·exact hk x z y hy
theorem MI.takeB (M:MS X la lb) (h:MI X la lb o ia ib) (k:Nat) (hk:∀x∈(lb.drop ib).take k,∀y∈la.drop ia,X.Lt x y):MI X la lb (o++(lb.drop ib).take k) ia (ib+k):=by
 have e:(lb.drop ib).take k++lb.drop (ib+k)=lb.drop ib:=by
  rw [←List.drop_drop]
  exact List.take_append_drop k _
 have sd:=M.sb.sublist (List.drop_sublist ib lb)
 rw [←e,List.pairwise_append] at sd
 refine ⟨?_,?_,fun x hx y hy=>?_,fun x hx y hy=>?_⟩
 ·refine List.Perm.trans ?_ h.pm
  rw [List.append_assoc,List.append_assoc,List.append_assoc]
  refine List.Perm.append_left o ?_
  refine List.Perm.trans (List.perm_append_comm_assoc _ _ _) ?_
  rw [e]
 ·rw [List.pairwise_append]
  exact ⟨h.so,sd.1,fun x hx y hy=>h.lb_ x hx y (List.mem_of_mem_take hy)⟩
 ·rcases List.mem_append.mp hx with z | z
  ·exact h.la_ x z y hy
  ·exact hk x z y hy
 ·rcases List.mem_append.mp hx with z | z
  ·exact h.lb_ x z y (by rw [←e];exact List.mem_append.mpr (.inr hy))
  ·exact sd.2.2 x z y hy
theorem MI.done (M:MS X la lb) (h:MI X la lb o ia ib) (z:la.length≤ia∨lb.length≤ib):MR X la lb (o++la.drop ia++lb.drop ib):=by
 refine ⟨h.pm,?_⟩
 have s1:=M.sa.sublist (List.drop_sublist ia la)
 have s2:=M.sb.sublist (List.drop_sublist ib lb)
 rcases z with z | z
 ·rw [List.drop_eq_nil_of_le z,List.append_nil,List.pairwise_append]
  exact ⟨h.so,s2,h.lb_⟩
 ·rw [List.drop_eq_nil_of_le z,List.append_nil,List.pairwise_append]
  exact ⟨h.so,s1,h.la_⟩
theorem MI.last (M:MS X la lb) (h:MI X la lb o ia ib) (z:ia+1=la.length):MR X la lb (o++lb.drop ib++la.drop ia):=by
 have s1:=M.sa.sublist (List.drop_sublist ia la)
 have s2:=M.sb.sublist (List.drop_sublist ib lb)
 refine ⟨List.Perm.trans ?_ h.pm,?_⟩
 ·rw [List.append_assoc,List.append_assoc]
  exact List.Perm.append_left o List.perm_append_comm
 ·rw [List.pairwise_append,List.pairwise_append]
  refine ⟨⟨h.so,s2,h.lb_⟩,s1,fun x hx y hy=>?_⟩
  have e:la.drop ia=[la[la.length - 1]'(by omega)]:=by
   rw [List.drop_eq_getElem_cons (by omega:ia < la.length),List.drop_eq_nil_of_le (by omega)]
   have:ia=la.length - 1:=by omega
   subst this
   rfl
  rcases List.mem_append.mp hx with w | w
  ·exact h.la_ x w y hy
  ·rw [e] at hy
   rw [List.mem_singleton.mp hy]
   exact M.lst (by omega) x (List.mem_of_mem_drop w)
theorem lU {l:List Nat} {i:Nat} (h:i < l.length):(l.drop i).take 1=[l[i]]:=by
 rw [List.drop_eq_getElem_cons h]
 rfl
theorem mR {l:List Nat} {i k x:Nat} (h:x∈(l.drop i).take k):∃j,j < k∧∃hj:i+j < l.length,x=l[i+j]:=by
 obtain ⟨j,hj,rfl⟩:=List.getElem_of_mem h
 rw [List.length_take,List.length_drop] at hj
 refine ⟨j,by omega,by omega,?_⟩
 rw [List.getElem_take,List.getElem_drop]
theorem fu {l:List Nat} {i x:Nat} (h:x∈l.drop i):∃j,i≤j∧∃hj:j < l.length,x=l[j]:=by
 obtain ⟨j,hj,rfl⟩:=List.getElem_of_mem h
 rw [List.length_drop] at hj
 refine ⟨i+j,by omega,by omega,?_⟩
 rw [List.getElem_drop]
theorem xJ {l:List Nat} (s:l.Pairwise X.Lt) {i j:Nat} (hij:i < j) (hj:j < l.length):X.Lt l[i] l[j]:=List.pairwise_iff_getElem.mp s i j (by omega) hj hij
theorem Bw {l:List Nat} (s:l.Pairwise X.Lt) {x i j:Nat} (hj:j < l.length) (hij:i≤j) (h:X.Lt x (l[i]'(by omega))):X.Lt x l[j]:=by
 by_cases e:i=j
 ·subst e;exact h
 ·exact X.ok.tr _ _ _ h (xJ s (by omega) hj)
end
theorem oN {k:Nat} {Q:Unit→SortSt→Prop} {p:Array Nat} {pd:Array (Nat × Nat × Nat)} {g:Nat} (h:Q () (ST X p pd k)):W X (jZ k) Q (ST X p pd g):=fV h
theorem pW {key:Nat} {l:List Nat} {i:Nat} (hi:i < l.length):byd X false key l i=!X.lt key l[i]:=by
 unfold byd
 rw [if_neg (by decide),List.getD,List.getElem?_eq_getElem hi]
 rfl
theorem pX {key:Nat} {l:List Nat} {i:Nat} (hi:i < l.length):byd X true key l i=X.lt l[i] key:=by
 unfold byd
 rw [if_pos rfl,List.getD,List.getElem?_eq_getElem hi]
 rfl
theorem sI {key:Nat} {l:List Nat} (s:l.Pairwise X.Lt) {base m:Nat} (hb:base+m≤l.length):∀i j,i < j→j < m→byd X false key l (base+j)=true→byd X false key l (base+i)=true:=fun i j hij hj h=>by
 rw [pW (by omega)] at h ⊢
 cases e:X.lt key (l[base+i]'(by omega)) with
 | false=>rfl
 | true=>
  have:X.lt key (l[base+j]'(by omega))=true:=X.ok.tr _ _ _ e (xJ s (by omega) (by omega))
  rw [this] at h
  cases h
theorem sJ {key:Nat} {l:List Nat} (s:l.Pairwise X.Lt) {base m:Nat} (hb:base+m≤l.length):∀i j,i < j→j < m→byd X true key l (base+j)=true→byd X true key l (base+i)=true:=fun i j hij hj h=>by
 rw [pX (by omega)] at h ⊢
 exact X.ok.tr _ _ _ (xJ s (by omega) (by omega)) h
theorem Jy {α:Type} {c:Prop} [Decidable c] {F:Nat→StateT SortSt Sem α} {Q:α→SortSt→Prop} {st:SortSt} {m n:Nat} (h:∀m,W X (F m) Q st):W X (if c then F m else F n) Q st:=by split <;> exact h _
noncomputable abbrev LS:=Option (Array Keyed) × Array Keyed × Nat × Nat × Nat × Nat × Nat
noncomputable def loC (a b:Array Keyed) (sa sb mg ac bc ia:Nat) (out:Array Keyed) (ib:Nat):StateT SortSt Sem (ForInStep LS):=do
 let x ←elem' a ia
 if ia+1+1==sa then pure (.done (some (out.push x++b.extract ib sb++a.extract (ia+1) sa),out.push x,ia+1,ib,mg,ac,bc))
 else if ac < 7 && bc < 7 then pure (.done (none,out.push x,ia+1,ib,mg,ac,bc)) else pure (.yield (none,out.push x,ia+1,ib,mg,ac,bc))
noncomputable def loB (a b:Array Keyed) (sa sb mg ac bc:Nat) (out:Array Keyed) (ia ib:Nat):StateT SortSt Sem (ForInStep LS):=do
 let y ←elem' b ib
 if ib+1==sb then pure (.done (some (out.push y++a.extract ia sa++b.extract (ib+1) sb),out.push y,ia,ib+1,mg,ac,bc))
 else do
  let x ←elem' a ia
  let r ←fX true x b (ib+1) (sb - (ib+1)) 0
  match r with
  | some k=>
   if k > 0 then
    if ib+1+k==sb then pure (.done (some (out.push y++b.extract (ib+1) (ib+1+k)++a.extract ia sa++b.extract (ib+1+k) sb),out.push y++b.extract (ib+1) (ib+1+k),ia,ib+1+k,mg,ac,k))
    else loC a b sa sb mg ac k ia (out.push y++b.extract (ib+1) (ib+1+k)) (ib+1+k)
   else loC a b sa sb mg ac k ia (out.push y) (ib+1)
  | _=>pure (.done (some (out.push y++a.extract ia sa++b.extract (ib+1) sb),out.push y,ia,ib+1,mg,ac,bc))
noncomputable def loA (a b:Array Keyed) (sa sb:Nat) (out:Array Keyed) (ia ib mg ac bc:Nat):StateT SortSt Sem (ForInStep LS):=do
 jZ mg
 let y ←elem' b ib
 let r ←fX false y a ia (sa - ia) 0
 match r with
 | some k=>
  if k > 0 then
   if ia+k+1==sa then pure (.done (some (out++a.extract ia (ia+k)++b.extract ib sb++a.extract (ia+k) sa),out++a.extract ia (ia+k),ia+k,ib,mg,k,bc))
   else if ia+k==sa then pure (.done (some (out++a.extract ia (ia+k)++a.extract (ia+k) sa++b.extract ib sb),out++a.extract ia (ia+k),ia+k,ib,mg,k,bc))
   else loB a b sa sb mg k bc (out++a.extract ia (ia+k)) (ia+k) ib
  else loB a b sa sb mg k bc out ia ib
 | _=>pure (.done (some (out++a.extract ia sa++b.extract ib sb),out,ia,ib,mg,ac,bc))
section
variable {la lb o:List Nat} {Q:ForInStep LS→SortSt→Prop} {st:SortSt} {p:Array Nat} {pd:Array (Nat × Nat × Nat)} {t i n ia ib mg ac bc:Nat}
structure QLo (X:Ctx) (la lb:List Nat) (Q:ForInStep LS→SortSt→Prop) (t:Nat) (st:SortSt):Prop where
 dn:∀r b,MR X la lb r→b.1=some (X.arr r)→Q (.done b) st
 nx:∀o ia ib mg ac bc,MI X la lb o ia ib→ia+1 < la.length→ib < lb.length→t≤ia+ib→Q (.done (none,X.arr o,ia,ib,mg,ac,bc)) st∧Q (.yield (none,X.arr o,ia,ib,mg,ac,bc)) st
theorem xK (o:List Nat) (ia ib:Nat):X.arr o++(X.arr la).extract ia la.length++(X.arr lb).extract ib lb.length=X.arr (o++la.drop ia++lb.drop ib):=by
 have e1:=jE (X:=X) la ia
 have e2:=jE (X:=X) lb ib
 rw [jC] at e1 e2
 rw [e1,e2,cX,cX]
theorem Nj (l o:List Nat) (i k:Nat):X.arr o++(X.arr l).extract i (i+k)=X.arr (o++(l.drop i).take k):=by
 rw [dU,cX,show i+k - i=k by omega]
theorem Nk (M:MS X la lb) {g:Nat} (q:QLo X la lb Q t (ST X p pd g)) (I:MI X la lb o i n) (h1:i+1 < la.length) (h2:n < lb.length) (ht:t≤i+1+n) (B2:∀y∈lb.drop n,X.Lt (la[i]'(by omega)) y):W X (loC (X.arr la) (X.arr lb) la.length lb.length mg ac bc i (X.arr o) n) Q (ST X p pd g):=by
 have hIA:i < la.length:=by omega
 unfold loC
 refine aK (jF hIA ?_)
 rw [jD]
 have I:=I.takeA M 1 (fun x hx y hy=>by rw [lU hIA] at hx;rw [List.mem_singleton.mp hx];exact B2 y hy)
 rw [lU hIA] at I
 by_cases c4:(i+1+1==la.length)=true
 ·rw [if_pos c4]
  exact aJ (q.dn _ _ (I.last M (by simpa using c4)) (congrArg some (xK _ _ _)))
 rw [if_neg c4]
 have z:=q.nx _ _ _ mg ac bc I (by simp at c4;omega) h2 ht
 split
 ·exact aJ z.1
 ·exact aJ z.2
theorem Np (M:MS X la lb) {g:Nat} (q:QLo X la lb Q t (ST X p pd g)) (I:MI X la lb o i ib) (h1:i+1 < la.length) (h2:ib < lb.length) (ht:t≤i+1+(ib+1)) (A2:∀y∈la.drop i,X.Lt lb[ib] y):W X (loB (X.arr la) (X.arr lb) la.length lb.length mg ac bc (X.arr o) i ib) Q (ST X p pd g):=by
 unfold loB
 refine aK (jF h2 ?_)
 rw [jD]
 have I:=I.takeB M 1 (fun x hx y hy=>by rw [lU h2] at hx;rw [List.mem_singleton.mp hx];exact A2 y hy)
 rw [lU h2] at I
 by_cases c2:(ib+1==lb.length)=true
 ·rw [if_pos c2]
  exact aJ (q.dn _ _ (I.done M (.inr (by simp at c2;omega))) (congrArg some (xK _ _ _)))
 rw [if_neg c2]
 have h2':ib+1 < lb.length:=by simp at c2;omega
 have hIA:i < la.length:=by omega
 clear A2 c2
 refine aK (jF hIA ?_)
 refine aK (jB (left:=true) (key:=la[i]) (l:=lb) (base:=ib+1) (m:=lb.length - (ib+1)) (hint:=0) (M.na _ (List.getElem_mem hIA)) M.nb (by omega) (by omega) (sJ M.sb (by omega)) fun k l1 l2 l3=>?_)
 dsimp only
 have B2:∀y∈lb.drop (ib+1+k),X.Lt la[i] y:=fun y hy=>by
  obtain ⟨j,j1,j2,rfl⟩:=fu hy
  have:=l3 (j - (ib+1)) (by omega) (by omega)
  rw [show ib+1+(j - (ib+1))=j by omega,pX j2] at this
  exact M.ro (List.getElem_mem hIA) (List.getElem_mem j2) this
 by_cases ck:k > 0
 ·rw [if_pos ck,Nj]
  have I:=I.takeB M k fun x hx y hy=>by
   obtain ⟨j,j1,j2,rfl⟩:=mR hx
   obtain ⟨j',j3,j4,rfl⟩:=fu hy
   have:=l2 j j1
   rw [pX j2] at this
   exact Bw M.sa j4 j3 this
  by_cases c3:(ib+1+k==lb.length)=true
  ·rw [if_pos c3]
   exact aJ (q.dn _ _ (I.done M (.inr (by simp at c3;omega))) (congrArg some (xK _ _ _)))
  rw [if_neg c3]
  exact Nk M q I h1 (by simp at c3;omega) (by omega) B2
 ·rw [if_neg ck]
  obtain rfl:k=0:=by omega
  exact Nk M q I h1 h2' ht B2
theorem RX {g:Nat} (M:MS X la lb) (q:QLo X la lb Q t (ST X p pd mg)) (I:MI X la lb o ia ib) (h1:ia+1 < la.length) (h2:ib < lb.length) (ht:t≤ia+1+(ib+1)):W X (loA (X.arr la) (X.arr lb) la.length lb.length (X.arr o) ia ib mg ac bc) Q (ST X p pd g):=by
 unfold loA
 refine aK (oN ?_)
 refine aK (jF h2 ?_)
 refine aK (jB (left:=false) (key:=lb[ib]) (l:=la) (base:=ia) (m:=la.length - ia) (hint:=0) (M.nb _ (List.getElem_mem h2)) M.na (by omega) (by omega) (sI M.sa (by omega)) fun k k1 k2 k3=>?_)
 dsimp only
 have A2:∀y∈la.drop (ia+k),X.Lt lb[ib] y:=fun y hy=>by
  obtain ⟨j,j1,j2,rfl⟩:=fu hy
  have:=k3 (j - ia) (by omega) (by omega)
  rw [show ia+(j - ia)=j by omega,pW j2] at this
  simpa using this
 by_cases ck:k > 0
 ·rw [if_pos ck,Nj]
  have I:=I.takeA M k fun x hx y hy=>by
   obtain ⟨j,j1,j2,rfl⟩:=mR hx
   obtain ⟨j',j3,j4,rfl⟩:=fu hy
   have:=k2 j j1
   rw [pW j2] at this
   exact Bw M.sb j4 j3 (M.ro (List.getElem_mem j2) (List.getElem_mem h2) (by simpa using this))
  by_cases c:(ia+k+1==la.length)=true
  ·rw [if_pos c]
   exact aJ (q.dn _ _ (I.last M (by simpa using c)) (congrArg some (xK _ _ _)))
  rw [if_neg c]
  by_cases c':(ia+k==la.length)=true
  ·rw [if_pos c']
   exact aJ (q.dn _ _ (I.done M (.inl (by simp at c';omega))) (congrArg some (xK _ _ _)))
  rw [if_neg c']
  exact Np M q I (by simp at c c';omega) h2 (by omega) A2
 ·rw [if_neg ck]
  obtain rfl:k=0:=by omega
  exact Np M q I h1 h2 ht A2
end
section
variable (X:Ctx) (la lb:List Nat) (p:Array Nat) (pd:Array (Nat × Nat × Nat)) (k:Nat)
inductive LoR (b:Option (Array Keyed)):Prop where
 | mk (r:List Nat) (z1:b=some (X.arr r)) (z2:MR X la lb r)
inductive RZ (b:Option (Array Keyed)) (st':SortSt):Prop where
 | mk (g':Nat) (r:List Nat) (z0:st'=ST X p pd g') (z1:b=some (X.arr r)) (z2:MR X la lb r)
inductive Lo1 (b:Option (Array Keyed) × Array Keyed × Nat × Nat × Nat) (st':SortSt):Prop where
 | mk (g':Nat) (o:List Nat) (ia ib mg:Nat) (z1:st'=ST X p pd g') (z2:b=(none,X.arr o,ia,ib,mg)) (z3:MI X la lb o ia ib) (z4:ia+1 < la.length) (z5:ib < lb.length) (z6:k+1≤ia+ib)
inductive Lo2 (g' j:Nat) (b:Option (Array Keyed) × Array Keyed × Nat × Nat × Nat × Nat) (st':SortSt):Prop where
 | mk (z0:st'=ST X p pd g') (o:List Nat) (ia ib ac bc:Nat) (z2:b=(none,X.arr o,ia,ib,ac,bc)) (z3:MI X la lb o ia ib) (z4:ia+1 < la.length) (z5:ib < lb.length) (z6:k+1+j≤ia+ib)
inductive Um (b:Option (Array Keyed) × Array Keyed × Nat × Nat × Nat × Nat):Prop where
 | mk (o:List Nat) (ia ib ac bc:Nat) (z2:b=(none,X.arr o,ia,ib,ac,bc)) (z3:MI X la lb o ia ib) (z4:ia+1 < la.length) (z5:ib < lb.length) (z6:k+2≤ia+ib)
inductive Lo3 (j:Nat) (b:LS) (st':SortSt):Prop where
 | mk (g':Nat) (o:List Nat) (ia ib mg ac bc:Nat) (z1:st'=ST X p pd g') (z2:b=(none,X.arr o,ia,ib,mg,ac,bc)) (z3:MI X la lb o ia ib) (z4:ia+1 < la.length) (z5:ib < lb.length) (z6:k+2+j≤ia+ib)
inductive Uo (b:LS):Prop where
 | mk (o:List Nat) (ia ib mg ac bc:Nat) (z2:b=(none,X.arr o,ia,ib,mg,ac,bc)) (z3:MI X la lb o ia ib) (z4:ia+1 < la.length) (z5:ib < lb.length) (z6:k+2≤ia+ib)
inductive Up (b:LS) (st':SortSt):Prop where
 | mk (g':Nat) (z0:st'=ST X p pd g') (z1:LoR X la lb b.1∨Uo X la lb k b)
end
theorem DY {la lb:List Nat} {Q:Array Keyed→SortSt→Prop} {p:Array Nat} {pd:Array (Nat × Nat × Nat)} {g:Nat} (M:MS X la lb) (ha:0 < la.length) (hb:0 < lb.length) (h:∀r g',MR X la lb r→Q (X.arr r) (ST X p pd g')):W X (sG (X.arr la) (X.arr lb)) Q (ST X p pd g):=by
 rw [xG]
 refine aK (pK ?_)
 dsimp only
 refine aK (jF hb ?_)
 have e0:(#[X.item lb[0]]:Array Keyed)=X.arr [lb[0]]:=rfl
 rw [e0]
 have I0:MI X la lb [lb[0]] 0 1:=by
  have z:MI X la lb [] 0 0:=⟨List.Perm.refl _,List.Pairwise.nil,fun x hx=>absurd hx List.not_mem_nil,fun x hx=>absurd hx List.not_mem_nil⟩
  have:=z.takeB M 1 fun x hx y hy=>by
   rw [lU hb] at hx
   rw [List.mem_singleton.mp hx]
   exact M.fst hb y hy
  rw [lU hb] at this
  exact this
 have dn:∀o ia ib,X.arr o++(X.arr la).extract ia la.length++(X.arr lb).extract ib lb.length=X.arr (o++la.drop ia++lb.drop ib):=fun o ia ib=>by
  have e1:=jE (X:=X) la ia
  have e2:=jE (X:=X) lb ib
  rw [jC] at e1 e2
  rw [e1,e2,cX,cX]
 have ls:∀o ia ib,X.arr o++(X.arr lb).extract ib lb.length++(X.arr la).extract ia la.length=X.arr (o++lb.drop ib++la.drop ia):=fun o ia ib=>by
  have e1:=jE (X:=X) la ia
  have e2:=jE (X:=X) lb ib
  rw [jC] at e1 e2
  rw [e1,e2,cX,cX]
 have tkA:∀o i k,X.arr o++(X.arr la).extract i (i+k)=X.arr (o++(la.drop i).take k):=fun o i k=>by
  rw [dU,cX,show i+k - i=k by omega]
 have tkB:∀o i k,X.arr o++(X.arr lb).extract i (i+k)=X.arr (o++(lb.drop i).take k):=fun o i k=>by
  rw [dU,cX,show i+k - i=k by omega]
 simp only [jC]
 by_cases c1:(1==lb.length)=true
 ·rw [if_pos c1,dn]
  exact aJ (h _ _ (I0.done M (.inr (by simp at c1;omega))))
 rw [if_neg c1]
 by_cases c2:(0+1==la.length)=true
 ·rw [if_pos c2,ls]
  exact aJ (h _ _ (I0.last M (by simpa using c2)))
 rw [if_neg c2]
 have l1:1 < lb.length:=by simp at c1;omega
 have l2:0+1 < la.length:=by simp at c2;omega
 refine aK (km ?_)
 refine gh (Post:=fun b st'=>RZ X la lb p pd b.1 st')
  (fun k b st'=>Lo1 X la lb p pd k b st')
  ⟨g,[lb[0]],0,1,_,rfl,rfl,I0,l2,l1,by omega⟩ ?_ ?_ ?_
 ·rintro k b st' hk ⟨g',o,ia,ib,mg,rfl,rfl,I,h1,h2,h3⟩
  try dsimp only
  refine gh (Post:=fun b st'=>st'=ST X p pd g'∧(LoR X la lb b.1∨Um X la lb k b))
   (fun j b st'=>Lo2 X la lb p pd k g' j b st') ⟨rfl,o,ia,ib,0,0,rfl,I,h1,h2,by omega⟩ ?_ ?_ ?_
  ·rintro j b st' hj ⟨rfl,o,ia,ib,ac,bc,rfl,I,h1,h2,h3⟩
   try dsimp only
   have hia:ia < la.length:=by omega
   refine aK (jF h2 (aK (jF hia (aK (Jw (M.nb _ (List.getElem_mem h2)) (M.na _ (List.getElem_mem hia)) ?_)))))
   try dsimp only
   cases e:X.lt lb[ib] la[ia] with
   | true=>
    rw [if_pos rfl]
    refine aK (jF h2 ?_)
    try dsimp only
    rw [jD]
    have I:=I.takeB M 1 (fun x hx y hy=>by
     rw [lU h2] at hx
     rw [List.mem_singleton.mp hx]
     obtain ⟨j',j3,j4,rfl⟩:=fu hy
     exact Bw M.sa j4 j3 e)
    rw [lU h2] at I
    by_cases c:(ib+1==lb.length)=true
    ·rw [if_pos c]
     exact aJ ⟨rfl,.inl ⟨_,congrArg some (dn _ _ _),I.done M (.inr (by simp at c;omega))⟩⟩
    rw [if_neg c]
    have h2':ib+1 < lb.length:=by simp at c;omega
    split
    ·exact aJ ⟨rfl,.inr ⟨_,_,_,_,_,rfl,I,h1,h2',by omega⟩⟩
    ·exact aJ ⟨rfl,_,_,_,_,_,rfl,I,h1,h2',by omega⟩
   | false=>
    rw [if_neg (by decide)]
    refine aK (jF hia ?_)
    try dsimp only
    rw [jD]
    have I:=I.takeA M 1 (fun x hx y hy=>by
     rw [lU hia] at hx
     rw [List.mem_singleton.mp hx]
     obtain ⟨j',j3,j4,rfl⟩:=fu hy
     exact Bw M.sb j4 j3 (M.ro (List.getElem_mem hia) (List.getElem_mem h2) e))
    rw [lU hia] at I
    by_cases c:(ia+1+1==la.length)=true
    ·rw [if_pos c]
     exact aJ ⟨rfl,.inl ⟨_,congrArg some (ls _ _ _),I.last M (by simpa using c)⟩⟩
    rw [if_neg c]
    have h1':ia+1+1 < la.length:=by simp at c;omega
    split
    ·exact aJ ⟨rfl,.inr ⟨_,_,_,_,_,rfl,I,h1',h2,by omega⟩⟩
    ·exact aJ ⟨rfl,_,_,_,_,_,rfl,I,h1',h2,by omega⟩
  ·rintro b st' ⟨rfl,o,ia,ib,ac,bc,rfl,I,h1,h2,h3⟩
   omega
  ·rintro b st' ⟨rfl,z⟩
   rcases z with ⟨r,e,mr⟩ | ⟨o,ia,ib,ac,bc,rfl,I,h1,h2,h3⟩
   ·obtain ⟨b1,b2⟩:=b
    dsimp only at e
    subst e
    exact aJ ⟨g',r,rfl,rfl,mr⟩
   try dsimp only
   refine aK (pK ?_)
   refine gh (Post:=fun b st'=>Up X la lb p pd k b st')
    (fun j b st'=>Lo3 X la lb p pd k j b st') ⟨g',o,ia,ib,_,_,_,rfl,rfl,I,h1,h2,by omega⟩ ?_ ?_ ?_
   ·rintro j b st' hj ⟨g',o,ia,ib,mg,ac,bc,rfl,rfl,I,h1,h2,h3⟩
    try dsimp only
    show W X (if mg > 1 then loA (X.arr la) (X.arr lb) la.length lb.length (X.arr o) ia ib (mg - 1) ac bc else loA (X.arr la) (X.arr lb) la.length lb.length (X.arr o) ia ib mg ac bc) _ _
    refine Jy (F:=fun m=>loA (X.arr la) (X.arr lb) la.length lb.length (X.arr o) ia ib m ac bc) fun m=>?_
    refine RX (t:=k+2+(j+1)) M ⟨fun r b mr e=>?_,fun o ia ib mg ac bc I a b c=>⟨?_,?_⟩⟩ I h1 h2 (by omega)
    ·exact ⟨_,rfl,.inl ⟨r,e,mr⟩⟩
    ·exact ⟨_,rfl,.inr ⟨_,_,_,_,_,_,rfl,I,a,b,by omega⟩⟩
    ·exact ⟨_,_,_,_,_,_,_,rfl,rfl,I,a,b,c⟩
   ·rintro b st' ⟨g',o,ia,ib,mg,ac,bc,rfl,rfl,I,h1,h2,h3⟩
    omega
   ·rintro b st' ⟨g',rfl,z⟩
    rcases z with ⟨r,e,mr⟩ | ⟨o,ia,ib,mg,ac,bc,rfl,I,h1,h2,h3⟩
    ·obtain ⟨b1,b2⟩:=b
     dsimp only at e
     subst e
     exact aJ ⟨g',r,rfl,rfl,mr⟩
    try dsimp only
    exact aK (oN (aJ ⟨_,_,_,_,_,rfl,rfl,I,h1,h2,by omega⟩))
 ·rintro b st' ⟨g',o,ia,ib,mg,rfl,rfl,I,h1,h2,h3⟩
  omega
 ·rintro b st' ⟨g',r,rfl,e,mr⟩
  obtain ⟨b1,b2⟩:=b
  dsimp only at e
  subst e
  exact aJ (h r g' mr)
open PySem PySem.Spec PyProof.Rows L3 PySem.W
variable {X:Ctx}
structure MH (X:Ctx) (la lb q:List Nat) (na nb:Nat):Prop where
 pm:(la.take na++lb.take nb++q).Perm (la++lb)
 so:q.Pairwise X.Lt
 la_:∀y∈la.take na,∀x∈q,X.Lt y x
 lb_:∀y∈lb.take nb,∀x∈q,X.Lt y x
section
variable {la lb q:List Nat} {na nb:Nat}
theorem xM {l:List Nat} {n k:Nat} (h:k≤n):l.take k++(l.take n).drop k=l.take n:=by
 have:=List.take_append_drop k (l.take n)
 rw [List.take_take,Nat.min_eq_left h] at this
 exact this
theorem MH.takeA (M:MS X la lb) (h:MH X la lb q na nb) {k:Nat} (hk:k≤na) (hx:∀x∈(la.take na).drop k,∀y∈lb.take nb,X.Lt y x):MH X la lb ((la.take na).drop k++q) k nb:=by
 have e:=xM (l:=la) hk
 have sd:=M.sa.sublist (List.take_sublist na la)
 rw [←e,List.pairwise_append] at sd
 refine ⟨?_,?_,fun y hy x hx'=>?_,fun y hy x hx'=>?_⟩
 ·refine List.Perm.trans ?_ h.pm
  rw [←e,List.append_assoc,List.append_assoc,List.append_assoc]
  rw [e]
  exact List.Perm.append_left _ (List.perm_append_comm_assoc _ _ _)
 ·rw [List.pairwise_append]
  exact ⟨sd.2.1,h.so,fun x hx' y hy=>h.la_ x (by rw [←e];exact List.mem_append.mpr (.inr hx')) y hy⟩
 ·rcases List.mem_append.mp hx' with z | z
  ·exact sd.2.2 y hy x z
  ·exact h.la_ y (by rw [←e];exact List.mem_append.mpr (.inl hy)) x z
 ·rcases List.mem_append.mp hx' with z | z
  ·exact hx x z y hy
  ·exact h.lb_ y hy x z
theorem MH.takeB (M:MS X la lb) (h:MH X la lb q na nb) {k:Nat} (hk:k≤nb) (hx:∀x∈(lb.take nb).drop k,∀y∈la.take na,X.Lt y x):MH X la lb ((lb.take nb).drop k++q) na k:=by
 have e:=xM (l:=lb) hk
 have sd:=M.sb.sublist (List.take_sublist nb lb)
 rw [←e,List.pairwise_append] at sd
 refine ⟨?_,?_,fun y hy x hx'=>?_,fun y hy x hx'=>?_⟩
 ·have e2:la.take na++lb.take k++((lb.take nb).drop k++q)=la.take na++lb.take nb++q:=by
   rw [List.append_assoc,←List.append_assoc (lb.take k),e,List.append_assoc]
  rw [e2]
  exact h.pm
 ·rw [List.pairwise_append]
  exact ⟨sd.2.1,h.so,fun x hx' y hy=>h.lb_ x (by rw [←e];exact List.mem_append.mpr (.inr hx')) y hy⟩
 ·rcases List.mem_append.mp hx' with z | z
  ·exact hx x z y hy
  ·exact h.la_ y hy x z
 ·rcases List.mem_append.mp hx' with z | z
  ·exact sd.2.2 y hy x z
  ·exact h.lb_ y (by rw [←e];exact List.mem_append.mpr (.inl hy)) x z
theorem MH.done (M:MS X la lb) (h:MH X la lb q na nb) (z:na=0∨nb=0):MR X la lb (la.take na++lb.take nb++q):=by
 refine ⟨h.pm,?_⟩
 have s1:=M.sa.sublist (List.take_sublist na la)
 have s2:=M.sb.sublist (List.take_sublist nb lb)
 rcases z with z | z
 ·subst z
  rw [List.take_zero,List.nil_append,List.pairwise_append]
  exact ⟨s2,h.so,h.lb_⟩
 ·subst z
  rw [List.take_zero,List.append_nil,List.pairwise_append]
  exact ⟨s1,h.so,h.la_⟩
theorem MH.fstB (M:MS X la lb) (h:MH X la lb q na nb) (z:nb=1) (hb:0 < lb.length):MR X la lb (lb.take nb++la.take na++q):=by
 have s1:=M.sa.sublist (List.take_sublist na la)
 have s2:=M.sb.sublist (List.take_sublist nb lb)
 refine ⟨List.Perm.trans ?_ h.pm,?_⟩
 ·exact List.Perm.append_right q List.perm_append_comm
 ·rw [List.pairwise_append,List.pairwise_append]
  refine ⟨⟨s2,s1,fun x hx y hy=>?_⟩,h.so,fun x hx y hy=>?_⟩
  ·have e:lb.take nb=[lb[0]]:=by
    subst z
    have:=lU (l:=lb) (i:=0) hb
    rw [List.drop_zero] at this
    exact this
   rw [e] at hx
   rw [List.mem_singleton.mp hx]
   exact M.fst hb y (List.mem_of_mem_take hy)
  ·rcases List.mem_append.mp hx with w | w
   ·exact h.lb_ x w y hy
   ·exact h.la_ x w y hy
theorem mU {l:List Nat} {n:Nat} (h0:0 < n) (h:n≤l.length):(l.take n).drop (n - 1)=[l[n - 1]'(by omega)]:=by
 rw [List.drop_eq_getElem_cons (by rw [List.length_take];omega),List.drop_eq_nil_of_le (by rw [List.length_take];omega),List.getElem_take]
theorem mV {l:List Nat} {n k x:Nat} (h:x∈(l.take n).drop k):∃j,k≤j∧j < n∧∃hj:j < l.length,x=l[j]:=by
 obtain ⟨j,j1,j2,rfl⟩:=fu h
 rw [List.length_take] at j2
 exact ⟨j,j1,by omega,by omega,by rw [List.getElem_take]⟩
theorem gD {l:List Nat} {n x:Nat} (h:x∈l.take n):∃j,j < n∧∃hj:j < l.length,x=l[j]:=by
 obtain ⟨j,hj,rfl⟩:=List.getElem_of_mem h
 rw [List.length_take] at hj
 exact ⟨j,by omega,by omega,by rw [List.getElem_take]⟩
theorem Bx {l:List Nat} (s:l.Pairwise X.Lt) {x i j:Nat} (hj:j < l.length) (hij:i≤j) (h:X.Lt l[j] x):X.Lt (l[i]'(by omega)) x:=by
 by_cases e:i=j
 ·subst e;exact h
 ·exact X.ok.tr _ _ _ (xJ s (by omega) hj) h
end
noncomputable abbrev HS:=Option (Array Keyed) × Nat × Nat × Array Keyed × Nat × Nat × Nat
noncomputable def hiC (a b:Array Keyed) (mg ac bc na:Nat) (out:Array Keyed) (nb:Nat):StateT SortSt Sem (ForInStep HS):=do
 let x ←elem' a (na - 1)
 if na - 1==0 then pure (.done (some (a.extract 0 (na - 1)++b.extract 0 nb++(out.push x).reverse),na - 1,nb,out.push x,mg,ac,bc))
 else if ac < 7 && bc < 7 then pure (.done (none,na - 1,nb,out.push x,mg,ac,bc)) else pure (.yield (none,na - 1,nb,out.push x,mg,ac,bc))
noncomputable def hiB (a b:Array Keyed) (mg ac bc na:Nat) (out:Array Keyed) (nb:Nat):StateT SortSt Sem (ForInStep HS):=do
 let y ←elem' b (nb - 1)
 if nb - 1==1 then pure (.done (some (b.extract 0 (nb - 1)++a.extract 0 na++(out.push y).reverse),na,nb - 1,out.push y,mg,ac,bc))
 else do
  let x ←elem' a (na - 1)
  let r ←fX true x b 0 (nb - 1) (nb - 1 - 1)
  match r with
  | some k=>
   if nb - 1 - k > 0 then
    if k==1 then pure (.done (some (b.extract 0 k++a.extract 0 na++(out.push y++(b.extract k (nb - 1)).reverse).reverse),na,k,out.push y++(b.extract k (nb - 1)).reverse,mg,ac,nb - 1 - k))
    else if k==0 then pure (.done (some (a.extract 0 na++b.extract 0 k++(out.push y++(b.extract k (nb - 1)).reverse).reverse),na,k,out.push y++(b.extract k (nb - 1)).reverse,mg,ac,nb - 1 - k))
    else hiC a b mg ac (nb - 1 - k) na (out.push y++(b.extract k (nb - 1)).reverse) k
   else hiC a b mg ac (nb - 1 - k) na (out.push y) (nb - 1)
  | _=>pure (.done (some (a.extract 0 na++b.extract 0 (nb - 1)++(out.push y).reverse),na,nb - 1,out.push y,mg,ac,bc))
noncomputable def hiA (a b:Array Keyed) (na nb:Nat) (out:Array Keyed) (mg ac bc:Nat):StateT SortSt Sem (ForInStep HS):=do
 jZ mg
 let y ←elem' b (nb - 1)
 let r ←fX false y a 0 na (na - 1)
 match r with
 | some k=>
  if na - k > 0 then
   if k==0 then pure (.done (some (a.extract 0 k++b.extract 0 nb++(out++(a.extract k na).reverse).reverse),k,nb,out++(a.extract k na).reverse,mg,na - k,bc))
   else hiB a b mg (na - k) bc k (out++(a.extract k na).reverse) nb
  else hiB a b mg (na - k) bc na out nb
 | _=>pure (.done (some (a.extract 0 na++b.extract 0 nb++out.reverse),na,nb,out,mg,ac,bc))
section
variable {la lb q:List Nat} {Q:ForInStep HS→SortSt→Prop} {p:Array Nat} {pd:Array (Nat × Nat × Nat)} {t na nb mg ac bc g:Nat}
structure QHi (X:Ctx) (la lb:List Nat) (Q:ForInStep HS→SortSt→Prop) (t:Nat) (st:SortSt):Prop where
 dn:∀r b,MR X la lb r→b.1=some (X.arr r)→Q (.done b) st
 nx:∀q na nb mg ac bc,MH X la lb q na nb→0 < na→1 < nb→na≤la.length→nb≤lb.length→na+nb+t≤la.length+lb.length→Q (.done (none,na,nb,X.arr q.reverse,mg,ac,bc)) st∧Q (.yield (none,na,nb,X.arr q.reverse,mg,ac,bc)) st
theorem xN (q:List Nat) (na nb:Nat):(X.arr la).extract 0 na++(X.arr lb).extract 0 nb++(X.arr q.reverse).reverse=X.arr (la.take na++lb.take nb++q):=by
 rw [dU,dU,mJ,cX,cX,List.reverse_reverse,List.drop_zero,List.drop_zero,Nat.sub_zero,Nat.sub_zero]
theorem Nq (l q:List Nat) (k n:Nat):X.arr q.reverse++((X.arr l).extract k n).reverse=X.arr ((l.take n).drop k++q).reverse:=by
 rw [dU,mJ,cX,List.reverse_append,List.drop_take]
theorem Jz (q:List Nat) (x:Nat):(X.arr q.reverse).push (X.item x)=X.arr (x::q).reverse:=by
 rw [jD,List.reverse_cons]
theorem Nr (M:MS X la lb) (qq:QHi X la lb Q t (ST X p pd g)) (I:MH X la lb q na nb) (h1:0 < na) (h2:1 < nb) (h4:na≤la.length) (h5:nb≤lb.length) (ht:na - 1+nb+t≤la.length+lb.length) (B2:∀y∈lb.take nb,X.Lt y (la[na - 1]'(by omega))):W X (hiC (X.arr la) (X.arr lb) mg ac bc na (X.arr q.reverse) nb) Q (ST X p pd g):=by
 have hNA:na - 1 < la.length:=by omega
 unfold hiC
 refine aK (jF hNA ?_)
 rw [Jz]
 have I:=I.takeA M (k:=na - 1) (by omega) (fun x hx y hy=>by rw [mU (by omega) (by omega)] at hx;rw [List.mem_singleton.mp hx];exact B2 y hy)
 rw [mU (by omega) (by omega)] at I
 by_cases c4:(na - 1==0)=true
 ·rw [if_pos c4]
  exact aJ (qq.dn _ _ (I.done M (.inl (by simpa using c4))) (congrArg some (xN _ _ _)))
 rw [if_neg c4]
 have z:=qq.nx _ _ _ mg ac bc I (by simp at c4;omega) h2 (by omega) h5 ht
 split
 ·exact aJ z.1
 ·exact aJ z.2
theorem Nt (M:MS X la lb) (hb:0 < lb.length) (qq:QHi X la lb Q t (ST X p pd g)) (I:MH X la lb q na nb) (h1:0 < na) (h2:1 < nb) (h4:na≤la.length) (h5:nb≤lb.length) (ht:na - 1+(nb - 1)+t≤la.length+lb.length) (A2:∀y∈la.take na,X.Lt y (lb[nb - 1]'(by omega))):W X (hiB (X.arr la) (X.arr lb) mg ac bc na (X.arr q.reverse) nb) Q (ST X p pd g):=by
 have hB:nb - 1 < lb.length:=by omega
 have hNA:na - 1 < la.length:=by omega
 unfold hiB
 refine aK (jF hB ?_)
 rw [Jz]
 have I:=I.takeB M (k:=nb - 1) (by omega) (fun x hx y hy=>by rw [mU (by omega) (by omega)] at hx;rw [List.mem_singleton.mp hx];exact A2 y hy)
 rw [mU (by omega) (by omega)] at I
 by_cases c2:(nb - 1==1)=true
 ·rw [if_pos c2]
  exact aJ (qq.dn _ _ (I.fstB M (by simpa using c2) hb) (congrArg some (xN _ _ _)))
 rw [if_neg c2]
 have h2':1 < nb - 1:=by simp at c2;omega
 clear A2 c2
 refine aK (jF hNA ?_)
 refine aK (jB (left:=true) (key:=la[na - 1]) (l:=lb) (base:=0) (m:=nb - 1) (hint:=nb - 1 - 1) (M.na _ (List.getElem_mem hNA)) M.nb (by omega) (by omega) (sJ M.sb (by omega)) fun k l1 l2 l3=>?_)
 dsimp only
 have B2:∀y∈lb.take k,X.Lt y la[na - 1]:=fun y hy=>by
  obtain ⟨j,j1,j2,rfl⟩:=gD hy
  have:=l2 j j1
  rw [Nat.zero_add,pX j2] at this
  exact this
 by_cases ck:nb - 1 - k > 0
 ·rw [if_pos ck,Nq]
  have I:=I.takeB M (k:=k) (by omega) fun x hx y hy=>by
   obtain ⟨j,j1,j2,j3,rfl⟩:=mV hx
   obtain ⟨j',j4,j5,rfl⟩:=gD hy
   have:=l3 j j1 j2
   rw [Nat.zero_add,pX j3] at this
   exact Bx M.sa hNA (by omega) (M.ro (List.getElem_mem hNA) (List.getElem_mem j3) this)
  by_cases c3:(k==1)=true
  ·rw [if_pos c3]
   exact aJ (qq.dn _ _ (I.fstB M (by simpa using c3) hb) (congrArg some (xN _ _ _)))
  rw [if_neg c3]
  by_cases c3':(k==0)=true
  ·rw [if_pos c3']
   exact aJ (qq.dn _ _ (I.done M (.inr (by simpa using c3'))) (congrArg some (xN _ _ _)))
  rw [if_neg c3']
  exact Nr M qq I h1 (by simp at c3 c3';omega) h4 (by omega) (by omega) B2
 ·rw [if_neg ck]
  obtain rfl:k=nb - 1:=by omega
  exact Nr M qq I h1 h2' h4 (by omega) ht B2
theorem R0 (M:MS X la lb) (hb:0 < lb.length) (qq:QHi X la lb Q t (ST X p pd mg)) (I:MH X la lb q na nb) (h1:0 < na) (h2:1 < nb) (h4:na≤la.length) (h5:nb≤lb.length) (ht:na - 1+(nb - 1)+t≤la.length+lb.length):W X (hiA (X.arr la) (X.arr lb) na nb (X.arr q.reverse) mg ac bc) Q (ST X p pd g):=by
 have hB0:nb - 1 < lb.length:=by omega
 unfold hiA
 refine aK (oN ?_)
 refine aK (jF hB0 ?_)
 refine aK (jB (left:=false) (key:=lb[nb - 1]) (l:=la) (base:=0) (m:=na) (hint:=na - 1) (M.nb _ (List.getElem_mem hB0)) M.na (by omega) (by omega) (sI M.sa (by omega)) fun k k1 k2 k3=>?_)
 dsimp only
 have A2:∀y∈la.take k,X.Lt y lb[nb - 1]:=fun y hy=>by
  obtain ⟨j,j1,j2,rfl⟩:=gD hy
  have:=k2 j j1
  rw [Nat.zero_add,pW j2] at this
  exact M.ro (List.getElem_mem j2) (List.getElem_mem hB0) (by simpa using this)
 by_cases ck:na - k > 0
 ·rw [if_pos ck,Nq]
  have I:=I.takeA M (k:=k) k1 fun x hx y hy=>by
   obtain ⟨j,j1,j2,j3,rfl⟩:=mV hx
   obtain ⟨j',j4,j5,rfl⟩:=gD hy
   have:=k3 j j1 j2
   rw [Nat.zero_add,pW j3] at this
   exact Bx M.sb hB0 (by omega) (by simpa using this)
  by_cases c':(k==0)=true
  ·rw [if_pos c']
   exact aJ (qq.dn _ _ (I.done M (.inl (by simpa using c'))) (congrArg some (xN _ _ _)))
  rw [if_neg c']
  exact Nt M hb qq I (by simp at c';omega) h2 (by omega) h5 (by omega) A2
 ·rw [if_neg ck]
  obtain rfl:k=na:=by omega
  exact Nt M hb qq I h1 h2 h4 h5 ht A2
end
section
variable (X:Ctx) (la lb:List Nat) (p:Array Nat) (pd:Array (Nat × Nat × Nat)) (k:Nat)
inductive Hi1 (b:Option (Array Keyed) × Nat × Nat × Array Keyed × Nat) (st':SortSt):Prop where
 | mk (g':Nat) (q:List Nat) (na nb mg:Nat) (z1:st'=ST X p pd g') (z2:b=(none,na,nb,X.arr q.reverse,mg)) (z3:MH X la lb q na nb) (z4:0 < na) (z5:1 < nb) (z6:na≤la.length) (z7:nb≤lb.length) (z8:na+nb+k+1≤la.length+lb.length)
inductive Hi2 (g' j:Nat) (b:Option (Array Keyed) × Nat × Nat × Array Keyed × Nat × Nat) (st':SortSt):Prop where
 | mk (z0:st'=ST X p pd g') (q:List Nat) (na nb ac bc:Nat) (z2:b=(none,na,nb,X.arr q.reverse,ac,bc)) (z3:MH X la lb q na nb) (z4:0 < na) (z5:1 < nb) (z6:na≤la.length) (z7:nb≤lb.length) (z8:na+nb+k+1+j≤la.length+lb.length)
inductive Uq (b:Option (Array Keyed) × Nat × Nat × Array Keyed × Nat × Nat):Prop where
 | mk (q:List Nat) (na nb ac bc:Nat) (z2:b=(none,na,nb,X.arr q.reverse,ac,bc)) (z3:MH X la lb q na nb) (z4:0 < na) (z5:1 < nb) (z6:na≤la.length) (z7:nb≤lb.length) (z8:na+nb+k+2≤la.length+lb.length)
inductive Hi3 (j:Nat) (b:HS) (st':SortSt):Prop where
 | mk (g':Nat) (q:List Nat) (na nb mg ac bc:Nat) (z1:st'=ST X p pd g') (z2:b=(none,na,nb,X.arr q.reverse,mg,ac,bc)) (z3:MH X la lb q na nb) (z4:0 < na) (z5:1 < nb) (z6:na≤la.length) (z7:nb≤lb.length) (z8:na+nb+k+2+j≤la.length+lb.length)
inductive Ur (b:HS):Prop where
 | mk (q:List Nat) (na nb mg ac bc:Nat) (z2:b=(none,na,nb,X.arr q.reverse,mg,ac,bc)) (z3:MH X la lb q na nb) (z4:0 < na) (z5:1 < nb) (z6:na≤la.length) (z7:nb≤lb.length) (z8:na+nb+k+2≤la.length+lb.length)
inductive Us (b:HS) (st':SortSt):Prop where
 | mk (g':Nat) (z0:st'=ST X p pd g') (z1:LoR X la lb b.1∨Ur X la lb k b)
end
theorem Ea {la lb:List Nat} {Q:Array Keyed→SortSt→Prop} {p:Array Nat} {pd:Array (Nat × Nat × Nat)} {g:Nat} (M:MS X la lb) (ha:0 < la.length) (hb:0 < lb.length) (h:∀r g',MR X la lb r→Q (X.arr r) (ST X p pd g')):W X (sH (X.arr la) (X.arr lb)) Q (ST X p pd g):=by
 rw [xH]
 refine aK (pK ?_)
 try dsimp only
 simp only [jC]
 refine aK (jF (show la.length - 1 < la.length by omega) ?_)
 have e0:(#[X.item la[la.length - 1]]:Array Keyed)=X.arr [la[la.length - 1]].reverse:=rfl
 rw [e0]
 have I0:MH X la lb [la[la.length - 1]] (la.length - 1) lb.length:=by
  have z:MH X la lb [] la.length lb.length:=⟨by rw [List.take_length,List.take_length,List.append_nil],List.Pairwise.nil,fun y _ x hx=>absurd hx List.not_mem_nil,fun y _ x hx=>absurd hx List.not_mem_nil⟩
  have:=z.takeA M (k:=la.length - 1) (by omega) fun x hx y hy=>by
   rw [mU ha (Nat.le_refl _)] at hx
   rw [List.mem_singleton.mp hx]
   exact M.lst (by omega) y (List.mem_of_mem_take hy)
  rw [mU ha (Nat.le_refl _)] at this
  exact this
 have dn:∀q na nb,(X.arr la).extract 0 na++(X.arr lb).extract 0 nb++(X.arr q.reverse).reverse=X.arr (la.take na++lb.take nb++q):=fun q na nb=>by
  rw [dU,dU,mJ,cX,cX,List.reverse_reverse,List.drop_zero,List.drop_zero,Nat.sub_zero,Nat.sub_zero]
 have fb:∀q na nb,(X.arr lb).extract 0 nb++(X.arr la).extract 0 na++(X.arr q.reverse).reverse=X.arr (lb.take nb++la.take na++q):=fun q na nb=>by
  rw [dU,dU,mJ,cX,cX,List.reverse_reverse,List.drop_zero,List.drop_zero,Nat.sub_zero,Nat.sub_zero]
 have tkA:∀q k n,X.arr q.reverse++((X.arr la).extract k n).reverse=X.arr ((la.take n).drop k++q).reverse:=fun q k n=>by
  rw [dU,mJ,cX,List.reverse_append,List.drop_take]
 have tkB:∀q k n,X.arr q.reverse++((X.arr lb).extract k n).reverse=X.arr ((lb.take n).drop k++q).reverse:=fun q k n=>by
  rw [dU,mJ,cX,List.reverse_append,List.drop_take]
 have psh:∀(q:List Nat) (x:Nat),(X.arr q.reverse).push (X.item x)=X.arr (x::q).reverse:=fun q x=>by
  rw [jD,List.reverse_cons]
 by_cases c1:(la.length - 1==0)=true
 ·rw [if_pos c1,dn]
  exact aJ (h _ _ (I0.done M (.inl (by simpa using c1))))
 rw [if_neg c1]
 by_cases c2:(lb.length==1)=true
 ·rw [if_pos c2,fb]
  exact aJ (h _ _ (I0.fstB M (by simpa using c2) hb))
 rw [if_neg c2]
 have l1:0 < la.length - 1:=by simp at c1;omega
 have l2:1 < lb.length:=by simp at c2;omega
 refine aK (km ?_)
 refine gh (Post:=fun b st'=>RZ X la lb p pd b.1 st')
  (fun k b st'=>Hi1 X la lb p pd k b st')
  ⟨g,[la[la.length - 1]],la.length - 1,lb.length,_,rfl,rfl,I0,l1,l2,by omega,by omega,by omega⟩ ?_ ?_ ?_
 ·rintro k b st' hk ⟨g',q,na,nb,mg,rfl,rfl,I,h1,h2,h4,h5,h3⟩
  try dsimp only
  refine gh (Post:=fun b st'=>st'=ST X p pd g'∧(LoR X la lb b.1∨Uq X la lb k b))
   (fun j b st'=>Hi2 X la lb p pd k g' j b st') ⟨rfl,q,na,nb,0,0,rfl,I,h1,h2,h4,h5,by omega⟩ ?_ ?_ ?_
  ·rintro j b st' hj ⟨rfl,q,na,nb,ac,bc,rfl,I,h1,h2,h4,h5,h3⟩
   try dsimp only
   have hia:na - 1 < la.length:=by omega
   have hib:nb - 1 < lb.length:=by omega
   refine aK (jF hib (aK (jF hia (aK (Jw (M.nb _ (List.getElem_mem hib)) (M.na _ (List.getElem_mem hia)) ?_)))))
   try dsimp only
   cases e:X.lt lb[nb - 1] la[na - 1] with
   | true=>
    rw [if_pos rfl]
    refine aK (jF hia ?_)
    try dsimp only
    rw [psh]
    have I:=I.takeA M (k:=na - 1) (by omega) (fun x hx y hy=>by
     rw [mU (by omega) (by omega)] at hx
     rw [List.mem_singleton.mp hx]
     obtain ⟨j',j3,j4,rfl⟩:=gD hy
     exact Bx M.sb hib (by omega) e)
    rw [mU (by omega) (by omega)] at I
    by_cases c:(na - 1==0)=true
    ·rw [if_pos c]
     exact aJ ⟨rfl,.inl ⟨_,congrArg some (dn _ _ _),I.done M (.inl (by simpa using c))⟩⟩
    rw [if_neg c]
    have h1':0 < na - 1:=by simp at c;omega
    split
    ·exact aJ ⟨rfl,.inr ⟨_,_,_,_,_,rfl,I,h1',h2,by omega,by omega,by omega⟩⟩
    ·exact aJ ⟨rfl,_,_,_,_,_,rfl,I,h1',h2,by omega,by omega,by omega⟩
   | false=>
    rw [if_neg (by decide)]
    refine aK (jF hib ?_)
    try dsimp only
    rw [psh]
    have I:=I.takeB M (k:=nb - 1) (by omega) (fun x hx y hy=>by
     rw [mU (by omega) (by omega)] at hx
     rw [List.mem_singleton.mp hx]
     obtain ⟨j',j3,j4,rfl⟩:=gD hy
     exact Bx M.sa hia (by omega) (M.ro (List.getElem_mem hia) (List.getElem_mem hib) e))
    rw [mU (by omega) (by omega)] at I
    by_cases c:(nb - 1==1)=true
    ·rw [if_pos c]
     exact aJ ⟨rfl,.inl ⟨_,congrArg some (fb _ _ _),I.fstB M (by simpa using c) hb⟩⟩
    rw [if_neg c]
    have h2':1 < nb - 1:=by simp at c;omega
    split
    ·exact aJ ⟨rfl,.inr ⟨_,_,_,_,_,rfl,I,h1,h2',by omega,by omega,by omega⟩⟩
    ·exact aJ ⟨rfl,_,_,_,_,_,rfl,I,h1,h2',by omega,by omega,by omega⟩
  ·rintro b st' ⟨rfl,q,na,nb,ac,bc,rfl,I,h1,h2,h4,h5,h3⟩
   omega
  ·rintro b st' ⟨rfl,z⟩
   rcases z with ⟨r,e,mr⟩ | ⟨q,na,nb,ac,bc,rfl,I,h1,h2,h4,h5,h3⟩
   ·obtain ⟨b1,b2⟩:=b
    dsimp only at e
    subst e
    exact aJ ⟨g',r,rfl,rfl,mr⟩
   try dsimp only
   refine aK (pK ?_)
   refine gh (Post:=fun b st'=>Us X la lb p pd k b st')
    (fun j b st'=>Hi3 X la lb p pd k j b st') ⟨g',q,na,nb,_,_,_,rfl,rfl,I,h1,h2,h4,h5,by omega⟩ ?_ ?_ ?_
   ·rintro j b st' hj ⟨g',q,na,nb,mg,ac,bc,rfl,rfl,I,h1,h2,h4,h5,h3⟩
    try dsimp only
    show W X (if mg > 1 then hiA (X.arr la) (X.arr lb) na nb (X.arr q.reverse) (mg - 1) ac bc else hiA (X.arr la) (X.arr lb) na nb (X.arr q.reverse) mg ac bc) _ _
    refine Jy (F:=fun m=>hiA (X.arr la) (X.arr lb) na nb (X.arr q.reverse) m ac bc) fun m=>?_
    refine R0 (t:=k+2+(j+1)) M hb ⟨fun r b mr e=>?_,fun q na nb mg ac bc I a b c d e=>⟨?_,?_⟩⟩ I h1 h2 h4 h5 (by omega)
    ·exact ⟨_,rfl,.inl ⟨r,e,mr⟩⟩
    ·exact ⟨_,rfl,.inr ⟨_,_,_,_,_,_,rfl,I,a,b,c,d,by omega⟩⟩
    ·exact ⟨_,_,_,_,_,_,_,rfl,rfl,I,a,b,c,d,by omega⟩
   ·rintro b st' ⟨g',q,na,nb,mg,ac,bc,rfl,rfl,I,h1,h2,h4,h5,h3⟩
    omega
   ·rintro b st' ⟨g',rfl,z⟩
    rcases z with ⟨r,e,mr⟩ | ⟨q,na,nb,mg,ac,bc,rfl,I,h1,h2,h4,h5,h3⟩
    ·obtain ⟨b1,b2⟩:=b
     dsimp only at e
     subst e
     exact aJ ⟨g',r,rfl,rfl,mr⟩
    try dsimp only
    exact aK (oN (aJ ⟨_,_,_,_,_,rfl,rfl,I,h1,h2,h4,h5,by omega⟩))
 ·rintro b st' ⟨g',q,na,nb,mg,rfl,rfl,I,h1,h2,h4,h5,h3⟩
  omega
 ·rintro b st' ⟨g',r,rfl,e,mr⟩
  obtain ⟨b1,b2⟩:=b
  dsimp only at e
  subst e
  exact aJ (h r g' mr)
open PySem PySem.Spec PyProof.Rows L3 PySem.W
variable {X:Ctx}
theorem Qa {β:Type} {a N:Nat} {b:β} {f:Nat→β→StateT SortSt Sem (ForInStep β)} {Q:β→SortSt→Prop} {st:SortSt} (Inv:Nat→β→SortSt→Prop) (h0:Inv 0 b st)
  (step:∀k b st,k < N - a→Inv k b st→W X (f (a+k) b) (fun r st'=>match r with | .done b'=>Q b' st' | .yield b'=>Inv (k+1) b' st') st) (fin:∀b st,Inv (N - a) b st→Q b st):W X (forIn [a:N] b f) Q st:=by
 refine kasC_range ?_
 have gen:∀(m k:Nat) (b:β) (st:SortSt),k+m=N - a→Inv k b st→kasC (model X.prog X.w) X.A X.E (forIn (List.range' (a+k) m) b f) (fun a st' s'=>s'=X.s∧Q a st') st X.s:=by
  intro m
  induction m with
  | zero=>
   intro k b st e h
   have:k=N - a:=by omega
   subst this
   exact kasC_nil ⟨rfl,fin b st h⟩
  | succ m ih=>
   intro k b st e h
   rw [List.range'_succ]
   refine kasC_cons ?_
   have s1:=step k b st (by omega) h
   unfold W kasC at s1
   unfold kasC
   refine wpAny_mono s1 (fun r s' z=>?_) fun _ _ e=>e
   obtain ⟨r1,st'⟩:=r
   cases r1 with
   | done b'=>exact z
   | yield b'=>
    obtain ⟨e1,z2⟩:=z
    rw [e1]
    exact ih (k+1) b' st' (by omega) z2
 exact gen (N - a) 0 b st (by omega) h0
theorem qF {α β:Type} {a N:Nat} {b:β} {f:Nat→β→StateT SortSt Sem (ForInStep β)} {cont:β→StateT SortSt Sem α} {Q:α→SortSt→Prop} {st:SortSt} (Post:β→SortSt→Prop) (Inv:Nat→β→SortSt→Prop) (h0:Inv 0 b st)
  (step:∀k b st,k < N - a→Inv k b st→W X (f (a+k) b) (fun r st'=>match r with | .done b'=>Post b' st' | .yield b'=>Inv (k+1) b' st') st) (fin:∀b st,Inv (N - a) b st→Post b st) (k:∀b st,Post b st→W X (cont b) Q st):W X (forIn [a:N] b f >>=cont) Q st:=
 aK (Ju (Qa Inv h0 step fin) k)
section
variable {p:Array Nat} {pd:Array (Nat × Nat × Nat)} {g:Nat}
theorem pL {i j:Nat} {Q:Option Bool→SortSt→Prop} (ab:AB X.n p) (hi:i < X.n) (hj:j < X.n) (h:Q (some (X.lt (gx p i) (gx p j))) (ST X p pd g)):W X (ltAt' i j) Q (ST X p pd g):=by
 have sz:=ab.size
 have get:∀k,k < X.n→(arrOf (ST X p pd g))[k]?=some (X.item (gx p k)):=fun k hk=>by
  show (p.map X.item)[k]?=_
  have e:gx p k=p[k]'(by omega):=by simp [gx,Array.getD,show k < p.size by omega]
  rw [e]
  simp [show k < p.size by omega]
 rw [ltAt'_eq]
 refine aK (km ?_)
 show W X (do let x ←elem' (arrOf (ST X p pd g)) i;let y ←elem' (arrOf (ST X p pd g)) j;lt' x y) Q _
 rw [elem'_eq,elem'_eq,get i hi,get j hj]
 refine aK (aJ (aK (aJ ?_)))
 exact Jw (ab.at (by omega) i) (ab.at (by omega) j) h
theorem R5 {i j:Nat} {Q:Unit→SortSt→Prop} (h:Q () (ST X (kas_rev p i j) pd g)):W X (reverseSlice' i j) Q (ST X p pd g):=by
 rw [reverseSlice'_eq]
 refine fV ?_
 have e:setArr (ST X p pd g) (mirror (arrOf (ST X p pd g)) i j ((j - i) / 2))=ST X (kas_rev p i j) pd g:=by
  show SortSt.mk' X.κ (mirror (p.map X.item) i j ((j - i) / 2)) pd g none=SortSt.mk' X.κ ((mirror p i j ((j - i) / 2)).map X.item) pd g none
  have e1:mirror (p.map X.item) i j ((j - i) / 2)=(mirror p i j ((j - i) / 2)).map X.item:=kas_swaps_map X.item (fun k=>i+k) (fun k=>j - 1 - k) _ p
  rw [e1]
 rw [e]
 exact h
theorem Qc {k l:Nat} {Q:Unit→SortSt→Prop} (h:Q () (ST X (bubble p k (k - l)) pd g)):W X (moveDown' k l) Q (ST X p pd g):=by
 rw [moveDown'_eq]
 refine fV ?_
 have e:setArr (ST X p pd g) (bubble (arrOf (ST X p pd g)) k (k - l))=ST X (bubble p k (k - l)) pd g:=by
  show SortSt.mk' X.κ (bubble (p.map X.item) k (k - l)) pd g none=SortSt.mk' X.κ ((bubble p k (k - l)).map X.item) pd g none
  have e1:bubble (p.map X.item) k (k - l)=(bubble p k (k - l)).map X.item:=kas_swaps_map X.item (fun i=>k - i) (fun i=>k - i - 1) _ p
  rw [e1]
 rw [e]
 exact h
end
noncomputable def Seg (X:Ctx) (p:Array Nat) (lo hi:Nat):Prop:=∀a b,lo≤a→a < b→b < hi→X.Lt (gx p a) (gx p b)
structure But (X:Ctx) (p q:Array Nat) (lo hi:Nat):Prop where
 ab:AB X.n q
 out:∀i,i < lo∨hi≤i→gx q i=gx p i
theorem But.rfl' {p:Array Nat} {lo hi:Nat} (h:AB X.n p):But X p p lo hi:=⟨h,fun _ _=>rfl⟩
theorem But.trans {p q r:Array Nat} {lo hi:Nat} (h:But X p q lo hi) (h2:But X q r lo hi):But X p r lo hi:=⟨h2.ab,fun i z=>(h2.out i z).trans (h.out i z)⟩
theorem But.wide {p q:Array Nat} {lo hi lo' hi':Nat} (h:But X p q lo hi) (h1:lo'≤lo) (h2:hi≤hi'):But X p q lo' hi':=⟨h.ab,fun i z=>h.out i (by omega)⟩
theorem Seg.succ {p:Array Nat} {lo k:Nat} (s:Seg X p lo (lo+k)) (h1:1≤k) (h:X.Lt (gx p (lo+k - 1)) (gx p (lo+k))):Seg X p lo (lo+(k+1)):=fun a b ha hab hb=>by
 by_cases e:b=lo+k
 ·subst e
  by_cases e2:a=lo+k - 1
  ·rw [e2];exact h
  ·exact X.ok.tr _ _ _ (s a (lo+k - 1) ha (by omega) (by omega)) h
 ·exact s a b ha hab (by omega)
theorem or' {p:Array Nat} (ab:AB X.n p) {a b:Nat} (ha:a < X.n) (hb:b < X.n) (ne:a≠b) (f:X.lt (gx p a) (gx p b)=false):X.Lt (gx p b) (gx p a):=X.ok.or ab ha hb ne f
theorem Mt {p:Array Nat} {pd:Array (Nat × Nat × Nat)} {g:Nat} {lo nrem:Nat} {Q:Option Nat→SortSt→Prop} (ab:AB X.n p) (h1:1≤nrem) (hn:lo+nrem≤X.n)
  (h:∀m q,1≤m→m≤nrem→But X p q lo (lo+nrem)→Seg X q lo (lo+m)→Q (some m) (ST X q pd g)):W X (countRun' lo nrem) Q (ST X p pd g):=by
 rw [countRun'_eq]
 refine qF (Post:=fun b st'=>st'=ST X p pd g∧∃m,b=(none,m)∧1≤m∧m≤nrem∧Seg X p lo (lo+m)∧(m < nrem→X.Lt (gx p (lo+m)) (gx p (lo+m - 1))))
  (fun k b st'=>st'=ST X p pd g∧b=(none,k+1)∧Seg X p lo (lo+(k+1))) ⟨rfl,rfl,fun a b _ _ _=>by omega⟩ ?_ ?_ ?_
 ·rintro k b st' hk ⟨rfl,rfl,sg⟩
  try dsimp only
  refine aK (pL ab (by omega) (by omega) ?_)
  try dsimp only
  cases e:X.lt (gx p (lo+(k+1))) (gx p (lo+(k+1) - 1)) with
  | true=>
   rw [if_pos rfl]
   exact aJ ⟨rfl,k+1,rfl,by omega,by omega,sg,fun _=>e⟩
  | false=>
   rw [if_neg (by decide)]
   exact aJ ⟨rfl,rfl,sg.succ (by omega) (or' ab (by omega) (by omega) (by omega) e)⟩
 ·rintro b st' ⟨rfl,rfl,sg⟩
  exact ⟨rfl,nrem - 1+1,rfl,by omega,by omega,sg,fun z=>by omega⟩
 ·rintro b st' ⟨rfl,m,rfl,m1,m2,sg,dw⟩
  try dsimp only
  by_cases c:(m==nrem)=true
  ·rw [if_pos c]
   exact aJ (h m p m1 m2 (But.rfl' ab) sg)
  rw [if_neg c]
  have m3:m < nrem:=by simp at c;omega
  by_cases c2:m > 1
  ·rw [if_pos c2]
   refine aK (pL ab (by omega) (by omega) ?_)
   try dsimp only
   have e:X.lt (gx p lo) (gx p (lo+m - 1))=true:=sg lo (lo+m - 1) (Nat.le_refl _) (by omega) (by omega)
   rw [e,if_pos rfl]
   exact aJ (h m p m1 m2 (But.rfl' ab) sg)
  ·rw [if_neg c2]
   have e1:m=1:=by omega
   subst e1
   have d0:=dw m3
   refine aK (pK ?_)
   refine qF (Post:=fun b st'=>st'=ST X p pd g∧∃k,b=(none,k,0)∧2≤k∧k≤nrem∧∀a b,lo≤a→a < b→b < lo+k→X.Lt (gx p b) (gx p a))
    (fun k b st'=>st'=ST X p pd g∧b=(none,k+2,0)∧∀a b,lo≤a→a < b→b < lo+(k+2)→X.Lt (gx p b) (gx p a)) ⟨rfl,rfl,fun a b h1 h2 h3=>?_⟩ ?_ ?_ ?_
   ·have ea:a=lo:=by omega
    have eb:b=lo+1:=by omega
    rw [ea,eb]
    exact d0
   ·rintro k b st' hk ⟨rfl,rfl,ds⟩
    try dsimp only
    refine aK (pL ab (by omega) (by omega) ?_)
    try dsimp only
    cases e:X.lt (gx p (lo+(k+2))) (gx p (lo+(k+2) - 1)) with
    | true=>
     rw [if_pos rfl,if_neg (by omega)]
     refine aJ ⟨rfl,rfl,fun a b h1 h2 h3=>?_⟩
     by_cases eb:b=lo+(k+2)
     ·subst eb
      by_cases ea:a=lo+(k+2) - 1
      ·rw [ea];exact e
      ·exact X.ok.tr _ _ _ e (ds a _ h1 (by omega) (by omega))
     ·exact ds a b h1 h2 (by omega)
    | false=>
     rw [if_neg (by decide)]
     refine aK (pL ab (by omega) (by omega) ?_)
     try dsimp only
     have e2:X.lt (gx p (lo+(k+2) - 1)) (gx p (lo+(k+2)))=true:=or' ab (by omega) (by omega) (by omega) e
     rw [e2,if_pos rfl]
     exact aJ ⟨rfl,k+2,rfl,by omega,by omega,ds⟩
   ·rintro b st' ⟨rfl,rfl,ds⟩
    exact ⟨rfl,nrem - (1+1)+2,rfl,by omega,by omega,ds⟩
   ·rintro b st' ⟨rfl,k,rfl,k1,k2,ds⟩
    try dsimp only
    rw [if_neg (by omega)]
    refine aK (R5 ?_)
    have sz:=ab.size
    have abq:=ab.rev lo (lo+k)
    have rv:∀i,gx (kas_rev p lo (lo+k)) i=if lo≤i∧i < lo+k then gx p (lo+(lo+k) - 1 - i) else gx p i:=fun i=>by
     have z:=getElem?_mirror_all (xs:=p) (i:=lo) (j:=lo+k) (by omega) i
     by_cases c:lo≤i∧i < lo+k
     ·rw [if_pos c] at z ⊢
      exact uJ z
     ·rw [if_neg c] at z ⊢
      exact uJ z
    have bt:But X p (kas_rev p lo (lo+k)) lo (lo+nrem):=⟨abq,fun i z=>by rw [rv,if_neg (by omega)]⟩
    have sq:Seg X (kas_rev p lo (lo+k)) lo (lo+k):=fun a b h1 h2 h3=>by
     rw [rv,rv,if_pos ⟨h1,by omega⟩,if_pos ⟨by omega,h3⟩]
     exact ds _ _ (by omega) (by omega) (by omega)
    generalize kas_rev p lo (lo+k)=q at abq rv bt sq ⊢
    refine qF (Post:=fun b st'=>st'=ST X q pd g∧∃m,b=(none,m)∧1≤m∧m≤nrem∧Seg X q lo (lo+m))
     (fun j b st'=>st'=ST X q pd g∧b=(none,k+j)∧Seg X q lo (lo+(k+j))) ⟨rfl,rfl,sq⟩ ?_ ?_ ?_
    ·rintro j b st' hj ⟨rfl,rfl,sg⟩
     try dsimp only
     refine aK (pL abq (by omega) (by omega) ?_)
     try dsimp only
     cases e:X.lt (gx q (lo+(k+j))) (gx q (lo+(k+j) - 1)) with
     | true=>
      rw [if_pos rfl]
      exact aJ ⟨rfl,k+j,rfl,by omega,by omega,sg⟩
     | false=>
      rw [if_neg (by decide)]
      exact aJ ⟨rfl,rfl,sg.succ (by omega) (or' abq (by omega) (by omega) (by omega) e)⟩
    ·rintro b st' ⟨rfl,rfl,sg⟩
     exact ⟨rfl,k+(nrem - k),rfl,by omega,by omega,sg⟩
    ·rintro b st' ⟨rfl,m,rfl,m1,m2,sg⟩
     exact aJ (h m q m1 m2 bt sg)
theorem R6 {p:Array Nat} {pd:Array (Nat × Nat × Nat)} {g:Nat} {lo n ok:Nat} {Q:Bool→SortSt→Prop} (ab:AB X.n p) (hn:lo+n≤X.n) (h1:1≤ok) (h2:ok≤n) (sg:Seg X p lo (lo+ok))
  (h:∀q,But X p q lo (lo+n)→Seg X q lo (lo+n)→Q true (ST X q pd g)):W X (binarySort' lo n ok) Q (ST X p pd g):=by
 rw [binarySort'_eq]
 have mx:max ok 1=ok:=by omega
 rw [mx]
 refine qF (Post:=fun b st'=>∃q,st'=ST X q pd g∧b.1=none∧But X p q lo (lo+n)∧Seg X q lo (lo+n))
  (fun k b st'=>∃q,st'=ST X q pd g∧b.1=none∧But X p q lo (lo+n)∧Seg X q lo (lo+(ok+k))) ⟨p,rfl,rfl,But.rfl' ab,sg⟩ ?_ ?_ ?_
 ·rintro k b st' hk ⟨q,rfl,hb,bt,sg⟩
  try dsimp only
  have abq:=bt.ab
  have sz:=abq.size
  refine gh (Post:=fun b st'=>st'=ST X q pd g∧∃l,b=(none,l,l)∧l≤ok+k∧(∀a,a < l→X.Lt (gx q (lo+a)) (gx q (lo+(ok+k))))∧∀a,l≤a→a < ok+k→X.Lt (gx q (lo+(ok+k))) (gx q (lo+a)))
   (fun j b st'=>st'=ST X q pd g∧∃l r,b=(none,l,r)∧l≤r∧r≤ok+k∧r - l≤ok+k - j∧(∀a,a < l→X.Lt (gx q (lo+a)) (gx q (lo+(ok+k))))∧∀a,r≤a→a < ok+k→X.Lt (gx q (lo+(ok+k))) (gx q (lo+a))) ⟨rfl,0,ok+k,rfl,by omega,by omega,by omega,fun a z=>by omega,fun a z1 z2=>by omega⟩ ?_ ?_ ?_
  ·rintro j b st' hj ⟨rfl,l,r,rfl,l1,l2,l3,l4,l5⟩
   try dsimp only
   by_cases c:l ≥ r
   ·rw [if_pos c]
    have:l=r:=by omega
    subst this
    exact aJ ⟨rfl,l,rfl,l2,l4,l5⟩
   ·rw [if_neg c]
    refine aK (pL abq (by omega) (by omega) ?_)
    try dsimp only
    cases e:X.lt (gx q (lo+(ok+k))) (gx q (lo+(l+r) / 2)) with
    | true=>
     rw [if_pos rfl]
     refine aJ ⟨rfl,l,(l+r) / 2,rfl,by omega,by omega,by omega,l4,fun a z1 z2=>?_⟩
     by_cases ea:a=(l+r) / 2
     ·rw [ea];exact e
     ·exact X.ok.tr _ _ _ e (sg _ _ (by omega) (by omega) (by omega))
    | false=>
     rw [if_neg (by decide)]
     have up:=or' abq (a:=lo+(ok+k)) (b:=lo+(l+r) / 2) (by omega) (by omega) (by omega) e
     refine aJ ⟨rfl,(l+r) / 2+1,r,rfl,by omega,by omega,by omega,fun a z=>?_,l5⟩
     by_cases ea:a=(l+r) / 2
     ·rw [ea];exact up
     ·exact X.ok.tr _ _ _ (sg _ _ (by omega) (by omega) (by omega)) up
  ·rintro b st' ⟨rfl,l,r,rfl,l1,l2,l3,l4,l5⟩
   have:l=r:=by omega
   subst this
   exact ⟨rfl,l,rfl,l2,l4,l5⟩
  ·rintro b' st' ⟨rfl,l,rfl,l2,l4,l5⟩
   try dsimp only
   refine aK (Qc ?_)
   have bb:∀i,gx (bubble q (lo+(ok+k)) (lo+(ok+k) - (lo+l))) i=if i=lo+l then gx q (lo+(ok+k)) else if lo+l < i∧i≤lo+(ok+k) then gx q (i - 1) else gx q i:=fun i=>zA (by omega) (by omega)
   have abq2:=abq.bub (lo+(ok+k)) (lo+(ok+k) - (lo+l))
   generalize bubble q (lo+(ok+k)) (lo+(ok+k) - (lo+l))=q2 at bb abq2 ⊢
   refine aJ ⟨q2,rfl,rfl,bt.trans ⟨abq2,fun i z=>?_⟩,fun a b ha hab hb2=>?_⟩
   ·rw [bb,if_neg (by omega),if_neg (by omega)]
   ·rw [bb,bb]
    by_cases a1:a=lo+l
    ·rw [if_pos a1,if_neg (by omega),if_pos ⟨by omega,by omega⟩]
     have:=l5 (b - 1 - lo) (by omega) (by omega)
     rw [show lo+(b - 1 - lo)=b - 1 by omega] at this
     exact this
    ·rw [if_neg a1]
     by_cases b1:b=lo+l
     ·rw [if_pos b1,if_neg (by omega)]
      have:=l4 (a - lo) (by omega)
      rw [show lo+(a - lo)=a by omega] at this
      exact this
     ·rw [if_neg b1]
      by_cases a2:lo+l < a∧a≤lo+(ok+k)
      ·rw [if_pos a2,if_pos ⟨by omega,by omega⟩]
       exact sg _ _ (by omega) (by omega) (by omega)
      ·rw [if_neg a2]
       by_cases b2:lo+l < b∧b≤lo+(ok+k)
       ·rw [if_pos b2]
        exact sg _ _ (by omega) (by omega) (by omega)
       ·rw [if_neg b2]
        exact sg _ _ (by omega) hab (by omega)
 ·rintro b st' ⟨q,rfl,hb,bt,sg⟩
  rw [show ok+(n - ok)=n by omega] at sg
  exact ⟨q,rfl,hb,bt,sg⟩
 ·rintro b st' ⟨q,rfl,hb,bt,sg⟩
  obtain ⟨b1,b2⟩:=b
  dsimp only at hb
  subst hb
  exact aJ (h q bt sg)
open PySem PySem.Spec PyProof.Rows L3 PySem.W
variable {X:Ctx}
theorem xO (i:Nat):mergeAt' i=(do
 let s ←get
 let (some (sa,na,power),some (sb,nb,_)):=((pendingOf s)[i]?,(pendingOf s)[i+1]?) | unsupported "internal:list.sort.pending"
 set (setPending s (((pendingOf s).setIfInBounds i (sa,na+nb,power)).eraseIdxIfInBounds (i+1)))
 let some k ←fX false (←elem' (arrOf s) sb) (arrOf s) sa na 0 | return false
 let (sa,na):=(sa+k,na - k)
 if na==0 then return true
 let some nb ←fX true (←elem' (arrOf s) (sa+na - 1)) (arrOf s) sb nb (nb - 1) | return false
 if nb==0 then return true
 let x:=(arrOf s).extract sa sb
 let y:=(arrOf s).extract sb (sb+nb)
 let merged ←if na≤nb then sG x y else sH x y
 modify fun s=>setArr s (merged.toList.zipIdx.foldl (fun a (p,j)=>a.setIfInBounds (sa+j) p) (arrOf s))
 return (failedOf (←get)).isNone):=rfl
theorem R7 {st st':SortSt} {Q:PUnit→SortSt→Prop} (h:Q ⟨⟩ st'):W X (set st') Q st:=by
 unfold W kasC
 rw [StateT.run_set]
 exact wpAny_pure ⟨rfl,h⟩
theorem JB {α:Type}:∀(r:List α) (a:Array α) (s o:Nat),s+o+r.length≤a.size→((r.zipIdx o).foldl (fun a (x:α × Nat)=>a.setIfInBounds (s+x.2) x.1) a).toList=a.toList.take (s+o)++r++a.toList.drop (s+o+r.length)
 | [],a,s,o,_=>by simp
 | x::r,a,s,o,h=>by
  rw [List.zipIdx_cons,List.foldl_cons]
  have hl:(x::r).length=r.length+1:=rfl
  rw [hl] at h
  rw [JB r (a.setIfInBounds (s+o) x) s (o+1) (by rw [Array.size_setIfInBounds];omega)]
  rw [Array.toList_setIfInBounds,hl]
  have e1:(a.toList.set (s+o) x).take (s+(o+1))=a.toList.take (s+o)++[x]:=by
   rw [show s+(o+1)=s+o+1 by omega,List.take_add_one,List.take_set_of_le (by omega)]
   congr 1
   rw [List.getElem?_set_self (by simp;omega)]
   rfl
  have e2:(a.toList.set (s+o) x).drop (s+(o+1)+r.length)=a.toList.drop (s+o+(r.length+1)):=by
   rw [show s+(o+1)+r.length=s+o+(r.length+1) by omega,List.drop_set_of_lt (by omega)]
  rw [e1,e2]
  simp
theorem qG {p:Array Nat} {i:Nat} (h:i < p.toList.length):gx p i=p.toList[i]:=by
 have h2:i < p.size:=by simpa using h
 simp [gx,Array.getD,h2]
theorem vV (p:Array Nat):p.map X.item=X.arr p.toList:=by
 unfold Ctx.arr
 apply Array.toList_inj.mp
 simp
theorem Eb {p:Array Nat} {pd:Array (Nat × Nat × Nat)} {g i sa na pw nb pw2:Nat} {Q:Bool→SortSt→Prop} (ab:AB X.n p) (e1:pd[i]?=some (sa,na,pw)) (e2:pd[i+1]?=some (sa+na,nb,pw2)) (hn:sa+na+nb≤X.n) (ha:0 < na) (hb:0 < nb) (s1:Seg X p sa (sa+na)) (s2:Seg X p (sa+na) (sa+na+nb))
  (h:∀q g',But X p q sa (sa+na+nb)→Seg X q sa (sa+na+nb)→Q true (ST X q ((pd.setIfInBounds i (sa,na+nb,pw)).eraseIdxIfInBounds (i+1)) g')):W X (mergeAt' i) Q (ST X p pd g):=by
 rw [xO]
 refine aK (km ?_)
 show W X (match (pd[i]?,pd[i+1]?) with | (some (sa,na,power),some (sb,nb,_))=>_ | _=>_) Q _
 rw [e1,e2]
 dsimp only
 refine aK (R7 ?_)
 show W X _ Q (ST X p ((pd.setIfInBounds i (sa,na+nb,pw)).eraseIdxIfInBounds (i+1)) g)
 generalize (pd.setIfInBounds i (sa,na+nb,pw)).eraseIdxIfInBounds (i+1)=pd' at h ⊢
 have ea:arrOf (ST X p pd g)=X.arr p.toList:=vV p
 rw [ea]
 have sz:=ab.size
 obtain ⟨L,eL⟩:∃L,L=p.toList:=⟨_,rfl⟩
 have hl:L.length=X.n:=by rw [eL];simpa using sz
 have gl:∀j (hj:j < L.length),gx p j=L[j]:=fun j hj=>by
  subst eL
  exact qG hj
 have ln:∀x∈L,x < X.n:=fun x hx=>by
  rw [eL] at hx
  exact ab.lt (by simpa using hx)
 rw [←eL]
 have hsb:sa+na < L.length:=by omega
 refine aK (jF hsb ?_)
 refine aK (jB (left:=false) (key:=L[sa+na]) (l:=L) (base:=sa) (m:=na) (hint:=0) (ln _ (List.getElem_mem hsb)) ln (by omega) (by omega) (fun a b hab hb' z=>?_) fun k k1 k2 k3=>?_)
 ·rw [pW (by omega)] at z ⊢
  cases e:X.lt L[sa+na] (L[sa+a]'(by omega)) with
  | false=>rfl
  | true=>
   have w:=s1 (sa+a) (sa+b) (by omega) (by omega) (by omega)
   rw [gl _ (by omega),gl _ (by omega)] at w
   rw [X.ok.tr _ _ _ e w] at z
   cases z
 try dsimp only
 have A1:∀j,j < k→X.Lt (gx p (sa+j)) (gx p (sa+na)):=fun j hj=>by
  have:=k2 j hj
  rw [pW (by omega),←gl _ (by omega),←gl _ (by omega)] at this
  exact or' ab (by omega) (by omega) (by omega) (by simpa using this)
 have A2:∀j,k≤j→j < na→X.Lt (gx p (sa+na)) (gx p (sa+j)):=fun j hj hj2=>by
  have:=k3 j hj hj2
  rw [pW (by omega),←gl _ (by omega),←gl _ (by omega)] at this
  simpa using this
 have le2:∀{x:Nat} c,sa+na≤c→c < sa+na+nb→X.Lt x (gx p (sa+na))→X.Lt x (gx p c):=fun {x} c h1 h2 h3=>by
  by_cases e:c=sa+na
  ·rw [e];exact h3
  ·exact X.ok.tr _ _ _ h3 (s2 (sa+na) c (Nat.le_refl _) (by omega) h2)
 by_cases c1:(na - k==0)=true
 ·rw [if_pos c1]
  have ek:k=na:=by simp at c1;omega
  subst ek
  refine aJ (h p g (But.rfl' ab) fun a b h1 h2 h3=>?_)
  by_cases hb2:b < sa+k
  ·exact s1 a b h1 h2 hb2
  ·by_cases ha2:sa+k≤a
   ·exact s2 a b ha2 h2 h3
   ·have:=A1 (a - sa) (by omega)
    rw [show sa+(a - sa)=a by omega] at this
    exact le2 b (by omega) h3 this
 rw [if_neg c1]
 have hk:k < na:=by simp at c1;omega
 have el:sa+k+(na - k) - 1=sa+na - 1:=by omega
 rw [el]
 have hs1:sa+na - 1 < L.length:=by omega
 refine aK (jF hs1 ?_)
 refine aK (jB (left:=true) (key:=L[sa+na - 1]) (l:=L) (base:=sa+na) (m:=nb) (hint:=nb - 1) (ln _ (List.getElem_mem hs1)) ln (by omega) (by omega) (fun a b hab hb' z=>?_) fun n2 l1 l2 l3=>?_)
 ·rw [pX (by omega)] at z ⊢
  have w:=s2 (sa+na+a) (sa+na+b) (by omega) (by omega) (by omega)
  rw [gl _ (by omega),gl _ (by omega)] at w
  exact X.ok.tr _ _ _ w z
 try dsimp only
 have B1:∀j,j < n2→X.Lt (gx p (sa+na+j)) (gx p (sa+na - 1)):=fun j hj=>by
  have:=l2 j hj
  rw [pX (by omega),←gl _ (by omega),←gl _ (by omega)] at this
  exact this
 have B2:∀j,n2≤j→j < nb→X.Lt (gx p (sa+na - 1)) (gx p (sa+na+j)):=fun j hj hj2=>by
  have:=l3 j hj hj2
  rw [pX (by omega),←gl _ (by omega),←gl _ (by omega)] at this
  exact or' ab (by omega) (by omega) (by omega) this
 have le1:∀{x:Nat} c,sa≤c→c < sa+na→X.Lt (gx p (sa+na - 1)) x→X.Lt (gx p c) x:=fun {x} c h1 h2 h3=>by
  by_cases e:c=sa+na - 1
  ·rw [e];exact h3
  ·exact X.ok.tr _ _ _ (s1 c (sa+na - 1) h1 (by omega) (by omega)) h3
 by_cases c2:(n2==0)=true
 ·rw [if_pos c2]
  have ek:n2=0:=by simpa using c2
  subst ek
  refine aJ (h p g (But.rfl' ab) fun a b h1 h2 h3=>?_)
  by_cases hb2:b < sa+na
  ·exact s1 a b h1 h2 hb2
  ·by_cases ha2:sa+na≤a
   ·exact s2 a b ha2 h2 h3
   ·have:=B2 (b - (sa+na)) (by omega) (by omega)
    rw [show sa+na+(b - (sa+na))=b by omega] at this
    exact le1 a h1 (by omega) this
 rw [if_neg c2]
 have hn2:0 < n2:=by simp at c2;omega
 rw [dU,dU]
 have ly:sa+na+n2 - (sa+na)=n2:=by omega
 rw [ly]
 obtain ⟨la,ela⟩:∃la,la=(L.drop (sa+k)).take (sa+na - (sa+k)):=⟨_,rfl⟩
 obtain ⟨lb,elb⟩:∃lb,lb=(L.drop (sa+na)).take n2:=⟨_,rfl⟩
 rw [←ela,←elb]
 have lla:la.length=na - k:=by rw [ela,List.length_take,List.length_drop];omega
 have llb:lb.length=n2:=by rw [elb,List.length_take,List.length_drop];omega
 have ga:∀j (hj:j < la.length),la[j]=gx p (sa+k+j):=fun j hj=>by
  rw [gl _ (by omega)]
  subst ela
  rw [List.getElem_take,List.getElem_drop]
 have gb:∀j (hj:j < lb.length),lb[j]=gx p (sa+na+j):=fun j hj=>by
  rw [gl _ (by omega)]
  subst elb
  rw [List.getElem_take,List.getElem_drop]
 have M:MS X la lb:=by
  refine ⟨?_,?_,fun x hx=>?_,fun x hx=>?_,fun x hx y hy=>?_,fun h0 y hy=>?_,fun h0 y hy=>?_⟩
  ·rw [List.pairwise_iff_getElem]
   intro a b ha hb hab
   rw [ga _ ha,ga _ hb]
   exact s1 _ _ (by omega) (by omega) (by omega)
  ·rw [List.pairwise_iff_getElem]
   intro a b ha hb hab
   rw [gb _ ha,gb _ hb]
   exact s2 _ _ (by omega) (by omega) (by omega)
  ·obtain ⟨j,hj,rfl⟩:=List.getElem_of_mem hx
   rw [ga _ hj]
   exact ab.at (by omega) _
  ·obtain ⟨j,hj,rfl⟩:=List.getElem_of_mem hx
   rw [gb _ hj]
   exact ab.at (by omega) _
  ·obtain ⟨j,hj,rfl⟩:=List.getElem_of_mem hx
   obtain ⟨j',hj',rfl⟩:=List.getElem_of_mem hy
   rw [ga _ hj,gb _ hj']
   intro z
   have:=ab.inj (by omega) (by omega) z
   omega
  ·obtain ⟨j,hj,rfl⟩:=List.getElem_of_mem hy
   rw [gb _ h0,ga _ hj]
   have:=A2 (k+j) (by omega) (by omega)
   rw [show sa+(k+j)=sa+k+j by omega] at this
   exact this
  ·obtain ⟨j,hj,rfl⟩:=List.getElem_of_mem hy
   rw [gb _ hj,ga _ h0]
   have:=B1 j (by omega)
   rw [show sa+k+(la.length - 1)=sa+na - 1 by omega]
   exact this
 have fin:∀r g',MR X la lb r→W X (do
   modify fun s=>setArr s ((X.arr r).toList.zipIdx.foldl (fun a (x:Keyed × Nat)=>a.setIfInBounds (sa+k+x.2) x.1) (arrOf s))
   let st ←get
   pure (failedOf st).isNone) Q (ST X p pd' g'):=fun r g' mr=>by
  have lr:r.length=na - k+n2:=by
   have:=mr.1.length_eq
   rw [List.length_append] at this
   omega
  have es:setArr (ST X p pd' g') ((X.arr r).toList.zipIdx.foldl (fun a (x:Keyed × Nat)=>a.setIfInBounds (sa+k+x.2) x.1) (arrOf (ST X p pd' g')))=ST X (L.take (sa+k)++r++L.drop (sa+k+r.length)).toArray pd' g':=by
   have e3:(X.arr r).toList.zipIdx.foldl (fun a (x:Keyed × Nat)=>a.setIfInBounds (sa+k+x.2) x.1) (p.map X.item)=((L.take (sa+k)++r++L.drop (sa+k+r.length)).toArray).map X.item:=by
    apply Array.toList_inj.mp
    rw [JB (X.arr r).toList (p.map X.item) (sa+k) 0 (by simp [Ctx.arr];omega)]
    rw [vV,vV,←eL]
    simp [Ctx.arr,List.map_take,List.map_drop]
   show SortSt.mk' X.κ ((X.arr r).toList.zipIdx.foldl (fun a (x:Keyed × Nat)=>a.setIfInBounds (sa+k+x.2) x.1) (p.map X.item)) pd' g' none=SortSt.mk' X.κ (((L.take (sa+k)++r++L.drop (sa+k+r.length)).toArray).map X.item) pd' g' none
   rw [e3]
  refine aK (fV ?_)
  rw [es]
  refine aK (km (aJ ?_))
  obtain ⟨L',eL'⟩:∃L',L'=L.take (sa+k)++r++L.drop (sa+k+r.length):=⟨_,rfl⟩
  rw [←eL']
  have split:L=L.take (sa+k)++(la++lb)++L.drop (sa+k+r.length):=by
   have e4:la++lb=(L.drop (sa+k)).take r.length:=by
    apply List.ext_getElem
    ·rw [List.length_append,List.length_take,List.length_drop];omega
    ·intro j h1 h2
     rw [List.getElem_take,List.getElem_drop]
     by_cases hj:j < la.length
     ·rw [List.getElem_append_left hj,ga _ hj,gl _ (by omega)]
     ·rw [List.getElem_append_right (by omega),gb _ (by rw [List.length_append] at h1;omega),gl _ (by rw [List.length_append] at h1;omega)]
      congr 1
      omega
   have e5:=(List.take_append_drop (sa+k) L).symm
   have e6:=(List.take_append_drop r.length (L.drop (sa+k))).symm
   rw [List.drop_drop] at e6
   rw [e4,List.append_assoc,←e6]
   exact e5
  have lL':L'.length=X.n:=by
   rw [eL',List.length_append,List.length_append,List.length_take,List.length_drop]
   omega
  have abq:AB X.n L'.toArray:=by
   have pm:L'.Perm L:=by
    rw [eL']
    refine List.Perm.trans ?_ (List.Perm.of_eq split.symm)
    exact List.Perm.append_right _ (List.Perm.append_left _ mr.1)
   have:p.toList.Perm (List.range X.n):=ab.list
   rw [←eL] at this
   exact Array.perm_iff_toList_perm.mpr (by simpa using pm.trans this)
  have gq:∀j (hj:j < X.n),gx L'.toArray j=L'[j]'(by omega):=fun j hj=>qG (p:=L'.toArray) (by simpa [lL'] using hj)
  have out:∀j,j < sa+k∨sa+na+n2≤j→gx L'.toArray j=gx p j:=fun j hj=>by
   by_cases hjn:j < X.n
   ·rw [gq j hjn,gl j (by omega)]
    subst eL'
    by_cases h1:j < sa+k
    ·rw [List.getElem_append_left (by rw [List.length_append,List.length_take];omega),List.getElem_append_left (by rw [List.length_take];omega),List.getElem_take]
    ·rw [List.getElem_append_right (by rw [List.length_append,List.length_take];omega),List.getElem_drop]
     congr 1
     rw [List.length_append,List.length_take]
     omega
   ·have z1:gx L'.toArray j=0:=by simp [gx,Array.getD,lL',show ¬j < X.n from hjn]
    have z2:gx p j=0:=by simp [gx,Array.getD,sz,show ¬j < X.n from hjn]
    rw [z1,z2]
  have mid:∀j (h1:sa+k≤j) (h2:j < sa+na+n2),gx L'.toArray j=r[j - (sa+k)]'(by omega):=fun j h1 h2=>by
   rw [gq j (by omega)]
   subst eL'
   rw [List.getElem_append_left (by rw [List.length_append,List.length_take];omega),List.getElem_append_right (by rw [List.length_take];omega)]
   congr 1
   rw [List.length_take]
   omega
  have inr:∀x∈r,(∃c,sa+k≤c∧c < sa+na∧x=gx p c)∨∃c,sa+na≤c∧c < sa+na+n2∧x=gx p c:=fun x hx=>by
   rcases List.mem_append.mp (mr.1.mem_iff.mp hx) with z | z
   ·obtain ⟨j,hj,rfl⟩:=List.getElem_of_mem z
    exact .inl ⟨sa+k+j,by omega,by omega,ga j hj⟩
   ·obtain ⟨j,hj,rfl⟩:=List.getElem_of_mem z
    exact .inr ⟨sa+na+j,by omega,by omega,gb j hj⟩
  refine h L'.toArray g' ⟨abq,fun j hj=>out j (by omega)⟩ fun a b h1 h2 h3=>?_
  by_cases a1:a < sa+k
  ·rw [out a (.inl a1)]
   have ak:=A1 (a - sa) (by omega)
   rw [show sa+(a - sa)=a by omega] at ak
   by_cases b1:b < sa+k
   ·rw [out b (.inl b1)]
    exact s1 a b h1 h2 (by omega)
   ·by_cases b2:b < sa+na+n2
    ·rw [mid b (by omega) b2]
     rcases inr _ (List.getElem_mem (by omega:b - (sa+k) < r.length)) with ⟨c,c1,c2,e⟩ | ⟨c,c1,c2,e⟩
     ·rw [e]
      exact s1 a c h1 (by omega) c2
     ·rw [e]
      exact le2 c c1 (by omega) ak
    ·rw [out b (.inr (by omega))]
     exact le2 b (by omega) h3 ak
  ·by_cases a2:a < sa+na+n2
   ·rw [mid a (by omega) a2]
    by_cases b2:b < sa+na+n2
    ·rw [mid b (by omega) b2]
     exact xJ mr.2 (by omega) (by omega)
    ·rw [out b (.inr (by omega))]
     have bk:=B2 (b - (sa+na)) (by omega) (by omega)
     rw [show sa+na+(b - (sa+na))=b by omega] at bk
     rcases inr _ (List.getElem_mem (by omega:a - (sa+k) < r.length)) with ⟨c,c1,c2,e⟩ | ⟨c,c1,c2,e⟩
     ·rw [e]
      exact le1 c (by omega) c2 bk
     ·rw [e]
      exact s2 c b c1 (by omega) h3
   ·rw [out a (.inr (by omega)),out b (.inr (by omega))]
    exact s2 a b (by omega) h2 h3
 by_cases c3:na - k≤n2
 ·rw [if_pos c3]
  exact aK (DY M (by omega) (by omega) fun r g' mr=>fin r g' mr)
 ·rw [if_neg c3]
  exact aK (Ea M (by omega) (by omega) fun r g' mr=>fin r g' mr)
variable {X:Ctx}
noncomputable abbrev Rn:=Nat × Nat × Nat
noncomputable def Runs (X:Ctx) (p:Array Nat):List Rn→Nat→Nat→Prop
 | [],s,e=>s=e
 | x::l,s,e=>x.1=s∧0 < x.2.1∧Seg X p s (s+x.2.1)∧Runs X p l (s+x.2.1) e
theorem Seg.keep {p q:Array Nat} {s e:Nat} (h:Seg X p s e) (k:∀i,s≤i→i < e→gx q i=gx p i):Seg X q s e:=fun a b h1 h2 h3=>by
 rw [k a h1 (by omega),k b (by omega) h3]
 exact h a b h1 h2 h3
theorem Runs.le {p:Array Nat}:∀{l:List Rn} {s e:Nat},Runs X p l s e→s+l.length≤e
 | [],s,e,h=>by rw [show s=e from h];exact Nat.le_refl _
 | x::l,s,e,⟨_,h2,_,h4⟩=>by
  have:=Runs.le h4
  rw [List.length_cons]
  omega
theorem Runs.keep {p q:Array Nat}:∀{l:List Rn} {s e:Nat},Runs X p l s e→(∀i,s≤i→i < e→gx q i=gx p i)→Runs X q l s e
 | [],_,_,h,_=>h
 | x::l,s,e,⟨h1,h2,h3,h4⟩,k=>by
  have:=Runs.le h4
  exact ⟨h1,h2,h3.keep fun i a b=>k i a (by omega),Runs.keep h4 fun i a b=>k i (by omega) b⟩
theorem Runs.snoc {p:Array Nat} {len pw:Nat}:∀{l:List Rn} {s e:Nat},Runs X p l s e→0 < len→Seg X p e (e+len)→Runs X p (l++[(e,len,pw)]) s (e+len)
 | [],s,e,h,h1,h2=>by
  have h:s=e:=h
  subst h
  exact ⟨rfl,h1,h2,rfl⟩
 | x::l,s,e,⟨a,b,c,d⟩,h1,h2=>⟨a,b,c,Runs.snoc d h1 h2⟩
theorem Runs.pw {p:Array Nat} {w:Nat}:∀{l:List Rn} {s e i:Nat},Runs X p l s e→Runs X p (l.modify i fun x=>(x.1,x.2.1,w)) s e
 | [],_,_,i,h=>by
  cases i <;> exact h
 | x::l,s,e,0,⟨a,b,c,d⟩=>⟨a,b,c,d⟩
 | x::l,s,e,i+1,⟨a,b,c,d⟩=>⟨a,b,c,Runs.pw d⟩
theorem Runs.merge {p:Array Nat}:∀{l:List Rn} {s e i:Nat},Runs X p l s e→i+1 < l.length→∃sa na pw nb pw2,l[i]?=some (sa,na,pw)∧l[i+1]?=some (sa+na,nb,pw2)∧0 < na∧0 < nb∧Seg X p sa (sa+na)∧Seg X p (sa+na) (sa+na+nb)∧s≤sa∧sa+na+nb≤e∧
  ∀q,But X p q sa (sa+na+nb)→Seg X q sa (sa+na+nb)→Runs X q ((l.set i (sa,na+nb,pw)).eraseIdx (i+1)) s e
 | [],_,_,_,_,h=>by simp at h
 | [x],_,_,i,_,h=>by simp at h
 | x::y::l,s,e,0,⟨a1,a2,a3,b1,b2,b3,b4⟩,h=>by
  have le:=Runs.le b4
  refine ⟨x.1,x.2.1,x.2.2,y.2.1,y.2.2,rfl,?_,a2,b2,by rw [a1];exact a3,by rw [a1];exact b3,by omega,by omega,fun q bt sg=>?_⟩
  ·show some y=_
   rw [a1,←b1]
  ·show Runs X q ((x.1,x.2.1+y.2.1,x.2.2)::l) s e
   rw [a1] at sg bt ⊢
   refine ⟨rfl,by show 0 < x.2.1+y.2.1;omega,?_,?_⟩
   ·show Seg X q s (s+(x.2.1+y.2.1))
    rw [←Nat.add_assoc]
    exact sg
   ·show Runs X q l (s+(x.2.1+y.2.1)) e
    rw [←Nat.add_assoc]
    exact b4.keep fun i h1 h2=>bt.out i (.inr h1)
 | x::y::l,s,e,i+1,⟨a1,a2,a3,b⟩,h=>by
  obtain ⟨sa,na,pw,nb,pw2,c1,c2,c3,c4,c5,c6,c7,c8,c9⟩:=Runs.merge (i:=i) b (by simpa using h)
  refine ⟨sa,na,pw,nb,pw2,by simpa using c1,by simpa using c2,c3,c4,c5,c6,by omega,c8,fun q bt sg=>?_⟩
  refine ⟨a1,a2,a3.keep fun j h1 h2=>bt.out j (.inl (by omega)),?_⟩
  exact c9 q bt sg
theorem sO {α:Type} (a:Array α) (i:Nat) (v:α) (j:Nat):((a.setIfInBounds i v).eraseIdxIfInBounds j).toList=(a.toList.set i v).eraseIdx j:=by
 unfold Array.eraseIdxIfInBounds
 split
 ·rw [Array.toList_eraseIdx,Array.toList_setIfInBounds]
 ·rename_i h
  rw [Array.toList_setIfInBounds,List.eraseIdx_of_length_le (by simpa using h)]
theorem sS {p:Array Nat} {pd:Array Rn} {g i e:Nat} {Q:Bool→SortSt→Prop} (ab:AB X.n p) (R:Runs X p pd.toList 0 e) (he:e≤X.n) (hi:i+1 < pd.size) (h:∀q pd' g',But X p q 0 e→Runs X q pd'.toList 0 e→pd'.size+1=pd.size→Q true (ST X q pd' g')):W X (mergeAt' i) Q (ST X p pd g):=by
 obtain ⟨sa,na,pw,nb,pw2,c1,c2,c3,c4,c5,c6,c7,c8,c9⟩:=R.merge (i:=i) (by simpa using hi)
 refine Eb ab (by simpa using c1) (by simpa using c2) (by omega) c3 c4 c5 c6 fun q g' bt sg=>?_
 refine h q _ g' (bt.wide (by omega) c8) ?_ ?_
 ·rw [sO]
  exact c9 q bt sg
 ·have:=congrArg List.length (sO pd i (sa,na+nb,pw) (i+1))
  rw [List.length_eraseIdx,List.length_set,Array.length_toList,Array.length_toList,if_pos hi] at this
  omega
theorem Qd {p:Array Nat} {g:Nat} {Q:Unit→SortSt→Prop} (ab:AB X.n p) (h2:2≤X.n) (h:∀q pd' g',AB X.n q→Seg X q 0 X.n→Q () (ST X q pd' g')):W X sortRuns' Q (ST X p #[] g):=by
 rw [sortRuns'_eq]
 refine aK (km ?_)
 have sz:(arrOf (ST X p #[] g)).size=X.n:=by
  show (p.map X.item).size=X.n
  rw [Array.size_map,ab.size]
 try dsimp only
 rw [sz]
 generalize minRun' X.n X.n 0=mr
 refine gh (Post:=fun b st'=>∃q pd g',st'=ST X q pd g'∧b.1=none∧AB X.n q∧Runs X q pd.toList 0 X.n)
  (fun k b st'=>∃q pd g' lo,st'=ST X q pd g'∧b=(none,lo)∧AB X.n q∧Runs X q pd.toList 0 lo∧lo≤X.n∧k≤lo) ⟨p,#[],g,0,rfl,rfl,ab,rfl,by omega,by omega⟩ ?_ ?_ ?_
 ·rintro k b st' hk ⟨q,pd,g',lo,rfl,rfl,abq,R,l1,l2⟩
  try dsimp only
  by_cases c:lo ≥ X.n
  ·rw [if_pos c]
   have:lo=X.n:=by omega
   subst this
   exact aJ ⟨q,pd,g',rfl,rfl,abq,R⟩
  rw [if_neg c]
  refine aK (Mt abq (by omega) (by omega) fun m q1 m1 m2 bt1 sg1=>?_)
  try dsimp only
  have R1:Runs X q1 pd.toList 0 lo:=R.keep fun i a b=>bt1.out i (.inl b)
  by_cases c2:m < mr
  ·rw [if_pos c2]
   refine aK (pK ?_)
   refine aK (R6 bt1.ab (n:=min (X.n - lo) mr) (by omega) m1 (by omega) sg1 fun q2 bt sg=>?_)
   rw [if_neg (by decide)]
   have R2:Runs X q2 pd.toList 0 lo:=R1.keep fun i a b=>bt.out i (.inl b)
   refine aK (km ?_)
   show W X (match pd.back? with | some (s1,n1,_)=>_ | _=>_) _ _
   cases eb:pd.back? with
   | none=>
    try dsimp only
    refine aK (fV (aJ ⟨q2,pd.push (lo,min (X.n - lo) mr,0),g',lo+min (X.n - lo) mr,rfl,rfl,bt.ab,?_,by omega,by omega⟩))
    rw [Array.toList_push]
    exact Runs.snoc R2 (by omega) sg
   | some x=>
    obtain ⟨s1,n1,w1⟩:=x
    try dsimp only
    refine gh (Post:=fun b st'=>∃q' pd' g',st'=ST X q' pd' g'∧b=(none,())∧AB X.n q'∧Runs X q' pd'.toList 0 lo∧Seg X q' lo (lo+min (X.n - lo) mr))
     (fun _ b st'=>∃q' pd' g',st'=ST X q' pd' g'∧b=(none,())∧AB X.n q'∧Runs X q' pd'.toList 0 lo∧Seg X q' lo (lo+min (X.n - lo) mr)) ⟨q2,pd,g',rfl,rfl,bt.ab,R2,sg⟩ ?_ (fun _ _ z=>z) ?_
    ·rintro j b st' hj ⟨q',pd',g',rfl,rfl,abq,R3,sg3⟩
     refine aK (km ?_)
     show W X (match (if pd'.size > 1 then pd'[pd'.size - 2]? else none) with | some (_,_,older)=>_ | _=>_) _ _
     by_cases c:pd'.size > 1
     ·rw [if_pos c]
      obtain ⟨x,ex⟩:∃x,pd'[pd'.size - 2]?=some x:=⟨_,Array.getElem?_eq_getElem (by omega)⟩
      rw [ex]
      obtain ⟨o1,o2,o3⟩:=x
      try dsimp only
      split
      ·exact aJ ⟨q',pd',g',rfl,rfl,abq,R3,sg3⟩
      ·refine aK (sS abq R3 (by omega) (by show pd'.size - 2+1 < pd'.size;omega) fun q4 pd4 g4 bt4 R4 sz4=>?_)
       rw [if_neg (by decide)]
       exact aJ ⟨q4,pd4,g4,rfl,rfl,bt4.ab,R4,sg3.keep fun i a b=>bt4.out i (.inr a)⟩
     ·rw [if_neg c]
      exact aJ ⟨q',pd',g',rfl,rfl,abq,R3,sg3⟩
    ·rintro b st' ⟨q',pd',g',rfl,rfl,abq,R3,sg3⟩
     try dsimp only
     refine aK (fV (aK (fV (aJ ⟨q',_,g',lo+min (X.n - lo) mr,rfl,rfl,abq,?_,by omega,by omega⟩))))
     show Runs X q' (((pd'.modify (pd'.size - 1) fun x=>(x.1,x.2.1,_)).push (lo,min (X.n - lo) mr,0)).toList) 0 (lo+min (X.n - lo) mr)
     rw [Array.toList_push,Array.toList_modify]
     exact Runs.snoc (Runs.pw R3) (by omega) sg3
  ·rw [if_neg c2]
   have bt:=bt1
   have R2:=R1
   have sg:=sg1
   have q2e:q1=q1:=rfl
   refine aK (km ?_)
   show W X (match pd.back? with | some (s1,n1,_)=>_ | _=>_) _ _
   cases eb:pd.back? with
   | none=>
    try dsimp only
    refine aK (fV (aJ ⟨q1,pd.push (lo,m,0),g',lo+m,rfl,rfl,bt.ab,?_,by omega,by omega⟩))
    rw [Array.toList_push]
    exact Runs.snoc R2 (by omega) sg
   | some x=>
    obtain ⟨s1,n1,w1⟩:=x
    try dsimp only
    refine gh (Post:=fun b st'=>∃q' pd' g',st'=ST X q' pd' g'∧b=(none,())∧AB X.n q'∧Runs X q' pd'.toList 0 lo∧Seg X q' lo (lo+m))
     (fun _ b st'=>∃q' pd' g',st'=ST X q' pd' g'∧b=(none,())∧AB X.n q'∧Runs X q' pd'.toList 0 lo∧Seg X q' lo (lo+m)) ⟨q1,pd,g',rfl,rfl,bt.ab,R2,sg⟩ ?_ (fun _ _ z=>z) ?_
    ·rintro j b st' hj ⟨q',pd',g',rfl,rfl,abq,R3,sg3⟩
     refine aK (km ?_)
     show W X (match (if pd'.size > 1 then pd'[pd'.size - 2]? else none) with | some (_,_,older)=>_ | _=>_) _ _
     by_cases c:pd'.size > 1
     ·rw [if_pos c]
      obtain ⟨x,ex⟩:∃x,pd'[pd'.size - 2]?=some x:=⟨_,Array.getElem?_eq_getElem (by omega)⟩
      rw [ex]
      obtain ⟨o1,o2,o3⟩:=x
      try dsimp only
      split
      ·exact aJ ⟨q',pd',g',rfl,rfl,abq,R3,sg3⟩
      ·refine aK (sS abq R3 (by omega) (by show pd'.size - 2+1 < pd'.size;omega) fun q4 pd4 g4 bt4 R4 sz4=>?_)
       rw [if_neg (by decide)]
       exact aJ ⟨q4,pd4,g4,rfl,rfl,bt4.ab,R4,sg3.keep fun i a b=>bt4.out i (.inr a)⟩
     ·rw [if_neg c]
      exact aJ ⟨q',pd',g',rfl,rfl,abq,R3,sg3⟩
    ·rintro b st' ⟨q',pd',g',rfl,rfl,abq,R3,sg3⟩
     try dsimp only
     refine aK (fV (aK (fV (aJ ⟨q',_,g',lo+m,rfl,rfl,abq,?_,by omega,by omega⟩))))
     show Runs X q' (((pd'.modify (pd'.size - 1) fun x=>(x.1,x.2.1,_)).push (lo,m,0)).toList) 0 (lo+m)
     rw [Array.toList_push,Array.toList_modify]
     exact Runs.snoc (Runs.pw R3) (by omega) sg3
 ·rintro b st' ⟨q,pd,g',lo,rfl,rfl,abq,R,l1,l2⟩
  have:lo=X.n:=by omega
  subst this
  exact ⟨q,pd,g',rfl,rfl,abq,R⟩
 ·rintro b st' ⟨q,pd,g',rfl,hb,abq,R⟩
  obtain ⟨b1,b2⟩:=b
  dsimp only at hb
  subst hb
  try dsimp only
  refine gh (Post:=fun b st'=>∃q pd g',st'=ST X q pd g'∧b=(none,())∧AB X.n q∧Runs X q pd.toList 0 X.n∧pd.size≤1)
   (fun k b st'=>∃q pd g',st'=ST X q pd g'∧b=(none,())∧AB X.n q∧Runs X q pd.toList 0 X.n∧pd.size+k≤X.n+1) ⟨q,pd,g',rfl,rfl,abq,R,by have:=R.le;rw [Array.length_toList] at this;omega⟩ ?_ ?_ ?_
  ·rintro k b st' hk ⟨q,pd,g',rfl,rfl,abq,R,l1⟩
   refine aK (km ?_)
   show W X (if pd.size≤1 then _ else _) _ _
   by_cases c:pd.size≤1
   ·rw [if_pos c]
    exact aJ ⟨q,pd,g',rfl,rfl,abq,R,c⟩
   rw [if_neg c]
   refine aK (sS abq R (Nat.le_refl _) ?_ fun q4 pd4 g4 bt4 R4 sz4=>?_)
   ·have le:∀(c:Prop) [Decidable c],(if c then pd.size - 2 - 1 else pd.size - 2)+1 < pd.size:=fun c _=>by split <;> omega
    exact le _
   rw [if_neg (by decide)]
   exact aJ ⟨q4,pd4,g4,rfl,rfl,bt4.ab,R4,by omega⟩
  ·rintro b st' ⟨q,pd,g',rfl,rfl,abq,R,l1⟩
   exact ⟨q,pd,g',rfl,rfl,abq,R,by omega⟩
  ·rintro b st' ⟨q,pd,g',rfl,rfl,abq,R,l1⟩
   refine aJ (h q pd g' abq ?_)
   have ll:pd.toList.length≤1:=by simpa using l1
   rcases e:pd.toList with _ | ⟨x,_ | ⟨y,l⟩⟩
   ·rw [e] at R
    have R:0=X.n:=R
    omega
   ·rw [e] at R
    obtain ⟨_,_,sg,en⟩:=R
    have en:0+x.2.1=X.n:=en
    rw [←en]
    exact sg
   ·rw [e] at ll
    simp at ll
theorem uK {lt:Nat→Nat→Bool} {n:Nat} (ok:lQ n lt):∀{a b:List Nat},a.Perm b→(∀x∈a,x < n)→a.Pairwise (fun i j=>lt i j=true)→b.Pairwise (fun i j=>lt i j=true)→a=b
 | [],b,p,_,_,_=>p.nil_eq
 | x::a,[],p,_,_,_=>absurd p.length_eq (by simp)
 | x::a,y::b,p,ln,sa,sb=>by
  rw [List.pairwise_cons] at sa sb
  have exy:x=y:=by
   rcases List.mem_cons.mp (p.mem_iff.mp (.head _):x∈y::b) with e | e
   ·exact e
   ·rcases List.mem_cons.mp (p.mem_iff.mpr (.head _):y∈x::a) with e2 | e2
    ·exact e2.symm
    ·have h:=ok.tr _ _ _ (sa.1 y e2) (sb.1 x e)
     rw [ok.ir] at h
     cases h
  subst exy
  rw [uK ok (List.Perm.cons_inv p) (fun z hz=>ln z (.tail _ hz)) sa.2 sb.2]
theorem run_any {prog:Program} {w:World} {A:Around} {E:Value→Shared→Prop} {s:Shared} {κ:SortKind} {vs:List Value} {lt:Nat→Nat→Bool} (h2:2≤vs.length) (ok:lQ vs.length lt) (hc:∀i j C,i < vs.length→j < vs.length→C (lt i j) s→kas_ask prog w A κ vs i j C s):
  wpAny (model prog w) A ((sortRuns').run (SortSt.mk' κ (vs.toArray.zip vs.toArray) #[] 7 none)) (fun r s'=>s'=s∧(arrOf r.2).map (·.2)=List.toArray (jb Value.none lt vs)∧failedOf r.2=none) E s:=by
 let X:Ctx:=⟨prog,w,A,E,κ,pairsOf vs,s,vs.length,lt,fun i j C hi hj hC=>by have:=hc i j C hi hj hC;rw [kas_ask_eq] at this;exact this,ok⟩
 have ab:AB vs.length (List.toArray (List.range vs.length)):=Array.Perm.refl _
 have run:=Qd (X:=X) (p:=List.toArray (List.range vs.length)) (g:=7) (Q:=fun _ st'=>(arrOf st').map (·.2)=List.toArray (jb Value.none lt vs)∧failedOf st'=none) ab h2 fun q pd' g' abq sg=>?_
 ·have est:SortSt.mk' κ (vs.toArray.zip vs.toArray) #[] 7 none=ST X (List.toArray (List.range vs.length)) #[] 7:=by
   have e:=kas_range (pairsOf vs)
   rw [pairsOf_size] at e
   show SortSt.mk' κ (pairsOf vs) #[] 7 none=SortSt.mk' κ ((List.toArray (List.range vs.length)).map (kas_item (pairsOf vs))) #[] 7 none
   rw [e]
  rw [est]
  exact run
 ·refine ⟨?_,rfl⟩
  have eq:jb Value.none lt vs=q.toList.map fun i=>vs.getD i Value.none:=by
   unfold jb
   congr 1
   refine (uK ok ((abq.list).trans (jX lt vs.length).symm) (fun x hx=>abq.lt (by simpa using hx)) ?_ (oM ok)).symm
   rw [List.pairwise_iff_getElem]
   intro i j hi hj hij
   have sz:q.size=vs.length:=abq.size
   have hj':j < vs.length:=by rw [←sz];simpa using hj
   have:=sg i j (Nat.zero_le _) hij hj'
   rw [qG hi,qG hj] at this
   exact this
  rw [eq]
  exact kat_snds (ks:=vs) rfl rfl
end BS
namespace L3
open PySem PySem.Spec PyProof.Rows L2 PySem.W
section
variable {prog:Program} {w:World} {A:Around} {E:Value→Shared→Prop} {s:Shared} {vs:List Value} {κ:SortKind} {lt:Nat→Nat→Bool}
theorem JC {a:Addr} {e:Nat} {R:PySem.Fin→Shared→Prop} (ho:s.heap.get? a=some (seqObj "list" vs.toArray e)) (hz:vs.length≤sizeLine) (ok:lQ vs.length lt)
  (hk:2≤vs.length→∀s1:Shared,yR a s.heap s1.heap→∀Q:SortKind→Shared→Prop,Q κ s1→wpAny (model prog w) A (keyKind' vs.toArray) Q (fun _ _=>False) s1)
  (hl:2≤vs.length→∀s1:Shared,yR a s.heap s1.heap→∀i j C,i < vs.length→j < vs.length→C (lt i j) s1→kas_ask prog w A κ vs i j C s1)
  (h:∀h' c,yR a s.heap h'→h'.get? a=some (seqObj "list" (List.toArray (jb Value.none lt vs)) c)→R (.done (.ret .none)) {s with heap:=h'}):
  wpAny (model prog w) A (Builtin.«list.sort» ⟨[.ref a],[]⟩) R E s:=by
 have emptied:=get?_update_seq ho fun _=>(#[]:Array Value)
 obtain ⟨e1,ho1⟩:∃k,(s.heap.update a (Obj.mapSeq fun _=>(#[]:Array Value))).get? a=some (seqObj "list" #[] k):=⟨_,emptied⟩
 have x1:yR a s.heap (s.heap.update a (Obj.mapSeq fun _=>(#[]:Array Value))):=fun b o hb q=>(Heap.get?_update_ne _ _ _ _ hb).trans q
 rw [list_sort_plain]
 refine wpAny_bind (listItems_at ho rfl (wpAny_bind (listUpdate_at ho rfl ?_ (by rw [List.size_toArray];exact hz) (Nat.zero_le _))))
 refine wpAny_bind (seqEpoch_at ho1 rfl (wpAny_bind (wpAny_newTuple ?_ hz)))
 refine wpAny_bind (wpAny_newList (wpAny_holding ?_) (Nat.zero_le _))
 dsimp only
 generalize hH:((s.heap.update a (Obj.mapSeq fun _=>(#[]:Array Value))).push (seqObj "tuple" vs.toArray 0)).push (seqObj "list" #[] 0)=H2
 have ho2:H2.get? a=some (seqObj "list" #[] e1):=by
  rw [←hH]
  exact Heap.get?_push_of_some _ (Heap.get?_push_of_some _ ho1)
 have x2:yR a s.heap H2:=fun b o hb q=>by
  rw [←hH]
  exact Heap.get?_push_of_some _ (Heap.get?_push_of_some _ (x1 b o hb q))
 have tail:∀(x:Unit × SortSt) (out:List Value),(arrOf x.2).map (·.2)=out.toArray→failedOf x.2=none→out.length≤sizeLine→out=jb Value.none lt vs→
   wpAny (model prog w) A (do
    let now ←seqEpoch a
    Builtin.List.listUpdate (.ref a) fun _=>(arrOf x.2).map (·.2)
    match failedOf x.2 with
    | some er=>do
     rule "list.sort.comparison-raised"
     throw er
     if (now !=e1)=true then do
      rule "list.sort.modified"
      raiseErrorWords "ValueError" "list modified during sort"
      ret Value.none
     else ret Value.none
    | _=>
     if (now !=e1)=true then do
      rule "list.sort.modified"
      raiseErrorWords "ValueError" "list modified during sort"
      ret Value.none
     else ret Value.none) R E {s with heap:=H2}:=fun x out e2 e3 l64 eo=>by
  refine wpAny_bind (seqEpoch_at ho2 rfl (wpAny_bind (listUpdate_at ho2 rfl ?_ (Nat.zero_le _) ?_)))
  ·rw [e3]
   dsimp only
   rw [if_neg (by simp)]
   obtain ⟨c,hc⟩:∃c,(H2.update a (Obj.mapSeq fun _=>(arrOf x.2).map (·.2))).get? a=some (seqObj "list" ((arrOf x.2).map (·.2)) c):=⟨_,get?_update_seq ho2 fun _=>(arrOf x.2).map (·.2)⟩
   refine wpAny_pure (h _ c (fun b o hb q=>(Heap.get?_update_ne _ _ _ _ hb).trans (x2 b o hb q)) ?_)
   rw [hc,e2,eo]
  ·rw [e2,List.size_toArray]
   exact Nat.le_succ_of_le l64
 by_cases h2:(vs.toArray.size < 2)
 ·rw [if_pos h2,if_pos h2]
  have h2':vs.length < 2:=by rw [List.size_toArray] at h2;exact h2
  refine wpAny_bind (wpAny_pure (wpAny_bind (wpAny_pure ?_)));refine tail ((),SortSt.mk' general' (vs.toArray.zip vs.toArray) #[] 7 none) vs ?_ rfl hz (Ie _ _ h2').symm
  show (vs.toArray.zip vs.toArray).map (·.2)=vs.toArray
  apply Array.toList_inj.mp
  simp only [Array.toList_map,Array.toList_zip]
  exact List.map_snd_zip (Nat.le_refl _)
 ·rw [if_neg h2,if_neg h2]
  have h2':2≤vs.length:=by rw [List.size_toArray] at h2;omega
  refine wpAny_bind (wpAny_mono (hk h2' {s with heap:=H2} x2 (fun κ' s'=>κ'=κ∧s'={s with heap:=H2}) ⟨rfl,rfl⟩) ?_ fun _ _ x=>x.elim)
  rintro κ' s' ⟨rfl,rfl⟩
  have run:=BS.run_any (prog:=prog) (w:=w) (A:=A) (E:=E) (s:={s with heap:=H2}) (κ:=κ') (vs:=vs) h2' ok (fun i j C hi hj hC=>hl h2' _ x2 i j C hi hj hC)
  refine wpAny_bind (wpAny_mono run ?_ fun _ _ x=>x)
  rintro ⟨⟨⟩,st⟩ s' ⟨rfl,b2,b3⟩
  exact tail ((),st) _ b2 b3 (by rw [rO];exact hz) rfl
end
section
variable {prog:Program} {w:World} {A:Around} {E:Value→Shared→Prop} {s:Shared} {d:Addr} {ep:Nat} {es:Array DictEntry}
theorem xP {vs:List Value} {κ:SortKind} {lt:Nat→Nat→Bool} {Q:Value→Shared→Prop} (lo:(d==sysModules)=false) (hh:A.handled=none) (hm:DEs s.heap d es ep) (hv:vs=es.toList.map (·.key)) (big:vs.length≤sizeLine) (ok:lQ vs.length lt)
  (hk:2≤vs.length→∀s1:Shared,xg s.heap s1.heap→∀Q:SortKind→Shared→Prop,Q κ s1→wpAny (model prog w) A.in1.in1 (keyKind' vs.toArray) Q (fun _ _=>False) s1)
  (ha:2≤vs.length→∀s1:Shared,xg s.heap s1.heap→∀i j C,i < vs.length→j < vs.length→C (lt i j) s1→kas_ask prog w A.in1.in1 κ vs i j C s1)
  (h:∀h1 D h' t c,xg s.heap h1→h1.objs.size≤D→xg h1 h'→h'.get? D=some (seqObj "list" (List.toArray (jb Value.none lt vs)) c)→Q (.ref D) {s with heap:=h',toks:=t}):
  wpAny (model prog w) A (call (.builtin "sorted") ([.ref d]:List Value)) Q E s:=by
 have hes:es.size=vs.length:=by rw [hv,List.length_map,Array.length_toList]
 refine Calls.call_function_entry kind_sorted plain_sorted entry_sorted (args_sorted1 (.ref d)) ?_;unfold Builtin.«sorted»
 refine wpAny_bind (m:=checkCount "sorted" 1 1 _) (wpAny_pure ?_)
 refine wpAny_bind (kdu_collect (A:=A.in1) (Ik (ep:=ep) (es:=es) lo) hh hm (by rw [hes];exact big) fun h1 tk acc x1 hacc=>?_)
 have ea:acc.toList=vs:=by
  apply List.ext_getElem?
  intro j
  rw [hv,List.getElem?_map]
  by_cases hj:j < es.size
  ·have hja:j < acc.size:=by rw [hacc.1];exact hj
   obtain ⟨e,e1,e2⟩:=hacc.2 j acc[j] (by simp [hja])
   rw [Array.getElem?_toList,Array.getElem?_toList,e1,Array.getElem?_eq_getElem hja]
   exact congrArg some e2
  ·rw [Array.getElem?_toList,Array.getElem?_toList,Array.getElem?_eq_none (by rw [hacc.1];omega),Array.getElem?_eq_none (by omega)]
   rfl
 rw [ea]
 refine wpAny_bind (wpAny_newList ?_ big)
 have hD:(h1.push (seqObj "list" vs.toArray 0)).get? h1.objs.size=some (seqObj "list" vs.toArray 0):=Heap.get?_push_size _ rfl
 have x2:xg s.heap (h1.push (seqObj "list" vs.toArray 0)):=fun b o q=>Heap.get?_push_of_some _ (x1 b o q)
 have x3:∀h',yR h1.objs.size (h1.push (seqObj "list" vs.toArray 0)) h'→xg s.heap h':=fun h' x b o q=>x b o (Nat.ne_of_lt (Heap.lt_size (x1 b o q))) (x2 b o q)
 have x4:∀h',yR h1.objs.size (h1.push (seqObj "list" vs.toArray 0)) h'→xg h1 h':=fun h' x b o q=>x b o (Nat.ne_of_lt (Heap.lt_size q)) (Heap.get?_push_of_some _ q)
 refine wpAny_bind (wpAny_holding (wpAny_call_entry slot_list_sort ⟨_,hD,rfl⟩ entry_list_sort ?_ (args_list_sort _)))
 refine JC (s:={s with heap:=h1.push (seqObj "list" vs.toArray 0),toks:=tk}) (κ:=κ) (lt:=lt) hD big ok (fun h2 s1 x=>hk h2 s1 (x3 _ x)) (fun h2 s1 x=>ha h2 s1 (x3 _ x)) fun h' c x hc=>?_
 exact ⟨_,rfl,wpAny_pure ⟨_,rfl,h h1 _ h' _ c x1 (Nat.le_refl _) (x4 _ x) hc⟩⟩
end
section
variable {X:Cx}
theorem tX (hc:X.calm=true):fK X (.builtin "sorted") (fun xs H Q=>∃(p:Addr) (kvs:List (List Key × V)) (b:Bool) (sh:List Bool),xs=[.ref p]∧H p=some (.dT kvs)∧kvs.length≤sizeLine∧lQ kvs.length (ltK (kvs.map (·.1)))∧(∀q∈kvs,kSh q.1=b::sh)∧
  ∀(ts:List Addr) (l:Addr),H l=none→Paired (fun r k=>H r=some (.tup (k.map kV))) ts (kvs.map (·.1))→Q (.ref l) (upd H l (.lst (jb .non (ltK (kvs.map (·.1))) (ts.map V.ref))))):=by
 intro pins s σ H xs us Q I r h
 obtain ⟨p,kvs,b,sh,rfl,hp,hkz,okk,hsh,q⟩:=h
 obtain ⟨u,rfl,ru⟩:=vals1 r
 cases ru
 have hh:X.A.handled=none:=I.ok.hd hc
 obtain ⟨zl,lo,ys,rel,o,es,ep,ho,hx,hd,he,his,hn⟩:=FN I.hok hp
 have hl:=Paired.length rel
 have tp:Paired (fun r k=>H r=some (.tup (k.map kV))) (ys.map (·.2.1)) (kvs.map (·.1)):=by
  clear he his hn zl hkz okk hsh q hl hp
  induction rel with
  | nil=>exact .nil
  | cons a t ih=>exact .cons a.2.1 ih
 have ev:es.toList.map (·.key)=(ys.map (·.2.1)).map Value.ref:=by
  rw [he,List.map_map,List.map_map]
  rfl
 generalize hts:ys.map (·.2.1)=ts at tp ev
 have tl:ts.length=kvs.length:=by rw [←hts,List.length_map,hl]
 generalize hds:kvs.map (·.1)=ds at tp okk
 have hshd:∀d∈ds,kSh d=b::sh:=fun d hd=>by
  rw [←hds] at hd
  obtain ⟨q,hq,rfl⟩:=List.mem_map.mp hd
  exact hsh q hq
 have dlen:ts.length=ds.length:=Paired.length tp
 have hzt:ts.length≤sizeLine:=by rw [tl];exact hkz
 have at_:∀i,i < ts.length→∃d its,(ts.map Value.ref).getD i Value.none=.ref ts[i]!∧ds.getD i []=d∧kSh d=b::sh∧Vals (d.map kV) its∧IsTup s.heap ts[i]! its.toArray:=fun i hi=>by
  have e1:ts[i]?=some ts[i]:=List.getElem?_eq_getElem hi
  have e3:ts[i]! =ts[i]:=by simp [hi]
  obtain ⟨d,e2,hp⟩:∃d,ds[i]?=some d∧H ts[i]=some (.tup (d.map kV)):=by
   have:∀{l:List Addr} {m:List (List Key)} {k:Nat} {x:Addr},Paired (fun r d=>H r=some (.tup (d.map kV))) l m→l[k]?=some x→∃y,m[k]?=some y∧H x=some (.tup (y.map kV)):=fun {l m k x} P=>by
    induction P generalizing k with
    | nil=>intro h;simp at h
    | cons a t ih=>
     cases k with
     | zero=>intro h1;simp at h1;subst h1;exact ⟨_,rfl,a⟩
     | succ k=>intro h1;simp at h1;simpa using ih h1
   exact this tp e1
  obtain ⟨_,its,v1,t1⟩:=I.hok _ _ hp
  refine ⟨d,its,?_,?_,hshd _ (List.mem_of_getElem? e2),v1,?_⟩
  ·rw [List.getD,List.getElem?_map,e1,e3];rfl
  ·rw [List.getD,e2];rfl
  ·rw [e3];exact t1
 refine xP (κ:=tuples' true) (lt:=ltK ds) lo hh ⟨o,ho,hx,hd⟩ ev.symm (by rw [List.length_map];exact hzt) (by rw [List.length_map,tl];exact okk) (fun h2 s1 x Q' hQ=>?_) (fun h2 s1 x i j C hi hj hC=>?_) fun h1 D h' t c x1 hle x hc=>?_
 ·obtain ⟨fs,k1,k2,k3⟩:=Ii I.hok x tp fun d hd=>⟨sh,hshd d hd⟩
  rw [List.length_map] at h2
  refine kat_kind (T:=tyK b) k1 (by omega) (fun v hv=>?_) (by cases b <;> decide+kernel) ?_
  ·obtain ⟨k,ek,rk⟩:=k3 v hv
   subst ek
   cases k with
   | inl i=>obtain ⟨t,rfl⟩:=rk;exact Looks.of_pure rfl
   | inr i=>obtain ⟨t,rfl⟩:=rk;exact Looks.of_pure rfl
  ·have e:(tyK b !=Value.type "tuple")=true:=by cases b <;> decide+kernel
   rw [e]
   exact hQ
 ·rw [List.length_map] at hi hj
  obtain ⟨d,its,a1,a2,a3,a4,o,ho,_,n,hdat⟩:=at_ i hi
  obtain ⟨d',its',b1,b2,b3,b4,o',ho',_,n',hdat'⟩:=at_ j hj
  unfold kas_ask
  rw [a1,b1]
  have l1:=a4.length
  have l2:=b4.length
  rw [List.length_map] at l1 l2
  have l3:d.length=d'.length:=by
   have e:=congrArg List.length (a3.trans b3.symm)
   simpa [kSh] using e
  refine kat_lt (b:=true) (x _ _ ho) hdat (x _ _ ho') hdat' ?_
  rw [decide_eq_false (by rw [List.size_toArray,List.size_toArray];omega)]
  refine rP d d' its its' 0 a4 b4 (a3.trans b3.symm) ?_
  have:ltK ds i j=lexLt d d':=by unfold ltK;rw [a2,b2]
  rw [←this]
  exact hC
 ·have I1:Inv X pins σ H {s with heap:=h1,toks:=t}:=I.kept (t':=t) fun b o e=>x1 b o e
  refine ⟨.ref D,_,I1.laid (a:=D) (o:=.lst (jb .non (ltK ds) (ts.map V.ref))) (t':=t) (fun b o q=>x b o q) hle ?_,rfl,hds▸q ts D (I1.hok.fresh hle) (hds▸tp)⟩
  refine ⟨?_,_,c,Dm (oF ts),hc⟩
  rw [rO,List.length_map]
  exact hzt
end
end L3
namespace K1
open PySem L2 L3 M1
noncomputable def nq:Nat→List (List Kt)→List (Kt × Nat)
 | _,[]=>[]
 | n,ks::r=>(ks.map fun k=>(k,n))++nq (n+1) r
noncomputable def evs (legs:List (List Kt)):List (Kt × Nat):=nq 0 legs
theorem uL:∀(l:List (List Kt)) (n:Nat) (ks:List Kt),nq n (l++[ks])=nq n l++ks.map fun k=>(k,n+l.length)
 | [],n,ks=>by simp [nq]
 | a::l,n,ks=>by
  show (a.map fun k=>(k,n))++nq (n+1) (l++[ks])=((a.map fun k=>(k,n))++nq (n+1) l)++_
  rw [uL l (n+1) ks,List.append_assoc]
  have e:n+1+l.length=n+(a::l).length:=by rw [List.length_cons];omega
  rw [e]
theorem xQ {legs:List (List Kt)} {i:Nat} {ks:List Kt} (e:legs[i]?=some ks):evs (legs.take (i+1))=evs (legs.take i)++ks.map fun k=>(k,i):=by
 have hi:=(List.getElem?_eq_some_iff.mp e).1
 rw [List.take_add_one,e]
 show evs (legs.take i++[ks])=_
 unfold evs
 rw [uL,List.length_take,Nat.zero_add,Nat.min_eq_left (by omega)]
theorem xR:∀(l:List (List Kt)) (n:Nat),(nq n l).map (·.1)=l.flatten
 | [],_=>rfl
 | a::l,n=>by
  show ((a.map fun k=>(k,n))++nq (n+1) l).map (·.1)=a++l.flatten
  rw [List.map_append,xR l (n+1),List.map_map]
  congr 1
  exact List.map_id' a
noncomputable def numsOf (es:List (Kt × Nat)) (k:Kt):List Nat:=(es.filter fun e=>decide (e.1=k)).map (·.2)
theorem numsOf_append (a b:List (Kt × Nat)) (k:Kt):numsOf (a++b) k=numsOf a k++numsOf b k:=by
 unfold numsOf
 rw [List.filter_append,List.map_append]
theorem lV:∀{l:List (List Kt)} {n:Nat} {k:Kt} {i:Nat},(k,i)∈nq n l↔∃j ks,i=n+j∧l[j]?=some ks∧k∈ks
 | [],n,k,i=>⟨fun h=>absurd h List.not_mem_nil,fun ⟨j,ks,_,e,_⟩=>by simp at e⟩
 | a::l,n,k,i=>by
  show (k,i)∈(a.map fun k=>(k,n))++nq (n+1) l↔_
  rw [List.mem_append,lV (l:=l)]
  constructor
  ·rintro (h | ⟨j,ks,e1,e2,e3⟩)
   ·obtain ⟨x,hx,e⟩:=List.mem_map.mp h
    cases e
    exact ⟨0,a,rfl,rfl,hx⟩
   ·exact ⟨j+1,ks,by omega,by simpa using e2,e3⟩
  ·rintro ⟨j,ks,e1,e2,e3⟩
   cases j with
   | zero=>
    simp only [List.getElem?_cons_zero,Option.some.injEq] at e2
    subst e2
    exact .inl (List.mem_map.mpr ⟨k,e3,by rw [e1];rfl⟩)
   | succ j=>exact .inr ⟨j,ks,by omega,by simpa using e2,e3⟩
theorem lW {legs:List (List Kt)} {k:Kt} {i:Nat}:i∈numsOf (evs legs) k↔∃ks,legs[i]?=some ks∧k∈ks:=by
 unfold numsOf evs
 rw [List.mem_map]
 constructor
 ·rintro ⟨⟨k',i'⟩,h,rfl⟩
  obtain ⟨h1,h2⟩:=List.mem_filter.mp h
  have e:k'=k:=of_decide_eq_true h2
  subst e
  obtain ⟨j,ks,e1,e2,e3⟩:=lV.mp h1
  rw [Nat.zero_add] at e1
  exact ⟨ks,by rw [←e2,←e1],e3⟩
 ·rintro ⟨ks,e1,e2⟩
  exact ⟨(k,i),List.mem_filter.mpr ⟨lV.mpr ⟨i,ks,by omega,e1,e2⟩,decide_eq_true rfl⟩,rfl⟩
theorem JD (legs:List (List Kt)) (k:Kt):(numsOf (evs legs) k).length=legs.flatten.count k:=by
 unfold numsOf evs
 rw [List.length_map,←xR legs 0,List.count_eq_countP,List.countP_map,List.countP_eq_length_filter]
 congr 1
 refine List.filter_congr fun e _=>?_
 show decide (e.1=k)=(e.1==k)
 by_cases h:e.1=k
 ·rw [decide_eq_true h]
  exact (beq_iff_eq.mpr h).symm
 ·rw [decide_eq_false h]
  exact (beq_eq_false_iff_ne.mpr h).symm
theorem xT {k:Kt}:∀{legs:List (List Kt)} {n:Nat},(∀ks∈legs,ks.Nodup)→(numsOf (nq n legs) k).Pairwise (· < ·)∧∀i∈numsOf (nq n legs) k,n≤i
 | [],n,_=>⟨List.Pairwise.nil,fun i h=>absurd h List.not_mem_nil⟩
 | a::l,n,h=>by
  obtain ⟨h1,h2⟩:=xT (k:=k) (legs:=l) (n:=n+1) fun ks hk=>h ks (.tail _ hk)
  show (numsOf ((a.map fun k=>(k,n))++nq (n+1) l) k).Pairwise _∧∀i∈numsOf ((a.map fun k=>(k,n))++nq (n+1) l) k,n≤i
  rw [numsOf_append]
  have nd:=h a (.head _)
  have one:numsOf (a.map fun k=>(k,n)) k=[]∨numsOf (a.map fun k=>(k,n)) k=[n]:=by
   clear h h1 h2
   induction a with
   | nil=>exact .inl rfl
   | cons x a ih=>
    rw [List.nodup_cons] at nd
    by_cases e:x=k
    ·refine .inr ?_
     have z:numsOf (a.map fun k=>(k,n)) k=[]:=by
      unfold numsOf
      rw [List.map_eq_nil_iff,List.filter_eq_nil_iff]
      intro y hy
      obtain ⟨y',hy',rfl⟩:=List.mem_map.mp hy
      exact fun z=>nd.1 (by rw [e,←of_decide_eq_true z];exact hy')
     show ((((x,n)::a.map fun k=>(k,n)).filter fun e=>decide (e.1=k)).map (·.2))=_
     rw [List.filter_cons,if_pos (decide_eq_true e)]
     show n::numsOf (a.map fun k=>(k,n)) k=_
     rw [z]
    ·have z:numsOf ((x::a).map fun k=>(k,n)) k=numsOf (a.map fun k=>(k,n)) k:=by
      show ((((x,n)::a.map fun k=>(k,n)).filter fun e=>decide (e.1=k)).map (·.2))=_
      rw [List.filter_cons,if_neg (fun z=>e (of_decide_eq_true z))]
      rfl
     rw [z]
     exact ih nd.2
  refine ⟨?_,fun i hi=>?_⟩
  ·rw [List.pairwise_append]
   refine ⟨?_,h1,fun x hx y hy=>?_⟩
   ·rcases one with e | e <;> rw [e] <;> simp
   ·have:=h2 y hy
    rcases one with e | e <;> rw [e] at hx
    ·exact absurd hx List.not_mem_nil
    ·have:=List.mem_singleton.mp hx
     omega
  ·rcases List.mem_append.mp hi with hi | hi
   ·rcases one with e | e <;> rw [e] at hi
    ·exact absurd hi List.not_mem_nil
    ·have:=List.mem_singleton.mp hi
     omega
   ·have:=h2 i hi
    omega
noncomputable def klt (a b:Kt):Prop:=a.1 < b.1∨(a.1=b.1∧a.2 < b.2)
theorem nu {a b:Kt} (h:klt a b) (h2:klt b a):False:=by unfold klt at h h2;omega
theorem zE {a b:Kt} (h:klt a b):a≠b:=fun e=>by subst e;exact nu h h
structure pM (legs:List (List Kt)) (bs:List (Kt × List Nat)):Prop where
 pw:bs.Pairwise fun x y=>klt x.1 y.1
 mem:∀b∈bs,b.2=numsOf (evs legs) b.1∧b.2≠[]
 all:∀e∈evs legs,e.1∈bs.map (·.1)
noncomputable abbrev gF:=Kt × Addr × List Nat
noncomputable def zF (ns:List Nat):List L2.V:=ns.map fun n:Nat=>V.int n
noncomputable def prV (r:gF):List Key × L2.V:=(kk r.1,.ref r.2.1)
theorem oO:∀{rows:List gF},(rows.map (·.1)).Nodup→∀{r:gF},r∈rows→gJ (rows.map prV) (kk r.1)=some (.ref r.2.1)
 | [],_,r,h=>absurd h List.not_mem_nil
 | x::rows,nd,r,h=>by
  rw [List.map_cons,List.nodup_cons] at nd
  rcases List.mem_cons.mp h with e | e
  ·subst e
   exact dY rfl
  ·rw [List.map_cons,dB]
   ·exact oO nd.2 e
   ·intro z
    have:x.1=r.1:=zx z
    exact nd.1 (this▸List.mem_map.mpr ⟨r,e,rfl⟩)
theorem xU:∀{rows:List gF} {k:Kt},k∉rows.map (·.1)→gJ (rows.map prV) (kk k)=none
 | [],_,_=>rfl
 | x::rows,k,h=>by
  rw [List.map_cons,dB]
  ·exact xU fun z=>h (.tail _ z)
  ·intro z
   have:x.1=k:=zx z
   exact h (this▸.head _)
theorem nA {α β:Type} {f:α→β}:∀{l:List α},(l.map f).Nodup→∀{x y:α},x∈l→y∈l→f x=f y→x=y
 | [],_,x,_,h,_,_=>absurd h List.not_mem_nil
 | a::l,nd,x,y,hx,hy,e=>by
  rw [List.map_cons,List.nodup_cons] at nd
  rcases List.mem_cons.mp hx with e1 | e1 <;> rcases List.mem_cons.mp hy with e2 | e2
  ·rw [e1,e2]
  ·subst e1
   exact (nd.1 (e▸List.mem_map.mpr ⟨y,e2,rfl⟩)).elim
  ·subst e2
   exact (nd.1 (e▸List.mem_map.mpr ⟨x,e1,rfl⟩)).elim
  ·exact nA nd.2 e1 e2 e
theorem uM (es:List (Kt × Nat)) (k k':Kt) (i:Nat):numsOf (es++[(k,i)]) k'=if k'=k then numsOf es k'++[i] else numsOf es k':=by
 rw [numsOf_append]
 by_cases e:k'=k
 ·subst e
  rw [if_pos rfl]
  congr 1
  unfold numsOf
  rw [List.filter_cons,if_pos (decide_eq_true rfl)]
  rfl
 ·rw [if_neg e]
  have:numsOf [(k,i)] k'=[]:=by
   unfold numsOf
   rw [List.filter_cons,if_neg (fun z=>e (of_decide_eq_true z:k=k').symm)]
   rfl
  rw [this,List.append_nil]
theorem Mu (es:List (Kt × Nat)) (k:Kt):(numsOf es k).length≤es.length:=by
 unfold numsOf
 rw [List.length_map]
 exact List.length_filter_le _ _
structure j6 (rows:List gF) (es:List (Kt × Nat)):Prop where
 nd:(rows.map (·.1)).Nodup
 ns:∀r∈rows,r.2.2=numsOf es r.1∧r.2.2≠[]
 all:∀e∈es,e.1∈rows.map (·.1)
 len:rows.length≤es.length
noncomputable def bump (k:Kt) (i:Nat) (r:gF):gF:=if r.1=k then (r.1,r.2.1,r.2.2++[i]) else r
theorem zG (k:Kt) (i:Nat) (r:gF):(bump k i r).1=r.1:=by unfold bump;split <;> rfl
theorem vW (k:Kt) (i:Nat) (r:gF):(bump k i r).2.1=r.2.1:=by unfold bump;split <;> rfl
theorem Mv (k:Kt) (i:Nat) (rows:List gF):(rows.map (bump k i)).map prV=rows.map prV:=by
 rw [List.map_map]
 refine List.map_congr_left fun r _=>?_
 show (kk (bump k i r).1,V.ref (bump k i r).2.1)=(kk r.1,V.ref r.2.1)
 rw [zG,vW]
theorem j6.old {rows:List gF} {es:List (Kt × Nat)} (h:j6 rows es) {k:Kt} (hk:k∈rows.map (·.1)) (i:Nat):j6 (rows.map (bump k i)) (es++[(k,i)]):=by
 have e1:(rows.map (bump k i)).map (·.1)=rows.map (·.1):=by
  rw [List.map_map]
  exact List.map_congr_left fun r _=>zG k i r
 refine ⟨by rw [e1];exact h.nd,fun r hr=>?_,fun e he=>?_,by rw [List.length_map,List.length_append];have:=h.len;omega⟩
 ·obtain ⟨x,hx,rfl⟩:=List.mem_map.mp hr
  obtain ⟨n1,n2⟩:=h.ns x hx
  rw [uM,zG]
  unfold bump
  by_cases e:x.1=k
  ·rw [if_pos e,if_pos e]
   exact ⟨by rw [←n1],by simp⟩
  ·rw [if_neg e,if_neg e]
   exact ⟨n1,n2⟩
 ·rw [e1]
  rcases List.mem_append.mp he with z | z
  ·exact h.all e z
  ·rw [List.mem_singleton.mp z]
   exact hk
theorem j6.new {rows:List gF} {es:List (Kt × Nat)} (h:j6 rows es) {k:Kt} (hk:k∉rows.map (·.1)) (i:Nat) (a:Addr):j6 (rows++[(k,a,[i])]) (es++[(k,i)]):=by
 have n0:numsOf es k=[]:=by
  unfold numsOf
  rw [List.map_eq_nil_iff,List.filter_eq_nil_iff]
  intro e he z
  exact hk ((of_decide_eq_true z:e.1=k)▸h.all e he)
 refine ⟨?_,fun r hr=>?_,fun e he=>?_,by rw [List.length_append,List.length_append];have:=h.len;simp only [List.length_cons,List.length_nil];omega⟩
 ·rw [List.map_append,List.nodup_append]
  refine ⟨h.nd,by simp,fun x hx y hy=>?_⟩
  have:=List.mem_singleton.mp hy
  subst this
  exact fun z=>hk (z▸hx)
 ·rw [uM]
  rcases List.mem_append.mp hr with z | z
  ·have:r.1≠k:=fun w=>hk (w▸List.mem_map.mpr ⟨r,z,rfl⟩)
   rw [if_neg this]
   exact h.ns r z
  ·rw [List.mem_singleton.mp z]
   rw [if_pos rfl,n0]
   exact ⟨rfl,by simp⟩
 ·rw [List.map_append,List.mem_append]
  rcases List.mem_append.mp he with z | z
  ·exact .inl (h.all e z)
  ·rw [List.mem_singleton.mp z]
   exact .inr (.head _)
structure je (H Hc:Hp) (p1:Addr) (rows:List gF) (es:List (Kt × Nat)):Prop where
 sm:aN H Hc
 di:Hc p1=some (.dT (rows.map prV))
 ea:∀r∈rows,Hc r.2.1=some (.lst (zF r.2.2))
 fr:∀r∈rows,H r.2.1=none
 na:(rows.map fun r=>r.2.1).Nodup
 re:j6 rows es
theorem je.same {H Hc Hd:Hp} {p1:Addr} {rows:List gF} {es:List (Kt × Nat)} (h:je H Hc p1 rows es) (sm:aN Hc Hd):je H Hd p1 rows es:=⟨h.sm.trans sm,sm _ _ h.di,fun r hr=>sm _ _ (h.ea r hr),h.fr,h.na,h.re⟩
theorem je.old {H Hc:Hp} {p1:Addr} {rows:List gF} {es:List (Kt × Nat)} (h:je H Hc p1 rows es) {r:gF} (hr:r∈rows) (i:Nat):je H (upd Hc r.2.1 (.lst (zF r.2.2++[V.int i]))) p1 (rows.map (bump r.1 i)) (es++[(r.1,i)]):=by
 have e2:(rows.map (bump r.1 i)).map (fun r=>r.2.1)=rows.map fun r=>r.2.1:=by
  rw [List.map_map]
  exact List.map_congr_left fun x _=>vW r.1 i x
 refine ⟨gZ (h.fr r hr) h.sm,?_,fun x hx=>?_,fun x hx=>?_,by rw [e2];exact h.na,h.re.old (List.mem_map.mpr ⟨r,hr,rfl⟩) i⟩
 ·rw [aA (iz h.di (h.ea r hr) (by intro z;cases z)),Mv]
  exact h.di
 ·obtain ⟨y,hy,rfl⟩:=List.mem_map.mp hx
  rw [vW]
  by_cases e:y.1=r.1
  ·have:y=r:=nA h.re.nd hy hr e
   subst this
   rw [aq]
   unfold bump zF
   rw [if_pos rfl,List.map_append]
   rfl
  ·have ne:y.2.1≠r.2.1:=fun z=>e (by rw [nA h.na hy hr z])
   rw [aA ne]
   unfold bump
   rw [if_neg e]
   exact h.ea y hy
 ·obtain ⟨y,hy,rfl⟩:=List.mem_map.mp hx
  rw [vW]
  exact h.fr y hy
theorem je.new {H Hc:Hp} {p1 a:Addr} {rows:List gF} {es:List (Kt × Nat)} (h:je H Hc p1 rows es) (n1:H p1=none) {k:Kt} (hk:k∉rows.map (·.1)) (i:Nat) (ha:H a=none) (hc:Hc a=some (.lst [])) (hn:∀r∈rows,r.2.1≠a):
  je H (upd (upd Hc p1 (.dT ((rows++[(k,a,[i])]).map prV))) a (.lst [V.int i])) p1 (rows++[(k,a,[i])]) (es++[(k,i)]):=by
 have pa:p1≠a:=iz h.di hc (by intro z;cases z)
 refine ⟨gZ ha (gZ n1 h.sm),?_,fun x hx=>?_,fun x hx=>?_,?_,h.re.new hk i a⟩
 ·rw [aA pa,aq]
 ·rcases List.mem_append.mp hx with z | z
  ·rw [aA (hn x z),aA (iz h.di (h.ea x z) (by intro z;cases z)).symm]
   exact h.ea x z
  ·rw [List.mem_singleton.mp z]
   exact aq
 ·rcases List.mem_append.mp hx with z | z
  ·exact h.fr x z
  ·rw [List.mem_singleton.mp z]
   exact ha
 ·rw [List.map_append,List.nodup_append]
  refine ⟨h.na,by simp,fun x hx y hy=>?_⟩
  obtain ⟨r,hr,rfl⟩:=List.mem_map.mp hx
  have:=List.mem_singleton.mp hy
  subst this
  exact hn r hr
theorem pY {β:Type} {R:Addr→β→Prop}:∀{vs:List L2.V} {bs:List β},vs.length=bs.length→(∀(i:Nat) (v:L2.V) (b:β),vs[i]?=some v→bs[i]?=some b→∃a,v=V.ref a∧R a b)→∃pa,vs=refs pa∧Paired R pa bs
 | [],[],_,_=>⟨[],rfl,.nil⟩
 | [],_::_,h,_=>by cases h
 | _::_,[],h,_=>by cases h
 | v::vs,b::bs,h,f=>by
  obtain ⟨a,rfl,r⟩:=f 0 v b rfl rfl
  obtain ⟨pa,rfl,p⟩:=pY (R:=R) (vs:=vs) (bs:=bs) (Nat.succ.inj h) fun i v b e1 e2=>f (i+1) v b e1 e2
  exact ⟨a::pa,rfl,.cons r p⟩
theorem vX (a b:Kt):L3.lexLt (kk a) (kk b)=true↔klt a b:=by
 unfold kk klt
 show (if a.1=b.1 then (if (a.2:Int)=(b.2:Int) then false else decide ((a.2:Int) < (b.2:Int))) else decide (a.1 < b.1))=true↔_
 by_cases e1:a.1=b.1
 ·rw [if_pos e1]
  by_cases e2:(a.2:Int)=(b.2:Int)
  ·rw [if_pos e2]
   constructor
   ·intro z;cases z
   ·intro z;omega
  ·rw [if_neg e2,decide_eq_true_iff]
   omega
 ·rw [if_neg e1,decide_eq_true_iff]
  omega
noncomputable def pN:gF:=((0,0),0,[])
theorem mK {rows:List gF} {i:Nat} (hi:i < rows.length):(rows.map fun r=>kk r.1).getD i []=kk (rows.getD i pN).1:=by
 rw [List.getD,List.getElem?_map,List.getD,List.getElem?_eq_getElem hi]
 rfl
theorem By {rows:List gF} {i:Nat} (hi:rows.length≤i):(rows.map fun r=>kk r.1).getD i []=[]:=by
 rw [List.getD,List.getElem?_map,List.getElem?_eq_none hi]
 rfl
theorem sU {rows:List gF} {i j:Nat} (h:ltK (rows.map fun r=>kk r.1) i j=true):i < rows.length∧j < rows.length∧klt (rows.getD i pN).1 (rows.getD j pN).1:=by
 unfold ltK at h
 have hi:i < rows.length:=Nat.lt_of_not_le fun z=>by
  rw [By z] at h
  cases h
 have hj:j < rows.length:=Nat.lt_of_not_le fun z=>by
  rw [By z] at h
  generalize (rows.map fun r=>kk r.1).getD i []=x at h
  rcases x with _ | ⟨_ | _,_⟩ <;> cases h
 rw [mK hi,mK hj] at h
 exact ⟨hi,hj,(vX _ _).mp h⟩
theorem JF {rows:List gF} (nd:(rows.map (·.1)).Nodup):lQ rows.length (ltK (rows.map fun r=>kk r.1)) where
 tr:=fun i j k h1 h2=>by
  obtain ⟨a1,a2,a3⟩:=sU h1
  obtain ⟨b1,b2,b3⟩:=sU h2
  unfold ltK
  rw [mK a1,mK b2,vX]
  unfold klt at *
  omega
 to:=fun i j hi hj ne=>by
  have dn:(rows.getD i pN).1≠(rows.getD j pN).1:=fun z=>by
   have e1:(rows.map (·.1))[i]?=some (rows.getD i pN).1:=by rw [List.getElem?_map,List.getD,List.getElem?_eq_getElem hi];rfl
   have e2:(rows.map (·.1))[j]?=some (rows.getD j pN).1:=by rw [List.getElem?_map,List.getD,List.getElem?_eq_getElem hj];rfl
   rw [←z] at e2
   exact ne ((List.getElem?_inj (by rw [List.length_map];exact hi) nd).mp (e1.trans e2.symm))
  unfold ltK
  rw [mK hi,mK hj,vX,vX]
  unfold klt
  by_cases e:(rows.getD i pN).1.1=(rows.getD j pN).1.1
  ·have:(rows.getD i pN).1.2≠(rows.getD j pN).1.2:=fun z=>dn (Prod.ext e z)
   omega
  ·omega
 ir:=fun i=>by
  cases h:ltK (rows.map fun r=>kk r.1) i i with
  | false=>rfl
  | true=>exact (nu (sU h).2.2 (sU h).2.2).elim
theorem JG {wi:TI} {cs:List (Option Nat)} {te:TE} {σ:L2.St} {H:Hp} {Q:VK} {α:Type} {A:α→Prop} (J:α→It) (H1:α→Hp) (hw:∀R:It→Hp→Prop,(∀i,A i→R (J i) (H1 i))→wi σ H R)
  (body:∀i,A i→tLC (fun _ _ R=>R (J i) (H1 i)) cs (dX 0) u5 te σ H Q):tLC wi cs (dX 0) u5 te σ H Q:=hw _ fun i ai=>body i ai
noncomputable def srt (rows:List gF):List gF:=(oE (ltK (rows.map fun r=>kk r.1)) rows.length).map fun i=>rows.getD i pN
theorem BJ (rows:List gF):(srt rows).length=rows.length:=by
 unfold srt
 rw [List.length_map,(jX _ _).length_eq,List.length_range]
theorem BK {rows:List gF} {r:gF}:r∈srt rows↔r∈rows:=by
 unfold srt
 rw [List.mem_map]
 constructor
 ·rintro ⟨i,hi,rfl⟩
  have:=rN hi
  rw [List.getD,List.getElem?_eq_getElem this]
  exact List.getElem_mem this
 ·intro h
  obtain ⟨i,hi,rfl⟩:=List.getElem_of_mem h
  exact ⟨i,(jX _ _).mem_iff.mpr (List.mem_range.mpr hi),by rw [List.getD,List.getElem?_eq_getElem hi];rfl⟩
theorem j6.plan {rows:List gF} {legs:List (List Kt)} (h:j6 rows (evs legs)):pM legs ((srt rows).map fun r=>(r.1,r.2.2)):=by
 refine ⟨?_,fun b hb=>?_,fun e he=>?_⟩
 ·rw [List.pairwise_map]
  unfold srt
  rw [List.pairwise_map]
  exact (oM (JF h.nd)).imp fun z=>(sU z).2.2
 ·obtain ⟨r,hr,rfl⟩:=List.mem_map.mp hb
  exact h.ns r (BK.mp hr)
 ·obtain ⟨r,hr,e1⟩:=List.mem_map.mp (h.all e he)
  rw [List.map_map]
  exact List.mem_map.mpr ⟨r,BK.mpr hr,e1⟩
section
variable {P:Program} {w:World} {K:PySem.W.Frag} {mg:Str→Option Value} {base:Heap}
noncomputable def JH:Sp:=fun vs H Q _=>∃(l:Addr) (ms:List Addr) (hs:List (List Nat)) (ds:List M1.Rd) (legs:List (List Kt)),vs=[.ref l]∧H l=some (.lst (refs ms))∧Paired (jd hs ds H) ms legs∧legs.length≤33∧(∀ks∈legs,ks.length≤3)∧
 ∀(H':Hp) (D:Addr) (pa:List Addr) (bs:List (Kt × List Nat)),H D=none→aN H H'→H' D=some (.lst (refs pa))→Paired (gU H') pa bs→pM legs bs→bs.length≤99→Q (.ref D) H'
noncomputable abbrev BL:Stmt:=top 47
theorem sV:aX ["_law_legs_here","_law_bags","_law_number","_law_mine","_law_leg"] ["_law_legs_here"] (aH BL):=⟨rfl,rfl,rfl,by decide+kernel,rfl,by decide+kernel,by decide+kernel⟩
theorem Mw {f:Addr} {fd:FuncData} (F:Fun K "_law_plan" "_law_plan" BL f fd) (B:Blt mg):aY P w K mg base CX0 1 f fd ["_law_legs_here"] JH:=by
 refine F.ok sV (fun vs H Q E h=>?_) (fun cdv A outer s H vs Q E hr h=>?_)
 ·obtain ⟨l,ms,hs,ds,legs,rfl,_⟩:=h
  rfl
 ·obtain ⟨l,ms,hs,ds,legs,rfl,hl,lg,few,few3,q⟩:=h
  refine ⟨_,(au (aP (i:=1) sV.nd rfl (Or.inr rfl) wM)
   (au (fY PassesOwn.never rfl (vd rfl B.enumerate (aa (pv 0) ao)) (mX rfl (cG (bw (i:=2) sV.nd rfl (Or.inl rfl)) (cG (bw (i:=3) sV.nd rfl (Or.inl rfl)) jJ)))
    (aB (fY PassesOwn.never rfl (iw (pv 3)) (bw (i:=4) sV.nd rfl (Or.inl rfl))
    (aB (iu (qT PySem.F.plainAttrs_list PySem.F.slot_list_append PySem.F.type_list_append gr (Ij (qU hr) (pv 1) (bN (aa (aM aU (pv 4) az (fun _ _=>rfl)) (aa (aM aU (pv 4) az (fun _ _=>rfl)) ao))) (cj ao) ⟨rfl,rfl,rfl,rfl⟩) (aa (pv 2) ao)))))))
   (aB (aR (nQ (N':=["_law_key","_law_bags"]) (cs:=[none,some 1]) rfl (iw (aG (tX rfl) (by rfl) B.sorted Do (aa (pv 1) ao))) rfl (by decide+kernel) rfl (by decide+kernel) (gY (List.forall_mem_cons.mpr ⟨rfl,(fun p hp=>absurd hp (List.not_mem_nil))⟩)) rfl
    (.own (.cap rfl (.inl rfl) (.inl rfl) rfl .nil))
    (fun C s3 H3 fp pn=>⟨(bw (i:=0) (by show (["_law_key","_law_bags"]:List Str).Nodup;decide+kernel) rfl (.inl rfl)),gH,(bN (aa (aM (mC (K:=K) rfl) (pv 0) az (fun _ _=>rfl)) (aa (aM (mC (K:=K) rfl) (pv 0) az (fun _ _=>rfl)) (aa (gm (rQ (K:=K) rfl) (by rfl) B.tuple ju (aa (Ko (qU hr) (pv 1) (pv 0) (fun _ _=>rfl)) ao)) ao))))⟩)))))),?_⟩
  have ml:=Paired.length lg
  intro p1 n1
  have s1:=aC (o:=.dT []) n1
  have h1:=aq (H:=H) (a:=p1) (o:=.dT [])
  generalize upd H p1 (.dT [])=H1 at s1 h1 ⊢
  refine ⟨_,rfl,l,rfl,⟨_,SqL.of (s1 _ _ hl)⟩,?_⟩
  refine rD (K:=K) (a:=l) (xs:=refs ms) (fun i σ Hc=>∃(rows:List gF) (v2 v3 v4:Option L2.V),σ=[some (.ref l),some (.ref p1),v2,v3,v4]∧je H Hc p1 rows (evs (legs.take i))∧(evs (legs.take i)).length≤3 * i)
   ⟨[],none,none,none,rfl,⟨s1,h1,fun r h=>absurd h List.not_mem_nil,fun r h=>absurd h List.not_mem_nil,List.nodup_nil,⟨List.nodup_nil,fun r h=>absurd h List.not_mem_nil,fun e h=>absurd h List.not_mem_nil,Nat.le_refl _⟩⟩,Nat.le_refl _⟩ (fun i σ Hc ⟨_,_,_,_,_,h,_⟩=>SqL.of (h.sm _ _ hl)) ?_ ?_
  ·rintro i z σ Hc pt ez ⟨rows,v2,v3,v4,rfl,J,fe⟩ npt
   unfold refs at ez
   rw [List.getElem?_map] at ez
   obtain ⟨m,em,rfl⟩:=Option.map_eq_some_iff.mp ez
   obtain ⟨ks,eks,ts,hm,tp⟩:=Paired.get lg em
   have il:=(List.getElem?_eq_some_iff.mp em).1
   have k3:=few3 ks (List.mem_of_getElem? eks)
   have tl:=tp.len
   rw [List.length_map] at tl
   have spt:=aC (o:=.tup [V.int (i:Int),V.ref m]) npt
   refine ⟨pt,_,rfl,SqT.of aq,rfl,?_⟩
   have J:=J.same spt
   generalize upd Hc pt (.tup [V.int (i:Int),V.ref m])=Hd at spt J ⊢
   clear spt npt
   refine ⟨_,_,rfl,_,_,rfl,rfl,?_⟩
   refine ⟨_,rfl,m,rfl,⟨_,SqL.of (J.sm _ _ hm)⟩,?_⟩
   refine nH (K:=K) (a:=m) (xs:=refs ts) (fun j σ He=>∃(rows:List gF) (v4:Option L2.V),σ=[some (.ref l),some (.ref p1),some (.int (i:Int)),some (.ref m),v4]∧je H He p1 rows (evs (legs.take i)++(ks.take j).map fun k=>(k,i)))
    ⟨rows,v4,rfl,by rw [List.take_zero,List.map_nil,List.append_nil];exact J⟩ (fun j σ He _ ⟨_,_,_,h⟩=>SqL.of (h.sm _ _ hm)) ?_ ?_
   ·rintro j z σ He ez ⟨rows,v4,rfl,J⟩
    unfold refs at ez
    rw [List.getElem?_map] at ez
    obtain ⟨t,et,rfl⟩:=Option.map_eq_some_iff.mp ez
    obtain ⟨kv,ekv,ht⟩:=Paired.get tp et
    rw [List.getElem?_map] at ekv
    obtain ⟨k,ek,rfl⟩:=Option.map_eq_some_iff.mp ekv
    have tk:ks.take (j+1)=ks.take j++[k]:=by rw [List.take_add_one,ek];rfl
    have jl:=(List.getElem?_eq_some_iff.mp ek).1
    have lene:(evs (legs.take i)++(ks.take j).map fun k=>(k,i)).length≤200:=by
     rw [List.length_append,List.length_map,List.length_take]
     omega
    have hte:=SqT.of (K:=K) (J.sm _ _ ht)
    refine ⟨_,rfl,p1,rfl,.inr ⟨_,.inl J.di⟩,_,rfl,t,_,_,_,rfl,rfl,hte,rfl,_,rfl,t,_,_,_,rfl,rfl,hte,rfl,(by show 2≤sizeLine;decide),fun q1 nq1=>?_⟩
    have sq1:=aC (o:=.tup [V.int k.1,V.int (k.2:Int)]) nq1
    have hq1:upd He q1 (.tup [V.int k.1,V.int (k.2:Int)]) q1=some (.tup ((kk k).map kV)):=aq
    have J:=J.same sq1
    generalize upd He q1 (.tup [V.int k.1,V.int (k.2:Int)])=Hf at sq1 hq1 J ⊢
    refine ⟨Nat.zero_le _,fun le nle=>?_⟩
    have sle:=aC (o:=.lst []) nle
    have hle:=aq (H:=Hf) (a:=le) (o:=.lst [])
    have leH:H le=none:=by
     cases e:H le with
     | none=>rfl
     | some o=>rw [J.sm _ _ e] at nle;cases nle
    have nler:∀r∈rows,r.2.1≠le:=fun r hr=>aF (J.ea r hr) nle
    have J:=J.same sle
    have hq1:=sle _ _ hq1
    generalize upd Hf le (.lst [])=Hg at sle hle hq1 J ⊢
    have rl:=J.re.len
    refine ⟨_,kk k,q1,rfl,J.di,aV (by rw [List.length_map];omega),hq1,fun v hv=>?_,fun hn=>?_⟩
    ·have hk:k∈rows.map (·.1):=by
      refine Classical.byContradiction fun z=>?_
      rw [xU z] at hv
      cases hv
     obtain ⟨r,hr,rfl⟩:=List.mem_map.mp hk
     rw [oO J.re.nd hr] at hv
     cases hv
     have nl:r.2.2.length≤900:=by
      rw [(J.re.ns r hr).1]
      have:=Mu (evs (legs.take i)++(ks.take j).map fun k=>(k,i)) r.1
      omega
     refine ⟨.inl ⟨rfl,_,SqL.of (J.ea r hr)⟩,_,rfl,r.2.1,_,_,rfl,rfl,J.ea r hr,aV (by unfold zF;rw [List.length_map];omega),?_⟩
     refine ⟨rows.map (bump r.1 i),_,rfl,?_⟩
     rw [tk,List.map_append,←List.append_assoc]
     exact J.old hr i
    ·have hk:k∉rows.map (·.1):=fun z=>by
      obtain ⟨r,hr,rfl⟩:=List.mem_map.mp z
      rw [oO J.re.nd hr] at hn
      cases hn
     have pl:p1≠le:=iz J.di hle (by intro z;cases z)
     have pk:putK (rows.map prV) (kk k) (.ref le)=(rows++[(k,le,[i])]).map prV:=by
      rw [FJ _ hn,List.map_append]
      rfl
     have hle2:upd Hg p1 (.dT (putK (rows.map prV) (kk k) (.ref le))) le=some (.lst []):=by rw [aA pl.symm];exact hle
     refine ⟨.inl ⟨rfl,_,SqL.of hle2⟩,_,rfl,le,_,_,rfl,rfl,hle2,aV (Nat.zero_le _),?_⟩
     refine ⟨rows++[(k,le,[i])],_,rfl,?_⟩
     rw [tk,List.map_append,←List.append_assoc,pk]
     exact J.new n1 hk i leH hle nler
   ·rintro σ He ⟨rows,v4,rfl,J⟩
    refine ⟨rows,_,_,_,rfl,?_,?_⟩
    ·rw [xQ eks]
     rw [bf,tl,List.take_length] at J
     exact J
    ·rw [xQ eks,List.length_append,List.length_map]
     omega
  ·rintro σ Hc ⟨rows,v2,v3,v4,rfl,J,fe⟩
   rw [bf,ml,List.take_length] at J fe
   have rl:=J.re.len
   have kl:(rows.map prV).map (·.1)=rows.map fun r=>kk r.1:=by rw [List.map_map];rfl
   dsimp only [yp]
   refine JG (α:=Addr × List Addr) (A:=fun z=>Hc z.1=none∧Paired (fun r k=>Hc r=some (.tup (k.map kV))) z.2 ((rows.map prV).map fun x:List Key × L2.V=>x.1)) (fun z=>Itl K z.1) (fun z:Addr × List Addr=>upd Hc z.1 (.lst (jb .non (ltK ((rows.map prV).map fun x:List Key × L2.V=>x.1)) (z.2.map V.ref)))) (fun R h=>⟨_,rfl,p1,_,true,[true],rfl,J.di,(by rw [List.length_map];exact Nat.le_of_lt (aV (by omega))),(by rw [List.length_map,kl];exact JF J.re.nd),(fun q hq=>by obtain ⟨r,_,rfl⟩:=List.mem_map.mp hq;rfl),fun ts l2 nl2 tp=>⟨l2,rfl,⟨_,SqL.of aq⟩,h (l2,ts) ⟨nl2,tp⟩⟩⟩) fun z hz=>?_
   obtain ⟨l2,ts⟩:=z
   obtain ⟨nl2,tp⟩:=hz
   dsimp only at nl2 tp ⊢
   rw [kl] at tp ⊢
   have tl:ts.length=rows.length:=by have:=Paired.length tp;rw [List.length_map] at this;exact this
   have s2:=aC (o:=.lst (jb V.non (ltK (rows.map fun r=>kk r.1)) (ts.map V.ref))) nl2
   have h2:=aq (H:=Hc) (a:=l2) (o:=.lst (jb V.non (ltK (rows.map fun r=>kk r.1)) (ts.map V.ref)))
   have J2:=J.same s2
   have sl:=rO V.non (ltK (rows.map fun r=>kk r.1)) (ts.map V.ref)
   rw [List.length_map] at sl
   have at_:∀(i:Nat) (x:L2.V),(jb V.non (ltK (rows.map fun r=>kk r.1)) (ts.map V.ref))[i]?=some x→∃u r,x=.ref u∧(srt rows)[i]?=some r∧r∈rows∧Hc u=some (.tup ((kk r.1).map kV)):=fun i x ex=>by
    unfold jb at ex
    rw [List.length_map,tl,List.getElem?_map] at ex
    obtain ⟨j,ej,rfl⟩:=Option.map_eq_some_iff.mp ex
    have hj:=rN (List.mem_of_getElem? ej)
    have eu:ts[j]?=some (ts[j]'(by omega)):=List.getElem?_eq_getElem (by omega)
    obtain ⟨k,ek,hu⟩:=Paired.get tp eu
    rw [List.getElem?_map,List.getElem?_eq_getElem hj] at ek
    cases ek
    refine ⟨ts[j]'(by omega),rows[j],?_,?_,List.getElem_mem hj,hu⟩
    ·rw [List.getD,List.getElem?_map,eu]
     rfl
    ·unfold srt
     rw [List.getElem?_map,ej]
     show some (rows.getD j pN)=_
     rw [List.getD,List.getElem?_eq_getElem hj]
     rfl
   generalize upd Hc l2 (.lst (jb V.non (ltK (rows.map fun r=>kk r.1)) (ts.map V.ref)))=Hd at s2 h2 J2 ⊢
   refine Bk (J:=Itl K l2) (H1:=Hd) (xs:=jb V.non (ltK (rows.map fun r=>kk r.1)) (ts.map V.ref)) (rest:=[some (.ref p1)]) (fun R h=>h) rfl (nT (SqL.of h2)) (aV (by omega))
    (fun i v H5=>∃a r,v=.ref a∧(srt rows)[i]?=some r∧gU H5 a (r.1,r.2.2)) (fun i v H2 H3 sm h=>?_) (fun i v H2 D ys zs hD h=>?_) (fun i x H2 R ex sm k=>?_) (fun D H2 vs nD hD vl hv sD=>?_)
   ·obtain ⟨a,r,e1,e2,b1⟩:=h
    exact ⟨a,r,e1,e2,b1.same sm⟩
   ·obtain ⟨a,r,e1,e2,c,b1,b2⟩:=h
    exact ⟨a,r,e1,e2,c,by rw [aA (iz b1 hD (by intro z;cases z))];exact b1,by rw [aA (iz b2 hD (by intro z;cases z))];exact b2⟩
   ·obtain ⟨u,r,rfl,er,hr,hu⟩:=at_ i x ex
    have hu2:=SqT.of (K:=K) (sm _ _ (s2 _ _ hu))
    have hb2:=sm _ _ (J2.ea r hr)
    have vr:=oO J.re.nd hr
    refine ⟨_,rfl,u,_,_,_,rfl,rfl,hu2,rfl,_,rfl,u,_,_,_,rfl,rfl,hu2,rfl,?_⟩
    refine ⟨_,rfl,_,rfl,p1,_,rfl,(by rw [←vr];exact tK.t (sm _ _ J2.di) (sm _ _ (s2 _ _ hu))),r.2.1,_,rfl,.inl ⟨SqL.of hb2,fun l5 nl5=>?_⟩⟩
    have s5:=aC (o:=.tup (zF r.2.2)) nl5
    have h5:=aq (H:=H2) (a:=l5) (o:=.tup (zF r.2.2))
    generalize upd H2 l5 (.tup (zF r.2.2))=H5 at s5 h5 ⊢
    refine ⟨(by show 3≤sizeLine;decide),fun p6 np6=>k _ _ (s5.trans (aC np6)) ⟨p6,r,rfl,er,l5,aq,aC np6 _ _ h5⟩⟩
   ·obtain ⟨pa,rfl,hp⟩:=pY (R:=gU H2) (vs:=vs) (bs:=(srt rows).map fun r=>(r.1,r.2.2)) (by rw [vl,sl,List.length_map,BJ,tl]) fun i v b e1 e2=>by
     obtain ⟨a,r,e3,e4,e5⟩:=hv i v e1
     rw [List.getElem?_map,e4] at e2
     cases e2
     exact ⟨a,e3,e5⟩
    refine q H2 D pa _ ?_ (J.sm.trans (s2.trans sD)) hD hp J.re.plan (by rw [List.length_map,BJ];omega)
    cases e:H D with
    | none=>rfl
    | some o=>rw [(J.sm.trans s2) _ _ e] at nD;cases nD
end
open PySem L2 L3 M1
theorem gP.init {hs:List (List Nat)} {ds:List M1.Rd} {h:Str} {t:Int} {g:Str} {ks:List Kt} {k:Kt} (c:gP hs ds h t g (ks++[k])):gP hs ds h t g ks:=fun j k' e=>by
 have hj:=(List.getElem?_eq_some_iff.mp e).1
 have:=c j k' (by rw [List.getElem?_append_left hj];exact e)
 rw [List.take_append_of_le_length (by omega)] at this
 exact this
theorem JK {hs:List (List Nat)} {ds:List M1.Rd} {h:Str} {t:Int} {g:Str} (ht:∀r,r < ds.length→1≤rTn ds r):∀n,∀{ks:List Kt},ks.length=n→gP hs ds h t g ks→(ks.Pairwise fun a b=>a.1 < b.1)∧(∀k∈ks,t≤k.1)∧(∀k∈ks,k.1 < oK ds t ks)∧t≤oK ds t ks:=by
 intro n
 induction n with
 | zero=>
  intro ks hn c
  have e:=List.length_eq_zero_iff.mp hn
  subst e
  exact ⟨List.Pairwise.nil,fun k h=>absurd h List.not_mem_nil,fun k h=>absurd h List.not_mem_nil,Int.le_refl _⟩
 | succ n ih=>
  intro ks hn c
  rcases List.eq_nil_or_concat ks with e | ⟨pre,k,e⟩
  ·subst e;cases hn
  ·rw [List.concat_eq_append] at e
   subst e
   rw [List.length_append] at hn
   obtain ⟨p1,p2,p3,p4⟩:=ih (ks:=pre) (by simpa using hn) c.init
   obtain ⟨q1,q2,q3,q4⟩:=c pre.length k (by simp)
   rw [List.take_append_of_le_length (Nat.le_refl _),List.take_length] at q4
   have:=ht _ q1
   rw [mH]
   refine ⟨?_,fun x hx=>?_,fun x hx=>?_,by omega⟩
   ·rw [List.pairwise_append]
    refine ⟨p1,by simp,fun x hx y hy=>?_⟩
    have:=List.mem_singleton.mp hy
    subst this
    have:=p3 x hx
    omega
   ·rcases List.mem_append.mp hx with hx | hx
    ·exact p2 x hx
    ·have:=List.mem_singleton.mp hx
     subst this
     omega
   ·rcases List.mem_append.mp hx with hx | hx
    ·have:=p3 x hx
     omega
    ·have:=List.mem_singleton.mp hx
     subst this
     omega
noncomputable def stt (hs:List (List Nat)) (ds:List M1.Rd) (lts:List (Str × Int × Str)) (legs:List (List Kt)) (P:Kt→Bool):List (List Step):=lts.mapIdx fun i d=>bO d++((legs.getD i []).filter P).map (stepK hs ds)
theorem mL (hs:List (List Nat)) (ds:List M1.Rd) (lts:List (Str × Int × Str)) (legs:List (List Kt)) (P:Kt→Bool) (i:Nat):(stt hs ds lts legs P)[i]?=(lts[i]?).map fun d=>bO d++((legs.getD i []).filter P).map (stepK hs ds):=by
 unfold stt
 rw [List.getElem?_mapIdx]
theorem Mx (hs:List (List Nat)) (ds:List M1.Rd) (lts:List (Str × Int × Str)) (legs:List (List Kt)) (P:Kt→Bool):(stt hs ds lts legs P).length=lts.length:=by
 unfold stt
 rw [List.length_mapIdx]
theorem Qe {ks:List Kt} {k:Kt} (pw:ks.Pairwise klt) (h:k∈ks):∃a c,ks=a++k::c∧(∀x∈a,klt x k)∧∀x∈c,klt k x:=by
 obtain ⟨a,c,rfl⟩:=List.append_of_mem h
 rw [List.pairwise_append] at pw
 exact ⟨a,c,rfl,fun x hx=>pw.2.2 x hx k (.head _),fun x hx=>(List.pairwise_cons.mp pw.2.1).1 x hx⟩
noncomputable def inK (pre:List (Kt × List Nat)) (k:Kt):Bool:=decide (k∈pre.map (·.1))
theorem Wks.of_plan {hs:List (List Nat)} {ds:List M1.Rd} {lts:List (Str × Int × Str)} {legs:List (List Kt)} {bs:List (Kt × List Nat)} (L:vU hs ds lts legs) (P:pM legs bs) (ht:∀r,r < ds.length→1≤rTn ds r) (few:lts.length≤100):
  ∀(post pre:List (Kt × List Nat)) (ah:Option Kt),bs=pre++post→(∀k,ah=some k→k∈pre.map (·.1))→Wks hs ds (lts.map fun d=>d.2.2) (stt hs ds lts legs (inK pre)) ah post (stt hs ds lts legs fun _=>true)
 | [],pre,ah,e,_=>by
  have e2:stt hs ds lts legs (inK pre)=stt hs ds lts legs fun _=>true:=by
   rw [List.append_nil] at e
   subst e
   apply List.ext_getElem?
   intro i
   rw [mL,mL]
   cases ei:lts[i]? with
   | none=>rfl
   | some d=>
    have hi:i < legs.length:=by rw [L.len];exact (List.getElem?_eq_some_iff.mp ei).1
    have:((legs.getD i []).filter (inK bs))=(legs.getD i []).filter fun _=>true:=List.filter_congr fun k hk=>by
     rw [List.getD,List.getElem?_eq_getElem hi] at hk
     exact decide_eq_true (P.all (k,i) (lV.mpr ⟨i,_,by omega,List.getElem?_eq_getElem hi,hk⟩))
    show some _=some _
    rw [this]
  rw [e2]
  exact .nil
 | b::post,pre,ah,e,hah=>by
  have bm:b∈bs:=by rw [e];exact List.mem_append.mpr (.inr (.head _))
  obtain ⟨b2,bne⟩:=P.mem b bm
  have pw:=P.pw
  rw [e,List.pairwise_append] at pw
  obtain ⟨pw1,pw2,pw3⟩:=pw
  have pw4:=(List.pairwise_cons.mp pw2).1
  have up:∀(i:Nat) ks,legs[i]?=some ks→ks.Pairwise klt∧∀x∈ks,x∈bs.map (·.1):=fun i ks ei=>by
   have hi:i < lts.length:=by rw [←L.len];exact (List.getElem?_eq_some_iff.mp ei).1
   obtain ⟨c,_,_⟩:=L.ch i lts[i] ks (List.getElem?_eq_getElem hi) ei
   exact ⟨(JK ht _ rfl c).1.imp fun z=>.inl z,fun x hx=>P.all (x,i) (lV.mpr ⟨i,ks,by omega,ei,hx⟩)⟩
  have nd:∀ks∈legs,ks.Nodup:=fun ks hk=>by
   obtain ⟨i,hi,rfl⟩:=List.getElem_of_mem hk
   exact (up i _ (List.getElem?_eq_getElem hi)).1.imp fun z=>zE z
  have inPre:∀x,x∈bs.map (·.1)→klt x b.1→inK pre x=true:=fun x hx hl=>by
   rw [e,List.map_append,List.mem_append] at hx
   rcases hx with hx | hx
   ·exact decide_eq_true hx
   ·obtain ⟨y,hy,rfl⟩:=List.mem_map.mp hx
    rcases List.mem_cons.mp hy with z | z
    ·subst z;exact (nu hl hl).elim
    ·exact (nu hl (pw4 y z)).elim
  have preLt:∀x,inK pre x=true→klt x b.1:=fun x hx=>by
   obtain ⟨y,hy,rfl⟩:=List.mem_map.mp (of_decide_eq_true hx)
   exact pw3 y hy b (.head _)
  have snoc:∀x,inK (pre++[b]) x=true↔inK pre x=true∨x=b.1:=fun x=>by
   unfold inK
   rw [decide_eq_true_iff,decide_eq_true_iff,List.map_append,List.mem_append]
   simp
  have cut:∀(i:Nat) ks,legs[i]?=some ks→b.1∈ks→∃a c,ks=a++b.1::c∧ks.filter (inK pre)=a∧ks.filter (inK (pre++[b]))=a++[b.1]:=fun i ks ei hk=>by
   obtain ⟨u1,u2⟩:=up i ks ei
   obtain ⟨a,c,rfl,h1,h2⟩:=Qe u1 hk
   have fa:a.filter (inK pre)=a:=List.filter_eq_self.mpr fun x hx=>inPre x (u2 x (List.mem_append.mpr (.inl hx))) (h1 x hx)
   have fc:(b.1::c).filter (inK pre)=[]:=List.filter_eq_nil_iff.mpr fun x hx z=>by
    have:=preLt x z
    rcases List.mem_cons.mp hx with w | w
    ·subst w;exact nu this this
    ·exact nu this (h2 x w)
   have fa2:a.filter (inK (pre++[b]))=a:=List.filter_eq_self.mpr fun x hx=>(snoc x).mpr (.inl (inPre x (u2 x (List.mem_append.mpr (.inl hx))) (h1 x hx)))
   have fc2:c.filter (inK (pre++[b]))=[]:=List.filter_eq_nil_iff.mpr fun x hx z=>by
    rcases (snoc x).mp z with w | w
    ·exact nu (preLt x w) (h2 x hx)
    ·exact zE (h2 x hx) w.symm
   refine ⟨a,c,rfl,?_,?_⟩
   ·rw [List.filter_append,fa,fc,List.append_nil]
   ·rw [List.filter_append,fa2,List.filter_cons,if_pos ((snoc b.1).mpr (.inr rfl)),fc2]
  have nxt:gO (stepK hs ds b.1) b.2 (stt hs ds lts legs (inK pre))=stt hs ds lts legs (inK (pre++[b])):=by
   apply List.ext_getElem?
   intro i
   rw [gC,mL,mL,Option.map_map]
   cases ei:lts[i]? with
   | none=>rfl
   | some d=>
    have hi:i < legs.length:=by rw [L.len];exact (List.getElem?_eq_some_iff.mp ei).1
    have el:legs[i]?=some legs[i]:=List.getElem?_eq_getElem hi
    have eg:legs.getD i []=legs[i]:=by rw [List.getD,el];rfl
    show some (if i∈b.2 then (bO d++((legs.getD i []).filter (inK pre)).map (stepK hs ds))++[stepK hs ds b.1] else bO d++((legs.getD i []).filter (inK pre)).map (stepK hs ds))=some _
    rw [eg]
    by_cases hm:i∈b.2
    ·rw [if_pos hm]
     rw [b2] at hm
     obtain ⟨ks,e1,e2⟩:=lW.mp hm
     rw [el] at e1
     cases e1
     obtain ⟨a,c,_,f1,f2⟩:=cut i _ el e2
     rw [f1,f2,List.map_append,List.append_assoc]
     rfl
    ·rw [if_neg hm]
     have:legs[i].filter (inK (pre++[b]))=legs[i].filter (inK pre):=List.filter_congr fun x hx=>by
      have ne:x≠b.1:=fun z=>hm (by rw [b2];exact lW.mpr ⟨_,el,by rw [←z];exact hx⟩)
      have:=snoc x
      cases h1:inK (pre++[b]) x with
      | true=>
       rcases this.mp h1 with w | w
       ·exact w.symm
       ·exact absurd w ne
      | false=>
       cases h2:inK pre x with
       | true=>rw [this.mpr (.inl h2)] at h1;cases h1
       | false=>rfl
     rw [this]
  have one:∀i∈b.2,∃d a c,lts[i]?=some d∧legs[i]?=some (a++b.1::c)∧(a++b.1::c).filter (inK pre)=a∧gP hs ds d.1 d.2.1 d.2.2 (a++b.1::c):=fun i hi=>by
   rw [b2] at hi
   obtain ⟨ks,e1,e2⟩:=lW.mp hi
   have hl:i < lts.length:=by rw [←L.len];exact (List.getElem?_eq_some_iff.mp e1).1
   have el:lts[i]?=some lts[i]:=List.getElem?_eq_getElem hl
   obtain ⟨a,c,rfl,f1,_⟩:=cut i _ e1 e2
   exact ⟨lts[i],a,c,el,e1,f1,(L.ch i _ _ el e1).1⟩
  have lt:∀i∈b.2,i < lts.length:=fun i hi=>by
   obtain ⟨d,a,c,e1,_⟩:=one i hi
   exact (List.getElem?_eq_some_iff.mp e1).1
  have ris:b.2.Pairwise (· < ·):=by rw [b2];exact (xT (k:=b.1) (n:=0) nd).1
  have lenF:∀(l:List Nat) (n:Nat),l.Pairwise (· < ·)→(∀x∈l,x < n)→l.length≤n:=fun l=>by
   intro n p h
   have:∀(l:List Nat) (m:Nat),l.Pairwise (· < ·)→(∀x∈l,m≤x∧x < n)→l.length+m≤n∨l=[]:=fun l=>by
    induction l with
    | nil=>exact fun m _ _=>.inr rfl
    | cons x l ih=>
     intro m p h
     rw [List.pairwise_cons] at p
     obtain ⟨h1,h2⟩:=h x (.head _)
     refine .inl ?_
     rcases ih (x+1) p.2 (fun y hy=>⟨p.1 y hy,(h y (.tail _ hy)).2⟩) with z | z
     ·rw [List.length_cons];omega
     ·subst z;simp;omega
   rcases this l 0 p (fun x hx=>⟨Nat.zero_le _,h x hx⟩) with z | z
   ·omega
   ·subst z;exact Nat.zero_le _
  refine .cons ⟨bne,?_,?_,?_,?_,ris,?_,?_⟩ ?_
  ·have:=lenF b.2 lts.length ris lt
   omega
  ·cases ah with
   | none=>trivial
   | some k=>
    obtain ⟨y,hy,rfl⟩:=List.mem_map.mp (hah k rfl)
    exact pw3 y hy b (.head _)
  ·cases eb:b.2 with
   | nil=>exact absurd eb bne
   | cons i r=>
    obtain ⟨d,a,c,e1,e2,_,ch⟩:=one i (by rw [eb];exact .head _)
    exact (ch a.length b.1 (by simp)).1
  ·rw [b2,JD]
   exact L.cn b.1
  ·rw [Mx]
   exact lt
  ·intro i hi
   obtain ⟨d,a,c,e1,e2,f1,ch⟩:=one i hi
   obtain ⟨_,c2,c3,c4⟩:=ch a.length b.1 (by simp)
   rw [List.take_append_of_le_length (Nat.le_refl _),List.take_length] at c2 c3 c4
   have ey:(lts.map fun d=>d.2.2)[i]?=some d.2.2:=by rw [List.getElem?_map,e1];rfl
   have es:(stt hs ds lts legs (inK pre))[i]?=some (bO d++a.map (stepK hs ds)):=by
    rw [mL,e1]
    show some (bO d++((legs.getD i []).filter (inK pre)).map (stepK hs ds))=_
    rw [List.getD,e2]
    show some (bO d++((a++b.1::c).filter (inK pre)).map (stepK hs ds))=_
    rw [f1]
   rcases List.eq_nil_or_concat a with z | ⟨a',k',z⟩
   ·subst z
    exact ⟨[],⟨d.2.1,none,d.1,d.2.1⟩,d.2.2,es,ey,by
     unfold pD
     rw [Bool.and_eq_true,Bool.and_eq_true,decide_eq_true_iff,decide_eq_true_iff,decide_eq_true_iff]
     exact ⟨c3,c2.symm,c4⟩⟩
   ·rw [List.concat_eq_append] at z
    subst z
    rw [uI] at c2 c3
    rw [mH] at c4
    exact ⟨bO d++a'.map (stepK hs ds),stepK hs ds k',d.2.2,by rw [es,List.map_append,List.append_assoc];rfl,ey,by
     unfold pD
     rw [Bool.and_eq_true,Bool.and_eq_true,decide_eq_true_iff,decide_eq_true_iff,decide_eq_true_iff]
     exact ⟨c3,c2.symm,c4⟩⟩
  ·rw [nxt]
   exact Wks.of_plan L P ht few post (pre++[b]) (some b.1) (by rw [e,List.append_assoc];rfl) fun k hk=>by
    cases hk
    rw [List.map_append,List.mem_append]
    exact .inr (by simp)
theorem Ec (hs:List (List Nat)) (ds:List M1.Rd) (lts:List (Str × Int × Str)) (legs:List (List Kt)):stt hs ds lts legs (inK [])=lts.map bO:=by
 apply List.ext_getElem?
 intro i
 rw [mL,List.getElem?_map]
 cases lts[i]? with
 | none=>rfl
 | some d=>
  have:(legs.getD i []).filter (inK [])=[]:=List.filter_eq_nil_iff.mpr fun x _ z=>by
   have:=of_decide_eq_true z
   exact absurd this List.not_mem_nil
  show some (bO d++((legs.getD i []).filter (inK [])).map (stepK hs ds))=some (bO d)
  rw [this,List.map_nil,List.append_nil]
theorem Wks.whole {hs:List (List Nat)} {ds:List M1.Rd} {lts:List (Str × Int × Str)} {legs:List (List Kt)} {bs:List (Kt × List Nat)} (L:vU hs ds lts legs) (P:pM legs bs) (ht:∀r,r < ds.length→1≤rTn ds r) (few:lts.length≤100):
  Wks hs ds (lts.map fun d=>d.2.2) (lts.map bO) none bs (stt hs ds lts legs fun _=>true):=by
 have:=Wks.of_plan L P ht few bs [] none rfl (fun k h=>nomatch h)
 rw [Ec] at this
 exact this
noncomputable def gj (b:Kt × List Nat):PyData:=.tuple [.int b.1.1,.int b.1.2,.tuple (b.2.map fun n:Nat=>.int n)]
theorem xV {K:PySem.W.Frag} {H:Hp}:∀ns:List Nat,Dts K H (ns.map fun n:Nat=>V.int n) (ns.map fun n:Nat=>PyData.int n)
 | []=>.nil
 | _::ns=>.cons (.int _) (xV ns)
theorem xW {K:PySem.W.Frag} {H:Hp}:∀{pa:List Addr} {bs:List (Kt × List Nat)},Paired (gU H) pa bs→Dts K H (refs pa) (bs.map gj)
 | _,_,.nil=>.nil
 | _,_,.cons ⟨c,h1,h2⟩ t=>.cons (.tup (SqT.of h1) (.cons (.int _) (.cons (.int _) (.cons (.tup (SqT.of h2) (xV _)) .nil)))) (xW t)
theorem JL (b:Kt × List Nat):(gj b).canLay0=true:=by
 show PyData.canLayAll0 [.int b.1.1,.int b.1.2,.tuple (b.2.map fun n:Nat=>.int n)]=true
 refine mD fun d hd=>?_
 simp only [List.mem_cons,List.not_mem_nil,or_false] at hd
 rcases hd with rfl | rfl | rfl
 ·rfl
 ·rfl
 ·exact mD fun d hd=>by obtain ⟨n,_,rfl⟩:=List.mem_map.mp hd;rfl
theorem sW (b:Kt × List Nat):(gj b).depth≤2:=by
 refine Nat.succ_le_succ (gw fun d hd=>?_)
 simp only [List.mem_cons,List.not_mem_nil,or_false] at hd
 rcases hd with rfl | rfl | rfl
 ·exact Nat.zero_le _
 ·exact Nat.zero_le _
 ·exact Nat.succ_le_succ (gw fun d hd=>by obtain ⟨n,_,rfl⟩:=List.mem_map.mp hd;exact Nat.le_refl _)
theorem vY (bs:List (Kt × List Nat)):SeqAt.shaped (.list (bs.map gj))=true:=
 iV (n:=3) (mD fun d hd=>by obtain ⟨b,_,rfl⟩:=List.mem_map.mp hd;exact JL b) (M5 fun d hd=>by obtain ⟨b,_,rfl⟩:=List.mem_map.mp hd;exact sW b) (by decide)
noncomputable def R8 (d:Str × Int × Str):Prop:=(d.1.length≤8∧PyData.canLay0 (.str d.1)=true)∧d.1≠d.2.2∧0≤d.2.1∧d.2.1≤2000000000
theorem Mz {H:Hp} {rs:List Addr} {hs:List (List Nat)} {ds:List M1.Rd} (R:cB H hs rs ds):∀r,r < ds.length→1≤rTn ds r:=fun r hr=>by
 unfold rTn
 rw [List.getD,List.getElem?_eq_getElem hr]
 exact (R.ok _ (List.getElem_mem hr)).t.1
noncomputable def ahI:Option Kt→Option (Int × Int):=Option.map fun k=>(k.1,(k.2:Int))
noncomputable def wst (hs:List (List Nat)) (ds:List M1.Rd) (bs:List (Kt × List Nat)) (sss:List (List Step)):List (List Step):=bs.foldl (fun s b=>gO (stepK hs ds b.1) b.2 s) sss
noncomputable def mW (ah:Option Kt) (bs:List (Kt × List Nat)):Option Kt:=bs.foldl (fun _ b=>some b.1) ah
theorem JM (b:Kt × List Nat):gj b=tU b.1.1 b.1.2 (b.2.map fun n:Nat=>(n:Int)):=by
 unfold gj tU
 rw [List.map_map]
 rfl
theorem JN (b:Kt × List Nat):toB (gj b)=(b.1.1,(b.1.2:Int),b.2.map fun n:Nat=>(n:Int)):=by rw [JM,Bm]
section
variable {hs:List (List Nat)} {ds:List M1.Rd} {gs:List Str} {sss fin mid:List (List Step)} {ah:Option Kt} {bs:List (Kt × List Nat)}
theorem JP (ns:List Nat):(ns.map fun n:Nat=>(n:Int)).map Int.toNat=ns:=by
 rw [List.map_map]
 exact (List.map_congr_left fun n _=>Int.toNat_natCast n).trans (List.map_id _)
theorem JQ {m:Int}:∀{ns:List Nat} {a:Int},ns.Pairwise (· < ·)→(∀n∈ns,a < (n:Int)∧(n:Int) < m)→jg m a (ns.map fun n:Nat=>(n:Int))=true
 | [],_,_,_=>rfl
 | n::r,a,pw,h=>by
  rw [List.map_cons]
  unfold jg
  rw [if_pos (h n (.head _))]
  rw [List.pairwise_cons] at pw
  exact JQ pw.2 fun x hx=>⟨by have:=pw.1 x hx;omega,(h x (.tail _ hx)).2⟩
theorem Iu.rsn {b:Kt × List Nat} (ok:Iu hs ds gs sss ah b):kJ hs ds gs sss (ahI ah) (gj b)=none:=by
 unfold kJ
 have ne2:(b.2.map fun n:Nat=>(n:Int))≠[]:=fun z=>ok.ne (List.map_eq_nil_iff.mp z)
 rw [if_pos (by rw [JM];exact DP ne2),JN]
 unfold zr
 have o:rZ (ahI ah) b.1.1 (b.1.2:Int)=false:=by
  have o:=ok.ord
  cases ah with
  | none=>rfl
  | some k=>
   have o:k.1 < b.1.1∨(k.1=b.1.1∧k.2 < b.1.2):=o
   show (if b.1.1=k.1 then decide ((b.1.2:Int)≤(k.2:Int)) else decide (b.1.1≤k.1))=false
   split
   ·exact decide_eq_false (by omega)
   ·exact decide_eq_false (by omega)
 have rd:=ok.rd
 have c1:¬¬((0:Int)≤(b.1.2:Int)∧(b.1.2:Int) < ds.length):=fun z=>z ⟨by omega,by omega⟩
 have rm:=ok.room
 have c2:¬rRm ds ((b.1.2:Int)).toNat < ((b.2.map fun n:Nat=>(n:Int)).length:Int):=by
  rw [Int.toNat_natCast,List.length_map]
  omega
 have c3:jg sss.length (-1) (b.2.map fun n:Nat=>(n:Int))=true:=JQ ok.ris fun n hn=>⟨by omega,by have:=ok.lt n hn;omega⟩
 have c4:(b.2.map fun n:Nat=>(n:Int)).all (dD hs ds gs sss b.1.1 (b.1.2:Int))=true:=by
  rw [List.all_map,List.all_eq_true]
  intro n hn
  obtain ⟨ss,s,y,e1,e2,e3⟩:=ok.can n hn
  show pD (dD.lastAt' sss (n:Int).toNat) (gs.getD (n:Int).toNat Str.empty) (iT hs ds (b.1.2:Int).toNat) b.1.1=true
  rw [Int.toNat_natCast,Int.toNat_natCast,dG e2]
  have:dD.lastAt' sss n=s:=by
   unfold dD.lastAt'
   rw [dG e1]
   simp
  rw [this]
  exact e3
 show (if rZ (ahI ah) b.1.1 (b.1.2:Int)=true then _ else _)=none
 rw [if_neg (by rw [o];simp),if_neg c1,if_neg c2,if_neg (by rw [c3];simp),if_neg (by rw [c4];simp)]
theorem Wks.walkD (w:Wks hs ds gs sss ah bs mid):∀(p:Nat) (rest:List PyData),K1.walkD hs ds gs (ahI ah) sss p (bs.map gj++rest)=K1.walkD hs ds gs (ahI (mW ah bs)) mid (p+bs.length) rest:=by
 induction w with
 | nil=>intro p rest;rfl
 | @cons sss ah b bs mid ok t ih=>
  intro p rest
  rw [List.map_cons,List.cons_append]
  show (match kJ hs ds gs sss (ahI ah) (gj b) with | some e=>Sum.inl (p,e) | none=>K1.walkD hs ds gs (some (zu (gj b))) (tV hs ds (gj b) sss) (p+1) (bs.map gj++rest))=_
  rw [ok.rsn]
  have e1:zu (gj b)=(b.1.1,(b.1.2:Int)):=by unfold zu;rw [JN]
  have e2:tV hs ds (gj b) sss=gO (stepK hs ds b.1) b.2 sss:=by
   unfold tV
   rw [JN]
   show gO (stepK hs ds (b.1.1,((b.1.2:Int)).toNat)) ((b.2.map fun n:Nat=>(n:Int)).map Int.toNat) sss=_
   rw [JP,Int.toNat_natCast]
  show K1.walkD hs ds gs (some (zu (gj b))) (tV hs ds (gj b) sss) (p+1) (bs.map gj++rest)=_
  rw [e1,e2]
  have:=ih (p+1) rest
  rw [show p+(b::bs).length=p+1+bs.length by rw [List.length_cons];omega]
  exact this
theorem Wks.take (w:Wks hs ds gs sss ah bs fin):∀i,Wks hs ds gs sss ah (bs.take i) (wst hs ds (bs.take i) sss):=by
 induction w with
 | nil=>intro i;rw [List.take_nil];exact .nil
 | @cons sss ah b bs fin ok t ih=>
  intro i
  cases i with
  | zero=>exact .nil
  | succ i=>exact .cons ok (ih i)
theorem Wks.len_ (w:Wks hs ds gs sss ah bs fin):fin.length=sss.length:=by
 induction w with
 | nil=>rfl
 | cons ok t ih=>rw [ih,ie]
theorem Wks.wst_ (w:Wks hs ds gs sss ah bs fin):fin=wst hs ds bs sss:=by
 induction w with
 | nil=>rfl
 | cons ok t ih=>exact ih
theorem xY {st:Step} {ns:List Nat} {sss:List (List Step)} {n:Nat} (hn:n < sss.length):dD.lastAt' (gO st ns sss) n=if n∈ns then st else dD.lastAt' sss n:=by
 unfold dD.lastAt'
 rw [List.getD,gC,List.getElem?_eq_getElem hn]
 show ((if n∈ns then sss[n]++[st] else sss[n])).getLastD _=_
 rw [dG (List.getElem?_eq_getElem hn)]
 split
 ·simp
 ·rfl
theorem Wks.home_ (w:Wks hs ds gs sss ah bs fin) {n:Nat} {y:Str} (ey:gs[n]?=some y) (hn:n < sss.length) (h:(dD.lastAt' sss n).house=y):dD.lastAt' fin n=dD.lastAt' sss n:=by
 induction w with
 | nil=>rfl
 | @cons sss ah b bs fin ok t ih=>
  have nb:n∉b.2:=fun z=>by
   obtain ⟨ss,s,y',e1,e2,e3⟩:=ok.can n z
   rw [ey] at e2
   cases e2
   have:dD.lastAt' sss n=s:=by
    unfold dD.lastAt'
    rw [dG e1]
    simp
   unfold pD at e3
   rw [this] at h
   rw [h] at e3
   simp at e3
  have la:=xY (st:=stepK hs ds b.1) (ns:=b.2) hn
  rw [if_neg nb] at la
  rw [ih (by rw [ie];exact hn) (by rw [la];exact h),la]
end
end K1
namespace L2
open PySem
theorem cut {a b:TS} {D:Ends} {σ:St} {H:Hp} (h:∀R:TS,R=b→oU a R D σ H):oU a b D σ H:=h b rfl
end L2
namespace K1
open PySem L2 L3 M1
section
variable {P:Program} {w:World} {K:PySem.W.Frag} {mg:Str→Option Value} {base:Heap}
noncomputable abbrev sWl:Stmt:=top 48
theorem Ut:aX ["_law_thing"] ["_law_thing"] (aH sWl):=⟨rfl,rfl,rfl,by decide+kernel,rfl,by decide+kernel,by decide+kernel⟩
theorem R9 {f:Addr} {fd:FuncData} (F:Fun K "_law_whole" "_law_whole" sWl f fd) (B:Blt mg):aY P w K mg base CX0 1 f fd ["_law_thing"] jw:=by
 refine F.ok Ut (fun vs H Q E h=>?_) (fun cdv A outer s H vs Q E hr h=>?_)
 ·obtain ⟨v,d,rfl,_⟩:=h
  rfl
 ·obtain ⟨v,d,rfl,h,q⟩:=h
  refine ⟨_,(aB (aR (cz (aG cT (by rfl) B.isinstance aQ (aa (pv 0) (aa (fL (by rfl) B.int vg) ao))) (dN (yo (aG cT (by rfl) B.isinstance aQ (aa (pv 0) (aa (fL (by rfl) B.bool vh) ao)))))))),?_⟩
  refine ⟨_,rfl,_,_,_,_,_,rfl,⟨rfl,h.ty,lG K (GF d)⟩,_,rfl,?_⟩
  cases d with
  | int i=>exact dm ⟨_,rfl,_,_,_,_,_,rfl,⟨rfl,h.ty,lG K (qw _)⟩,_,rfl,q⟩
  | bool b=>exact dm ⟨_,rfl,_,_,_,_,_,rfl,⟨rfl,h.ty,lG K (qw _)⟩,_,rfl,q⟩
  | _=>exact dz q
noncomputable abbrev sLb:Stmt:=top 49
theorem Uu:aX ["_law_bag"] ["_law_bag"] (aH sLb):=⟨rfl,rfl,rfl,by decide+kernel,rfl,by decide+kernel,by decide+kernel⟩
inductive Qf (vs:List L2.V) (H:Hp) (Q:VK) (u_3:XK):Prop where
 | mk (v:L2.V) (d:PyData) (z1:vs=[v]) (z2:Th H v d) (z4:d.depth≤60) (z3:∀H',aN H H'→Q (.bl (fP d)) H')
noncomputable def Nu:Sp:=fun vs H Q u_3=>Qf vs H Q u_3
seal PA PE PS PSs
theorem Sd {f f1:Addr} {fd fd1:FuncData} (F:Fun K "_law_is_bag" "_law_is_bag" sLb f fd) (B:Blt mg) (bx:Dn K mg "_law_whole" sWl ["_law_thing"] f1 fd1) (gQ:aY P w K mg base CX0 1 f1 fd1 ["_law_thing"] jw):aY P w K mg base CX0 2 f fd ["_law_bag"] Nu:=by
 refine F.ok Uu (fun vs H Q E h=>?_) (fun cdv A outer s H vs Q E hr h=>?_)
 ·obtain ⟨v,d,rfl,_⟩:=h
  rfl
 ·obtain ⟨v,d,rfl,hv,dd,q⟩:=h
  refine ⟨_,(au (cF (PW.pt (jo (du (eE (aG cT (by rfl) B.isinstance aQ (aa (pv 0) (aa (fL (by rfl) B.tuple ju) ao))))) (jo (bL wz (aG aO (by rfl) B.len b7 (aa (pv 0) ao)) az (bA _)) (jo (du (eE (aG cT (by rfl) B.isinstance aQ (aa (aM aU (pv 0) az (fun _ _=>rfl)) (aa (fL (by rfl) B.tuple ju) ao))))) (kW (bL (u6 hr.units) (aM aU (pv 0) az (fun _ _=>rfl)) (bN ao) (bA _))))))) (aB (aR nG)) bF)
   (aB (aR (cz (aZ gQ (hr.mono (by decide)) (by rfl) bx.at_ bx.fn.kp bx.bd .nil bH (aa (aM aU (pv 0) az (fun _ _=>rfl)) ao)) (cz (aZ gQ (hr.mono (by decide)) (by rfl) bx.at_ bx.fn.kp bx.bd .nil bH (aa (aM aU (pv 0) az (fun _ _=>rfl)) ao)) (dN (aG (jt rfl) (by rfl) B.all_ o5 (aa (nQ (N':=["_law_n"]) (cs:=[none]) rfl (oV (aM aU (pv 0) az (fun _ _=>rfl))) rfl (by decide+kernel) rfl (by decide+kernel) (gY (fun p hp=>absurd hp (List.not_mem_nil))) rfl
    (.own .nil)
    (fun C s3 H3 fp pn=>⟨(bw (i:=0) (by show (["_law_n"]:List Str).Nodup;decide+kernel) rfl (.inl rfl)),gH,(aZ gQ (hr.mono (by decide)) (by rfl) bx.at_ bx.fn.kp bx.bd .nil bH (aa (pv 0) ao))⟩)) ao)))))))),?_⟩
  refine ⟨_,rfl,_,_,_,_,_,rfl,⟨rfl,hv.ty,lG K (nW d)⟩,_,rfl,?_⟩
  cases ht:isTup d with
  | false=>
   have:=q H (aN.refl _)
   rw [show fP d=false by cases d <;> first | rfl | cases ht] at this
   exact dm (dm this)
  | true=>
  refine dz ?_
  cases hv with
  | @tup a xs ds ha z ts=>
   have sq:=SqT.of (K:=K) ha
   have xl:=ts.len
   refine ⟨_,rfl,a,_,rfl,.inr sq,rfl,_,rfl,?_⟩
   by_cases l3:ds.length=3
   ·refine fM (by rw [xl,l3];rfl) ?_
    obtain ⟨d0,d1,d2,rfl⟩:∃d0 d1 d2,ds=[d0,d1,d2]:=by
     rcases ds with _ | ⟨a,_ | ⟨b,_ | ⟨c,_ | ⟨e,r⟩⟩⟩⟩ <;> first | exact ⟨_,_,_,rfl⟩ | (simp at l3)
    cases ts with
    | @cons v0 _ _ _ t0 ts=>
    cases ts with
    | @cons v1 _ _ _ t1 ts=>
    cases ts with
    | @cons v2 _ _ _ t2 ts=>
    cases ts
    refine ⟨_,rfl,a,_,_,_,rfl,rfl,sq,rfl,_,_,_,_,_,rfl,⟨rfl,t2.ty,lG K (nW d2)⟩,_,rfl,?_⟩
    cases tt:isTup d2 with
    | false=>
     have:=q H (aN.refl _)
     rw [Bp tt] at this
     exact dm (dm this)
    | true=>
    refine dz ?_
    cases t2 with
    | @tup c ys es hc zc tc=>
     have sc:=SqT.of (K:=K) hc
     have el:=tc.len
     have q:∀H',aN H H'→Q (.bl (bG d0 && (bG d1 && (decide (0 < es.length) && es.all bG)))) H':=q
     refine ⟨_,rfl,a,_,_,_,rfl,rfl,sq,rfl,Nat.zero_le _,fun e0 ne0=>?_⟩
     have s0:=aC (o:=.tup []) ne0
     have he0:upd H e0 (.tup []) e0=some (.tup []):=aq
     generalize upd H e0 (.tup [])=H0 at s0 he0 ⊢
     have ha0:=s0 _ _ ha
     have hc0:=s0 _ _ hc
     have sq:=SqT.of (K:=K) ha0
     have sc:=SqT.of (K:=K) hc0
     have tc0:=tc.same s0
     have can:(PyData.tuple es).canLay0=true:=tc.can
     have dp:(PyData.tuple es).depth≤60:=by
      have h1:=Dw (ds:=[d0,d1,PyData.tuple es]) (d:=.tuple es) (by simp)
      have h2:(PyData.tuple [d0,d1,.tuple es]).depth=PyData.depthAll [d0,d1,.tuple es]+1:=rfl
      omega
     refine ⟨.tuple es,.tuple [],.tup (SqT.of hc0) tc0.dt,.tup (SqT.of he0) .nil,iV can dp (by decide),by decide,_,rfl,?_⟩
     by_cases pos:0 < es.length
     ·have nz:PyData.eqv (.tuple es) (.tuple [])=false:=by
       cases es with
       | nil=>exact absurd pos (by simp)
       | cons x r=>rfl
      refine fM nz ?_
      rw [decide_eq_true pos,Bool.true_and] at q
      refine ⟨_,rfl,a,_,_,_,rfl,rfl,sq,rfl,v0,d0,rfl,t0.same s0,_,rfl,?_⟩
      cases w0:bG d0 with
      | false=>
       rw [w0,Bool.false_and] at q
       exact dz (q _ s0)
      | true=>
      rw [w0,Bool.true_and] at q
      refine dm ⟨_,rfl,a,_,_,_,rfl,rfl,sq,rfl,v1,d1,rfl,t1.same s0,_,rfl,?_⟩
      cases w1:bG d1 with
      | false=>
       rw [w1,Bool.false_and] at q
       exact dz (q _ s0)
      | true=>
      rw [w1,Bool.true_and] at q
      refine dm ?_
      dsimp only [tCB,kh]
      refine qy (J:=Itt K c) (H1:=H0) (xs:=ys) (rest:=[]) (fun R h=>⟨_,rfl,a,_,_,_,rfl,rfl,sq,rfl,c,rfl,⟨_,sc⟩,h⟩) rfl (yQ sc fun H' sm=>SqT.of (sm _ _ hc0)) (aV (by omega)) (fun i=>.bl (bG (es.getD i .none))) (fun i v H2 R ev sm k=>?_) (fun D H2 nD hD sD=>?_)
      ·obtain ⟨e,ee,he⟩:=tc0.get ev
       have:=k H2 (aN.refl _)
       rw [dG ee] at this
       exact ⟨_,rfl,v,e,rfl,he.same sm,this⟩
      ·refine ⟨D,(List.range ys.length).map (fun i=>bG (es.getD i .none)),rfl,SqL.of (by rw [hD,List.map_map];rfl),?_⟩
       have e2:(List.range ys.length).map (fun i=>bG (es.getD i PyData.none))=es.map bG:=by
        rw [el]
        refine List.ext_getElem (by simp) fun i h1 h2=>?_
        rw [List.length_map] at h2
        rw [List.getElem_map,List.getElem_range,List.getElem_map,dG (List.getElem?_eq_getElem h2)]
       rw [e2,all_map]
       exact q _ (s0.trans sD)
     ·rw [decide_eq_false pos,Bool.false_and,Bool.and_false,Bool.and_false] at q
      have qf:=q _ s0
      have z:es=[]:=by
       cases es with
       | nil=>rfl
       | cons x r=>exact absurd (by simp) pos
      rw [z]
      exact eF rfl qf
    | _=>cases tt
   ·have:=q H (aN.refl _)
    rw [Bo l3] at this
    exact eF (by
     rw [xl]
     exact (by simpa using fun z:(ds.length:Int)=3=>l3 (by omega))) (dm this)
  | _=>cases ht
unseal PA PE PS PSs
end
open PySem L2 L3 M1
theorem Ed (ns:List Nat):(ns.map fun n:Nat=>V.int (n:Int)).all mO=true:=by
 rw [List.all_map,List.all_eq_true]
 intro n _
 rfl
theorem BP (ns:List Nat) (x:Nat):inV (.int (x:Int)) (ns.map fun n:Nat=>V.int (n:Int))=decide (x∈ns):=by
 induction ns with
 | nil=>rfl
 | cons n r ih=>
  show (eqV (.int (n:Int)) (.int (x:Int)) || inV (.int (x:Int)) (r.map fun n:Nat=>V.int (n:Int)))=_
  rw [ih]
  have e:eqV (.int (n:Int)) (.int (x:Int))=decide (x=n):=by
   show decide ((n:Int)=(x:Int))=_
   exact decide_eq_decide.mpr ⟨fun h=>by omega,fun h=>by omega⟩
  rw [e]
  by_cases h1:x=n
  ·rw [decide_eq_true h1,Bool.true_or,decide_eq_true (by rw [h1];exact .head _)]
  ·rw [decide_eq_false h1,Bool.false_or]
   exact decide_eq_decide.mpr ⟨fun h=>.tail _ h,fun h=>(List.mem_cons.mp h).resolve_left h1⟩
theorem sX {hs:List (List Nat)} {ds:List M1.Rd} {bs:List (Kt × List Nat)} {b:Kt × List Nat} {sss:List (List Step)}:wst hs ds (bs++[b]) sss=gO (stepK hs ds b.1) b.2 (wst hs ds bs sss):=by
 unfold wst
 rw [List.foldl_append]
 rfl
theorem BR {hs:List (List Nat)} {ds:List M1.Rd}:∀{bs:List (Kt × List Nat)} {sss:List (List Step)},(wst hs ds bs sss).length=sss.length
 | [],_=>rfl
 | b::bs,sss=>by
  show (wst hs ds bs (gO (stepK hs ds b.1) b.2 sss)).length=_
  rw [BR,ie]
theorem Wks.drop_ {hs:List (List Nat)} {ds:List M1.Rd} {gs:List Str} {sss fin:List (List Step)} {ah:Option Kt} {bs:List (Kt × List Nat)} (w:Wks hs ds gs sss ah bs fin):∀i,∃k,Wks hs ds gs (wst hs ds (bs.take i) sss) k (bs.drop i) fin:=by
 induction w with
 | @nil sss ah=>intro i;rw [List.take_nil,List.drop_nil];exact ⟨ah,.nil⟩
 | @cons sss ah b bs fin ok t ih=>
  intro i
  cases i with
  | zero=>exact ⟨ah,.cons ok t⟩
  | succ i=>exact ih i
section
variable {P:Program} {w:World} {K:PySem.W.Frag} {mg:Str→Option Value} {base:Heap}
noncomputable abbrev sLi:Stmt:=top 50
noncomputable abbrev pLi:List Str:=["_law_letters","_law_lines","_law_ahead","_law_number","_law_house","_law_turn"]
noncomputable abbrev nLi:List Str:=["_law_letters","_law_lines","_law_ahead","_law_number","_law_house","_law_turn","_law_letter_here","_law_here","_law_leave","_law_road_here","_law_numbers"]
theorem zH:aX nLi pLi (aH sLi):=⟨rfl,rfl,rfl,by decide+kernel,rfl,by decide+kernel,by decide+kernel⟩
inductive Sg (vs:List L2.V) (H:Hp) (Q:VK) (E:XK):Prop where
 | mk (lp b pp:Addr) (lr rs pa:List Addr) (lts:List (Str × Int × Str)) (hs:List (List Nat)) (ds:List M1.Rd) (bs:List (Kt × List Nat)) (fin:List (List Step)) (n:Nat) (h y:Str) (t:Int) (z1:vs=[.ref lp,.ref b,.ref pp,.int (n:Int),.str h,.int t]) (z2:H lp=some (.lst (refs lr))) (z3:f9 H lr (lts.map ltT)) (z4:H b=some (.lst (refs rs))) (z5:cB H hs rs ds) (z6:H pp=some (.lst (refs pa))) (z7:Paired (gU H) pa bs) (z8:Wks hs ds (lts.map fun d=>d.2.2) (lts.map bO) none bs fin) (z9:n < lts.length) (z10:(lts.map fun d=>d.2.2)[n]?=some y) (z11:∀d∈lts,d.1≠d.2.2)
   (z12:∀H',aN H H'→Q (.bl (pD (dD.lastAt' fin n) y h t)) H')
noncomputable def Sh:Sp:=fun vs H Q E=>Sg vs H Q E
inductive JLi (lp b pp ra:Addr) (n:Nat) (h y:Str) (t:Int) (H:Hp) (hs:List (List Nat)) (ds:List M1.Rd) (bs:List (Kt × List Nat)) (fst:List (List Step)) (i:Nat) (σ:L2.St) (Hc:Hp):Prop where
 | mk (l:Addr) (v8 v9 v10:Option L2.V) (z1:σ=[some (.ref lp),some (.ref b),some (.ref pp),some (.int (n:Int)),some (.str h),some (.int t),some (.ref ra),some (.ref l),v8,v9,v10]) (z2:aN H Hc) (z3:Hc l=some (.lst [.str (dD.lastAt' (wst hs ds (bs.take i) fst) n).house,.int (dD.lastAt' (wst hs ds (bs.take i) fst) n).due])) (z4:(dD.lastAt' (wst hs ds (bs.take i) fst) n).house≠y)
seal PA PE PS PSs
theorem Sq {f:Addr} {fd:FuncData} (F:Fun K "_law_lies" "_law_lies" sLi f fd) (B:Blt mg):aY P w K mg base CX0 1 f fd pLi Sh:=by
 refine F.ok zH (fun vs H Q E h=>?_) (fun cdv A outer s H vs Q E hr h=>?_)
 ·obtain ⟨lp,b,pp,lr,rs,pa,lts,hs,ds,bs,fin,n,h',y,t,rfl,_⟩:=h
  rfl
 ·obtain ⟨lp,b,pp,lr,rs,pa,lts,hs,ds,bs,fin,n,h',y,t,rfl,hlp,tpl,hb,R,hpp,bags,wk,nl,ey,ap,q⟩:=h
  refine ⟨_,(au (aP (i:=6) zH.nd rfl (Or.inl rfl) (aM bB (pv 0) (pv 3) (fun _ _=>rfl)))
   (au (aP (i:=7) zH.nd rfl (Or.inl rfl) (cj (aa (aM aU (pv 6) az (fun _ _=>rfl)) (aa (aM aU (pv 6) az (fun _ _=>rfl)) ao))))
   (au (fY PassesOwn.never rfl (iw (pv 2)) (mX rfl (cG (bw (i:=8) zH.nd rfl (Or.inl rfl)) (cG (bw (i:=9) zH.nd rfl (Or.inl rfl)) (cG (bw (i:=10) zH.nd rfl (Or.inl rfl)) jJ))))
    (aB (cF (bL oY (pv 3) (pv 10) (by rfl)) (au (aP (i:=7) zH.nd rfl (Or.inl rfl) (cj (aa (aM aU (aM bB (pv 1) (pv 9) (fun _ _=>rfl)) az (fun _ _=>rfl)) (aa (aL cg (pv 8) (aM aU (aM bB (pv 1) (pv 9) (fun _ _=>rfl)) az (fun _ _=>rfl))) ao))))
   (aB (cF (bL j9 (aM bB (pv 7) az (fun _ _=>rfl)) (aM aU (pv 6) az (fun _ _=>rfl)) (bA _)) (aB (aR nG)) bF))) bF)))
   (aB (aR (cz (cJ j9 (aM bB (pv 7) az (fun _ _=>rfl)) (pv 4) (bA _)) (dN (cJ kY (aM bB (pv 7) az (fun _ _=>rfl)) (pv 5) (bA _))))))))),?_⟩
  have ldl:lr.length=lts.length:=by have:=tpl.len;rwa [List.length_map] at this
  obtain ⟨ra,era⟩:∃ra,lr[n]?=some ra:=⟨_,List.getElem?_eq_getElem (by omega)⟩
  obtain ⟨dv,edv,hra⟩:=Paired.get tpl era
  rw [List.getElem?_map] at edv
  obtain ⟨d,ed,rfl⟩:=Option.map_eq_some_iff.mp edv
  have eyd:d.2.2=y:=by
   rw [List.getElem?_map,ed] at ey
   exact Option.some.inj ey
  have at_:L2.atI (refs lr) (n:Int)=some (.ref ra):=cu (by unfold refs;rw [List.getElem?_map,era];rfl)
  refine ⟨_,rfl,_,rfl,lp,_,_,_,rfl,rfl,SqL.of hlp,at_,?_⟩
  refine ⟨_,rfl,ra,_,_,_,rfl,rfl,SqT.of hra,rfl,_,rfl,ra,_,_,_,rfl,rfl,SqT.of hra,rfl,(by show 2≤sizeLine;decide),fun l0 nl0=>?_⟩
  have s0:=aC (o:=.lst [V.str d.1,V.int d.2.1]) nl0
  have hl0:upd H l0 (.lst [V.str d.1,V.int d.2.1]) l0=some (.lst [V.str d.1,V.int d.2.1]):=aq
  generalize upd H l0 (.lst [V.str d.1,V.int d.2.1])=H0 at s0 hl0 ⊢
  have l0st:dD.lastAt' (lts.map bO) n=⟨d.2.1,none,d.1,d.2.1⟩:=by
   unfold dD.lastAt'
   rw [dG (by rw [List.getElem?_map,ed];rfl)]
   rfl
  refine ⟨_,rfl,pp,rfl,⟨_,SqL.of (s0 _ _ hpp)⟩,?_⟩
  refine nH (K:=K) (a:=pp) (xs:=refs pa) (JLi lp b pp ra n h' y t H hs ds bs (lts.map bO)) ⟨l0,none,none,none,rfl,s0,?_,?_⟩ (fun j σ Hj _ ⟨_,_,_,_,_,sm,_,_⟩=>SqL.of (sm _ _ hpp)) ?_ ?_
  ·show H0 l0=some (.lst [.str (dD.lastAt' (lts.map bO) n).house,.int (dD.lastAt' (lts.map bO) n).due])
   rw [l0st]
   exact hl0
  ·show (dD.lastAt' (lts.map bO) n).house≠y
   rw [l0st,←eyd]
   exact ap d (List.mem_of_getElem? ed)
  ·rintro i z σ Hj ez ⟨l,v8,v9,v10,rfl,sm,hl,nh⟩
   unfold refs at ez
   rw [List.getElem?_map] at ez
   obtain ⟨bg,ebg,rfl⟩:=Option.map_eq_some_iff.mp ez
   obtain ⟨bb,ebb,c,hb1,hb2⟩:=Paired.get bags ebg
   have tk:bs.take (i+1)=bs.take i++[bb]:=by rw [List.take_add_one,ebb];rfl
   have ln:n < (wst hs ds (bs.take i) (lts.map bO)).length:=by rw [BR,List.length_map];exact nl
   have la:=xY (st:=stepK hs ds bb.1) (ns:=bb.2) ln
   rw [←sX,←tk] at la
   refine ⟨bg,_,rfl,SqT.of (sm _ _ hb1),rfl,_,_,rfl,_,_,rfl,_,_,rfl,rfl,?_⟩
   refine ⟨_,rfl,_,rfl,c,_,rfl,.inr (SqT.of (sm _ _ hb2)),rfl,Ed _,_,rfl,?_⟩
   obtain ⟨k2,w2⟩:=wk.drop_ i
   have dr:bs.drop i=bb::bs.drop (i+1):=by
    have hj:=(List.getElem?_eq_some_iff.mp ebb).1
    rw [List.drop_eq_getElem_cons hj]
    rw [List.getElem?_eq_getElem hj] at ebb
    rw [Option.some.inj ebb]
   rw [dr] at w2
   cases w2 with
   | cons ok tail=>
   by_cases hin:n∈bb.2
   ·rw [if_pos hin] at la
    refine eF ((BP _ _).trans (decide_eq_true hin)) ?_
    obtain ⟨rr,err⟩:∃rr,rs[bb.1.2]?=some rr:=⟨_,List.getElem?_eq_getElem (by have:=R.len;have:=ok.rd;omega)⟩
    obtain ⟨dd,edd,_,hd⟩:=R.get err
    have e0:ds.getD bb.1.2 rd0=dd:=dG edd
    have eV:rdV hs dd=[.str (iT hs ds bb.1.2),.str (iU hs ds bb.1.2),.int (rTn ds bb.1.2),.int (rRm ds bb.1.2)]:=by
     unfold rdV iT iU rTn rRm
     rw [e0]
    rw [eV] at hd
    have ar:L2.atI (refs rs) (bb.1.2:Int)=some (.ref rr):=cu (by unfold refs;rw [List.getElem?_map,err];rfl)
    have hbj:=sm _ _ hb
    have hdj:=sm _ _ hd
    refine ⟨_,rfl,_,rfl,b,_,_,_,rfl,rfl,SqL.of hbj,ar,rr,_,_,_,rfl,rfl,SqT.of hdj,rfl,_,rfl,_,rfl,_,rfl,b,_,_,_,rfl,rfl,SqL.of hbj,ar,rr,_,_,_,rfl,rfl,SqT.of hdj,rfl,_,_,rfl,rfl,(by show 2≤sizeLine;decide),fun l2 nl2=>?_⟩
    have s2:=aC (o:=.lst [V.str (iU hs ds bb.1.2),V.int (bb.1.1+rTn ds bb.1.2)]) nl2
    have hl2:upd Hj l2 (.lst [V.str (iU hs ds bb.1.2),V.int (bb.1.1+rTn ds bb.1.2)]) l2=some (.lst [V.str (iU hs ds bb.1.2),V.int (bb.1.1+rTn ds bb.1.2)]):=aq
    generalize upd Hj l2 (.lst [V.str (iU hs ds bb.1.2),V.int (bb.1.1+rTn ds bb.1.2)])=Hk at s2 hl2 ⊢
    have sk:=sm.trans s2
    refine ⟨_,rfl,l2,_,_,_,rfl,rfl,SqL.of hl2,rfl,_,rfl,ra,_,_,_,rfl,rfl,SqT.of (sk _ _ hra),rfl,rfl,_,rfl,?_⟩
    by_cases hg:iU hs ds bb.1.2=d.2.2
    ·refine eF (decide_eq_true (congrArg V.str hg)) ?_
     have hm:=tail.home_ ey (by rw [ie];exact ln) (by rw [←sX,←tk,la,←eyd];exact hg)
     rw [←sX,←tk,la] at hm
     have:=q Hk sk
     rw [hm] at this
     unfold pD at this
     rw [decide_eq_false (fun z:(stepK hs ds bb.1).house≠y=>z (by rw [←eyd];exact hg)),Bool.false_and] at this
     exact this
    ·refine fM (decide_eq_false fun z=>hg (V.str.inj z)) ?_
     refine ⟨l2,_,_,_,rfl,sk,?_,?_⟩
     ·rw [la];exact hl2
     ·rw [la,←eyd];exact hg
   ·rw [if_neg hin] at la
    refine fM ((BP _ _).trans (decide_eq_false hin)) ?_
    exact ⟨l,_,_,_,rfl,sm,by rw [la];exact hl,by rw [la];exact nh⟩
  ·rintro σ Hj ⟨l,v8,v9,v10,rfl,sm,hl,nh⟩
   have pal:=Paired.length bags
   rw [bf,pal,List.take_length,←wk.wst_] at hl nh
   have:=q Hj sm
   unfold pD at this
   rw [decide_eq_true nh,Bool.true_and] at this
   refine ⟨_,rfl,l,_,_,_,rfl,rfl,SqL.of hl,rfl,_,rfl,rfl,_,rfl,?_⟩
   by_cases h2:(dD.lastAt' fin n).house=h'
   ·rw [decide_eq_true h2,Bool.true_and] at this
    exact eF (decide_eq_true (congrArg V.str h2)) ⟨_,rfl,l,_,_,_,rfl,rfl,SqL.of hl,rfl,_,rfl,_,_,rfl,rfl,this⟩
   ·rw [decide_eq_false h2,Bool.false_and] at this
    exact fM (decide_eq_false fun z=>h2 (V.str.inj z)) this
unseal PA PE PS PSs
end
end K1
namespace L3
open PySem PySem.Spec PyProof.Rows L2
section
variable {prog:Program} {w:World} {A:Around} {E:Value→Shared→Prop} {s:Shared} {it t:Addr} {i:Nat} {items:Array Value}
theorem xZ {Q:Value→Shared→Prop} (hit:s.heap.IsTupleIter it t i) (ht:s.heap.IsTuple t items)
  (some_:∀x,items[i]?=some x→∀h',h'.IsTupleIter it t (i+1)→Heap.SameBut it s.heap h'→Q x {s with heap:=h'})
  (none_:items[i]?=none→A.handled=none∧∀h' e,Heap.ExtBut it s.heap h'→(∃o,h'.get? e=some o∧o.cls=.type "StopIteration")→E (.ref e) {s with heap:=h'}):
  wpAny (model prog w) A (Builtin.SmallTypes.nextOf (.ref it)) Q E s:=by
 obtain ⟨o,ho,hc,hd⟩:=id hit
 obtain ⟨ot,hot,_,nt,hdt⟩:=ht
 unfold Builtin.SmallTypes.nextOf
 refine wpAny_bind (wpAny_callSpecial?_slot (name:=Str.ofString "__next__") hit.typeIs F.slot_tuple_iterator_next (wpAny_call_entry F.slot_tuple_iterator_next hit.typeIs F.entry_tuple_iterator_next ?_ (F.args_tuple_iterator_next_1 _)))
 refine wpAny_bind (m:=field (.ref it) 0) (wpAny_field ho hd (x:=.ref t) rfl ?_)
 show wpAny _ _ (if (Value.ref t==Value.none)=true then _ else _) _ _ s
 have nn:¬(Value.ref t==Value.none)=true:=Bool.false_ne_true
 rw [if_neg nn]
 refine wpAny_bind (m:=field (.ref it) 1) (wpAny_field ho hd (x:=.int i 0) rfl ?_)
 refine wpAny_bind (m:=seqItems? (.ref t)) (wpAny_seqItems hot hdt ?_)
 cases hx:items[i]? with
 | some x=>
  simp only [Int.toNat_natCast,hx]
  have fr:=Obj.data_mapFields hd
  refine wpAny_bind (wpAny_setField ho hd (by simp) (wpAny_pure ⟨x,rfl,wpAny_pure (some_ x hx _ ⟨_,Heap.get?_update_self _ ho (Obj.isFreed_of_fields (fr _)),(Obj.cls_mapFields ..).trans hc,?_⟩ (Heap.SameBut.update ..))⟩))
  rw [fr]
  simp [rawInt]
 | none=>
  obtain ⟨hh,hE⟩:=none_ hx
  simp only [Int.toNat_natCast,hx]
  refine wpAny_bind (wpAny_rule (wpAny_bind (wpAny_setField ho hd (by simp) ?_)))
  refine wpAny_bind (m:=newExc (.type "StopIteration") []) ?_
  simp only [newExc,newTuple]
  refine wpAny_bind (wpAny_newObj_type (wpAny_bind (m:=firstArgMember _ _) (wpAny_of_eq (a:=Value.none) (by first | rfl | (simp only [firstArgMember];rfl)) (wpAny_newObj_type ?_ (by size_fits)))) (by size_fits))
  simp only [raiseNew]
  refine wpAny_bind (wpAny_handled ?_)
  first | rw [show A.in1.handled=none from hh] | rw [hh]
  exact wpAny_bind (wpAny_pure (wpAny_throw (hE _ _ (((Heap.SameBut.update ..).extBut.push _).push _) ⟨_,Heap.get?_push_size _ rfl,rfl⟩)))
end
theorem uN {prog:Program} {w:World} {A:Around} (hh:A.handled=none) (it t:Addr) (hne:t≠it) (items:Array Value):Draws prog w A it [it,t] items.size (fun i v=>items[i]?=some v) (fun i h=>h.IsTupleIter it t i∧h.IsTuple t items) where
 live:=fun _ _ st=>by obtain ⟨⟨o,ho,_⟩,_⟩:=st;exact ⟨o,ho⟩
 frame:=fun _ _ _ st hk=>by
  obtain ⟨⟨o,ho,r⟩,o2,ho2,r2⟩:=st
  exact ⟨⟨o,hk it (by simp) o ho,r⟩,o2,hk t (by simp) o2 ho2,r2⟩
 item:=fun i s Q E hi st hQ=>xZ st.1 st.2 (fun x hx h' hit' hs'=>hQ x h' s.toks hx ⟨hit',by
   obtain ⟨o2,ho2,r2⟩:=st.2
   exact ⟨o2,(hs'.2 t hne).trans ho2,r2⟩⟩ hs') (fun hx=>by simp [hi] at hx)
 done:=fun s Q E st hE=>xZ st.1 st.2 (fun x hx=>by simp at hx) (fun _=>⟨hh,hE⟩)
theorem Qg (t:Addr) (items:Array Value) (n:Nat) (dct:Option Addr) (sl:Array (Option Value)):
  Meets (Builtin.«enumerate.__new__» ⟨[.type "enumerate",.ref t],[]⟩) (fun _ R s=>s.heap.get? t=some {cls:=.type "tuple",dict:=dct,data:=.seq items n,slots:=sl}∧
   R (.ok (.ret (.ref (s.heap.push {cls:=.type "tuple_iterator",data:=.fields #[.ref t,.int 0 0]}).objs.size))) {s with heap:=(s.heap.push {cls:=.type "tuple_iterator",data:=.fields #[.ref t,.int 0 0]}).push {cls:=.type "enumerate",data:=.fields #[.none,.bool false,.ref s.heap.objs.size,rawInt 0,.none,.none]}}):=
 .of_wp fun prog w A R s h=>by
  obtain ⟨hp,g,d,tk,os⟩:=s
  obtain ⟨hl,h⟩:=h
  have hsub:=sub_enumerate
  have hT:Heap.IsTuple (Shared.heap ⟨hp,g,d,tk,os⟩) t items:=⟨_,hl,rfl,n,rfl⟩
  wp_walk using AutoSeq1.wpAny_loadPart' hl
  refine wpAny_stack_any fun st=>wpAny_pure ?_
  split
  ·rename_i c _ _ _ _ _
   cases (c==Value.type "enumerate") <;> (wp_walk using AutoSeq1.wpAny_loadPart' hl,wpAny_pyIter_tuple hT;exact ⟨_,rfl,h⟩)
  ·wp_walk using AutoSeq1.wpAny_loadPart' hl,wpAny_pyIter_tuple hT
   exact ⟨_,rfl,h⟩
theorem JR {prog:Program} {w:World} {A:Around} {E:Value→Shared→Prop} {s:Shared} {t:Addr} {items:Array Value} {Q:Value→Shared→Prop} (hT:s.heap.IsTuple t items)
  (h:∀h',IsEnum h' (s.heap.objs.size+1) s.heap.objs.size 0 .none→h'.IsTupleIter s.heap.objs.size t 0→h'.objs.size=s.heap.objs.size+2→(∀b o,s.heap.get? b=some o→h'.get? b=some o)→Q (.ref (s.heap.objs.size+1)) {s with heap:=h'}):
  wpAny (model prog w) A (call (.type "enumerate") [.ref t]) Q E s:=by
 obtain ⟨⟨c,dct,dt,sl⟩,hl,hc,n,hd⟩:=hT
 have hc:c=.type "tuple":=hc
 have hd:dt=.seq items n:=hd
 subst hc hd
 refine callType_new F.called_enumerate (by decide) (F.typeCall_enumerate_1 _) (F.newCall_enumerate_1 _) (fun obj=>F.args_object_init_2 obj _) F.entry_enumerate_new (Qg t items n dct sl) ⟨hl,?_⟩
 obtain ⟨h1,e1⟩:∃h1,h1=s.heap.push {cls:=.type "tuple_iterator",data:=.fields #[.ref t,.int 0 0]}:=⟨_,rfl⟩
 have hz:h1.objs.size=s.heap.objs.size+1:=by rw [e1];exact Heap.size_push ..
 have g1:h1.get? s.heap.objs.size=some {cls:=.type "tuple_iterator",data:=.fields #[.ref t,.int 0 0]}:=by rw [e1];exact Heap.get?_push_size _ rfl
 have k1:∀b o,s.heap.get? b=some o→h1.get? b=some o:=fun b o x=>by rw [e1];exact Heap.get?_push_of_some _ x
 rw [←e1]
 show _∧_
 have he:=Heap.get?_push_size h1 (o:={cls:=.type "enumerate",data:=.fields #[.none,.bool false,.ref s.heap.objs.size,rawInt 0,.none,.none]}) rfl
 rw [hz] at he ⊢
 exact ⟨⟨_,he,rfl⟩,h _ he ⟨_,Heap.get?_push_of_some _ g1,rfl,rfl⟩ (by rw [Heap.size_push,hz]) fun b o x=>Heap.get?_push_of_some _ (k1 b o x)⟩
noncomputable def JS (K:PySem.W.Frag) (a:Addr):It:=
 ⟨fun i H=>∃xs x,SqT K H a xs∧xs[i]?=some x,fun i H v H'=>∃p x,H p=none∧v=.ref p∧(∀xs,SqT K H a xs→xs[i]?=some x)∧H'=upd H p (.tup [.int i,x]),fun i H=>∃xs,SqT K H a xs∧xs.length=i⟩
theorem zJ {P:Program} {w:World} {K:PySem.W.Frag} {elts:List Expr} {k:Nat} {pos:Pos} (a e it:Addr) (hei:e≠it):
  Turn P w K (.Tuple elts k pos) (JS K a) [e,it] e (fun i h=>(∃old,IsEnum h e it ((i:Nat):Int) old)∧h.IsTupleIter it a i) where
 mem:=by simp
 obj:=fun i h st b hb=>by
  obtain ⟨⟨old,he⟩,o,ho,c,d⟩:=st
  rcases List.mem_cons.mp hb with rfl | hb
  ·exact ⟨_,he,fun v z=>by
    have z':Data.fields _=Data.cell v:=z
    cases z'⟩
  ·have q:b=it:=by simpa using hb
   subst q
   exact ⟨o,ho,fun v z=>by rw [d] at z;cases z⟩
 keep:=fun i h h' st kk=>by
  obtain ⟨⟨old,he⟩,hit⟩:=st
  exact ⟨⟨old,kk e (by simp) _ he⟩,hit.at fun o q=>kk it (by simp) o q⟩
 item:=by
  intro X hP hw hK hc i pins s σ H E I hf st hg
  subst hP hw hK
  obtain ⟨⟨old,he⟩,hit⟩:=st
  obtain ⟨xs,x,hq,hx⟩:=hg
  obtain ⟨its,rv,p,hz⟩:=I.tuple hq
  have p:s.heap.IsTuple a its.toArray:=p
  obtain ⟨u,hu,ru⟩:=rv.get hx
  obtain ⟨e0,e1,e2,e3,e4,e5⟩:=hf e (by simp)
  obtain ⟨f0,f1,f2,f3,f4,f5⟩:=hf it (by simp)
  have ni:∀b∈[e,it],b≠a:=fun b hb z=>by
   obtain ⟨o1,g1,c1,_⟩:=p
   rw [←z] at g1
   simp only [List.mem_cons,List.not_mem_nil,or_false] at hb
   rcases hb with rfl | rfl
   ·rw [he] at g1
    cases g1
    exact absurd (show Value.type "enumerate"=Value.type "tuple" from c1) (by decide)
   ·obtain ⟨o2,g2,c2,_⟩:=hit
    rw [g2] at g1
    cases g1
    rw [c2] at c1
    exact absurd c1 (by decide)
  have lt:i < its.toArray.size:=by
   have:=(List.getElem?_eq_some_iff.mp hu).1
   simpa using this
  refine wpAny_pyNext_enum_itemD (uN (show X.A.in1.handled=none from I.ok.hd hc) it a (Ne.symm (ni it (by simp))) its.toArray) he ⟨hit,p⟩ lt hei (fun z=>by
   simp only [List.mem_cons,List.not_mem_nil,or_false] at z
   rcases z with z | z
   ·exact hei z
   ·exact ni e (by simp) z) fun x' h1 tk hx' ho st1 hT hsz hk=>⟨_,rfl,?_⟩
  have hit1:=st1.1
  have hu':its.toArray[i]?=some u:=by simpa using hu
  rw [hu'] at hx'
  cases hx'
  refine wpAny_letOwnedTupleGo_enum ho fun h2 he2 hs2=>?_
  have hs2:Heap.SameBut e h1 h2:=hs2
  have hn:H s.heap.objs.size=none:=I.fresh
  have old2:∀b o,b∉[e,it]→s.heap.get? b=some o→h2.get? b=some o:=fun b o hb q=>by
   have hbe:b≠e:=fun z=>hb (by simp [z])
   have hbi:b≠it:=fun z=>hb (by simp [z])
   exact (hs2.2 b hbe).trans (hk b o hbe hbi q)
  have helt:e < s.heap.objs.size:=Heap.lt_size he
  have hT2:h2.get? s.heap.objs.size=some {cls:=.type "tuple",data:=.seq #[.int i tk,u]}:=(hs2.2 _ (Nat.ne_of_gt helt)).trans hT
  have nch:∀b q,H b=some q→b∉[e,it]:=fun b q hb z=>by
   rcases List.mem_cons.mp z with rfl | z
   ·rw [e0] at hb;cases hb
   ·have z':b=it:=by simpa using z
    subst z'
    rw [f0] at hb;cases hb
  refine ⟨.ref s.heap.objs.size,upd H s.heap.objs.size (.tup [.int i,x]),?_,rfl,⟨s.heap.objs.size,x,hn,rfl,fun ys hy=>by rw [I.tuple_inj hy hq];exact hx,rfl⟩,⟨⟨u,?_⟩,hit1.at fun o q=>(hs2.2 it hei.symm).trans q⟩,fun b hb=>?_⟩
  ·show Inv X pins σ (upd H s.heap.objs.size (.tup [.int i,x])) {s with heap:=h2,gens:=s.gens,drawn:=s.drawn,toks:=tk+1}
   refine I.step (g':=s.gens) (d':=s.drawn) (t':=tk+1) (h':=h2) (ch:=[e,it]) (fun b hb=>?_) (fun b o _ _ hc q _=>old2 b o hc q) (fun b o _ _ hc q _=>⟨o.slots,old2 b o hc q⟩) (fun b o hc q n=>?_)
    (fun b o hc q=>⟨o,old2 b o hc q⟩) (fun b ys q=>?_) (fun b o v q=>?_) (fun b ps q=>⟨#[],?_⟩) (fun m hm=>?_) (fun b v q=>?_) I.bare
   ·rcases List.mem_cons.mp hb with rfl | hb
    ·exact ⟨e3,e1,e4,e5⟩
    ·have z':b=it:=by simpa using hb
     subst z'
     exact ⟨f3,f1,f4,f5⟩
   ·rw [aA (Nat.ne_of_lt (Heap.lt_size q))]
    exact n
   ·rw [aA (aF q hn)]
    exact q
   ·rw [aA (aF q hn)]
    exact q
   ·rw [aA (aF q hn),q]
    simp
   ·obtain ⟨o,es,ep,ho',r⟩:=hm
    refine ⟨o,es,ep,old2 _ o (fun z=>?_) ho',r⟩
    rcases List.mem_cons.mp z with z | z
    ·exact e1 z.symm
    ·exact f1 (by simpa using z:X.env.locals=it).symm
   ·by_cases hb:b=s.heap.objs.size
    ·subst hb
     rw [aq] at q
     cases q
     exact ⟨(by show 2≤sizeLine;decide),[.int i tk,u],.cons ⟨_,rfl⟩ (.cons ru .nil),_,hT2,rfl,_,rfl⟩
    ·rw [aA hb] at q
     refine (I.hok b v q).stay (fun c y hc z=>old2 c y ?_ z) (fun c z=>by rw [aA (aF z hn)];exact z) fun c ys z=>by rw [aA (aF z hn)];exact z
     rcases hc with rfl | hc
     ·exact nch _ _ q
     ·exact nch _ _ hc
  ·have:(((i+1:Nat):Nat):Int)=(i:Int)+1:=by omega
   rw [this]
   exact he2
  ·rcases List.mem_cons.mp hb with rfl | hb
   ·rw [aA (Nat.ne_of_lt helt)]
    exact e0
   ·have z':b=it:=by simpa using hb
    subst z'
    obtain ⟨_,z,_⟩:=hit
    rw [aA (Nat.ne_of_lt (Heap.lt_size z))]
    exact f0
 done:=by
  intro X hP hw hK hc i pins s σ H E I hf st hg
  subst hP hw hK
  obtain ⟨⟨old,he⟩,hit⟩:=st
  obtain ⟨xs,hq,hx⟩:=hg
  obtain ⟨its,rv,p,hz⟩:=I.tuple hq
  have p:s.heap.IsTuple a its.toArray:=p
  obtain ⟨f0,f1,f2,f3,f4,f5⟩:=hf it (by simp)
  have hl:=rv.length
  have ni:a≠it:=fun z=>by
   obtain ⟨o1,g1,c1,_⟩:=p
   rw [z] at g1
   obtain ⟨o2,g2,c2,_⟩:=hit
   rw [g2] at g1
   cases g1
   rw [c2] at c1
   exact absurd c1 (by decide)
  exact wpAny_pyNext_enum_endD (uN (show X.A.in1.handled=none from I.ok.hd hc) it a ni its.toArray) he ⟨by rw [show its.toArray.size=i by simp;omega];exact hit,p⟩ fun h' eb=>⟨rfl,I.turned (t':=s.toks) (fun b o hb e=>eb b o hb e) f0 f1 f3 f4 f5⟩
 self:=fun _ _ _ _ _ st h=>by
  obtain ⟨⟨old,he⟩,_⟩:=st
  exact wpAny_pyIter_enum he h
section
variable {X:Cx} {elts:List Expr} {k:Nat} {tpos:Pos}
inductive Qh (K:PySem.W.Frag) (vs:List V) (H:Hp) (R:It→Hp→Prop):Prop where
 | mk (a:Addr) (z1:vs=[.ref a]) (z2:∃xs,SqT K H a xs) (z3:R (JS K a) H)
noncomputable def Qi (K:PySem.W.Frag) (ta:TA):TI:=fun σ H R=>ta σ H fun vs H1=>Qh K vs H1 R
theorem JT {l:Expr} {ta:TA} {p pos:Pos} (hg:Gl X "enumerate") (hm:X.mg "enumerate"=none) (ha:PA X [l] ta) (hs:starEach [l] X.env=[(false,eval l X.env)]:=by rfl):PI X (.Tuple elts k tpos) (.Call (.Name "enumerate" p) [l] [] pos) (Qi X.K ta):=by
 intro pins s σ H R I h
 refine Call_ (kO I hg hm nU (PyProof.Rows.callWith_type1 (thn (ha pos pins s σ H _ I h) fun us s1 ⟨vs,H1,I1,r1,q1⟩=>?_) hs rfl))
 obtain ⟨a,e,⟨xs,hq⟩,q⟩:=q1
 subst e
 cases r1 with
 | cons r rr=>
  cases rr
  cases r
  obtain ⟨its,rv,p,hz⟩:=I1.tuple hq
  refine JR (show s1.heap.IsTuple a its.toArray from p) fun h' he hit hsz kk=>?_
  refine wpAny_pyIter_enum he ?_
  have ne:s1.heap.objs.size+1≠s1.heap.objs.size:=Nat.succ_ne_self _
  refine ⟨s1.heap.objs.size+1,[s1.heap.objs.size+1,s1.heap.objs.size],_,_,H1,rfl,I1.kept (t':=s1.toks) fun b o e=>kk b o e,zJ a _ _ ne,⟨⟨_,he⟩,hit⟩,fun b hb=>?_,q⟩
  rcases List.mem_cons.mp hb with rfl | hb
  ·exact I1.fpOk (Nat.le_succ _) (I1.hok.fresh (Nat.le_succ _))
  ·have z:b=s1.heap.objs.size:=by simpa using hb
   subst z
   exact I1.fpOk (Nat.le_refl _) (I1.hok.fresh (Nat.le_refl _))
end
section
variable {X:Cx} {K:PySem.W.Frag} (hK:X.K=K)
include hK
end
theorem Ef {K:PySem.W.Frag} {a:Addr} {xs:List V} {g:TG} {tb:TS} {D:Ends} {σ:L2.St} {H:Hp} (Pv:Nat→L2.St→Hp→Prop) (h0:Pv 0 σ H) (hl:∀i σ H,Pv i σ H→SqT K H a xs)
  (hs:∀i x σ H p,xs[i]?=some x→Pv i σ H→H p=none→g (.ref p) σ (upd H p (.tup [.int i,x])) fun σ2 H2=>tb {D with nx:=Pv (i+1),ct:=Pv (i+1),bk:=D.nx} σ2 H2) (hd:∀σ H,Pv xs.length σ H→D.nx σ H):
  ∃W:Nat→Nat→L2.St→Hp→Prop,(∃m,W 0 m σ H)∧∀i m σ H,W i m σ H→
   ((JS K a).stop i H∧D.nx σ H)∨((JS K a).go i H∧∃N:L2.St→Hp→Prop,(∀σ' H',N σ' H'→∃m',m' < m∧W (i+1) m' σ' H')∧∀x H',(JS K a).yld i H x H'→g x σ H' fun σ2 H2=>tb {D with nx:=N,ct:=N,bk:=D.nx} σ2 H2):=by
 refine ⟨fun i m σ H=>m=xs.length - i∧i≤xs.length∧Pv i σ H,⟨xs.length,by simp,Nat.zero_le _,h0⟩,?_⟩
 rintro i m σ H ⟨rfl,hi,p⟩
 have q:=hl i σ H p
 by_cases hlt:i < xs.length
 ·refine .inr ⟨⟨xs,xs[i],q,by simp [hlt]⟩,Pv (i+1),fun σ' H' p'=>⟨xs.length - (i+1),by omega,rfl,hlt,p'⟩,fun v H' y=>?_⟩
  obtain ⟨p',x,hp',rfl,hx,rfl⟩:=y
  exact hs i x σ H p' (hx xs q) p hp'
 ·have e:i=xs.length:=by omega
  subst e
  exact .inl ⟨⟨xs,q,rfl⟩,hd σ H p⟩
end L3
namespace K1
open PySem L2 L3 M1
noncomputable def tY:Option Str→Str
 | none=>Str.ofString ""
 | some e=>e
theorem JV {ah:Option Kt} {bs:List (Kt × List Nat)} {b:Kt × List Nat} (e:bs[bs.length - 1]?=some b):mW ah bs=some b.1:=by
 have ne:bs≠[]:=fun z=>by rw [z] at e;cases e
 rw [←List.getLast?_eq_getElem?,List.getLast?_eq_getLast ne] at e
 have eb:=Option.some.inj e
 have h:=List.dropLast_concat_getLast ne
 rw [eb] at h
 rw [←h]
 unfold mW
 rw [List.foldl_append]
 rfl
theorem JW (pa:List Addr):iJ (refs pa) (some (-1)) none=refs (pa.drop (pa.length - 1)):=by
 unfold iJ
 have e1:HT.sIx (refs pa).length 0 (some (-1))=pa.length - 1:=by
  show (if (-1:Int) < 0 then ((-1:Int)+((refs pa).length:Int)).toNat else min (-1:Int).toNat (refs pa).length)=_
  rw [if_pos (by decide),bf]
  omega
 have e2:HT.sIx (refs pa).length (refs pa).length none=pa.length:=by rw [HT.sIx_none,bf]
 rw [e1,e2]
 unfold refs
 rw [←List.map_drop,←List.map_take,List.take_of_length_le (by rw [List.length_drop];omega)]
section
variable {P:Program} {w:World} {K:PySem.W.Frag} {mg:Str→Option Value} {base:Heap}
noncomputable abbrev sRz:Stmt:=top 51
noncomputable abbrev pRz:List Str:=["_law_letters","_law_lines","_law_ahead","_law_bag"]
noncomputable abbrev nRz:List Str:=["_law_letters","_law_lines","_law_ahead","_law_bag","_law_turn","_law_road_here","_law_numbers","_law_before","_law_k","_law_n"]
theorem yc:aX nRz pRz (aH sRz):=⟨rfl,rfl,rfl,by decide+kernel,rfl,by decide+kernel,by decide+kernel⟩
inductive Ss (vs:List L2.V) (H:Hp) (Q:VK) (E:XK):Prop where
 | mk (lp b pp:Addr) (lr rs pa:List Addr) (lts:List (Str × Int × Str)) (hs:List (List Nat)) (ds:List M1.Rd) (bs:List (Kt × List Nat)) (fin:List (List Step)) (v:L2.V) (d:PyData) (z1:vs=[.ref lp,.ref b,.ref pp,v]) (z2:H lp=some (.lst (refs lr))) (z3:f9 H lr (lts.map ltT)) (z4:H b=some (.lst (refs rs))) (z5:cB H hs rs ds) (z6:H pp=some (.lst (refs pa))) (z7:Paired (gU H) pa bs) (z8:Wks hs ds (lts.map fun d=>d.2.2) (lts.map bO) none bs fin) (z9:∀d∈lts,d.1≠d.2.2) (z10:Th H v d) (z11:d.depth≤60) (z12:pa.length≤99)
   (z13:∀H',aN H H'→Q (.str (tY (kJ hs ds (lts.map fun d=>d.2.2) fin (ahI (mW none bs)) d))) H')
noncomputable def Su:Sp:=fun vs H Q E=>Ss vs H Q E
inductive Uv (lp b pp bg c:Addr) (t r:Int) (H:Hp) (ah:Option (Int × Int)) (i:Nat) (σ:L2.St) (Hc:Hp):Prop where
 | mk (v7:Option L2.V) (z1:σ=[some (.ref lp),some (.ref b),some (.ref pp),some (.ref bg),some (.int t),some (.int r),some (.ref c),v7,none,none]) (z2:aN H Hc) (z3:i≠0→rZ ah t r=false)
inductive Sv (lp b pp bg c:Addr) (t r:Int) (v7:Option L2.V) (H:Hp) (m:Int) (ns:List Int) (i:Nat) (σ:L2.St) (Hc:Hp):Prop where
 | mk (a:Int) (v8 v9:Option L2.V) (z1:σ=[some (.ref lp),some (.ref b),some (.ref pp),some (.ref bg),some (.int t),some (.int r),some (.ref c),v7,v8,v9]) (z2:aN H Hc) (z3:jg m (-1) ns=jg m a (ns.drop i)) (z4:-1≤a) (z5:i=0→a=-1) (z6:∀j,i=j+1→ns[j]?=some a)
inductive Uw (lp b pp bg c:Addr) (t r:Int) (v7 v8:Option L2.V) (H:Hp) (p:Int→Bool) (ns:List Int) (i:Nat) (σ:L2.St) (Hc:Hp):Prop where
 | mk (v9:Option L2.V) (z1:σ=[some (.ref lp),some (.ref b),some (.ref pp),some (.ref bg),some (.int t),some (.int r),some (.ref c),v7,v8,v9]) (z2:aN H Hc) (z3:ns.all p=(ns.drop i).all p)
theorem BV {α:Type} {l:List α} {j:Nat} {x:α} (e:l[j]?=some x):l.drop j=x::l.drop (j+1):=by
 have hj:=(List.getElem?_eq_some_iff.mp e).1
 rw [List.drop_eq_getElem_cons hj]
 rw [List.getElem?_eq_getElem hj] at e
 rw [Option.some.inj e]
seal PA PE PS PSs
theorem Sw {f f1 f2:Addr} {fd fd1 fd2:FuncData} (F:Fun K "_law_reason" "_law_reason" sRz f fd) (B:Blt mg) (cM:Dn K mg "_law_is_bag" sLb ["_law_bag"] f1 fd1) (tZ:aY P w K mg base CX0 2 f1 fd1 ["_law_bag"] Nu) (dH:Dn K mg "_law_lies" sLi pLi f2 fd2) (yd:aY P w K mg base CX0 1 f2 fd2 pLi Sh):aY P w K mg base CX0 3 f fd pRz Su:=by
 refine F.ok yc (fun vs H Q E h=>?_) (fun cdv A outer s H vs Q E hr h=>?_)
 ·obtain ⟨lp,b,pp,lr,rs,pa,lts,hs,ds,bs,fin,v,d,rfl,_⟩:=h
  rfl
 ·obtain ⟨lp,b,pp,lr,rs,pa,lts,hs,ds,bs,fin,v,d,rfl,hlp,tpl,hb,R,hpp,bags,wk,ap,hv,dd,p99,q⟩:=h
  refine ⟨_,(au (cF (du (eE (aZ tZ (hr.mono (by decide)) (by rfl) cM.at_ cM.fn.kp cM.bd .nil bH (aa (pv 3) ao)))) (aB (aR cI)) bF)
   (au (Ep (pv 3) (mX rfl (cG (bw (i:=4) yc.nd rfl (Or.inl rfl)) (cG (bw (i:=5) yc.nd rfl (Or.inl rfl)) (cG (bw (i:=6) yc.nd rfl (Or.inl rfl)) jJ)))))
   (au (fY PassesOwn.never rfl (iw (jr qt (pv 2) (iy (qL mY az)) my)) (bw (i:=7) yc.nd rfl (Or.inl rfl))
    (aB (cF (bL (Il (Nat.lt_of_succ_lt (qU hr))) (bN (aa (pv 4) (aa (pv 5) ao))) (bN (aa (aM aU (pv 7) az (fun _ _=>rfl)) (aa (aM aU (pv 7) az (fun _ _=>rfl)) ao))) (bA _)) (aB (aR cI)) bF)))
   (au (cF (PW.pt (jo (bL qM (pv 5) az (bA _)) (kW (bL zX (pv 5) (aG aO (by rfl) B.len b7 (aa (pv 1) ao)) (bA _))))) (aB (aR cI)) bF)
   (au (cF (bL qN (aG aO (by rfl) B.len b7 (aa (pv 6) ao)) (aM aU (aM bB (pv 1) (pv 5) (fun _ _=>rfl)) az (fun _ _=>rfl)) (bA _)) (aB (aR cI)) bF)
   (au (fY PassesOwn.never rfl (JT rfl B.enumerate (aa (pv 6) ao)) (mX rfl (cG (bw (i:=8) yc.nd rfl (Or.inl rfl)) (cG (bw (i:=9) yc.nd rfl (Or.inl rfl)) jJ)))
    (aB (cF (PW.pt (jo (bL qM (pv 9) az (bA _)) (jo (bL zX (pv 9) (aG aO (by rfl) B.len b7 (aa (pv 0) ao)) (bA _)) (kW (PW.pt (uT (bL qN (pv 8) az (bA _)) (ql (bL zX (aM aU (pv 6) (aL jL (pv 8) az) (fun _ _=>rfl)) (pv 9) (bA _))))))))) (aB (aR cI)) bF)))
   (au (fY PassesOwn.never rfl (oV (pv 6)) (bw (i:=9) yc.nd rfl (Or.inl rfl))
    (aB (cF (du (eE (aZ yd (hr.mono (by decide)) (by rfl) dH.at_ dH.fn.kp dH.bd .nil bH (aa (pv 0) (aa (pv 1) (aa (pv 2) (aa (pv 9) (aa (aM aU (aM bB (pv 1) (pv 5) (fun _ _=>rfl)) az (fun _ _=>rfl)) (aa (pv 4) ao))))))))) (aB (aR cI)) bF)))
   (aB (aR cI))))))))),?_⟩
  have ldl:lr.length=lts.length:=by have:=tpl.len;rwa [List.length_map] at this
  have fl:fin.length=lts.length:=by rw [wk.len_,List.length_map]
  have pal:=Paired.length bags
  unfold kJ at q
  refine ⟨_,rfl,v,d,rfl,hv,dd,fun H1 s1=>⟨_,rfl,?_⟩⟩
  cases hbg:fP d with
  | false=>
   have:=q H1 s1
   rw [hbg] at this
   exact dm this
  | true=>
  rw [if_pos hbg] at q
  obtain ⟨ed,ne2⟩:=pG hbg
  generalize toB d=b3 at q ed ne2
  obtain ⟨t,r,ns⟩:=b3
  have ed:d=tU t r ns:=ed
  have ne2:ns≠[]:=ne2
  subst ed
  obtain ⟨bg,c,rfl,hb1,hb2,l100⟩:=zm hv
  refine dz ?_
  refine ⟨_,rfl,bg,_,rfl,SqT.of (s1 _ _ hb1),rfl,_,_,rfl,_,_,rfl,_,_,rfl,rfl,?_⟩
  unfold zr at q
  have q:∀H',aN H H'→Q (.str (tY (if rZ (ahI (mW none bs)) t r=true then some zp else if ¬(0≤r∧r < ds.length) then some Ja else if rRm ds r.toNat < (ns.length:Int) then some Jb else if jg fin.length (-1) ns=false then some qC else if ns.all (dD hs ds (lts.map fun d=>d.2.2) fin t r)=false then some zq else none))) H':=q
  refine ⟨_,rfl,_,rfl,_,rfl,pp,_,rfl,SqL.of (s1 _ _ hpp),fun sl nsl=>⟨sl,rfl,⟨_,SqL.of aq⟩,?_⟩⟩
  have ssl:=aC (o:=.lst (iJ (refs pa) (some (-1)) none)) nsl
  have hsl:upd H1 sl (.lst (iJ (refs pa) (some (-1)) none)) sl=some (.lst (refs (pa.drop (pa.length - 1)))):=by rw [aq,JW]
  show ∃W:Nat→Nat→L2.St→Hp→Prop,(∃m,W 0 m _ (upd H1 sl (.lst (iJ (refs pa) (some (-1)) none))))∧_
  generalize upd H1 sl (.lst (iJ (refs pa) (some (-1)) none))=H2 at ssl hsl ⊢
  have s2:=s1.trans ssl
  refine nH (K:=K) (a:=sl) (xs:=refs (pa.drop (pa.length - 1))) (Uv lp b pp bg c t r H2 (ahI (mW none bs))) ⟨none,rfl,aN.refl _,fun z=>absurd rfl z⟩ (fun j σ Hj _ ⟨_,_,sm,_⟩=>SqL.of (sm _ _ hsl)) ?_ ?_
  ·rintro i z σ Hj ez ⟨v7,rfl,sm,_⟩
   unfold refs at ez
   rw [List.getElem?_map] at ez
   obtain ⟨ba,eba,rfl⟩:=Option.map_eq_some_iff.mp ez
   have i0:i=0:=by
    have:=(List.getElem?_eq_some_iff.mp eba).1
    rw [List.length_drop] at this
    omega
   subst i0
   rw [List.getElem?_drop,Nat.add_zero] at eba
   obtain ⟨bb,ebb,cc,hba,_⟩:=Paired.get bags eba
   rw [pal] at ebb
   have lk:=JV (ah:=none) ebb
   have sj:=s2.trans sm
   have hbj:=sj _ _ hba
   refine ⟨_,rfl,_,rfl,(by show 2≤sizeLine;decide),fun p1 np1=>?_⟩
   have w1:=aC (o:=.tup [V.int t,V.int r]) np1
   have hp1:upd Hj p1 (.tup [V.int t,V.int r]) p1=some (.tup [V.int t,V.int r]):=aq
   generalize upd Hj p1 (.tup [V.int t,V.int r])=Hk at w1 hp1 ⊢
   refine ⟨_,rfl,ba,_,_,_,rfl,rfl,SqT.of (w1 _ _ hbj),rfl,_,rfl,ba,_,_,_,rfl,rfl,SqT.of (w1 _ _ hbj),rfl,(by show 2≤sizeLine;decide),fun p2 np2=>?_⟩
   have w2:=aC (o:=.tup [V.int bb.1.1,V.int (bb.1.2:Int)]) np2
   refine ⟨p1,p2,_,_,_,_,rfl,rfl,SqT.of (w2 _ _ hp1),SqT.of aq,_,rfl,?_⟩
   have eo:rZ (ahI (mW none bs)) t r=(if t=bb.1.1 then decide (r≤(bb.1.2:Int)) else decide (t≤bb.1.1)):=by rw [lk];rfl
   cases ho:rZ (ahI (mW none bs)) t r with
   | true=>
    have:=q _ (sj.trans (w1.trans w2))
    rw [if_pos ho] at this
    exact eF (eo.symm.trans ho) this
   | false=>exact fM (eo.symm.trans ho) ⟨_,rfl,sm.trans (w1.trans w2),fun _=>ho⟩
  rintro σ Hj ⟨v7,rfl,sm2,od⟩
  have od:rZ (ahI (mW none bs)) t r=false:=by
   cases hpa:pa with
   | nil=>
    rw [hpa] at pal
    have:bs=[]:=List.length_eq_zero_iff.mp pal.symm
    rw [this]
    rfl
   | cons x y=>
    refine od ?_
    rw [bf,List.length_drop,hpa,List.length_cons]
    omega
  rw [if_neg (by rw [od];simp)] at q
  have sj:=s2.trans sm2
  clear sm2 s2 ssl hsl
  have hbj:=sj _ _ hb
  have rl:=R.len
  refine ⟨_,rfl,_,_,rfl,rfl,_,rfl,?_⟩
  by_cases h0:¬0≤r
  ·rw [if_pos (fun z=>h0 z.1)] at q
   exact eF (decide_eq_true (by omega)) (dm (q _ sj))
  have h0:=Decidable.not_not.mp h0
  refine fM (decide_eq_false (by omega)) ⟨_,rfl,_,rfl,b,_,rfl,.inl (SqL.of hbj),_,_,rfl,rfl,_,rfl,?_⟩
  by_cases h1:¬r < ds.length
  ·rw [if_pos (fun z=>h1 z.2)] at q
   exact eF (decide_eq_true (by rw [bf];omega)) (q _ sj)
  have h1:=Decidable.not_not.mp h1
  refine fM (decide_eq_false (by rw [bf];omega)) ?_
  rw [if_neg (fun z=>z ⟨h0,h1⟩)] at q
  obtain ⟨r',er'⟩:∃r':Nat,r=(r':Int):=⟨r.toNat,by omega⟩
  subst er'
  rw [Int.toNat_natCast] at q
  obtain ⟨ra,er⟩:∃ra,rs[r']?=some ra:=⟨_,List.getElem?_eq_getElem (by omega)⟩
  obtain ⟨dd2,ed2,_,hd⟩:=R.get er
  have e0:ds.getD r' rd0=dd2:=dG ed2
  have eV:rdV hs dd2=[.str (iT hs ds r'),.str (iU hs ds r'),.int (rTn ds r'),.int (rRm ds r')]:=by
   unfold rdV iT iU rTn rRm
   rw [e0]
  rw [eV] at hd
  have ar:L2.atI (refs rs) (r':Int)=some (.ref ra):=cu (by unfold refs;rw [List.getElem?_map,er];rfl)
  have nl:(ns.map V.int).length=ns.length:=List.length_map _
  refine ⟨_,rfl,c,_,rfl,.inr (SqT.of (sj _ _ hb2)),_,rfl,_,rfl,b,_,_,_,rfl,rfl,SqL.of hbj,ar,ra,_,_,_,rfl,rfl,SqT.of (sj _ _ hd),rfl,_,_,rfl,rfl,_,rfl,?_⟩
  by_cases h2:rRm ds r' < (ns.length:Int)
  ·rw [if_pos h2] at q
   exact eF (decide_eq_true (by rw [nl];exact h2)) (q _ sj)
  rw [if_neg h2] at q
  refine fM (decide_eq_false (by rw [nl];exact h2)) ?_
  refine ⟨_,rfl,c,rfl,⟨_,SqT.of (sj _ _ hb2)⟩,?_⟩
  refine Ef (K:=K) (a:=c) (xs:=ns.map V.int) (Sv lp b pp bg c t (r':Int) v7 H fin.length ns) ⟨-1,none,none,rfl,sj,rfl,Int.le_refl _,fun _=>rfl,fun j e=>by cases e⟩ (fun j σ Hj ⟨_,_,_,_,sm,_,_,_,_⟩=>SqT.of (sm _ _ hb2)) ?_ ?_
  ·rintro i z σ Hk p ez ⟨a,v8,v9,rfl,sm,ri,am,a0,as⟩ np
   have sp:=aC (o:=.tup [V.int (i:Int),z]) np
   refine ⟨p,_,rfl,SqT.of aq,rfl,_,_,rfl,_,_,rfl,rfl,?_⟩
   have sk:=sm.trans sp
   generalize upd Hk p (.tup [V.int (i:Int),z])=Hl at sk ⊢
   rw [List.getElem?_map] at ez
   obtain ⟨n,en,rfl⟩:=Option.map_eq_some_iff.mp ez
   rw [BV en] at ri
   have ri:jg fin.length (-1) ns=if a < n∧n < (fin.length:Int) then jg fin.length n (ns.drop (i+1)) else false:=ri
   have bad:¬(a < n∧n < (fin.length:Int))→Q (.str qC) Hl:=fun z=>by
    rw [if_neg z] at ri
    have:=q _ sk
    rw [if_pos ri] at this
    exact this
   have good:(a < n∧n < (fin.length:Int))→Sv lp b pp bg c t (r':Int) v7 H fin.length ns (i+1) [some (.ref lp),some (.ref b),some (.ref pp),some (.ref bg),some (.int t),some (.int (r':Int)),some (.ref c),v7,some (.int (i:Int)),some (.int n)] Hl:=fun z=>by
    rw [if_pos z] at ri
    exact ⟨n,_,_,rfl,sk,ri,by omega,fun y=>by omega,fun j ej=>by
     have ej:j=i:=by omega
     rw [ej]
     exact en⟩
   refine ⟨_,rfl,_,_,rfl,rfl,_,rfl,?_⟩
   by_cases c1:n < 0
   ·exact eF (decide_eq_true c1) (dm (bad (by omega)))
   refine fM (decide_eq_false c1) ⟨_,rfl,_,rfl,lp,_,rfl,.inl (SqL.of (sk _ _ hlp)),_,_,rfl,rfl,_,rfl,?_⟩
   by_cases c2:(fin.length:Int)≤n
   ·exact eF (decide_eq_true (by rw [bf,ldl,←fl];exact c2)) (dm (bad (by omega)))
   refine fM (decide_eq_false (by rw [bf,ldl,←fl];exact c2)) ⟨_,rfl,_,_,rfl,rfl,_,rfl,?_⟩
   by_cases c3:0 < i
   ·refine eF (decide_eq_true (by omega)) ?_
    obtain ⟨j,rfl⟩:∃j,i=j+1:=⟨i - 1,by omega⟩
    have aj:L2.atI (ns.map V.int) (((j+1:Nat):Int) - 1)=some (.int a):=by
     rw [show ((j+1:Nat):Int) - 1=(j:Int) by omega]
     exact cu (by rw [List.getElem?_map,as j rfl];rfl)
    refine ⟨_,rfl,_,rfl,_,_,rfl,rfl,c,_,_,_,rfl,rfl,SqT.of (sk _ _ hb2),aj,_,rfl,_,_,rfl,rfl,_,rfl,?_⟩
    by_cases c4:n≤a
    ·exact eF (decide_eq_true c4) (bad (by omega))
    ·exact fM (decide_eq_false c4) (good ⟨by omega,by omega⟩)
   ·have:=a0 (by omega)
    exact fM (decide_eq_false (by omega)) (dz (good ⟨by omega,by omega⟩))
  rintro σ Hk ⟨a,v8,v9,rfl,sk,ri,_,_,_⟩
  rw [nl,List.drop_length] at ri
  have ri:jg fin.length (-1) ns=true:=ri
  rw [if_neg (by rw [ri];simp)] at q
  obtain ⟨pw,mem⟩:=qD ri
  refine ⟨_,rfl,c,rfl,⟨_,SqT.of (sk _ _ hb2)⟩,?_⟩
  refine uU (K:=K) (a:=c) (xs:=ns.map V.int) (Uw lp b pp bg c t (r':Int) v7 v8 H (dD hs ds (lts.map fun d=>d.2.2) fin t (r':Int)) ns) ⟨_,rfl,sk,rfl⟩ (fun j σ Hj _ ⟨_,_,sm,_⟩=>SqT.of (sm _ _ hb2)) ?_ ?_
  ·rintro i z σ Hl ez ⟨v9',rfl,sl',al⟩
   rw [List.getElem?_map] at ez
   obtain ⟨n,en,rfl⟩:=Option.map_eq_some_iff.mp ez
   rw [BV en,List.all_cons] at al
   have mm:=mem n (List.mem_of_getElem? en)
   obtain ⟨n',rfl⟩:∃n':Nat,n=(n':Int):=⟨n.toNat,by omega⟩
   have nlt:n' < lts.length:=by omega
   obtain ⟨y,ey⟩:∃y,(lts.map fun d=>d.2.2)[n']?=some y:=⟨_,List.getElem?_eq_getElem (by rw [List.length_map];exact nlt)⟩
   have hbl:=sl' _ _ hb
   refine ⟨_,rfl,_,rfl,_,rfl,_,rfl,_,rfl,_,rfl,b,_,_,_,rfl,rfl,SqL.of hbl,ar,ra,_,_,_,rfl,rfl,SqT.of (sl' _ _ hd),rfl,_,rfl,lp,b,pp,lr,rs,pa,lts,hs,ds,bs,fin,n',iT hs ds r',y,t,rfl,sl' _ _ hlp,tpl.same sl',hbl,R.same sl',sl' _ _ hpp,Paired.mapP bags fun _ _ e=>e.same sl',wk,nlt,ey,ap,fun Hm sm=>⟨_,rfl,?_⟩⟩
   have ec:dD hs ds (lts.map fun d=>d.2.2) fin t (r':Int) (n':Int)=pD (dD.lastAt' fin n') y (iT hs ds r') t:=by
    unfold dD
    rw [Int.toNat_natCast,Int.toNat_natCast,dG ey]
   rw [ec] at al
   cases hc:pD (dD.lastAt' fin n') y (iT hs ds r') t with
   | false=>
    rw [hc,Bool.false_and] at al
    have:=q _ (sl'.trans sm)
    rw [if_pos al] at this
    exact dm this
   | true=>
    rw [hc,Bool.true_and] at al
    exact dz ⟨_,rfl,sl'.trans sm,al⟩
  ·rintro σ Hl ⟨v9',rfl,sl',al⟩
   rw [nl,List.drop_length] at al
   have al:ns.all (dD hs ds (lts.map fun d=>d.2.2) fin t (r':Int))=true:=al
   have:=q _ sl'
   rw [if_neg (by rw [al];simp)] at this
   exact this
unseal PA PE PS PSs
end
end K1
namespace L3
open PySem PySem.Spec PyProof.Rows L2
section
variable {prog:Program} {w:World} {A:Around} {E:Value→Shared→Prop} {s:Shared} {r:Addr} {a b c:Int} {t u v:Tok} {n:Nat}
theorem zK {Q:List Value→Shared→Prop} (hh:A.handled=none) (hr:IsRange s.heap r a b c t u v) (hs:Builtin.Range.small a b c=true) (hn:Builtin.Range.rangeSize a b c=n) (hl:n≤2 ^ 24)
  (hQ:∀h' tk (acc:Array Value),(∀b o,s.heap.get? b=some o→h'.get? b=some o)→ItemsOf (fun i v=>∃t,v=.int (a+i * c) t) acc n→Q acc.toList {s with heap:=h',toks:=tk}):wpAny (model prog w) A (collect (.ref r)) Q E s:=by
 unfold collect
 refine wpAny_bind (wpAny_runValue (codeAny_builtin F.entry_proto_collect ?_))
 rw [Around.under_plainId F.plain_proto_collect _]
 refine wpAny_bind (m:=newList []) (wpAny_newObj_type (wpAny_pure ⟨plainId_quiet F.plain_list_iadd _,codeAny_builtin F.entry_list_iadd ?_⟩))
 rw [Around.under_plainId F.plain_list_iadd _]
 have hS:(s.heap.push {cls:=.type "list",data:=.seq ([]:List Value).toArray}).get? s.heap.objs.size=some {cls:=.type "list",data:=.seq #[]}:=Heap.get?_push_size _ rfl
 show wpAny _ A.in1 (Builtin.List.listExtendWith (.ref s.heap.objs.size) (.ref r) (.ref s.heap.objs.size)) _ _ {s with heap:=s.heap.push {cls:=.type "list",data:=.seq ([]:List Value).toArray}}
 refine wpAny_extend_range (R:=wants (fun v s'=>wpAny (model prog w) A (match v with | .ref a=>(do match (←load a).data with | .seq xs _=>pure xs.toList | _=>unsupported "internal:collect") | _=>unsupported "internal:collect") Q E s') E) (s:={s with heap:=s.heap.push {cls:=.type "list",data:=.seq ([]:List Value).toArray}}) hh (Heap.get?_push_of_some _ hr) hs hn hl s.heap.objs.size (.ref s.heap.objs.size) _ hS fun h' tk acc c' hk hS' hacc=>?_
 refine wpAny_bind (m:=load s.heap.objs.size) (wpAny_load hS' (wpAny_pure ?_))
 exact hQ h' tk acc (fun b o e=>hk b o (Nat.ne_of_lt (Heap.lt_size e)) (Heap.get?_push_of_some _ e)) hacc
theorem Eg {Q:Value→Shared→Prop} (hh:A.handled=none) (hr:IsRange s.heap r a b c t u v) (hs:Builtin.Range.small a b c=true) (hn:Builtin.Range.rangeSize a b c=n) (hl:n≤1000)
  (hQ:∀(h':Heap) tk (acc:Array Value),(∀b o,s.heap.get? b=some o→h'.get? b=some o)→ItemsOf (fun i v=>∃t,v=.int (a+i * c) t) acc n→Q (.ref h'.objs.size) {s with heap:=h'.push {cls:=.type "tuple",data:=.seq acc},toks:=tk}):wpAny (model prog w) A (call (.type "tuple") [.ref r]) Q E s:=by
 refine callType_codes (Q₁:=fun obj s₁=>s₁.TypeIs obj "tuple"∧Q obj s₁) F.called_tuple (F.typeCall_tuple_1 _) F.entry_object_init ?_ fun obj s₁ h₁=>⟨h₁.1,F.args_object_init_2 obj _,object_init_meets F.called_tuple.init.lookup F.called_tuple.made (by decide) prog w A.in1 _ s₁ ⟨h₁.1,rfl,h₁.2⟩⟩
 refine codeAny_of_tree ?_
 show wpAny _ A.in1.in1 (do checkBuiltinCall "tuple.__new__" ⟨[.type "tuple",.ref r],[]⟩;again (.builtin "tuple.__new__" ⟨[.type "tuple",.ref r],[]⟩)) _ _ s
 refine wpAny_bind (wpAny_of_eq (F.newCall_tuple_1 _) (wpAny_pure ⟨plainId_quiet F.plain_tuple_new _,codeAny_builtin F.entry_tuple_new ?_⟩))
 rw [Around.under_plainId F.plain_tuple_new _]
 have hsub:=sub_tuple_self
 have hinit:=init_tuple_lookup
 have hmh:=madeHere_tuple
 have hT:s.TypeIs (.ref r) "range":=⟨_,hr,rfl⟩
 have h24:n≤2 ^ 24:=by omega
 wp_walk using wpAny_typeOf hT,zK (A:=A.in1.in1) hh hr hs hn h24
 intro h' tk acc hk hacc
 show wpAny _ _ (Builtin.Tuple.tupleExact acc.toList.toArray >>=fun v=>ret v) _ _ _
 unfold Builtin.Tuple.tupleExact
 have e:acc.toList.toArray=acc:=by simp
 refine wpAny_bind (wpAny_newObj_type ?_ (by show acc.toList.toArray.size≤sizeLine;rw [e,hacc.1];exact Nat.le_of_lt (aV hl)))
 refine wpAny_pure ?_
 rw [e]
 exact ⟨⟨_,Heap.get?_push_size _ rfl,rfl⟩,hQ h' tk acc hk hacc⟩
end
section
variable {X:Cx}
noncomputable def Sx (ta:TA):TE:=fun σ H Q=>ta σ H fun vs H1=>∃n:Nat,vs=[.int (n:Int)]∧n≤100∧∀l,H1 l=none→Q (.ref l) (upd H1 l (.tup ((List.range n).map fun i:Nat=>V.int (i:Int))))
theorem zL {acc:List Value} {n:Nat} (l:acc.length=n) (h:∀(i:Nat) v,acc[i]?=some v→∃t,v=Value.int (i:Int) t):Vals ((List.range n).map fun i:Nat=>V.int (i:Int)) acc:=by
 have gen:∀(acc:List Value) (k:Nat),(∀(i:Nat) v,acc[i]?=some v→∃t,v=Value.int ((k+i:Nat):Int) t)→Vals ((List.range acc.length).map fun i:Nat=>V.int ((k+i:Nat):Int)) acc:=fun acc=>by
  induction acc with
  | nil=>intro k _;exact .nil
  | cons v r ih=>
   intro k h
   rw [List.length_cons,List.range_succ_eq_map,List.map_cons,List.map_map]
   refine .cons ?_ ?_
   ·obtain ⟨t,rfl⟩:=h 0 v rfl
    exact ⟨t,rfl⟩
   ·have:=ih (k+1) fun i v e=>by
     obtain ⟨t,rfl⟩:=h (i+1) v e
     exact ⟨t,by rw [show k+1+i=k+(i+1) by omega]⟩
    refine (congrArg (fun z=>Vals z r) (List.map_congr_left fun i _=>?_)).mp this
    show V.int ((k+1+i:Nat):Int)=V.int ((k+(i+1):Nat):Int)
    rw [show k+1+i=k+(i+1) by omega]
 have:=gen acc 0 fun i v e=>by
  obtain ⟨t,rfl⟩:=h i v e
  exact ⟨t,by rw [Nat.zero_add]⟩
 rw [l] at this
 refine (congrArg (fun z=>Vals z acc) (List.map_congr_left fun i _=>?_)).mp this
 rw [Nat.zero_add]
theorem MF:bootBuiltins "tuple"=some (.type "tuple"):=by decide+kernel
theorem MJ {a:Expr} {ta:TA} {p p2 pos pos2:Pos} (hc:X.calm=true) (hgt:Gl X "tuple") (hmt:X.mg "tuple"=none) (hg:Gl X "range") (hm:X.mg "range"=none) (ha:PA X [a] ta) (hs:starEach [a] X.env=[(false,eval a X.env)]:=by rfl)
  (hs2:starEach [Expr.Call (.Name "range" p2) [a] [] pos2] X.env=[(false,eval (Expr.Call (.Name "range" p2) [a] [] pos2) X.env)]:=by rfl):PE X (.Call (.Name "tuple" p) [.Call (.Name "range" p2) [a] [] pos2] [] pos) (Sx ta):=by
 intro pins s σ H Q I h
 refine Call_ (kO I hgt hmt MF (PyProof.Rows.callWith_type1 ?_ hs2 rfl))
 rw [hs2]
 show wpAny _ _ (spliced ((false,eval (Expr.Call (.Name "range" p2) [a] [] pos2) X.env)::backTo pos (starEach [] X.env))) _ _ s
 refine Calls.spliced_cons (Call_ (kO I hg hm boot_range (PyProof.Rows.callWith_type1 (thn (ha pos2 pins s σ H _ I h) fun us s1 ⟨vs,H1,I1,r1,q1⟩=>?_) hs rfl)))
 obtain ⟨n,e,n1,q⟩:=q1
 subst e
 cases r1 with
 | cons r rr=>
  cases rr
  obtain ⟨t,rfl⟩:=r
  refine call_range_1 ?_
  show wpAny _ _ (spliced []) _ _ _
  refine Calls.spliced_nil ?_
  have hn:Builtin.Range.rangeSize 0 (n:Int) 1=(n:Int):=by rw [rangeSize_one];split <;> omega
  refine Eg (n:=n) (I1.ok.hd hc) (IsRange.new ..) (small_one (by omega) (by omega) (by omega) (by omega)) hn (by omega) fun h' tk acc hk hacc=>?_
  have I2:Inv X pins σ H1 {s1 with heap:=h',toks:=tk}:=I1.kept fun b o e=>hk b o (Heap.get?_push_of_some _ e)
  have al:acc.toList.length=n:=by rw [Array.length_toList];exact hacc.1
  have rv:Vals ((List.range n).map fun i:Nat=>V.int (i:Int)) acc.toList:=zL al fun i v e=>by
   obtain ⟨t,rfl⟩:=hacc.2 i v (by simpa using e)
   exact ⟨t,by simp⟩
  have I3:Inv X pins σ (upd H1 h'.objs.size (.tup ((List.range n).map fun i:Nat=>V.int (i:Int)))) {s1 with heap:=h'.push {cls:=.type "tuple",data:=.seq acc},toks:=tk}:=
   I2.laid (t':=tk) (fun b o e=>Heap.get?_push_of_some _ e) (Nat.le_refl _) (show bQ X.prog X.w _ _ _ (.tup ((List.range n).map fun i:Nat=>V.int (i:Int))) from ⟨by rw [List.length_map,List.length_range];exact Nat.le_of_lt (aV (by omega)),acc.toList,rv,by have:=IsTup.new h' acc;simpa using this⟩)
  exact ⟨.ref h'.objs.size,_,I3,rfl,q _ (I2.hok.fresh (Nat.le_refl _))⟩
end
end L3
namespace K1
open PySem L2 L3 M1
noncomputable def MkT (k:Nat) (te:TE) (σ:L2.St) (H0:Hp):Prop:=∀(H:Hp) (Q:VK),aN H0 H→(∀v d H',aN H H'→Th H' v d→d.depth≤k→Q v H')→te σ H Q
noncomputable def MkA (k n:Nat) (ta:TA) (σ:L2.St) (H0:Hp):Prop:=∀(H:Hp) (Q:List L2.V→Hp→Prop),aN H0 H→(∀vs ds H',aN H H'→Ths H' vs ds→vs.length=n→(∀d∈ds,d.depth≤k)→Q vs H')→ta σ H Q
section
variable {k n:Nat} {te:TE} {ta:TA} {σ:L2.St} {H0:Hp}
theorem MkA.nil:MkA k 0 Ez σ H0:=fun H Q s q=>q [] [] H (aN.refl _) .nil rfl (fun _ h=>nomatch h)
theorem MkA.cons (h:MkT k te σ H0) (r:MkA k n ta σ H0):MkA k (n+1) (kh te ta) σ H0:=fun H Q s q=>h H _ s fun v d H1 s1 t1 d1=>r H1 _ (s.trans s1) fun vs ds H2 s2 t2 l2 d2=>q (v::vs) (d::ds) H2 (s1.trans s2) (.cons (t1.same s2) t2) (by rw [List.length_cons,l2]) (fun x hx=>by
 rcases List.mem_cons.mp hx with rfl | hx
 ·exact d1
 ·exact d2 x hx)
theorem MkT.mono {k':Nat} (h:MkT k te σ H0) (l:k≤k'):MkT k' te σ H0:=fun H Q s q=>h H Q s fun v d H' s' t dd=>q v d H' s' t (Nat.le_trans dd l)
theorem MkT.tup (h:MkA k n ta σ H0) (l:n≤100):MkT (k+1) (J7 ta) σ H0:=fun H Q s q=>h H _ s fun vs ds H1 s1 t1 l1 d1=>⟨Nat.le_of_lt (aV (by omega)),fun p np=>q (.ref p) (.tuple ds) _ (s1.trans (aC np)) (.tup aq (by omega) (t1.same (aC np))) (dtup7 d1)⟩
where dtup7 {ds:List PyData} {n:Nat} (h:∀d∈ds,d.depth≤n):(PyData.tuple ds).depth≤n+1:=Nat.succ_le_succ (gw h)
theorem MkT.lst (h:MkA k n ta σ H0) (l:n≤100):MkT (k+1) (N7 ta) σ H0:=fun H Q s q=>h H _ s fun vs ds H1 s1 t1 l1 d1=>⟨Nat.le_of_lt (aV (by omega)),fun p np=>q (.ref p) (.list ds) _ (s1.trans (aC np)) (.lst aq (by omega) (t1.same (aC np))) (Nat.succ_le_succ (gw d1))⟩
theorem MkT.c {v:L2.V} {d:PyData} (t:∀H,Th H v d) (l:d.depth≤k):MkT k (tC v) σ H0:=fun H Q s q=>q v d H (aN.refl _) (t H) l
theorem MkT.var {i:Nat} {v:L2.V} {d:PyData} (e:σ[i]?=some (some v)) (t:Th H0 v d) (l:d.depth≤k):MkT k (ym i) σ H0:=fun H Q s q=>⟨v,e,q v d H (aN.refl _) (t.same s) l⟩
theorem MkT.int (h:∀(H:Hp) (Q:VK),aN H0 H→(∀i:Int,Q (.int i) H)→te σ H Q):MkT k te σ H0:=fun H Q s q=>h H Q s fun i=>q (.int i) (.int i) H (aN.refl _) (.int i) (Nat.zero_le _)
theorem j7 {ge:TE} {g:TG} {u:TS} {D:Ends} {H:Hp} (h:ge σ H fun v H1=>g v σ H1 (u D)):oU (yq ge g) u D σ H:=h
theorem ik {j:Nat} {l:Addr} {xs:List L2.V} {ds:List PyData} {m:Nat} {H:Hp} {Q:VK} (e:σ[j]?=some (some (.ref l))) (hl:H l=some (.lst xs)) (tx:Ths H xs ds) (lx:xs.length=m) (dx:∀d∈ds,d.depth≤2) (s:aN H0 H) (h:MkA 2 n ta σ H0) (mn:m+n≤20)
  (q:∀l' xs' ds' H',aN H H'→H' l'=some (.lst xs')→Ths H' xs' ds'→xs'.length=m+n→(∀d∈ds',d.depth≤2)→Q (.ref l') H'):tOp Q5 (ym j) (N7 ta) σ H Q:=by
 refine ⟨_,e,h H _ s fun vs es H1 s1 t1 l1 d1=>⟨Nat.le_of_lt (aV (by omega)),fun p np=>?_⟩⟩
 have w1:=s1.trans (aC (o:=.lst vs) np)
 refine ⟨l,p,xs,vs,rfl,rfl,w1 _ _ hl,aq,Nat.le_of_lt (aV (by omega)),fun p2 np2=>?_⟩
 have w2:=aC (o:=.lst (xs++vs)) np2
 have w:=w1.trans w2
 exact q p2 (xs++vs) (ds++es) _ w aq (Ths.append (tx.same w) ((t1.same (aC np)).same w2)) (by rw [List.length_append];omega) (fun d hd=>by
  rcases List.mem_append.mp hd with hd | hd
  ·exact dx d hd
  ·exact d1 d hd)
end
theorem ye (r:Nat) (h:r < 40):PyData.strOk (Str.ofString (toString (r:Int)))=true∧(Str.ofString (toString (r:Int))).length≤100:=by
 have:∀i:Fin 40,PyData.strOk (Str.ofString (toString (i.val:Int)))=true∧(Str.ofString (toString (i.val:Int))).length≤100:=by decide+kernel
 exact this ⟨r,h⟩
theorem iC {H:Hp}:∀ns:List Int,Ths H (ns.map V.int) (ns.map PyData.int)
 | []=>.nil
 | n::ns=>.cons (.int n) (iC ns)
theorem Eh {H:Hp} (n:Nat):Ths H ((List.range n).map fun i:Nat=>V.int (i:Int)) ((List.range n).map fun i:Nat=>PyData.int (i:Int)):=by
 have:=iC (H:=H) ((List.range n).map fun i:Nat=>(i:Int))
 rw [List.map_map,List.map_map] at this
 exact this
theorem Ei (n:Nat):∀d∈(List.range n).map fun i:Nat=>PyData.int (i:Int),d.depth≤0:=fun d hd=>by
 obtain ⟨n,_,rfl⟩:=List.mem_map.mp hd
 exact Nat.le_refl _
theorem yf (ns:List Int):∀d∈ns.map PyData.int,d.depth≤0:=fun d hd=>by
 obtain ⟨n,_,rfl⟩:=List.mem_map.mp hd
 exact Nat.le_refl _
section
variable {P:Program} {w:World} {K:PySem.W.Frag} {mg:Str→Option Value} {base:Heap}
noncomputable abbrev sOd:Stmt:=top 52
noncomputable abbrev pOd:List Str:=["_law_bag","_law_letters","_law_lines","_law_cell"]
noncomputable abbrev nOd:List Str:=["_law_bag","_law_letters","_law_lines","_law_cell","_law_turn","_law_road_here","_law_numbers","_law_far","_law_some"]
theorem qi:aX nOd pOd (aH sOd):=⟨rfl,rfl,rfl,by decide+kernel,rfl,by decide+kernel,by decide+kernel⟩
inductive Sy (vs:List L2.V) (H:Hp) (Q:VK) (E:XK):Prop where
 | mk (bg lp b:Addr) (lr rs:List Addr) (hs:List (List Nat)) (ds:List M1.Rd) (bb:Kt × List Nat) (c:Int) (z1:vs=[.ref bg,.ref lp,.ref b,.int c]) (z2:gU H bg bb) (z3:bb.1.2 < ds.length) (z4:ds.length≤40) (z5:bb.2≠[]) (z6:bb.2.length≤100) (z7:H lp=some (.lst (refs lr))) (z8:0 < lr.length) (z9:H b=some (.lst (refs rs))) (z10:cB H hs rs ds)
   (z11:∀v d H',aN H H'→Th H' v d→d.depth≤2→Q v H')
noncomputable def SJ:Sp:=fun vs H Q E=>Sy vs H Q E
seal PA PE PS PSs
theorem SM {f:Addr} {fd:FuncData} (F:Fun K "_law_odd" "_law_odd" sOd f fd) (B:Blt mg):aY P w K mg base CX0 1 f fd pOd SJ:=by
 refine F.ok qi (fun vs H Q E h=>?_) (fun cdv A outer s H vs Q E hr h=>?_)
 ·obtain ⟨bg,lp,b,lr,rs,hs,ds,bb,c,rfl,_⟩:=h
  rfl
 ·obtain ⟨bg,lp,b,lr,rs,hs,ds,bb,c,rfl,⟨nc,hb1,hb2⟩,rd,d40,ne,few,hlp,lpos,hb,R,q⟩:=h
  refine ⟨_,(au (Ep (pv 0) (mX rfl (cG (bw (i:=4) qi.nd rfl (Or.inl rfl)) (cG (bw (i:=5) qi.nd rfl (Or.inl rfl)) (cG (bw (i:=6) qi.nd rfl (Or.inl rfl)) jJ)))))
   (au (aP (i:=7) qi.nd rfl (Or.inl rfl) (aL bR (aL eG (pv 3) az) (aL yu az az)))
   (au (aP (i:=8) qi.nd rfl (Or.inl rfl) (cj (aa iH (aa (pv 4) (aa cI (aa (cj (aa (pv 4) (aa (pv 5) (aa (pv 6) ao)))) (aa (bN (aa (pv 4) (aa (pv 5) ao))) (aa (bN (aa (pv 4) (aa (pv 5) (aa (pv 6) (aa az ao))))) (aa (bN (aa (pv 4) (aa (pv 5) (aa (bN ao) ao)))) ao)))))))))
   (au (aP (i:=8) qi.nd rfl (Or.inl rfl) (aL jP (pv 8) (cj (aa (bN (aa (pv 4) (aa (gm uV (by rfl) B.str Gg (aa (pv 5) ao)) (aa (pv 6) ao)))) (aa (bN (aa nG (aa (pv 5) (aa (pv 6) ao)))) (aa (bN (aa (pv 4) (aa (pv 5) (aa (bN (aa iH ao)) ao)))) ao))))))
   (au (aP (i:=8) qi.nd rfl (Or.inl rfl) (aL jP (pv 8) (cj (aa (bN (aa (pv 4) (aa (pv 5) (aa (gm iM (by rfl) B.list jT (aa (pv 6) ao)) ao)))) ao))))
   (au (aP (i:=8) qi.nd rfl (Or.inl rfl) (aL jP (pv 8) (cj (aa (bN (aa (pv 4) (aa (aL cg (aG aO (by rfl) B.len b7 (aa (pv 2) ao)) (pv 7)) (aa (pv 6) ao)))) (aa (bN (aa (pv 4) (aa (aL jL (qL mY az) (pv 7)) (aa (pv 6) ao)))) ao)))))
   (au (aP (i:=8) qi.nd rfl (Or.inl rfl) (aL jP (pv 8) (cj (aa (bN (aa (pv 4) (aa (pv 5) (aa (MJ rfl (by rfl) B.tuple (by rfl) B.range (aa (aL cg (aG (Ci rfl) (by rfl) B.min RB (aa (aM aU (aM bB (pv 2) (pv 5) (fun _ _=>rfl)) az (fun _ _=>rfl)) (aa az ao))) az) ao)) ao)))) (aa (bN (aa (pv 4) (aa (pv 5) (aa (bN (aa (aL cg (aG aO (by rfl) B.len b7 (aa (pv 1) ao)) (pv 7)) ao)) ao)))) ao)))))
   (au (aP (i:=8) qi.nd rfl (Or.inl rfl) (aL jP (pv 8) (cj (aa (bN (aa (pv 4) (aa (pv 5) (aa (bN (aa (aL jL (qL mY az) (pv 7)) ao)) ao)))) (aa (bN (aa (pv 4) (aa (pv 5) (aa (bN (aa (aM aU (pv 6) az (fun _ _=>rfl)) (aa (aM aU (pv 6) az (fun _ _=>rfl)) ao))) ao)))) ao)))))
   (au (aP (i:=8) qi.nd rfl (Or.inl rfl) (aL jP (pv 8) (cj (aa (bN (aa (aL jL (aL jL (pv 4) az) (aL bR (pv 7) az)) (aa (pv 5) (aa (pv 6) ao)))) (aa (bN (aa (pv 4) (aa (pv 5) (aa (bN (aa (aL bR (pv 7) (aG aO (by rfl) B.len b7 (aa (pv 1) ao))) ao)) ao)))) ao)))))
   (aB (aR (aM bB (aL jP (pv 8) (cj (aa (bN (aa (pv 4) (aa (aL bR (pv 7) (aG aO (by rfl) B.len b7 (aa (pv 2) ao))) (aa (pv 6) ao)))) ao))) (aL bR (pv 3) az) (fun _ _=>rfl))))))))))))),?_⟩
  have e2:bb.2.map (fun n:Nat=>V.int n)=(bb.2.map fun n:Nat=>(n:Int)).map V.int:=by rw [List.map_map];rfl
  rw [e2] at hb2
  have nl:((bb.2.map fun n:Nat=>(n:Int)).map V.int).length=bb.2.length:=by rw [List.length_map,List.length_map]
  have thn_:Th H (.ref nc) (.tuple ((bb.2.map fun n:Nat=>(n:Int)).map PyData.int)):=.tup hb2 (by omega) (iC _)
  have dn:(PyData.tuple ((bb.2.map fun n:Nat=>(n:Int)).map PyData.int)).depth≤1:=Nat.succ_le_succ (gw (yf _))
  refine ⟨_,rfl,bg,_,rfl,SqT.of hb1,rfl,_,_,rfl,_,_,rfl,_,_,rfl,rfl,?_⟩
  refine ⟨_,rfl,_,_,rfl,rfl,⟨by decide,by decide⟩,_,_,rfl,rfl,⟨by decide,by decide,by decide⟩,_,_,rfl,rfl,(by show (0:Int) < 10 ^ (9:Int).toNat;decide),?_⟩
  generalize c / 20 % 10 ^ (9:Int).toNat=far
  obtain ⟨st,est⟩:∃st:Option L2.V→L2.St,st=fun o=>[some (.ref bg),some (.ref lp),some (.ref b),some (.int c),some (.int bb.1.1),some (.int (bb.1.2:Int)),some (.ref nc),some (.int far),o]:=⟨_,rfl⟩
  have m4:∀o k,MkT k (ym 4) (st o) H:=fun o k=>MkT.var (by rw [est];rfl) (.int _) (Nat.zero_le _)
  have m5:∀o k,MkT k (ym 5) (st o) H:=fun o k=>MkT.var (by rw [est];rfl) (.int _) (Nat.zero_le _)
  have m6:∀o,MkT 1 (ym 6) (st o) H:=fun o=>MkT.var (by rw [est];rfl) thn_ dn
  have i2:∀{o:Option L2.V},(st o)[2]?=some (some (.ref b)):=fun {o}=>by rw [est];rfl
  have i1:∀{o:Option L2.V},(st o)[1]?=some (some (.ref lp)):=fun {o}=>by rw [est];rfl
  have i3:∀{o:Option L2.V},(st o)[3]?=some (some (.int c)):=fun {o}=>by rw [est];rfl
  have i4:∀{o:Option L2.V},(st o)[4]?=some (some (.int bb.1.1)):=fun {o}=>by rw [est];rfl
  have i5:∀{o:Option L2.V},(st o)[5]?=some (some (.int (bb.1.2:Int))):=fun {o}=>by rw [est];rfl
  have i6:∀{o:Option L2.V},(st o)[6]?=some (some (.ref nc)):=fun {o}=>by rw [est];rfl
  have i7:∀{o:Option L2.V},(st o)[7]?=some (some (.int far)):=fun {o}=>by rw [est];rfl
  have i8:∀{l:Addr},(st (some (.ref l)))[8]?=some (some (.ref l)):=fun {l}=>by rw [est];rfl
  have bag3:∀{o:Option L2.V} {ta tb tc:TE},MkT 1 ta (st o) H→MkT 1 tb (st o) H→MkT 1 tc (st o) H→MkT 2 (J7 (kh ta (kh tb (kh tc Ez)))) (st o) H:=fun {o ta tb tc} a b c=>MkT.tup (n:=3) (.cons a (.cons b (.cons c .nil))) (by decide)
  obtain ⟨ra,er⟩:∃ra,rs[bb.1.2]?=some ra:=⟨_,List.getElem?_eq_getElem (by have:=R.len;omega)⟩
  obtain ⟨dd2,ed2,okr,hd⟩:=R.get er
  have e0:ds.getD bb.1.2 rd0=dd2:=dG ed2
  have ar:L2.atI (refs rs) (bb.1.2:Int)=some (.ref ra):=cu (by unfold refs;rw [List.getElem?_map,er];rfl)
  have rpos:(0:Int) < ((refs rs).length:Int):=by rw [bf];have:=R.len;omega
  have lpos':(0:Int) < ((refs lr).length:Int):=by rw [bf];omega
  obtain ⟨n0,ns0,en0⟩:∃n0 ns0,(bb.2.map fun n:Nat=>(n:Int))=n0::ns0:=by
   cases hbb:bb.2 with
   | nil=>exact absurd hbb ne
   | cons x y=>exact ⟨_,_,rfl⟩
  have at0:L2.atI ((bb.2.map fun n:Nat=>(n:Int)).map V.int) 0=some (.int n0):=by rw [en0];exact cu (j:=0) rfl
  have one:∀{o:Option L2.V} {ta:TE},MkT 0 ta (st o) H→MkT 1 (J7 (kh ta Ez)) (st o) H:=fun {o ta} a=>MkT.tup (n:=1) (.cons a .nil) (by decide)
  dsimp only [dX]
  generalize hσ:List.set _ 7 _=σ'
  obtain rfl:σ'=st none:=by rw [←hσ,est];rfl
  have set8:∀(o:Option L2.V) (v:L2.V),(st o).set 8 (some v)=st (some v):=fun o v=>by rw [est];rfl
  refine j7 ?_
  refine (MkA.cons (MkT.c (fun _=>.non) (Nat.zero_le _)) (.cons (m4 _ 2) (.cons (MkT.c (fun _=>.str _ (by decide+kernel) (by decide+kernel)) (Nat.zero_le _)) (.cons (MkT.lst (n:=3) (.cons (m4 _ 1) (.cons (m5 _ 1) (.cons (m6 _) .nil))) (by decide)) (.cons ((MkT.tup (k:=0) (n:=2) (.cons (m4 _ 0) (.cons (m5 _ 0) .nil)) (by decide)).mono (by decide)) (.cons (MkT.tup (n:=4) (.cons (m4 _ 1) (.cons (m5 _ 1) (.cons (m6 _) (.cons (MkT.c (fun _=>.int _) (Nat.zero_le _)) .nil)))) (by decide)) (.cons (bag3 (m4 _ 1) (m5 _ 1) (MkT.tup (k:=0) (n:=0) .nil (by decide))) .nil))))))) H _ (aN.refl _) fun xs1 ds1 H1 s1 t1 l1 d1=>⟨Nat.le_of_lt (aV (by omega)),fun p1 np1=>?_⟩
  have w1:=s1.trans (aC (o:=.lst xs1) np1)
  have hl1:upd H1 p1 (.lst xs1) p1=some (.lst xs1):=aq
  have t1:=t1.same (aC (o:=.lst xs1) np1)
  generalize upd H1 p1 (.lst xs1)=G1 at w1 hl1 t1 ⊢
  dsimp only [dX]
  rw [set8]
  refine j7 (ik (H0:=H) (m:=7) (n:=3) i8 hl1 t1 l1 d1 w1 (.cons (bag3 (m4 _ 1) (fun Hq Qq sq kq=>⟨_,i5,_,rfl,?_,kq _ (.str _) Hq (aN.refl _) (.str _ (ye _ (by omega)).2 (ye _ (by omega)).1) (Nat.zero_le _)⟩) (m6 _)) (.cons (bag3 (MkT.c (fun _=>.bl _) (Nat.zero_le _)) (m5 _ 1) (m6 _)) (.cons (bag3 (m4 _ 1) (m5 _ 1) (one (MkT.c (fun _=>.non) (Nat.zero_le _)))) .nil))) (by decide) fun p2 xs2 ds2 G2 w2 hl2 t2 l2 d2=>?_)
  ·have:∀i:Fin 40,((i.val:Int)).natAbs.log2 < 1920:=by decide+kernel
   exact this ⟨bb.1.2,by omega⟩
  have w2:=w1.trans w2
  dsimp only [dX]
  rw [set8]
  refine j7 (ik (H0:=H) (m:=10) (n:=1) i8 hl2 t2 l2 d2 w2 (.cons (bag3 (m4 _ 1) (m5 _ 1) (fun Hq Qq sq kq=>⟨_,i6,nc,_,rfl,.inr (SqT.of (sq _ _ hb2)),fun lq nlq=>kq _ _ _ (aC nlq) (.lst aq (by omega) (iC _)) (Nat.succ_le_succ (gw (yf _)))⟩)) .nil) (by decide) fun p3 xs3 ds3 G3 w3 hl3 t3 l3 d3=>?_)
  have w3:=w2.trans w3
  dsimp only [dX]
  rw [set8]
  refine j7 (ik (H0:=H) (m:=11) (n:=2) i8 hl3 t3 l3 d3 w3 (.cons (bag3 (m4 _ 1) (MkT.int fun Hq Qq sq kq=>⟨_,i2,b,_,rfl,.inl (SqL.of (sq _ _ hb)),_,i7,_,_,rfl,rfl,kq _⟩) (m6 _)) (.cons (bag3 (m4 _ 1) (MkT.int fun Hq Qq sq kq=>⟨_,rfl,_,i7,_,_,rfl,rfl,kq _⟩) (m6 _)) .nil)) (by decide) fun p4 xs4 ds4 G4 w4 hl4 t4 l4 d4=>?_)
  have w4:=w3.trans w4
  dsimp only [dX]
  rw [set8]
  have rm0:=okr.m.1
  refine j7 (ik (H0:=H) (m:=13) (n:=2) i8 hl4 t4 l4 d4 w4 (.cons (bag3 (m4 _ 1) (m5 _ 1) (fun Hq Qq sq kq=>⟨_,i2,_,i5,b,_,_,_,rfl,rfl,SqL.of (sq _ _ hb),ar,ra,_,_,_,rfl,rfl,SqT.of (sq _ _ hd),rfl,_,_,rfl,_,_,rfl,rfl,((if (40:Int) < dd2.m then 40 else dd2.m)+1).toNat,?_,?_,fun lq nlq=>kq _ _ _ (aC nlq) (.tup aq (by rw [List.length_map,List.length_range];split <;> omega) (Eh _)) (Nat.succ_le_succ (gw (Ei _)))⟩)) (.cons (bag3 (m4 _ 1) (m5 _ 1) (one (MkT.int fun Hq Qq sq kq=>⟨_,i1,lp,_,rfl,.inl (SqL.of (sq _ _ hlp)),_,i7,_,_,rfl,rfl,kq _⟩))) .nil)) (by decide) fun p5 xs5 ds5 G5 w5 hl5 t5 l5 d5=>?_)
  ·rw [Int.toNat_of_nonneg (by split <;> omega)]
  ·split <;> omega
  have w5:=w4.trans w5
  dsimp only [dX]
  rw [set8]
  refine j7 (ik (H0:=H) (m:=15) (n:=2) i8 hl5 t5 l5 d5 w5 (.cons (bag3 (m4 _ 1) (m5 _ 1) (one (MkT.int fun Hq Qq sq kq=>⟨_,rfl,_,i7,_,_,rfl,rfl,kq _⟩))) (.cons (bag3 (m4 _ 1) (m5 _ 1) (MkT.tup (k:=0) (n:=2) (.cons (MkT.int fun Hq Qq sq kq=>⟨_,i6,nc,_,_,_,rfl,rfl,SqT.of (sq _ _ hb2),at0,kq _⟩) (.cons (MkT.int fun Hq Qq sq kq=>⟨_,i6,nc,_,_,_,rfl,rfl,SqT.of (sq _ _ hb2),at0,kq _⟩) .nil)) (by decide))) .nil)) (by decide) fun p6 xs6 ds6 G6 w6 hl6 t6 l6 d6=>?_)
  have w6:=w5.trans w6
  dsimp only [dX]
  rw [set8]
  refine j7 (ik (H0:=H) (m:=17) (n:=2) i8 hl6 t6 l6 d6 w6 (.cons (bag3 (MkT.int fun Hq Qq sq kq=>⟨_,i4,_,_,rfl,rfl,_,i7,_,_,rfl,rfl,(by show (0:Int) < 40;decide),_,_,rfl,rfl,kq _⟩) (m5 _ 1) (m6 _)) (.cons (bag3 (m4 _ 1) (m5 _ 1) (one (MkT.int fun Hq Qq sq kq=>⟨_,i7,_,i1,lp,_,rfl,.inl (SqL.of (sq _ _ hlp)),_,_,rfl,rfl,lpos',kq _⟩))) .nil)) (by decide) fun p7 xs7 ds7 G7 w7 hl7 t7 l7 d7=>?_)
  have w7:=w6.trans w7
  dsimp only [dX]
  rw [set8]
  refine ik (H0:=H) (m:=19) (n:=1) i8 hl7 t7 l7 d7 w7 (.cons (bag3 (m4 _ 1) (MkT.int fun Hq Qq sq kq=>⟨_,i7,_,i2,b,_,rfl,.inl (SqL.of (sq _ _ hb)),_,_,rfl,rfl,rpos,kq _⟩) (m6 _)) .nil) (by decide) fun p8 xs8 ds8 G8 w8 hl8 t8 l8 d8=>?_
  have w8:=w7.trans w8
  have c0:=Int.emod_nonneg c (show (20:Int)≠0 by decide)
  have c1:=Int.emod_lt_of_pos c (show (0:Int) < 20 by decide)
  obtain ⟨v,ev⟩:∃v,xs8[(c % 20).toNat]?=some v:=⟨_,List.getElem?_eq_getElem (by omega)⟩
  obtain ⟨dv,edv,tv⟩:=t8.get ev
  have av:L2.atI xs8 (c % 20)=some v:=by
   have:=cu ev
   rwa [Int.toNat_of_nonneg c0] at this
  exact ⟨_,i3,_,_,rfl,rfl,(by show (0:Int) < 20;decide),p8,_,_,_,rfl,rfl,SqL.of hl8,av,q v dv G8 w8 tv (d8 dv (List.mem_of_getElem? edv))⟩
unseal PA PE PS PSs
end
end K1
namespace L3
open PySem PySem.Spec PyProof.Rows L2
theorem JX {K:PySem.W.Frag} {C:Addr} (hc:PySem.W.isClsIn K C=true) (ht:PySem.W.typeIn K (.ref C)=some (.type "type")):PySem.W.kitOne K (.type "NoneType") (.ref C)=some false:=by
 unfold PySem.W.kitOne
 rw [if_neg (by simp)]
 unfold PySem.W.kitCls
 have h1:(PySem.W.clsIn K C).isSome=true:=hc
 have h2:(PySem.W.typeIn K (.ref C)==some (.type "type"))=true:=by rw [ht];decide
 show (if ((PySem.W.clsIn K C).isSome && PySem.W.typeIn K (.ref C)==some (.type "type"))=true then _ else _)=_
 rw [h1,h2]
 refine (if_pos rfl).trans ?_
 rfl
section
variable {X:Cx}
theorem Qj:fK X (.builtin "isinstance") (fun xs H Q=>(∃(ea C p:Addr) (cs:List Addr) (b:Bool),xs=[.ref ea,.ref p]∧H ea=some (Cw ea C)∧H p=some (.tup (cs.map V.ref))∧kE X.K C∧PySem.W.kitAny X.K (.ref C) (cs.map Value.ref)=some b∧Q (.bl b) H)∨
  ∃(p:Addr) (cs:List Addr) (b:Bool),xs=[.non,.ref p]∧H p=some (.tup (cs.map V.ref))∧PySem.W.kitAny X.K (.type "NoneType") (cs.map Value.ref)=some b∧Q (.bl b) H):=by
 intro pins s σ H xs us Q I r h
 rcases h with h | h
 ·exact CP pins s σ H xs us Q I r h
 ·obtain ⟨p,cs,b,rfl,hp,ka,q⟩:=h
  obtain ⟨u,w',rfl,ru,rw'⟩:=vals2 r
  cases ru
  cases rw'
  obtain ⟨zl,its,rv,⟨oc,od,odt,osl⟩,ho,hc,n,hd⟩:=(show bQ X.prog X.w H s.heap p (.tup (cs.map V.ref)) from I.hok p _ hp)
  simp only at hc hd
  subst hc hd
  have ei:its=cs.map Value.ref:=by
   clear ho hp ka zl
   induction cs generalizing its with
   | nil=>cases rv;rfl
   | cons c' r' ih=>
    cases rv with
    | cons r1 r2=>
     cases r1
     rw [ih _ r2]
     rfl
  rw [ei] at ho
  exact PySem.W.kia_tup PySem.W.kitx_none I.kIn True.intro ho ka (fun z=>nomatch z) fun tk=>⟨.bl b,H,I.tok tk,rfl,q⟩
theorem zM:fK X (.builtin "isinstance") (fun xs H Q=>(∃(ea C:Addr) (b:Bool),H ea=some (Cw ea C)∧kE X.K C∧((∃R,xs=[.ref ea,.ref R]∧PySem.W.kitOne X.K (.ref C) (.ref R)=some b)∨∃T,xs=[.ref ea,.ty T]∧PySem.W.kitOne X.K (.ref C) (.type T)=some b)∧Q (.bl b) H)∨
  ∃(R:Addr) (b:Bool),xs=[.non,.ref R]∧PySem.W.kitOne X.K (.type "NoneType") (.ref R)=some b∧Q (.bl b) H):=by
 intro pins s σ H xs us Q I r h
 rcases h with h | h
 ·exact CQ pins s σ H xs us Q I r h
 ·obtain ⟨R,b,rfl,ka,q⟩:=h
  obtain ⟨u,w',rfl,ru,rw'⟩:=vals2 r
  cases ru
  cases rw'
  exact PySem.W.kia_one PySem.W.kitx_none I.kIn True.intro ka (fun z=>nomatch z) fun tk=>⟨.bl b,H,I.tok tk,rfl,q⟩
end
open PySem PySem.Spec PyProof.Rows L2
theorem dW {X:Cx}:fK X (.builtin "isinstance") (fun xs H Q=>(∃(ea C dx:Addr) (b:Bool),H ea=some (exD ea C dx)∧kE X.K C∧((∃R,xs=[.ref ea,.ref R]∧PySem.W.kitOne X.K (.ref C) (.ref R)=some b)∨∃T,xs=[.ref ea,.ty T]∧PySem.W.kitOne X.K (.ref C) (.type T)=some b)∧Q (.bl b) H)∨
  ∃(R:Addr) (b:Bool),xs=[.non,.ref R]∧PySem.W.kitOne X.K (.type "NoneType") (.ref R)=some b∧Q (.bl b) H):=by
 intro pins s σ H xs us Q I r h
 rcases h with h | h
 ·exact Dg pins s σ H xs us Q I r h
 ·exact zM pins s σ H xs us Q I r (.inr h)
end L3
namespace K1
open PySem L2 L3 M1
theorem Qk {K:PySem.W.Frag} {C:Addr} {T:String} {b:Bool} (hm:PySem.W.kitMeta T=true) (hs:PySem.W.subIn K (.ref C) (.type T)=some b):PySem.W.kitOne K (.ref C) (.type T)=some b:=by
 unfold PySem.W.kitOne
 rw [if_neg (by intro z;cases z)]
 unfold PySem.W.kitCls
 show (if PySem.W.kitMeta T=true then _ else _)=_
 rw [if_pos hm,hs]
structure Ql (K:PySem.W.Frag) (BB RE:Addr) (os:List Addr):Prop where
 sub:jR K BB BB=true
 re:PySem.W.kitOne K (.ref BB) (.ref RE)=some true
 ve:PySem.W.kitOne K (.ref BB) (.type "ValueError")=some true
 no:∀o∈os,PySem.W.kitOne K (.ref BB) (.ref o)=some false
 nn:PySem.W.kitOne K (.type "NoneType") (.ref RE)=some false
 ec:kE K BB
 hp:PySem.W.findIn K (.ref BB) "place"=some none
 hn:PySem.W.findIn K (.ref BB) "reason"=some none
 hd:PySem.W.hasDictIn K BB=true
noncomputable def Qm:Option (Nat × Str)→PyData
 | none=>.str (Str.ofString "none")
 | some (p,e)=>.tuple [.int (p:Int),.str e]
inductive Qn (BB:Addr) (H:Hp):Option (Nat × Str)→L2.V→Prop where
 | non:Qn BB H none .non
 | exc (p:Nat) (e:Str) (ea dx:Addr) (h1:H ea=some (exD ea BB dx)) (h2:H dx=some (xdO dx [("place",.int (p:Int)),("reason",.str e)])) (h3:PyData.strOk e=true) (h4:e.length≤100):Qn BB H (some (p,e)) (.ref ea)
theorem BW {hs:List (List Nat)} {ds:List M1.Rd} {gs:List Str} {sss:List (List Step)} {ah:Option (Int × Int)} {d:PyData} {e:Str} (h:kJ hs ds gs sss ah d=some e):PyData.strOk e=true∧e.length≤100:=by
 unfold kJ zr at h
 split at h
 ·repeat' (split at h)
  all_goals first | (cases h;exact ⟨by decide+kernel,by decide+kernel⟩) | exact nomatch h
 ·cases h
  exact ⟨by decide+kernel,by decide+kernel⟩
theorem uO {hs:List (List Nat)} {ds:List M1.Rd} {gs:List Str}:∀{pd:List PyData} {ah:Option (Int × Int)} {sss:List (List Step)} {p p':Nat} {e:Str},walkD hs ds gs ah sss p pd=.inl (p',e)→PyData.strOk e=true∧e.length≤100
 | [],_,_,_,_,_,h=>nomatch h
 | d::r,ah,sss,p,p',e,h=>by
  unfold walkD at h
  split at h
  ·rename_i e1 h1
   cases h
   exact BW h1
  ·exact uO h
noncomputable def outD:(Nat × Str) ⊕ List (List Step)→Option (Nat × Str)
 | .inl x=>some x
 | .inr _=>none
section
variable {P:Program} {w:World} {K:PySem.W.Frag} {mg:Str→Option Value} {base:Heap}
noncomputable abbrev sRb:Stmt:=top 53
noncomputable abbrev nRb:List Str:=["_law_error","_law_one","_law_other"]
theorem Qo:aX nRb ["_law_error"] (aH sRb):=⟨rfl,rfl,rfl,by decide+kernel,rfl,by decide+kernel,by decide+kernel⟩
inductive SN (BB:Addr) (vs:List L2.V) (H:Hp) (Q:VK) (E:XK):Prop where
 | mk (v:L2.V) (o:Option (Nat × Str)) (z1:vs=[v]) (z2:Qn BB H o v) (z3:∀u H',aN H H'→Th H' u (Qm o)→Q u H')
noncomputable def SQ (BB:Addr):Sp:=fun vs H Q E=>SN BB vs H Q E
seal PA PE PS PSs
theorem SX {BB RE nn nh nr nl nw mg' co f f1:Addr} {fd fd1:FuncData} (F:Fun K "_law_refusal" "_law_refusal" sRb f fd) (B:Blt mg) (RC:Ql K BB RE [nn,nh,nr,nl,nw,mg',co]) (cL:mg "RoadError"=some (.ref RE))
  (lX:mg "NoNet"=some (.ref nn)) (jf:mg "NoHouse"=some (.ref nh)) (jG:mg "NoRoad"=some (.ref nr)) (iD:mg "NoLetter"=some (.ref nl)) (lY:mg "NoWay"=some (.ref nw)) (gR:mg "ManyGoals"=some (.ref mg')) (jH:mg "CutOff"=some (.ref co))
  (bx:Dn K mg "_law_whole" sWl ["_law_thing"] f1 fd1) (gQ:aY P w K mg base CX0 1 f1 fd1 ["_law_thing"] jw):aY P w K mg base CX0 2 f fd ["_law_error"] (SQ BB):=by
 refine F.ok Qo (fun vs H Q E h=>?_) (fun cdv A outer s H vs Q E hr h=>?_)
 ·obtain ⟨v,o,rfl,_⟩:=h
  rfl
 ·obtain ⟨v,o,rfl,ov,q⟩:=h
  refine ⟨_,(au (cF (PW.pt (jo (du (eE (aG dW (by rfl) B.isinstance aQ (aa (pv 0) (aa (lF (by rfl) cL) ao))))) (kW (du (eE (aG dW (by rfl) B.isinstance aQ (aa (pv 0) (aa (fL (by rfl) B.ValueError tM) ao)))))))) (aB (aR cI)) bF)
   (au (aP (i:=1) Qo.nd rfl (Or.inl rfl) (zU (aG dW (by rfl) B.isinstance aQ (aa (pv 0) (aa (lF (by rfl) lX) ao))) (zU (aG dW (by rfl) B.isinstance aQ (aa (pv 0) (aa (lF (by rfl) jf) ao))) (dN (aG dW (by rfl) B.isinstance aQ (aa (pv 0) (aa (lF (by rfl) jG) ao)))))))
   (au (aP (i:=2) Qo.nd rfl (Or.inl rfl) (zU (aG dW (by rfl) B.isinstance aQ (aa (pv 0) (aa (lF (by rfl) iD) ao))) (zU (aG dW (by rfl) B.isinstance aQ (aa (pv 0) (aa (lF (by rfl) lY) ao))) (dN (aG dW (by rfl) B.isinstance aQ (aa (pv 0) (aa (lF (by rfl) gR) ao)))))))
   (au (cF (PW.pt (jo (eE (pv 1)) (jo (eE (pv 2)) (jo (eE (aG dW (by rfl) B.isinstance aQ (aa (pv 0) (aa (lF (by rfl) jH) ao)))) (kW (du (eE (aZ gQ (hr.mono (by decide)) (by rfl) bx.at_ bx.fn.kp bx.bd .nil bH (aa (vC (pv 0) (by rfl)) ao))))))))) (aB (aR cI)) bF)
   (aB (aR (bN (aa (vC (pv 0) (by rfl)) (aa (vC (pv 0) (by rfl)) ao))))))))),?_⟩
  cases ov with
  | non=>exact ⟨_,rfl,.inr ⟨_,_,rfl,RC.nn,_,rfl,dm (q _ _ (aN.refl _) (.str _ (by decide+kernel) (by decide+kernel)))⟩⟩
  | exc p e ea dx hE hX e1 e2=>
   have n1:=RC.no nn (by simp)
   have n2:=RC.no nh (by simp)
   have n3:=RC.no nr (by simp)
   have n4:=RC.no nl (by simp)
   have n5:=RC.no nw (by simp)
   have n6:=RC.no mg' (by simp)
   have n7:=RC.no co (by simp)
   refine ⟨_,rfl,.inl ⟨ea,BB,dx,_,hE,RC.ec,.inl ⟨_,rfl,RC.re⟩,_,rfl,dz ?_⟩⟩
   refine ⟨_,rfl,.inl ⟨ea,BB,dx,_,hE,RC.ec,.inr ⟨_,rfl,RC.ve⟩,_,rfl,dz ?_⟩⟩
   refine ⟨_,rfl,.inl ⟨ea,BB,dx,_,hE,RC.ec,.inl ⟨_,rfl,n1⟩,_,rfl,dz ?_⟩⟩
   refine ⟨_,rfl,.inl ⟨ea,BB,dx,_,hE,RC.ec,.inl ⟨_,rfl,n2⟩,_,rfl,dz ?_⟩⟩
   refine ⟨_,rfl,.inl ⟨ea,BB,dx,_,hE,RC.ec,.inl ⟨_,rfl,n3⟩,?_⟩⟩
   refine ⟨_,rfl,.inl ⟨ea,BB,dx,_,hE,RC.ec,.inl ⟨_,rfl,n4⟩,_,rfl,dz ?_⟩⟩
   refine ⟨_,rfl,.inl ⟨ea,BB,dx,_,hE,RC.ec,.inl ⟨_,rfl,n5⟩,_,rfl,dz ?_⟩⟩
   refine ⟨_,rfl,.inl ⟨ea,BB,dx,_,hE,RC.ec,.inl ⟨_,rfl,n6⟩,?_⟩⟩
   refine ⟨_,rfl,_,rfl,dz ⟨_,rfl,_,rfl,dz ?_⟩⟩
   refine ⟨_,rfl,.inl ⟨ea,BB,dx,_,hE,RC.ec,.inl ⟨_,rfl,n7⟩,_,rfl,dz ?_⟩⟩
   refine ⟨_,rfl,ea,BB,dx,_,_,rfl,hE,hX,RC.ec,RC.hp,RC.hd,rfl,V.int p,PyData.int p,rfl,.int _,?_⟩
   refine ⟨_,rfl,dz ?_⟩
   refine ⟨_,rfl,ea,BB,dx,_,_,rfl,hE,hX,RC.ec,RC.hp,RC.hd,rfl,_,rfl,ea,BB,dx,_,_,rfl,hE,hX,RC.ec,RC.hn,RC.hd,rfl,(by show 2≤sizeLine;decide),fun t nt=>?_⟩
   exact q _ _ (aC nt) (.tup aq (Nat.le_of_ble_eq_true rfl) (.cons (.int _) (.cons (.str _ e2 e1) .nil)))
noncomputable abbrev sBo:Stmt:=top 54
noncomputable abbrev pBo:List Str:=["_law_net","_law_letters","_law_plan_here","_law_turn"]
noncomputable abbrev nBo:List Str:=["_law_net","_law_letters","_law_plan_here","_law_turn","_law_kept","_law_again","e"]
theorem zN:aX nBo pBo (aH sBo):=⟨rfl,rfl,rfl,by decide+kernel,rfl,by decide+kernel,by decide+kernel⟩
inductive S5 (CN:Addr) (vs:List L2.V) (H:Hp) (Q:VK) (E:XK):Prop where
 | mk (n a' b' lp pp:Addr) (rs lr:List Addr) (lts:List (Str × Int × Str)) (hs:List (List Nat)) (ds:List M1.Rd) (zs:List L2.V) (pd:List PyData) (t:Int) (z1:vs=[.ref n,.ref lp,.ref pp,.int t]) (z2:kj CN H n a' b' (txs hs) (refs rs)) (z3:cB H hs rs ds) (z4:rs.length≤40) (z5:H lp=some (.lst (refs lr))) (z6:f9 H lr (lts.map ltT)) (z7:lr.length≤100) (z8:H pp=some (.lst zs)) (z9:Ths H zs pd) (z10:pd.length≤98)
   (z11:∀u H',aN H H'→Th H' u (.list [Qm (outD (walkD hs ds (lts.map fun d=>d.2.2) none (lts.map bO) 0 pd)),Qm (outD (walkD hs ds (lts.map fun d=>d.2.2) none (lts.map bO) 0 pd))])→Q u H')
noncomputable def S6 (CN:Addr):Sp:=fun vs H Q E=>S5 CN vs H Q E
theorem S7 {C CN BB RE f f1 f2 f3:Addr} {os:List Addr} {fd fd1 fd2 fd3:FuncData} (F:Fun K "_law_both" "_law_both" sBo f fd) (B:Blt mg) (RC:Ql K BB RE os) (fJ:mg "BadBag"=some (.ref BB))
  (bW:Dn K mg "arrivals" Jg ["net","letters","plan"] f1 fd1) (j8:aY P w K mg base (CXd P w) 6 f1 fd1 ["net","letters","plan"] (Jk C CN BB))
  (fB:Dn K mg "spots_at" vQ ["net","letters","plan","turn"] f2 fd2) (zO:aY P w K mg base (CXd P w) 6 f2 fd2 ["net","letters","plan","turn"] (Ni C CN BB))
  (bU:Dn K mg "_law_refusal" sRb ["_law_error"] f3 fd3) (lZ:aY P w K mg base CX0 2 f3 fd3 ["_law_error"] (SQ BB)):aY P w K mg base CX0 7 f fd pBo (S6 CN):=by
 refine F.ok zN (fun vs H Q E h=>?_) (fun cdv A outer s H vs Q E hr h=>?_)
 ·obtain ⟨n,a',b',lp,pp,rs,lr,lts,hs,ds,zs,pd,t,rfl,_⟩:=h
  rfl
 ·obtain ⟨n,a',b',lp,pp,rs,lr,lts,hs,ds,zs,pd,t,rfl,N,R,few,hlp,tpl,fewl,hpp,hpd,p98,q⟩:=h
  have hR_BadBag:=RC.sub
  refine ⟨_,(au (aP (i:=4) zN.nd rfl (Or.inl rfl) iH)
   (au (aP (i:=5) zN.nd rfl (Or.inl rfl) iH)
   (au (Aq (i:=6) rfl rfl (wX (Ao j8 (hr.mono (by decide)) (by rfl) bW.at_ bW.fn.kp bW.bd (aa (pv 0) (aa (pv 1) (aa (pv 2) ao))))) zN.nd rfl rfl rfl fJ hR_BadBag (fun ea=>(aB (aP (i:=4) zN.nd rfl (Or.inl rfl) (pv 6)))))
   (au (Aq (i:=6) rfl rfl (wX (Ao zO (hr.mono (by decide)) (by rfl) fB.at_ fB.fn.kp fB.bd (aa (pv 0) (aa (pv 1) (aa (pv 2) (aa (pv 3) ao)))))) zN.nd rfl rfl rfl fJ hR_BadBag (fun ea=>(aB (aP (i:=5) zN.nd rfl (Or.inl rfl) (pv 6)))))
   (aB (aR (cj (aa (aZ lZ (hr.mono (by decide)) (by rfl) bU.at_ bU.fn.kp bU.bd .nil bH (aa (pv 4) ao)) (aa (aZ lZ (hr.mono (by decide)) (by rfl) bU.at_ bU.fn.kp bU.bd .nil bH (aa (pv 5) ao)) ao))))))))),?_⟩
  cases hw:walkD hs ds (lts.map fun d=>d.2.2) none (lts.map bO) 0 pd with
  | inr sss=>
   rw [hw] at q
   refine ⟨_,rfl,_,rfl,_,rfl,n,a',b',lp,pp,rs,lr,lts,hs,ds,zs,pd,rfl,N,R,few,hlp,tpl,fewl,hpp,hpd,p98,fun _ _ H1 D us s1 _ _=>?_,fun p e ew=>nomatch hw.symm.trans ew⟩
   refine ⟨_,rfl,_,rfl,_,rfl,_,rfl,n,a',b',lp,pp,rs,lr,lts,hs,ds,zs,pd,t,rfl,N.same s1,R.same s1,few,s1 _ _ hlp,tpl.same s1,fewl,s1 _ _ hpp,hpd.same s1,p98,fun _ _ H2 D2 s2=>?_,fun p e ew=>nomatch hw.symm.trans ew⟩
   refine ⟨_,rfl,_,none,rfl,.non,fun u3 H3 s3 t3=>⟨_,rfl,_,none,rfl,.non,fun u4 H4 s4 t4=>⟨(by show 2≤sizeLine;decide),fun l nl=>?_⟩⟩⟩
   exact q _ _ (((s1.trans s2).trans s3).trans (s4.trans (aC nl))) (.lst aq (Nat.le_of_ble_eq_true rfl) (.cons (t3.same (s4.trans (aC nl))) (.cons (t4.same (aC nl)) .nil)))
  | inl pe=>
   obtain ⟨p,e⟩:=pe
   obtain ⟨k1,k2⟩:=uO hw
   rw [hw] at q
   refine ⟨_,rfl,_,rfl,_,rfl,n,a',b',lp,pp,rs,lr,lts,hs,ds,zs,pd,rfl,N,R,few,hlp,tpl,fewl,hpp,hpd,p98,(fun _ ew=>nomatch hw.symm.trans ew),fun p' e' ew dx H1 nd s1 hx=>⟨BB,dx,rfl,rfl,RC.sub,fun ea hea=>?_⟩⟩
   obtain ⟨rfl,rfl⟩:p'=p∧e'=e:=by
    have:=hw.symm.trans ew
    cases this
    exact ⟨rfl,rfl⟩
   have w1:aN H (upd H1 ea (exD ea BB dx)):=s1.trans (aC hea)
   have hE:upd H1 ea (exD ea BB dx) ea=some (exD ea BB dx):=aq
   have hX:=aC (o:=exD ea BB dx) hea _ _ hx
   generalize upd H1 ea (exD ea BB dx)=G1 at w1 hE hX ⊢
   refine ⟨_,rfl,?_⟩
   refine ⟨_,rfl,_,rfl,_,rfl,_,rfl,n,a',b',lp,pp,rs,lr,lts,hs,ds,zs,pd,t,rfl,N.same w1,R.same w1,few,w1 _ _ hlp,tpl.same w1,fewl,w1 _ _ hpp,hpd.same w1,p98,(fun _ ew=>nomatch hw.symm.trans ew),fun p' e' ew dx2 H2 nd2 s2 hx2=>⟨BB,dx2,rfl,rfl,RC.sub,fun ea2 hea2=>?_⟩⟩
   obtain ⟨rfl,rfl⟩:p'=_∧e'=_:=by
    have:=hw.symm.trans ew
    cases this
    exact ⟨rfl,rfl⟩
   have w2:aN G1 (upd H2 ea2 (exD ea2 BB dx2)):=s2.trans (aC hea2)
   have hE2:upd H2 ea2 (exD ea2 BB dx2) ea2=some (exD ea2 BB dx2):=aq
   have hX2:=aC (o:=exD ea2 BB dx2) hea2 _ _ hx2
   generalize upd H2 ea2 (exD ea2 BB dx2)=G2 at w2 hE2 hX2 ⊢
   refine ⟨_,rfl,?_⟩
   refine ⟨_,rfl,_,some _,rfl,.exc _ _ ea dx (w2 _ _ hE) (w2 _ _ hX) k1 k2,fun u3 H3 s3 t3=>⟨_,rfl,_,some _,rfl,.exc _ _ ea2 dx2 (s3 _ _ hE2) (s3 _ _ hX2) k1 k2,fun u4 H4 s4 t4=>⟨(by show 2≤sizeLine;decide),fun l nl=>?_⟩⟩⟩
   exact q _ _ (((w1.trans w2).trans s3).trans (s4.trans (aC nl))) (.lst aq (Nat.le_of_ble_eq_true rfl) (.cons (t3.same (s4.trans (aC nl))) (.cons (t4.same (aC nl)) .nil)))
end
end K1
namespace M33
open Classical
theorem nodup_len {α:Type}:∀{sn L:List α},sn.Nodup→(∀y∈sn,y∈L)→sn.length≤L.length
 | [],_,_,_=>Nat.zero_le _
 | x::r,L,nd,h=>by
  have hx:=h x (.head _)
  have ih:=nodup_len (sn:=r) (L:=L.erase x) (List.nodup_cons.mp nd).2 (fun y hy=>(List.mem_erase_of_ne (show y≠x from fun e=>(List.nodup_cons.mp nd).1 (by rw [←e];exact hy))).mpr (h y (.tail _ hy)))
  rw [List.length_erase_of_mem hx] at ih
  have:=List.length_pos_of_mem hx
  rw [List.length_cons]
  omega
noncomputable def ahead (N:Nat) (Left:Nat→Nat→Int→Prop) (r:Nat) (d:Int):List Nat:=(List.range N).filter fun n=>decide (∃d',d' < d∧Left n r d')
end M33
namespace K1
open PySem L2 L3 M1
theorem JZ {legs:List (List Kt)} {bs:List (Kt × List Nat)} (PL:pM legs bs) (h3:∀ks∈legs,ks.length≤3):bs.length≤3 * legs.length:=by
 have h1:(bs.map (·.1)).Nodup:=by
  have:=PL.pw
  unfold List.Nodup
  rw [List.pairwise_map]
  exact this.imp fun h=>zE h
 have h2:∀k∈bs.map (·.1),k∈legs.flatten:=fun k hk=>by
  obtain ⟨b,hb,rfl⟩:=List.mem_map.mp hk
  obtain ⟨e,ne⟩:=PL.mem b hb
  obtain ⟨n,hn⟩:=List.exists_mem_of_ne_nil _ ne
  rw [e] at hn
  obtain ⟨ks,h1,h2⟩:=lW.mp hn
  exact List.mem_flatten.mpr ⟨ks,List.mem_of_getElem? h1,h2⟩
 have h4:∀{l:List (List Kt)},(∀ks∈l,ks.length≤3)→l.flatten.length≤3 * l.length:=by
  intro l
  induction l with
  | nil=>intro _;exact Nat.le_refl _
  | cons x l ih=>
   intro h
   rw [List.flatten_cons,List.length_append,List.length_cons]
   have:=ih fun ks hk=>h ks (.tail _ hk)
   have:=h x (.head _)
   omega
 have:=M33.nodup_len h1 h2
 rw [List.length_map] at this
 exact Nat.le_trans this (h4 h3)
theorem Ej {hs:List (List Nat)} {ds:List M1.Rd} {lts:List (Str × Int × Str)} {legs:List (List Kt)} {bs:List (Kt × List Nat)} (L:vU hs ds lts legs) (PL:pM legs bs) (h:bs≠[]):0 < lts.length:=by
 obtain ⟨b,hb⟩:=List.exists_mem_of_ne_nil _ h
 obtain ⟨e,ne⟩:=PL.mem b hb
 obtain ⟨n,hn⟩:=List.exists_mem_of_ne_nil _ ne
 rw [e] at hn
 obtain ⟨ks,h1,h2⟩:=lW.mp hn
 have:=(List.getElem?_eq_some_iff.mp h1).1
 have:=L.len
 omega
theorem Wks.mem_ {hs:List (List Nat)} {ds:List M1.Rd} {gs:List Str} {sss:List (List Step)} {ah:Option Kt} {bs:List (Kt × List Nat)} {fin:List (List Step)} (w:Wks hs ds gs sss ah bs fin):∀b∈bs,b.2≠[]∧b.2.length≤100∧b.1.2 < ds.length:=by
 induction w with
 | nil=>exact fun _ h=>nomatch h
 | cons ok t ih=>
  intro b hb
  rcases List.mem_cons.mp hb with rfl | hb
  ·exact ⟨ok.ne,ok.few,ok.rd⟩
  ·exact ih b hb
theorem J0 {H:Hp} {a:Addr} {b:Kt × List Nat} (h:gU H a b) (l:b.2.length≤100):Th H (.ref a) (gj b):=by
 obtain ⟨c,h1,h2⟩:=h
 have e:b.2.map (fun n:Nat=>V.int n)=(b.2.map fun n:Nat=>(n:Int)).map V.int:=by rw [List.map_map];rfl
 have e':b.2.map (fun n:Nat=>PyData.int n)=(b.2.map fun n:Nat=>(n:Int)).map PyData.int:=by rw [List.map_map];rfl
 refine .tup h1 (by show 3≤100;decide) (.cons (.int _) (.cons (.int _) (.cons (.tup h2 (by rw [List.length_map];exact l) ?_) .nil)))
 rw [e,e']
 exact iC _
theorem oR {H:Hp}:∀{pa:List Addr} {bs:List (Kt × List Nat)},Paired (gU H) pa bs→(∀b∈bs,b.2.length≤100)→Ths H (refs pa) (bs.map gj)
 | _,_,.nil,_=>.nil
 | _,_,.cons h t,l=>.cons (J0 h (l _ (.head _))) (oR t fun b hb=>l b (.tail _ hb))
theorem uP (pa:List Addr) (k:Nat) (h:k≤pa.length):iJ (refs pa) none (some (k:Int))=refs (pa.take k):=by
 unfold iJ
 rw [HT.sIx_none,HT.sIx_nat,bf,Nat.min_eq_left h]
 show ((refs pa).drop 0).take (k - 0)=_
 rw [List.drop_zero,Nat.sub_zero]
 unfold refs
 rw [List.map_take]
theorem Ek (pa:List Addr) (k:Nat) (h:k≤pa.length):iJ (refs pa) (some (k:Int)) none=refs (pa.drop k):=by
 unfold iJ
 rw [HT.sIx_none,HT.sIx_nat,bf,Nat.min_eq_left h]
 unfold refs
 rw [List.take_of_length_le (by rw [List.length_drop,List.length_map];exact Nat.le_refl _),List.map_drop]
theorem mj {α β:Type} {R:α→β→Prop}:∀{xs:List α} {ys:List β} (k:Nat),Paired R xs ys→Paired R (xs.take k) (ys.take k)
 | _,_,0,_=>.nil
 | _,_,_+1,.nil=>.nil
 | _,_,k+1,.cons h t=>.cons h (mj k t)
theorem pZ {α β:Type} {R:α→β→Prop}:∀{xs:List α} {ys:List β} (k:Nat),Paired R xs ys→Paired R (xs.drop k) (ys.drop k)
 | _,_,0,h=>h
 | _,_,_+1,.nil=>.nil
 | _,_,k+1,.cons _ t=>pZ k t
theorem Qp {hs:List (List Nat)} {ds:List M1.Rd} {gs:List Str} {sss:List (List Step)} {ah:Option (Int × Int)} {d:PyData} {e:Str} (h:kJ hs ds gs sss ah d=some e):e≠Str.ofString "":=by
 unfold kJ zr at h
 split at h
 ·repeat' (split at h)
  all_goals first | (cases h;decide+kernel) | exact nomatch h
 ·cases h
  decide+kernel
theorem Ux {b:Bool} {A B:Prop} (h:b=true) (q:A):if b=true then A else B:=by subst h;exact q
noncomputable def twoD (k:Nat) (e:Str):PyData:=.list [.tuple [.int (k:Int),.str e],.tuple [.int (k:Int),.str e]]
theorem twoD_can {k:Nat} {e:Str} (h:PyData.strOk e=true):(twoD k e).canLay0=true:=mD fun x hx=>by
 have:x=.tuple [.int (k:Int),.str e]:=by
  simp only [List.mem_cons,List.not_mem_nil,or_false] at hx
  exact hx.elim id id
 subst this
 refine mD fun y hy=>?_
 simp only [List.mem_cons,List.not_mem_nil,or_false] at hy
 rcases hy with rfl | rfl
 ·rfl
 ·exact h
theorem twoD_shaped {k:Nat} {e:Str} (h:PyData.strOk e=true):SeqAt.shaped (twoD k e)=true:=iV (n:=2) (twoD_can h) (Nat.le_refl _) (by decide)
theorem zP {hs:List (List Nat)} {ds:List M1.Rd} {gs:List Str} {ah:Option (Int × Int)} {sss:List (List Step)} {p:Nat} {d:PyData} {r:List PyData} {e:Str} (h:kJ hs ds gs sss ah d=some e):outD (walkD hs ds gs ah sss p ([d]++r))=some (p,e):=by
 show outD (walkD hs ds gs ah sss p (d::r))=_
 unfold walkD
 rw [h]
 rfl
section
variable {P:Program} {w:World} {K:PySem.W.Frag} {mg:Str→Option Value} {base:Heap}
noncomputable abbrev El:Stmt:=top 55
noncomputable abbrev Qs:List Str:=["_law_script","_law_names","_law_base","_law_lines","_law_letters","_law_net","_law_plan_here","_law_k","_law_cell","_law_at","_law_bag","_law_spoiled","_law_due","_law_told","_law_turns"]
theorem iG:aX Qs ["_law_script"] (aH El):=⟨rfl,rfl,rfl,by decide+kernel,rfl,by decide+kernel,by decide+kernel⟩
noncomputable def lt3 (hs:List (List Nat)) (d:M1.Lt):Str × Int × Str:=(S (hs.getD d.a []),d.t,S (hs.getD d.b []))
theorem Qt {C CN BB f fa fh fl fm fg fp fi fr fb fo fz:Addr} {fd fda fdh fdl fdm fdg fdp fdi fdr fdb fdo fdz:FuncData} (F:Fun K "law" "law" El f fd) (B:Blt mg) (sY:mg "Net"=some (.ref CN))
  (aW:Dn K mg "_law_cell_at" sAt ["_law_script","_law_k"] fa fda) (fD:aY P w K mg base CX0 1 fa fda ["_law_script","_law_k"] (Rm K))
  (cN:Dn K mg "_law_houses" n8 ["_law_cell","_law_many"] fh fdh) (uc:aY P w K mg base CX0 1 fh fdh ["_law_cell","_law_many"] uD)
  (dI:Dn K mg "_law_road" Ma ["_law_cell","_law_names"] fl fdl) (yg:aY P w K mg base CX0 1 fl fdl ["_law_cell","_law_names"] M8)
  (cO:Dn K mg "_law_letter" Ar ["_law_cell","_law_names","_law_base"] fm fdm) (ud:aY P w K mg base CX0 1 fm fdm ["_law_cell","_law_names","_law_base"] Hi)
  (dJ:Dn K mg "_law_legs" Br Bs fg fdg) (yh:aY P w K mg base CX0 1 fg fdg Bs (Jp K))
  (dM:Dn K mg "_law_plan" BL ["_law_legs_here"] fp fdp) (yj:aY P w K mg base CX0 1 fp fdp ["_law_legs_here"] JH)
  (Qu:Mk K CN fi) (gk:Inn K CN "Net.__init__" Bb ["self","houses","roads"] fi fdi) (nC:aY P w K mg base CX0 5 fi fdi ["self","houses","roads"] (Gy K CN))
  (bW:Dn K mg "arrivals" Jg ["net","letters","plan"] fr fdr) (j8:aY P w K mg base (CXd P w) 6 fr fdr ["net","letters","plan"] (Jk C CN BB))
  (cH:Dn K mg "_law_both" sBo pBo fb fdb) (qb:aY P w K mg base CX0 7 fb fdb pBo (S6 CN))
  (fG:Dn K mg "_law_odd" sOd pOd fo fdo) (zQ:aY P w K mg base CX0 1 fo fdo pOd SJ)
  (cP:Dn K mg "_law_reason" sRz pRz fz fdz) (ue:aY P w K mg base CX0 3 fz fdz pRz Su):
  aY P w K mg base CX0 8 f fd ["_law_script"] (Al K):=by
 refine F.ok iG (fun vs H Q E h=>?_) (fun cdv A outer s H vs Q E hr h=>?_)
 ·obtain ⟨a,ns,rfl,_⟩:=h
  rfl
 ·obtain ⟨a,ns,rfl,hS,hns,q⟩:=h
  obtain ⟨m,hm⟩:∃m:Nat,2+ns.getD (1:Int).toNat 0 % 11=(m:Int):=⟨(2+ns.getD (1:Int).toNat 0 % 11).toNat,by omega⟩
  have hm2:2≤m∧m≤12:=by omega
  obtain ⟨hs,ehs⟩:∃hs,hs=iQ (ns.getD (0:Int).toNat 0) m:=⟨_,rfl⟩
  have G:Good hs:=by rw [ehs];exact vG hm2.2
  have hl:hs.length=m:=by rw [ehs,lH]
  refine ⟨_,(au (aP (i:=1) iG.nd rfl (Or.inr rfl) (aZ uc (hr.mono (by decide)) (by rfl) cN.at_ cN.fn.kp cN.bd .nil bH (aa (aZ fD (hr.mono (by decide)) (by rfl) aW.at_ aW.fn.kp aW.bd .nil bH (aa (pv 0) (aa az ao))) (aa (aL cg az (aL bR (aZ fD (hr.mono (by decide)) (by rfl) aW.at_ aW.fn.kp aW.bd .nil bH (aa (pv 0) (aa az ao))) az)) ao))))
   (au (aP (i:=2) iG.nd rfl (Or.inr rfl) (aL cg az (aL bR (aZ fD (hr.mono (by decide)) (by rfl) aW.at_ aW.fn.kp aW.bd .nil bH (aa (pv 0) (aa az ao))) (aL jL (aL yu az az) az))))
   (au (nR (i:=3) iG.nd rfl rfl rfl (N':=["_law_cell","_law_names"]) (cs:=[none,some 1]) rfl (iw (uG (pv 0) (iy az) (iy az) az)) rfl (by decide+kernel) rfl (by decide+kernel) (gY (List.forall_mem_cons.mpr ⟨rfl,(fun p hp=>absurd hp (List.not_mem_nil))⟩)) rfl
    (.own (.cap rfl (.inl rfl) (.inl rfl) rfl .nil))
    (fun C s3 H3 fp pn=>⟨(bw (i:=0) (by show (["_law_cell","_law_names"]:List Str).Nodup;decide+kernel) rfl (.inl rfl)),gH,(aZ yg (hr.mono (by decide)) (by rfl) dI.at_ dI.fn.kp dI.bd .nil bH (aa (pv 0) (aa (pv 1) ao)))⟩))
   (au (nR (i:=4) iG.nd rfl rfl rfl (N':=["_law_cell","_law_names","_law_base"]) (cs:=[none,some 1,some 2]) rfl (iw (uG (pv 0) (iy az) (iy az) az)) rfl (by decide+kernel) rfl (by decide+kernel) (gY (List.forall_mem_cons.mpr ⟨rfl,(List.forall_mem_cons.mpr ⟨rfl,(fun p hp=>absurd hp (List.not_mem_nil))⟩)⟩)) rfl
    (.own (.cap rfl (.inl rfl) (.inl rfl) rfl (.cap rfl (.inl rfl) (.inl rfl) rfl .nil)))
    (fun C s3 H3 fp pn=>⟨(bw (i:=0) (by show (["_law_cell","_law_names","_law_base"]:List Str).Nodup;decide+kernel) rfl (.inl rfl)),gH,(aZ ud (hr.mono (by decide)) (by rfl) cO.at_ cO.fn.kp cO.bd .nil bH (aa (pv 0) (aa (pv 1) (aa (pv 2) ao))))⟩))
   (au (aP (i:=5) iG.nd rfl (Or.inl rfl) (nO Qu nC (hr.mono (by decide)) (by rfl) sY gk.bd .nil bH (aa (pv 1) (aa (pv 3) ao))))
   (au (aP (i:=6) iG.nd rfl (Or.inl rfl) (aZ yj (hr.mono (by decide)) (by rfl) dM.at_ dM.fn.kp dM.bd .nil bH (aa (aZ yh (hr.mono (by decide)) (by rfl) dJ.at_ dJ.fn.kp dJ.bd .nil bH (aa (pv 3) (aa (pv 4) (aa (pv 0) (aa az ao))))) ao)))
   (au (cF (bL (u6 hr.units) (pv 6) (cj ao) (bA _)) (aB (aR (cz (cJ (u6 hr.units) (aZ qb (hr.mono (by decide)) (by rfl) cH.at_ cH.fn.kp cH.bd .nil bH (aa (pv 5) (aa (pv 4) (aa (cj (aa iH ao)) (aa (pv 2) ao))))) (cj (aa (bN (aa az (aa cI ao))) (aa (bN (aa az (aa cI ao))) ao))) (bA _)) (dN (cJ (u6 hr.units) (aZ j8 (hr.mono (by decide)) (by rfl) bW.at_ bW.fn.kp bW.bd .nil M4 (aa (pv 5) (aa (cj ao) (aa (cj ao) ao)))) (cj ao) (bA _)))))) bF)
   (au (fY PassesOwn.never rfl (gV rfl B.range (aa az ao)) (bw (i:=7) iG.nd rfl (Or.inl rfl))
    (au (aP (i:=8) iG.nd rfl (Or.inl rfl) (aL cg (aL bR (aL jM (aZ fD (hr.mono (by decide)) (by rfl) aW.at_ aW.fn.kp aW.bd .nil bH (aa (pv 0) (aa (aL cg (pv 7) az) ao))) az) az) (aL bR (aZ fD (hr.mono (by decide)) (by rfl) aW.at_ aW.fn.kp aW.bd .nil bH (aa (pv 0) (aa az ao))) az)))
   (au (aP (i:=9) iG.nd rfl (Or.inl rfl) (aL bR (pv 8) (aG aO (by rfl) B.len b7 (aa (pv 6) ao))))
   (au (aP (i:=10) iG.nd rfl (Or.inl rfl) (aM bB (pv 6) (pv 9) (fun _ _=>rfl)))
   (au (cF (bL j9 (aL bR (aL eG (pv 8) az) az) az (bA _)) (aB (aP (i:=10) iG.nd rfl (Or.inl rfl) (aM bB (pv 6) (aG (Cg rfl) (by rfl) B.max RD (aa az (aa (aL jL (pv 9) az) ao))) (fun _ _=>rfl)))) (aB (aP (i:=10) iG.nd rfl (Or.inl rfl) (aZ zQ (hr.mono (by decide)) (by rfl) fG.at_ fG.fn.kp fG.bd .nil bH (aa (pv 10) (aa (pv 4) (aa (pv 3) (aa (aL eG (pv 8) az) ao))))))))
   (au (aP (i:=11) iG.nd rfl (Or.inl rfl) (aL jP (aL jP (jr qt (pv 6) my (iy (pv 9))) (cj (aa (pv 10) ao))) (jr qt (pv 6) (iy (aL cg (pv 9) (aL bR (aL eG (pv 8) az) az))) my)))
   (au (aP (i:=12) iG.nd rfl (Or.inl rfl) (aZ ue (hr.mono (by decide)) (by rfl) cP.at_ cP.fn.kp cP.bd .nil bH (aa (pv 4) (aa (pv 3) (aa (jr qt (pv 6) my (iy (pv 9))) (aa (pv 10) ao))))))
   (au (aP (i:=13) iG.nd rfl (Or.inl rfl) (aZ qb (hr.mono (by decide)) (by rfl) cH.at_ cH.fn.kp cH.bd .nil bH (aa (pv 5) (aa (pv 4) (aa (pv 11) (aa (aL bR (pv 8) az) ao))))))
   (aB (cF (PW.pt (uT (bL wz (pv 12) cI (bA _)) (ql (bL (yL hr.units) (pv 13) (cj (aa (bN (aa (pv 9) (aa (pv 12) ao))) (aa (bN (aa (pv 9) (aa (pv 12) ao))) ao))) (bA _))))) (aB (aR nG)) bF))))))))))
   (au (aP (i:=14) iG.nd rfl (Or.inl rfl) (aZ j8 (hr.mono (by decide)) (by rfl) bW.at_ bW.fn.kp bW.bd .nil M4 (aa (pv 5) (aa (pv 4) (aa (pv 6) ao)))))
   (aB (aR (cz (aG cT (by rfl) B.isinstance aQ (aa (pv 14) (aa (fL (by rfl) B.list jT) ao))) (dN (cJ j9 (aG aO (by rfl) B.len b7 (aa (pv 14) ao)) (aG aO (by rfl) B.len b7 (aa (pv 4) ao)) (bA _))))))))))))))),?_⟩
  refine ⟨_,rfl,a,ns,0,rfl,hS,by decide,_,rfl,a,ns,1,rfl,hS,by decide,_,_,rfl,rfl,(by show (0:Int) < 11;decide),_,_,rfl,rfl,ns.getD (0:Int).toNat 0,m,?_,hm2.2,fun p1 H1 np1 s1 h1=>?_⟩
  ·show [V.int _,V.int (2+ns.getD (1:Int).toNat 0 % 11)]=_
   rw [hm]
  rw [←ehs] at h1
  have hS1:=s1.seq hS
  refine ⟨_,rfl,a,ns,2,rfl,hS1,by decide,_,_,rfl,rfl,⟨by decide,by decide,by decide⟩,_,_,rfl,rfl,_,_,rfl,rfl,(by show (0:Int) < 10 ^ (9:Int).toNat - 30;decide),_,_,rfl,rfl,?_⟩
  have hb0:0≤ns.getD (2:Int).toNat 0 % (10 ^ (9:Int).toNat - 30):=Int.emod_nonneg _ (by decide)
  have hb1:ns.getD (2:Int).toNat 0 % (10 ^ (9:Int).toNat - 30) < 10 ^ (9:Int).toNat - 30:=Int.emod_lt_of_pos _ (by decide)
  have hb2:ns.getD (2:Int).toNat 0 % (10 ^ (9:Int).toNat - 30) < 999999990:=Int.lt_trans hb1 (by decide)
  dsimp only
  generalize ns.getD (2:Int).toNat 0 % (10 ^ (9:Int).toNat - 30)=bs0 at hb0 hb2 ⊢
  clear hb1
  obtain ⟨bs,ebs⟩:∃bs,bs=1+bs0:=⟨_,rfl⟩
  rw [←ebs]
  have hb0:0≤bs:=by omega
  have hb2:bs < 1000000000:=by omega
  clear ebs
  obtain ⟨mr,emr⟩:∃mr,mr=stepV ns (some 3) (some 35) 2:=⟨_,rfl⟩
  have lmr:mr.length≤16:=by rw [emr];exact uF ns 3 35
  obtain ⟨ds,eds⟩:∃ds:List M1.Rd,ds=mr.map fun c=>mrd hs.length c:=⟨_,rfl⟩
  have hds:∀d∈ds,d.Ok hs.length:=fun d hd=>by
   rw [eds] at hd
   obtain ⟨c,_,rfl⟩:=List.mem_map.mp hd
   exact Pk (by omega) c
  have lds:ds.length≤16:=by rw [eds,List.length_map];exact lmr
  dsimp only [oU,yq,dX]
  refine xf (K:=K) (Hs:=H1) (xs:=mr.map V.int) (rest:=[some (.ref p1)]) (fun R hR=>⟨_,rfl,_,rfl,_,rfl,a,_,_,rfl,rfl,(by decide),hS1,fun p np=>⟨p,rfl,⟨_,SqL.of aq⟩,?_⟩⟩) rfl (aV (by rw [List.length_map];omega)) (fun v=>match v with | .int c=>rdV hs (mrd hs.length c) | _=>[]) (fun i y H2 R ey sm kk=>?_) (fun D2 H2 rs hD2 tp s12=>?_)
  ·have:=hR p np
   rw [emr] at this
   rw [uE]
   exact this
  ·obtain ⟨c,_,rfl⟩:=List.mem_map.mp (List.mem_of_getElem? ey)
   exact ⟨_,rfl,_,rfl,c,p1,hs,rfl,sm _ _ h1,by omega,by omega,fun r2 nr2=>kk r2 _ (aC nr2) aq⟩
  have tp2:f9 H2 rs (ds.map (rdV hs)):=by
   rw [eds,List.map_map]
   rw [List.map_map] at tp
   exact tp
  have hR:cB H2 hs rs ds:=⟨tp2,hds⟩
  have few:rs.length≤16:=by rw [hR.len];exact lds
  have hS2:=s12.seq hS1
  have h12:=s12 _ _ h1
  clear tp tp2 hS1 h1 s1 s12 np1
  obtain ⟨ml,eml⟩:∃ml,ml=stepV ns (some 4) (some 36) 2:=⟨_,rfl⟩
  have lml:ml.length≤16:=by rw [eml];exact uF ns 4 36
  have nml:ml=[]∨0 < ns.length:=by
   cases ns with
   | nil=>exact .inl (by rw [eml];rfl)
   | cons _ _=>exact .inr (Nat.succ_pos _)
  obtain ⟨lts,els⟩:∃lts:List (Str × Int × Str),lts=ml.map fun c=>lt3 hs (lt hs.length c bs):=⟨_,rfl⟩
  have oks:∀d∈lts,R8 d:=fun d hd=>by
   rw [els] at hd
   obtain ⟨c,_,rfl⟩:=List.mem_map.mp hd
   have ok:=Rt (n:=hs.length) (by omega) c bs
   have e1:hs.getD (lt hs.length c bs).a []=hs[(lt hs.length c bs).a]'ok.a:=by rw [List.getD,List.getElem?_eq_getElem ok.a];rfl
   have e2:hs.getD (lt hs.length c bs).b []=hs[(lt hs.length c bs).b]'ok.b:=by rw [List.getD,List.getElem?_eq_getElem ok.b];rfl
   refine ⟨?_,fun z=>?_,?_,?_⟩
   ·have nm:=G.at ok.a
    exact ⟨by show (S (hs.getD (lt hs.length c bs).a [])).length≤8;rw [Gj];exact nm.2.1,Gz nm⟩
   ·have z:S (hs.getD (lt hs.length c bs).a [])=S (hs.getD (lt hs.length c bs).b []):=z
    have z:=Gq z
    rw [e1,e2] at z
    exact ok.ne ((List.getElem_inj G.nd).mp z)
   ·have:=ok.lo
    show 0≤(lt hs.length c bs).t
    omega
   ·have:=ok.hi
    show (lt hs.length c bs).t≤2000000000
    omega
  have llt:lts.length≤16:=by rw [els,List.length_map];exact lml
  refine xf (K:=K) (Hs:=H2) (xs:=ml.map V.int) (rest:=[some (.ref p1),some (.int bs)]) (fun R hR=>⟨_,rfl,_,rfl,_,rfl,a,_,_,rfl,rfl,(by decide),hS2,fun p np=>⟨p,rfl,⟨_,SqL.of aq⟩,?_⟩⟩) rfl (aV (by rw [List.length_map];omega)) (fun v=>match v with | .int c=>ltV hs (lt hs.length c bs) | _=>[]) (fun i y H3 R ey sm kk=>?_) (fun D3 H3 lr hD3 tp s23=>?_)
  ·have:=hR p np
   rw [eml] at this
   rw [uE]
   exact this
  ·obtain ⟨c,_,rfl⟩:=List.mem_map.mp (List.mem_of_getElem? ey)
   exact ⟨_,rfl,_,rfl,_,rfl,c,bs,p1,hs,rfl,sm _ _ h12,by omega,by omega,fun r2 nr2=>kk r2 _ (aC nr2) aq⟩
  have tpl:f9 H3 lr (lts.map ltT):=by
   rw [els,List.map_map]
   rw [List.map_map] at tp
   exact tp
  have lrl:lr.length=lts.length:=by have:=tpl.len;rw [List.length_map] at this;exact this
  have hS3:=s23.seq hS2
  have h13:=s23 _ _ h12
  have hD23:=s23 _ _ hD2
  have hR3:=hR.same s23
  clear tp hS2 h12 hD2 hR s23
  refine ⟨_,rfl,_,rfl,fun x dx nx ndx nd=>?_⟩
  have mk:∀{b:Addr} {v:HO},H3 b=some v→upd (upd H3 dx (.own x)) x (.ins CN dx []) b=some v:=fun {b v} e=>by
   rw [aA (aF e nx),aA (aF e ndx)]
   exact e
  refine ⟨x,dx,p1,D2,hs,rs,ds,rfl,aq,mk h13,G,mk hD23,hR3.same (fun b v e=>mk e),(by omega),fun H4 a' b' sb hx4 ha4 hb4 na nb=>⟨rfl,?_⟩⟩
  have s34:aN H3 H4:=uB nx ndx sb
  have net:kj CN H4 x a' b' (txs hs) (refs rs):=⟨⟨dx,hx4⟩,ha4,hb4⟩
  have hD24:=s34 _ _ hD23
  have hD34:=s34 _ _ hD3
  have tpl4:=tpl.same s34
  have hR4:=hR3.same s34
  have hS4:=s34.seq hS3
  clear mk hS3 h13 hD23 hD3 tpl hR3 sb nx ndx nd s34 hx4 ha4 hb4 na nb
  refine ⟨_,rfl,_,rfl,_,rfl,D2,D3,a,rs,lr,hs,ds,lts,ns,3,rfl,hD24,hR4,(by omega),hD34,tpl4,(by omega),hS4,?_,(by decide),(by decide),fun H5 lg ms legs nlg s45 hlg lgs L=>?_⟩
  ·rcases nml with z | z
   ·left
    have:lts.length=0:=by rw [els,z];rfl
    exact List.length_eq_zero_iff.mp (by omega)
   ·exact .inr z
  have lel:=L.len
  have k3:∀ks∈legs,ks.length≤3:=fun ks hk=>by
   obtain ⟨i,hi,rfl⟩:=List.getElem_of_mem hk
   exact (L.ch i _ _ (List.getElem?_eq_getElem (by omega)) (List.getElem?_eq_getElem hi)).2.1
  refine ⟨lg,ms,hs,ds,legs,rfl,hlg,lgs,(by omega),k3,fun H6 pp pa bgs npp s56 hpp hbs PL fewb=>?_⟩
  have s46:=s45.trans s56
  have net6:=net.same s46
  have hD26:=s46 _ _ hD24
  have hD36:=s46 _ _ hD34
  have tpl6:=tpl4.same s46
  have hR6:=hR4.same s46
  have hS6:=s46.seq hS4
  have hlg6:=s56 _ _ hlg
  have lgs6:Paired (jd hs ds H6) ms legs:=Paired.mapP lgs fun _ _ e=>e.same s56
  clear net hD24 hD34 tpl4 hR4 hS4 hlg lgs s46 s45 s56 npp nlg
  have pal:=Paired.length hbs
  have rpa:=bf pa
  have ht:=Mz hR6
  have wk:=Wks.whole L PL ht (by omega)
  have few48:=JZ PL (fun ks hk=>k3 ks hk)
  have dpl:∀H',aN H6 H'→Dt K H' (.ref pp) (.list (bgs.map gj)):=fun H' sm=>.lst (SqL.of (sm _ _ hpp)) (xW (Paired.mapP hbs fun _ _ e=>e.same sm))
  have rl40:rs.length≤40:=by omega
  have lrl6:lr.length≤100:=by omega
  dsimp only
  refine ⟨_,rfl,(by show 0≤sizeLine;decide),fun e0 ne0=>⟨_,_,dpl _ (aC ne0),.lst (SqL.of aq) .nil,vY bgs,rfl,?_⟩⟩
  have s67:=aC (o:=.lst ([]:List L2.V)) ne0
  generalize upd H6 e0 (.lst ([]:List L2.V))=H7 at s67 ⊢
  have net7:=net6.same s67
  have hD27:=s67 _ _ hD26
  have hD37:=s67 _ _ hD36
  have tpl7:=tpl6.same s67
  have hR7:=hR6.same s67
  have hS7:=s67.seq hS6
  by_cases hbg:bgs=[]
  ·subst hbg
   refine ⟨_,rfl,dm ?_⟩
   refine ⟨_,rfl,_,rfl,(by show 1≤sizeLine;decide),fun l1 nl1=>⟨_,rfl,?_⟩⟩
   have s78:=aC (o:=.lst [V.non]) nl1
   have hl1:upd H7 l1 (.lst [V.non]) l1=some (.lst [V.non]):=aq
   generalize upd H7 l1 (.lst [V.non])=H8 at s78 hl1 ⊢
   refine ⟨x,a',b',D3,l1,rs,lr,lts,hs,ds,[.non],[.none],bs,rfl,net7.same s78,hR7.same s78,rl40,s78 _ _ hD37,tpl7.same s78,lrl6,hl1,.cons .non .nil,(by decide),fun u H9 s89 tu=>?_⟩
   have ew:outD (walkD hs ds (lts.map fun d=>d.2.2) none (lts.map bO) 0 [.none])=some (0,M9):=rfl
   rw [ew] at tu
   refine ⟨(by show 2≤sizeLine;decide),fun t1 nt1=>⟨(by show 2≤sizeLine;decide),fun t2 nt2=>⟨(by show 2≤sizeLine;decide),fun l2 nl2=>?_⟩⟩⟩
   have w1:=aC (o:=.tup [V.int 0,V.str (Str.ofString "bag")]) nt1
   have k1:upd H9 t1 (.tup [V.int 0,V.str (Str.ofString "bag")]) t1=some (.tup [V.int 0,V.str (Str.ofString "bag")]):=aq
   generalize upd H9 t1 (.tup [V.int 0,V.str (Str.ofString "bag")])=Ha at w1 k1 nt2 nl2 ⊢
   have w2:=aC (o:=.tup [V.int 0,V.str (Str.ofString "bag")]) nt2
   have k2:upd Ha t2 (.tup [V.int 0,V.str (Str.ofString "bag")]) t2=some (.tup [V.int 0,V.str (Str.ofString "bag")]):=aq
   generalize upd Ha t2 (.tup [V.int 0,V.str (Str.ofString "bag")])=Hb at w2 k2 nl2 ⊢
   have w3:=aC (o:=.lst [V.ref t1,V.ref t2]) nl2
   have k3':upd Hb l2 (.lst [V.ref t1,V.ref t2]) l2=some (.lst [V.ref t1,V.ref t2]):=aq
   generalize upd Hb l2 (.lst [V.ref t1,V.ref t2])=Hd at w3 k3' ⊢
   have wA:=w1.trans (w2.trans w3)
   have one:∀t,Hd t=some (.tup [V.int 0,V.str (Str.ofString "bag")])→Dt K Hd (.ref t) (.tuple [.int 0,.str (Str.ofString "bag")]):=fun t ht=>.tup (SqT.of ht) (.cons (.int _) (.cons (.str _) .nil))
   refine ⟨_,_,(tu.same wA).dt,.lst (SqL.of k3') (.cons (one _ (w3 _ _ (w2 _ _ k1))) (.cons (one _ (w3 _ _ k2)) .nil)),(by decide+kernel),(by decide+kernel),?_⟩
   have wB:=(s78.trans s89).trans wA
   refine ⟨_,rfl,dm ?_⟩
   refine ⟨_,rfl,(by show 0≤sizeLine;decide),fun e1 ne1=>⟨(by show 0≤sizeLine;decide),fun e2 ne2=>?_⟩⟩
   have x1:=aC (o:=.lst ([]:List L2.V)) ne1
   have g1:upd Hd e1 (.lst ([]:List L2.V)) e1=some (.lst []):=aq
   generalize upd Hd e1 (.lst ([]:List L2.V))=He at x1 g1 ne2 ⊢
   have x2:=aC (o:=.lst ([]:List L2.V)) ne2
   have g2:upd He e2 (.lst ([]:List L2.V)) e2=some (.lst []):=aq
   generalize upd He e2 (.lst ([]:List L2.V))=Hf at x2 g2 ⊢
   have wC:=wB.trans (x1.trans x2)
   refine ⟨x,a',b',e1,e2,rs,[],[],hs,ds,[],[],rfl,net7.same wC,hR7.same wC,rl40,x2 _ _ g1,.nil,(by decide),g2,.nil,(by decide),fun _ _ Hg D us sg hD lu=>?_,fun p e ew=>nomatch ew⟩
   have eu:us=[]:=List.length_eq_zero_iff.mp lu
   subst eu
   exact ⟨(by show 0≤sizeLine;decide),fun l3 nl3=>⟨.list [],.list [],.lst (SqL.of (aC nl3 _ _ hD)) .nil,.lst (SqL.of aq) .nil,rfl,rfl,q _⟩⟩
  ·have ev:PyData.eqv (.list (bgs.map gj)) (.list [])=false:=by
    cases bgs with
    | nil=>exact absurd rfl hbg
    | cons _ _=>rfl
   refine ⟨_,rfl,fM ev ?_⟩
   have np0:0 < (refs pa).length:=by
    rw [rpa,pal]
    exact List.length_pos_iff.mpr hbg
   refine ⟨_,rfl,(by decide),(by decide),?_⟩
   refine mq (lo:=0) (n:=3) (fun i σ Hc=>∃v7 v8 v9 v10 v11 v12 v13:Option L2.V,σ=[some (.ref a),some (.ref p1),some (.int bs),some (.ref D2),some (.ref D3),some (.ref x),some (.ref pp),v7,v8,v9,v10,v11,v12,v13,none]∧aN H7 Hc) ⟨none,none,none,none,none,none,none,rfl,aN.refl _⟩ ?_ ?_
   ·rintro i σ Hc hi ⟨v7,v8,v9,v10,v11,v12,v13,rfl,sc⟩
    have hSc:=sc.seq hS7
    have s6c:=s67.trans sc
    have hppc:=s6c _ _ hpp
    have hbsc:Paired (gU Hc) pa bgs:=Paired.mapP hbs fun _ _ e=>e.same s6c
    refine ⟨_,rfl,_,rfl,_,_,rfl,rfl,a,ns,0+(i:Int)+1,rfl,hSc,(by omega),_,_,rfl,rfl,.inr ⟨by decide,by decide⟩,_,_,rfl,rfl,(by show (0:Int) < 2147483647;decide),_,rfl,a,ns,0,rfl,hSc,(by decide),_,_,rfl,rfl,(by show (0:Int) < 2147483647;decide),_,_,rfl,rfl,?_⟩
    dsimp only
    generalize ns.getD (0+(i:Int)+1).toNat 0 * 48271 % 2147483647+ns.getD (0:Int).toNat 0 % 2147483647=c
    refine ⟨_,rfl,_,rfl,pp,_,rfl,.inl (SqL.of hppc),_,_,rfl,rfl,(by show (0:Int) < ((refs pa).length:Int);omega),?_⟩
    dsimp only
    obtain ⟨k,ek⟩:∃k:Nat,c % ((refs pa).length:Int)=(k:Int):=⟨(c % ((refs pa).length:Int)).toNat,(Int.toNat_of_nonneg (Int.emod_nonneg _ (by omega))).symm⟩
    have kl:k < pa.length:=by
     have:=Int.emod_lt_of_pos c (b:=((refs pa).length:Int)) (by omega)
     omega
    rw [ek]
    obtain ⟨ba,eba⟩:∃ba,pa[k]?=some ba:=⟨_,List.getElem?_eq_getElem kl⟩
    have aba:L2.atI (refs pa) (k:Int)=some (.ref ba):=cu (by unfold refs;rw [List.getElem?_map,eba];rfl)
    obtain ⟨bb,ebb,hbb⟩:=Paired.get hbsc eba
    obtain ⟨bne,bfew,brd⟩:=wk.mem_ bb (List.mem_of_getElem? ebb)
    refine ⟨_,rfl,_,rfl,pp,_,_,_,rfl,rfl,SqL.of hppc,aba,?_⟩
    dsimp only [dX,oU]
    refine vO (t:=Eo _ _ _) (fun D'=>∀(v:L2.V) (d:PyData) (H8:Hp),aN Hc H8→Th H8 v d→d.depth≤2→D'.nx [some (.ref a),some (.ref p1),some (.int bs),some (.ref D2),some (.ref D3),some (.ref x),some (.ref pp),some (.int (0+(i:Int))),some (.int c),some (.int (k:Int)),some v,v11,v12,v13,none] H8) ?_ fun D' rest=>?_
    ·intro v d H8 s8' tv dv
     have s8:=s8'
     obtain ⟨dl,edl,dl2⟩:∃dl:Nat,c / 448 % 2=(dl:Int)∧dl≤1:=⟨(c / 448 % 2).toNat,by omega,by omega⟩
     have s68:=s6c.trans s8
     have hpp8:=s68 _ _ hpp
     have hbs8:Paired (gU H8) pa bgs:=Paired.mapP hbs fun _ _ e=>e.same s68
     have ktl:(refs (pa.take k)).length=k:=by rw [bf,List.length_take];omega
     have dtl:(refs (pa.drop (k+dl))).length≤pa.length:=by rw [bf,List.length_drop];omega
     have p99:pa.length≤48:=by omega
     refine ⟨_,rfl,_,rfl,_,rfl,pp,_,rfl,SqL.of hpp8,fun q1 nq1=>?_⟩
     have w1:=aC (o:=.lst (iJ (refs pa) none (some (k:Int)))) nq1
     have h1:upd H8 q1 (.lst (iJ (refs pa) none (some (k:Int)))) q1=some (.lst (refs (pa.take k))):=by rw [aq,uP pa k (by omega)]
     generalize upd H8 q1 (.lst (iJ (refs pa) none (some (k:Int))))=G1 at w1 h1 ⊢
     refine ⟨_,rfl,(by show 1≤sizeLine;decide),fun q2 nq2=>?_⟩
     have w2:=aC (o:=.lst [v]) nq2
     have h2:upd G1 q2 (.lst [v]) q2=some (.lst [v]):=aq
     have h1:=w2 _ _ h1
     have w1:=w1.trans w2
     generalize upd G1 q2 (.lst [v])=G2 at w1 h1 h2 ⊢
     clear w2
     refine ⟨q1,q2,_,_,rfl,rfl,h1,h2,Nat.le_of_lt (aV (by rw [ktl];show k+1≤1000;omega)),fun q3 nq3=>?_⟩
     have w3:=aC (o:=.lst (refs (pa.take k)++[v])) nq3
     have h3:upd G2 q3 (.lst (refs (pa.take k)++[v])) q3=some (.lst (refs (pa.take k)++[v])):=aq
     have w1:=w1.trans w3
     generalize upd G2 q3 (.lst (refs (pa.take k)++[v]))=G3 at w1 h3 ⊢
     clear w3 h1 h2
     refine ⟨_,rfl,_,rfl,_,rfl,_,_,rfl,rfl,⟨by decide,by decide⟩,_,_,rfl,rfl,(by show (0:Int) < 2;decide),_,_,rfl,rfl,_,rfl,pp,_,rfl,SqL.of (w1 _ _ hpp8),fun q4 nq4=>?_⟩
     dsimp only
     have ekd:(k:Int)+c / 448 % 2=((k+dl:Nat):Int):=by rw [edl];omega
     rw [ekd]
     have w4:=aC (o:=.lst (iJ (refs pa) (some ((k+dl:Nat):Int)) none)) nq4
     have h4:upd G3 q4 (.lst (iJ (refs pa) (some ((k+dl:Nat):Int)) none)) q4=some (.lst (refs (pa.drop (k+dl)))):=by rw [aq,Ek pa (k+dl) (by omega)]
     have h3:=w4 _ _ h3
     have w1:=w1.trans w4
     generalize upd G3 q4 (.lst (iJ (refs pa) (some ((k+dl:Nat):Int)) none))=G4 at w1 h3 h4 ⊢
     clear w4
     refine ⟨q3,q4,_,_,rfl,rfl,h3,h4,Nat.le_of_lt (aV (by rw [List.length_append,ktl];show k+1+_≤1000;omega)),fun q5 nq5=>?_⟩
     obtain ⟨zs,ezs⟩:∃zs,zs=refs (pa.take k)++[v]++refs (pa.drop (k+dl)):=⟨_,rfl⟩
     rw [←ezs]
     have w5:=aC (o:=.lst zs) nq5
     have h5:upd G4 q5 (.lst zs) q5=some (.lst zs):=aq
     have w1:=w1.trans w5
     generalize upd G4 q5 (.lst zs)=G5 at w1 h5 ⊢
     clear w5 h3 h4
     have w:=s68.trans w1
     have bok:∀b∈bgs,b.2.length≤100:=fun b hb=>(wk.mem_ b hb).2.1
     have hbsw:Paired (gU G5) pa bgs:=Paired.mapP hbs fun _ _ e=>e.same w
     have thz:Ths G5 zs ((bgs.take k).map gj++([d]++(bgs.drop (k+dl)).map gj)):=by
      rw [ezs,List.append_assoc]
      exact Ths.append (oR (mj k hbsw) fun b hb=>bok b (List.mem_of_mem_take hb)) (Ths.append (.cons (tv.same w1) .nil) (oR (pZ (k+dl) hbsw) fun b hb=>bok b (List.mem_of_mem_drop hb)))
     have bkl:(bgs.take k).length=k:=by rw [List.length_take];omega
     have zl:((bgs.take k).map gj++([d]++(bgs.drop (k+dl)).map gj)).length≤98:=by
      rw [List.length_append,List.length_append,List.length_map,List.length_map,List.length_drop,bkl]
      show k+(1+_)≤98
      omega
     have wt:=Wks.take wk k
     have ew:=wt.walkD 0 ([d]++(bgs.drop (k+dl)).map gj)
     rw [bkl,Nat.zero_add] at ew
     refine ⟨_,rfl,_,rfl,_,rfl,_,rfl,_,rfl,pp,_,rfl,SqL.of (w _ _ hpp),fun q6 nq6=>⟨_,rfl,?_⟩⟩
     have w6:=aC (o:=.lst (iJ (refs pa) none (some (k:Int)))) nq6
     have h6:upd G5 q6 (.lst (iJ (refs pa) none (some (k:Int)))) q6=some (.lst (refs (pa.take k))):=by rw [aq,uP pa k (by omega)]
     generalize upd G5 q6 (.lst (iJ (refs pa) none (some (k:Int))))=G6 at w6 h6 ⊢
     have w':=w.trans w6
     refine ⟨D3,D2,q6,lr,rs,pa.take k,lts,hs,ds,bgs.take k,_,v,d,rfl,w' _ _ hD36,tpl6.same w',w' _ _ hD26,hR6.same w',h6,mj k (Paired.mapP hbs fun _ _ e=>e.same w'),wt,(fun d hd=>(oks d hd).2.1),tv.same (w1.trans w6),(by omega),(by rw [List.length_take];omega),fun G7 s7=>?_⟩
     have w'':=w'.trans s7
     refine ⟨_,rfl,_,rfl,_,rfl,_,rfl,_,_,rfl,rfl,(by show (0:Int) < 2000000000;decide),x,a',b',D3,q5,rs,lr,lts,hs,ds,zs,_,_,rfl,net6.same w'',hR6.same w'',rl40,w'' _ _ hD36,tpl6.same w'',lrl6,s7 _ _ (w6 _ _ h5),thz.same (w6.trans s7),zl,fun u G8 s8 tu=>?_⟩
     have ew:walkD hs ds (lts.map fun d=>d.2.2) none (lts.map bO) 0 ((bgs.take k).map gj++([d]++(bgs.drop (k+dl)).map gj))=_:=ew
     rw [ew] at tu
     have sAll:aN H7 G8:=(sc.trans s8').trans (w1.trans (w6.trans (s7.trans s8)))
     generalize hwst:wst hs ds (bgs.take k) (lts.map bO)=fin at *
     cases hrs:kJ hs ds (lts.map fun d=>d.2.2) fin (ahI (mW none (bgs.take k))) d with
     | none=>
      exact ⟨_,rfl,rfl,_,rfl,fM (by simp [tY]) (dz ⟨_,_,_,_,_,_,_,rfl,sAll⟩)⟩
     | some e=>
      rw [zP hrs] at tu
      obtain ⟨k1,k2⟩:=BW hrs
      refine ⟨_,rfl,rfl,_,rfl,Ux (by simp [tY,Qp hrs]) ?_⟩
      refine ⟨_,rfl,_,rfl,_,rfl,(by show 2≤sizeLine;decide),fun t1 nt1=>⟨_,rfl,_,rfl,(by show 2≤sizeLine;decide),fun t2 nt2=>⟨(by show 2≤sizeLine;decide),fun l2 nl2=>?_⟩⟩⟩
      have y1:=aC (o:=.tup [V.int (k:Int),V.str (tY (some e))]) nt1
      have z1:upd G8 t1 (.tup [V.int (k:Int),V.str (tY (some e))]) t1=some (.tup [V.int (k:Int),V.str e]):=aq
      generalize upd G8 t1 (.tup [V.int (k:Int),V.str (tY (some e))])=Ga at y1 z1 nt2 nl2 ⊢
      have y2:=aC (o:=.tup [V.int (k:Int),V.str (tY (some e))]) nt2
      have z2:upd Ga t2 (.tup [V.int (k:Int),V.str (tY (some e))]) t2=some (.tup [V.int (k:Int),V.str e]):=aq
      generalize upd Ga t2 (.tup [V.int (k:Int),V.str (tY (some e))])=Gb at y2 z2 nl2 ⊢
      have y3:=aC (o:=.lst [V.ref t1,V.ref t2]) nl2
      have z3:upd Gb l2 (.lst [V.ref t1,V.ref t2]) l2=some (.lst [V.ref t1,V.ref t2]):=aq
      generalize upd Gb l2 (.lst [V.ref t1,V.ref t2])=Gc at y3 z3 ⊢
      have yA:=y1.trans (y2.trans y3)
      have one:∀t,Gc t=some (.tup [V.int (k:Int),V.str e])→Dt K Gc (.ref t) (.tuple [.int (k:Int),.str e]):=fun t ht=>.tup (SqT.of ht) (.cons (.int _) (.cons (.str _) .nil))
      refine ⟨twoD k e,twoD k e,(tu.same yA).dt,.lst (SqL.of z3) (.cons (one _ (y3 _ _ (y2 _ _ z1))) (.cons (one _ (y3 _ _ z2)) .nil)),twoD_shaped k1,twoD_shaped k1,_,rfl,fM ?_ ⟨_,_,_,_,_,_,_,rfl,sAll.trans yA⟩⟩
      show (!PyData.eqv (twoD k e) (twoD k e))=false
      rw [qX _ (twoD_can k1)]
      rfl
    ·refine ⟨_,rfl,_,_,rfl,rfl,⟨by decide,by decide⟩,_,_,rfl,rfl,(by show (0:Int) < 7;decide),rfl,_,rfl,?_⟩
     split
     ·obtain ⟨bj,ebj⟩:∃bj,pa[k - 1]?=some bj:=⟨_,List.getElem?_eq_getElem (by omega)⟩
      have abj:L2.atI (refs pa) ((k - 1:Nat):Int)=some (.ref bj):=cu (by unfold refs;rw [List.getElem?_map,ebj];rfl)
      obtain ⟨cc,ecc,hcc⟩:=Paired.get hbsc ebj
      have em:(if (k:Int) - 1 > 0 then (k:Int) - 1 else 0)=((k - 1:Nat):Int):=by split <;> omega
      refine ⟨_,rfl,_,rfl,_,_,rfl,rfl,0,(k:Int) - 1,rfl,pp,_,_,.ref bj,rfl,rfl,SqL.of hppc,(by rw [em];exact abj),rest (.ref bj) (gj cc) Hc (aN.refl _) (J0 hcc (wk.mem_ cc (List.mem_of_getElem? ecc)).2.1) (sW cc)⟩
     ·refine ⟨_,rfl,_,rfl,_,rfl,_,rfl,_,_,rfl,rfl,⟨by decide,by decide⟩,ba,D3,D2,lr,rs,hs,ds,bb,_,rfl,hbb,brd,(by omega),bne,bfew,s6c _ _ hD36,?_,s6c _ _ hD26,hR6.same s6c,fun v d H8 s8 tv dv=>?_⟩
      ·have:=Ej L PL hbg
       omega
      exact rest v d H8 s8 tv dv
   ·rintro σ Hc ⟨v7,v8,v9,v10,v11,v12,v13,rfl,sc⟩
    have s6c:=s67.trans sc
    have hbsc:Paired (gU Hc) pa bgs:=Paired.mapP hbs fun _ _ e=>e.same s6c
    have ew:=wk.walkD 0 []
    rw [List.append_nil,Nat.zero_add] at ew
    have ew:walkD hs ds (lts.map fun d=>d.2.2) none (lts.map bO) 0 (bgs.map gj)=.inr _:=ew
    refine ⟨_,rfl,_,rfl,_,rfl,x,a',b',D3,pp,rs,lr,lts,hs,ds,_,_,rfl,net6.same s6c,hR6.same s6c,rl40,s6c _ _ hD36,tpl6.same s6c,lrl6,s6c _ _ hpp,oR hbsc fun b hb=>(wk.mem_ b hb).2.1,(by rw [List.length_map];omega),fun sss _ Hg D us sg hD lu=>?_,fun p e ep=>nomatch ew.symm.trans ep⟩
    have lrl':=bf lr
    refine ⟨_,rfl,_,_,_,_,_,rfl,⟨rfl,.lst hD,lG K (KD (.list []))⟩,_,rfl,dm ?_⟩
    refine ⟨_,rfl,D,_,rfl,.inl (SqL.of hD),_,rfl,D3,_,rfl,.inl (SqL.of (sg _ _ (s6c _ _ hD36))),rfl,pR (decide_eq_true ?_) (q _)⟩
    show V.int (us.length:Int)=V.int ((refs lr).length:Int)
    rw [lrl',lu,lrl]
end
open PySem L2 L3 M1
structure At0 (P:Program) (w:World) (K:PySem.W.Frag) (mg:Str→Option Value) (base:Heap):Prop where
 one:True
theorem At0.fn {P:Program} {w:World} {K:PySem.W.Frag} {mg:Str→Option Value} {base:Heap} {CX:CXT} {k:Nat} {f:Addr} {fd:FuncData} {ps:List Str} {sp:Sp} (Z:At0 P w K mg base) (h:aY P w K mg base CX k f fd ps sp):aY P w K mg base CX k f fd ps sp:=h
section
variable {K:PySem.W.Frag} {h:Heap} {mg:Str→Option Value} {x qual:Str} {st:Stmt} {C f:Addr} {ps:List Str} {oc:Value} {od an:Option Addr} {osl:Array (Option Value)} {kV doc pm cdv ct:Value}
theorem mn_mk (a:PySem.W.findIn K (.ref C) x=some (some (.ref f))) (i:PySem.W.isFn K (.ref f)=true)
  (l:K.lookup f=some ⟨oc,od,.func (PySem.W.fnOf x qual (eN st) (dq st) (aH st) .none kV doc pm an cdv ct),osl⟩) (c:PySem.W.codeIn K cdv qual=true) (k:PySem.W.keepIn K (.ref f)=true)
  (u:∀(kV doc pm:Value) (an:Option Addr) (cdv ct:Value) (us:List Value),us.length=ps.length→bindArgs (PySem.W.fnOf x qual (eN st) (dq st) (aH st) .none kV doc pm an cdv ct) ⟨us,[]⟩=pure (ps.zip us)):
  Mn K C x qual st ps f (PySem.W.fnOf x qual (eN st) (dq st) (aH st) .none kV doc pm an cdv ct):=
 ⟨fun_mk l c k,⟨a,i,k⟩,(fun_mk l c k).binds u⟩
theorem inn_mk (m:PySem.W.makesIn K C=true) (n:PySem.W.keepIn K (.ref C)=true) (a:PySem.W.findIn K (.ref C) "__init__"=some (some (.ref f))) (i:PySem.W.isFn K (.ref f)=true)
  (l:K.lookup f=some ⟨oc,od,.func (PySem.W.fnOf "__init__" qual (eN st) (dq st) (aH st) .none kV doc pm an cdv ct),osl⟩) (c:PySem.W.codeIn K cdv qual=true) (k:PySem.W.keepIn K (.ref f)=true)
  (u:∀(kV doc pm:Value) (an:Option Addr) (cdv ct:Value) (us:List Value),us.length=ps.length→bindArgs (PySem.W.fnOf "__init__" qual (eN st) (dq st) (aH st) .none kV doc pm an cdv ct) ⟨us,[]⟩=pure (ps.zip us)):
  Inn K C qual st ps f (PySem.W.fnOf "__init__" qual (eN st) (dq st) (aH st) .none kV doc pm an cdv ct):=
 ⟨fun_mk l c k,⟨m,a,i,n⟩,(fun_mk l c k).binds u⟩
theorem dn_mk (X:K.In h) (G:h.Ns mainGlobals mg) (a:PySem.W.nsIn K mainGlobals x=some (some (.ref f)))
  (l:K.lookup f=some ⟨oc,od,.func (PySem.W.fnOf x x (eN st) (dq st) (aH st) .none kV doc pm an cdv ct),osl⟩) (c:PySem.W.codeIn K cdv x=true) (k:PySem.W.keepIn K (.ref f)=true)
  (u:∀(kV doc pm:Value) (an:Option Addr) (cdv ct:Value) (us:List Value),us.length=ps.length→bindArgs (PySem.W.fnOf x x (eN st) (dq st) (aH st) .none kV doc pm an cdv ct) ⟨us,[]⟩=pure (ps.zip us)):
  Dn K mg x st ps f (PySem.W.fnOf x x (eN st) (dq st) (aH st) .none kV doc pm an cdv ct):=
 ⟨fun_mk l c k,PySem.W.mg_of X G a,(fun_mk l c k).binds u⟩
end
theorem len_1 {us:List Value} (h:us.length=1):∃a0,us=[a0]:=by
 rcases us with _ | ⟨a0,_ | ⟨b,r⟩⟩ <;> first | exact ⟨a0,rfl⟩ | simp at h
theorem len_2 {us:List Value} (h:us.length=2):∃a0 a1,us=[a0,a1]:=by
 rcases us with _ | ⟨a0,_ | ⟨a1,_ | ⟨b,r⟩⟩⟩ <;> first | exact ⟨a0,a1,rfl⟩ | simp at h
theorem len_3 {us:List Value} (h:us.length=3):∃a0 a1 a2,us=[a0,a1,a2]:=by
 rcases us with _ | ⟨a0,_ | ⟨a1,_ | ⟨a2,_ | ⟨b,r⟩⟩⟩⟩ <;> first | exact ⟨a0,a1,a2,rfl⟩ | simp at h
theorem len_4 {us:List Value} (h:us.length=4):∃a0 a1 a2 a3,us=[a0,a1,a2,a3]:=by
 rcases us with _ | ⟨a0,_ | ⟨a1,_ | ⟨a2,_ | ⟨a3,_ | ⟨b,r⟩⟩⟩⟩⟩ <;> first | exact ⟨a0,a1,a2,a3,rfl⟩ | simp at h
theorem len_5 {us:List Value} (h:us.length=5):∃a0 a1 a2 a3 a4,us=[a0,a1,a2,a3,a4]:=by
 rcases us with _ | ⟨a0,_ | ⟨a1,_ | ⟨a2,_ | ⟨a3,_ | ⟨a4,_ | ⟨b,r⟩⟩⟩⟩⟩⟩ <;> first | exact ⟨a0,a1,a2,a3,a4,rfl⟩ | simp at h
theorem len_6 {us:List Value} (h:us.length=6):∃a0 a1 a2 a3 a4 a5,us=[a0,a1,a2,a3,a4,a5]:=by
 rcases us with _ | ⟨a0,_ | ⟨a1,_ | ⟨a2,_ | ⟨a3,_ | ⟨a4,_ | ⟨a5,_ | ⟨b,r⟩⟩⟩⟩⟩⟩⟩ <;> first | exact ⟨a0,a1,a2,a3,a4,a5,rfl⟩ | simp at h
theorem all_mk {l:PySem.W.OpenLaw} {w:World} {K:PySem.W.Frag} {mg:Str→Option Value} {fa:Addr} (hfa:mg "law"=some (.ref fa))
  (jx:mg "NotYet"=some (.ref CNotYet))
  (jc:mg "AtHouse"=some (.ref CAtHouse))
  (jy:mg "OnRoad"=some (.ref COnRoad))
  (jz:mg "AtHome"=some (.ref CAtHome))
  (sY:mg "Net"=some (.ref CNet))
  (oJ:mg "Walk"=some (.ref CWalk))
  (cL:mg "RoadError"=some (.ref CRoadError))
  (fJ:mg "BadBag"=some (.ref CBadBag))
  (lX:mg "NoNet"=some (.ref CNoNet))
  (jf:mg "NoHouse"=some (.ref CNoHouse))
  (jG:mg "NoRoad"=some (.ref CNoRoad))
  (iD:mg "NoLetter"=some (.ref CNoLetter))
  (lY:mg "NoWay"=some (.ref CNoWay))
  (gR:mg "ManyGoals"=some (.ref CManyGoals))
  (jH:mg "CutOff"=some (.ref CCutOff))
  (uQ:Cls K CNotYet)
  (mkNotYet:PySem.W.makesIn K CNotYet=true)
  (kcNotYet:PySem.W.keepIn K (.ref CNotYet)=true)
  (nF:Cls K CAtHouse)
  (nAtHouse_at:PySem.W.findIn K (.ref CAtHouse) "at"=some none)
  (nAtHouse_since:PySem.W.findIn K (.ref CAtHouse) "since"=some none)
  (cV:Inn K CAtHouse "AtHouse.__init__" sIH ["self","at","since"] fAtHouse_init dAtHouse_init)
  (pO:Cls K COnRoad)
  (nOnRoad_by:PySem.W.findIn K (.ref COnRoad) "by"=some none)
  (nOnRoad_due:PySem.W.findIn K (.ref COnRoad) "due"=some none)
  (dh:Inn K COnRoad "OnRoad.__init__" sIR ["self","by","due"] fOnRoad_init dOnRoad_init)
  (pP:Cls K CAtHome)
  (nAtHome_since:PySem.W.findIn K (.ref CAtHome) "since"=some none)
  (dj:Inn K CAtHome "AtHome.__init__" sIA ["self","since"] fAtHome_init dAtHome_init)
  (jY:Cls K CNet)
  (nNet_kept_houses:PySem.W.findIn K (.ref CNet) "kept_houses"=some none)
  (nNet_kept_roads:PySem.W.findIn K (.ref CNet) "kept_roads"=some none)
  (gk:Inn K CNet "Net.__init__" Bb ["self","houses","roads"] fNet_init dNet_init)
  (eU:Mn K CNet "roads" "Net.roads" qx ["self"] fNet_roads dNet_roads)
  (gf:Mn K CNet "road" "Net.road" vL ["self","number"] fNet_road dNet_road)
  (b8:Cls K CWalk)
  (nWalk_net:PySem.W.findIn K (.ref CWalk) "net"=some none)
  (nWalk_goals:PySem.W.findIn K (.ref CWalk) "goals"=some none)
  (nWalk_steps:PySem.W.findIn K (.ref CWalk) "steps"=some none)
  (eX:Inn K CWalk "Walk.__init__" Ln ["self","net","letters"] fWalk_init dWalk_init)
  (cU:Mn K CWalk "take_in" "Walk.take_in" Bd ["self","letter"] fWalk_take_in dWalk_take_in)
  (eY:Mn K CWalk "send" "Walk.send" Bg ["self","bag"] fWalk_send dWalk_send)
  (bD:Mn K CWalk "last_house" "Walk.last_house" rF ["self","number"] fWalk_last_house dWalk_last_house)
  (bJ:Mn K CWalk "last_turn" "Walk.last_turn" rG ["self","number"] fWalk_last_turn dWalk_last_turn)
  (bK:Mn K CWalk "home_turn" "Walk.home_turn" rJ ["self","number"] fWalk_home_turn dWalk_home_turn)
  (cA:Mn K CWalk "can_leave" "Walk.can_leave" Bh ["self","number","house","turn"] fWalk_can_leave dWalk_can_leave)
  (cW:Mn K CWalk "spot_at" "Walk.spot_at" Bl ["self","number","turn"] fWalk_spot_at dWalk_spot_at)
  (bh:Dn K mg "is_whole" m8 ["thing"] fis_whole dis_whole)
  (bz:Dn K mg "is_whole_within" oh ["thing","least","greatest"] fis_whole_within dis_whole_within)
  (bM:Dn K mg "is_tuple_of" o8 ["thing","length"] fis_tuple_of dis_tuple_of)
  (bI:Dn K mg "are_unlike_houses" ou ["houses","one","other"] fare_unlike_houses dare_unlike_houses)
  (gA:Dn K mg "is_name" Av ["thing"] fis_name dis_name)
  (dg:Dn K mg "are_houses" Aw ["things"] fare_houses dare_houses)
  (gB:Dn K mg "is_road" Ax ["houses","thing"] fis_road dis_road)
  (dF:Dn K mg "are_roads" Ay ["houses","things"] fare_roads dare_roads)
  (iB:Dn K mg "is_bag" vP ["thing"] fis_bag dis_bag)
  (bT:Dn K mg "are_rising_below" Mh ["numbers","bound"] fare_rising_below dare_rising_below)
  (bZ:Dn K mg "reason_against" Mi ["walk","net","letters","ahead","thing"] freason_against dreason_against)
  (cQ:Dn K mg "walk_of" xm ["net","letters","plan"] fwalk_of dwalk_of)
  (bW:Dn K mg "arrivals" Jg ["net","letters","plan"] farrivals darrivals)
  (fB:Dn K mg "spots_at" vQ ["net","letters","plan","turn"] fspots_at dspots_at)
  (aW:Dn K mg "_law_cell_at" sAt ["_law_script","_law_k"] f_law_cell_at d_law_cell_at)
  (cN:Dn K mg "_law_houses" n8 ["_law_cell","_law_many"] f_law_houses d_law_houses)
  (dI:Dn K mg "_law_road" Ma ["_law_cell","_law_names"] f_law_road d_law_road)
  (cO:Dn K mg "_law_letter" Ar ["_law_cell","_law_names","_law_base"] f_law_letter d_law_letter)
  (dJ:Dn K mg "_law_legs" Br ["_law_lines","_law_letters","_law_cells","_law_hops"] f_law_legs d_law_legs)
  (dM:Dn K mg "_law_plan" BL ["_law_legs_here"] f_law_plan d_law_plan)
  (bx:Dn K mg "_law_whole" sWl ["_law_thing"] f_law_whole d_law_whole)
  (cM:Dn K mg "_law_is_bag" sLb ["_law_bag"] f_law_is_bag d_law_is_bag)
  (dH:Dn K mg "_law_lies" sLi ["_law_letters","_law_lines","_law_ahead","_law_number","_law_house","_law_turn"] f_law_lies d_law_lies)
  (cP:Dn K mg "_law_reason" sRz ["_law_letters","_law_lines","_law_ahead","_law_bag"] f_law_reason d_law_reason)
  (fG:Dn K mg "_law_odd" sOd ["_law_bag","_law_letters","_law_lines","_law_cell"] f_law_odd d_law_odd)
  (bU:Dn K mg "_law_refusal" sRb ["_law_error"] f_law_refusal d_law_refusal)
  (cH:Dn K mg "_law_both" sBo ["_law_net","_law_letters","_law_plan_here","_law_turn"] f_law_both d_law_both)
  (alaw:mg "law"=some (.ref flaw))
  (Flaw:Fun K "law" "law" El flaw dlaw)
  (lCRoadError:K.lookup CRoadError=some ⟨.type "type",ddRoadError,.cls cdRoadError,slRoadError⟩)
  (lCBadBag:K.lookup CBadBag=some ⟨.type "type",ddBadBag,.cls cdBadBag,slBadBag⟩)
  (lCNoNet:K.lookup CNoNet=some ⟨.type "type",ddNoNet,.cls cdNoNet,slNoNet⟩)
  (lCNoHouse:K.lookup CNoHouse=some ⟨.type "type",ddNoHouse,.cls cdNoHouse,slNoHouse⟩)
  (lCNoRoad:K.lookup CNoRoad=some ⟨.type "type",ddNoRoad,.cls cdNoRoad,slNoRoad⟩)
  (lCNoLetter:K.lookup CNoLetter=some ⟨.type "type",ddNoLetter,.cls cdNoLetter,slNoLetter⟩)
  (lCNoWay:K.lookup CNoWay=some ⟨.type "type",ddNoWay,.cls cdNoWay,slNoWay⟩)
  (lCManyGoals:K.lookup CManyGoals=some ⟨.type "type",ddManyGoals,.cls cdManyGoals,slManyGoals⟩)
  (lCCutOff:K.lookup CCutOff=some ⟨.type "type",ddCutOff,.cls cdCutOff,slCutOff⟩)
  (aBadBag_init:PySem.W.findIn K (.ref CBadBag) "__init__"=some (some (.ref fBadBag_init)))
  (iBadBag_init:PySem.W.isFn K (.ref fBadBag_init)=true)
  (FBadBag_init:Fun K "__init__" "BadBag.__init__" sIB fBadBag_init dBadBag_init)
  (xiRoadError:PySem.W.excIn K CRoadError [.type "ValueError",.type "Exception",.type "BaseException",.type "object"] "ValueError.__new__"=true)
  (xsBadBag_BadBag:GC cdBadBag slBadBag CBadBag CBadBag=true)
  (vMOST_HOUSES:mg "MOST_HOUSES"=some (.int 12 tMOST_HOUSES))
  (vMOST_ROADS:mg "MOST_ROADS"=some (.int 40 tMOST_ROADS))
  (vMOST_SIGNS:mg "MOST_SIGNS"=some (.int 8 tMOST_SIGNS))
  (vMOST_TURNS:mg "MOST_TURNS"=some (.int 9 tMOST_TURNS))
  (vMOST_ROOM:mg "MOST_ROOM"=some (.int 1000000000 tMOST_ROOM))
  (B:Blt mg)
  (xkBadBag:vB cdBadBag cdRoadError slBadBag CBadBag "ValueError.__new__"=true)
  (xdBadBag:cdBadBag.hasDict=true)
  (sxBadBag:PySem.W.findIn K (.ref CBadBag) "__setattr__"=some (some (.builtin "object.__setattr__")))
  (obBadBag:PySem.W.subIn K (.ref CBadBag) (.type "object")=some true)
  (hyBadBag:PySem.W.hasDictIn K CBadBag=true)
  (kpBadBag:PySem.W.keepIn K (.ref CBadBag)=true)
  (gaBadBag:PySem.W.findIn K (.ref CBadBag) "__getattribute__"=some (some (.builtin "BaseException.__getattribute__")))
  (noBadBag:PySem.W.findIn K (.ref CBadBag) "__getattr__"=some none)
  (haBadBag:PySem.W.findIn K (.ref CBadBag) "__class__"=some (some (.builtin "object.__class__")))
  (hnBadBag:PySem.W.specialIn K (.builtin "object.__class__") "__get__"=some (some (.builtin "getset_descriptor.__get__")))
  (htBadBag:PySem.W.takesIn K (.builtin "object.__class__")=some true)
  (hmBadBag:PySem.W.mroIn K CBadBag (.type "object")=some true)
  (hbBadBag:PySem.W.mroIn K CBadBag (.type "BaseException")=some true)
  (rdRE:PySem.W.readsIn K CRoadError (.type "type")=true)
  (fcRE:PySem.W.findCls K (.ref CRoadError) (.type "type") "__init__"=some (.val (.builtin "ValueError.__init__")))
  (sgRE:PySem.W.specialIn K (.ref CRoadError) "__getattribute__"=some (some (.builtin "type.__getattribute__")))
  (hpl:PySem.W.findIn K (.ref CBadBag) "place"=some none)
  (hrs:PySem.W.findIn K (.ref CBadBag) "reason"=some none)
  (in0NotYet:PySem.W.findIn K (.ref CNotYet) "__init__"=some (some (.builtin "object.__init__")))
  (icRoadError:PySem.W.isClsIn K CRoadError=true)
  (tyRoadError:PySem.W.typeIn K (.ref CRoadError)=some (.type "type"))
  (icNoNet:PySem.W.isClsIn K CNoNet=true)
  (tyNoNet:PySem.W.typeIn K (.ref CNoNet)=some (.type "type"))
  (icNoHouse:PySem.W.isClsIn K CNoHouse=true)
  (tyNoHouse:PySem.W.typeIn K (.ref CNoHouse)=some (.type "type"))
  (icNoRoad:PySem.W.isClsIn K CNoRoad=true)
  (tyNoRoad:PySem.W.typeIn K (.ref CNoRoad)=some (.type "type"))
  (icNoLetter:PySem.W.isClsIn K CNoLetter=true)
  (tyNoLetter:PySem.W.typeIn K (.ref CNoLetter)=some (.type "type"))
  (icNoWay:PySem.W.isClsIn K CNoWay=true)
  (tyNoWay:PySem.W.typeIn K (.ref CNoWay)=some (.type "type"))
  (icManyGoals:PySem.W.isClsIn K CManyGoals=true)
  (tyManyGoals:PySem.W.typeIn K (.ref CManyGoals)=some (.type "type"))
  (icCutOff:PySem.W.isClsIn K CCutOff=true)
  (tyCutOff:PySem.W.typeIn K (.ref CCutOff)=some (.type "type"))
  (suBadBag_ve:PySem.W.subIn K (.ref CBadBag) (.type "ValueError")=some true)
  (suBadBag_RoadError:PySem.W.subIn K (.ref CBadBag) (.ref CRoadError)=some true)
  (suBadBag_NoNet:PySem.W.subIn K (.ref CBadBag) (.ref CNoNet)=some false)
  (neBadBag_NoNet:(Value.ref CBadBag==Value.ref CNoNet)=false)
  (suBadBag_NoHouse:PySem.W.subIn K (.ref CBadBag) (.ref CNoHouse)=some false)
  (neBadBag_NoHouse:(Value.ref CBadBag==Value.ref CNoHouse)=false)
  (suBadBag_NoRoad:PySem.W.subIn K (.ref CBadBag) (.ref CNoRoad)=some false)
  (neBadBag_NoRoad:(Value.ref CBadBag==Value.ref CNoRoad)=false)
  (suBadBag_NoLetter:PySem.W.subIn K (.ref CBadBag) (.ref CNoLetter)=some false)
  (neBadBag_NoLetter:(Value.ref CBadBag==Value.ref CNoLetter)=false)
  (suBadBag_NoWay:PySem.W.subIn K (.ref CBadBag) (.ref CNoWay)=some false)
  (neBadBag_NoWay:(Value.ref CBadBag==Value.ref CNoWay)=false)
  (suBadBag_ManyGoals:PySem.W.subIn K (.ref CBadBag) (.ref CManyGoals)=some false)
  (neBadBag_ManyGoals:(Value.ref CBadBag==Value.ref CManyGoals)=false)
  (suBadBag_CutOff:PySem.W.subIn K (.ref CBadBag) (.ref CCutOff)=some false)
  (neBadBag_CutOff:(Value.ref CBadBag==Value.ref CCutOff)=false):
  ∃fd:FuncData,(∀(s:Shared) (v:Value),BindsTo s fd ⟨[v],[]⟩ [("_law_script",v)])∧∀base:Heap,K.In base→base.Ns mainGlobals mg→aY l.prog w K mg base CX0 8 fa fd ["_law_script"] (Al K):=by
 have e:=hfa.symm.trans alaw
 cases e
 have bBadBag_init:=FBadBag_init.binds (ps:=["self","place","reason"]) fun _ _ _ _ _ _ us hl=>by (obtain ⟨_,_,_,rfl⟩:=len_3 hl);rfl
 have vZ:Exc K mg "RoadError" CRoadError _ _:=⟨cL,xiRoadError⟩
 have xsBadBag_BadBag:=CZ lCBadBag xsBadBag_BadBag
 have Cn:Gp mg:=⟨⟨_,vMOST_HOUSES⟩,⟨_,vMOST_ROADS⟩,⟨_,vMOST_SIGNS⟩,⟨_,vMOST_TURNS⟩,⟨_,vMOST_ROOM⟩⟩
 obtain ⟨_,_,kV,dc,pm,an,cd,ct,_,rfl,_,_⟩:=id Flaw.ex
 refine ⟨PySem.W.fnOf "law" "law" (eN El) (dq El) (aH El) .none kV dc pm an cd ct,fun s v=>.of_eq rfl,fun base _ _=>?_⟩
 have Z:At0 l.prog w K mg base:=⟨trivial⟩
 have NC:Ky K CNet:=⟨jY,nNet_kept_houses,nNet_kept_roads⟩
 have KT:Kit K:=⟨Ow K⟩
 have dO:=Z.fn (Ho bh.fn B KT)
 have eQ:=Z.fn (Di bz.fn bh dO)
 have fU:=Z.fn (Ht bM.fn B)
 have fO:=Z.fn (Dj bI.fn)
 have o9:=Z.fn (Lb gA.fn B Cn)
 have jW:=Z.fn (Ld dg.fn B Cn gA o9)
 have ph:=Z.fn (Le gB.fn Cn bM fU bI fO bz eQ)
 have lL:=Z.fn (Lf dF.fn B Cn gB ph)
 have nC:=Z.fn (Lg gk.fn B NC dg jW dF lL)
 have Gw:=Z.fn (Dy bh.fn B)
 have Gi:=Z.fn (za bz.fn bh Gw)
 have Gt:=Z.fn (Dz bM.fn B)
 have Gu:=Z.fn (zb bI.fn)
 have mG:XC K mg "RoadError" CBadBag CRoadError:=⟨vZ,⟨_,_,_,_,_,_,lCBadBag,lCRoadError,xkBadBag,xdBadBag⟩,sxBadBag,obBadBag,rdRE,fcRE,sgRE,⟨gaBadBag,noBadBag,haBadBag,hnBadBag,htBadBag,hmBadBag,hbBadBag⟩,hyBadBag⟩
 have RC:Ql K CBadBag CRoadError [CNoNet,CNoHouse,CNoRoad,CNoLetter,CNoWay,CManyGoals,CCutOff]:=⟨xsBadBag_BadBag,(jj icRoadError tyRoadError suBadBag_RoadError (fun _=>rfl)),(Qk (by decide+kernel) suBadBag_ve),(List.forall_mem_cons.mpr ⟨jj icNoNet tyNoNet suBadBag_NoNet (fun h=>absurd (h.symm.trans neBadBag_NoNet) (by decide)),(List.forall_mem_cons.mpr ⟨jj icNoHouse tyNoHouse suBadBag_NoHouse (fun h=>absurd (h.symm.trans neBadBag_NoHouse) (by decide)),(List.forall_mem_cons.mpr ⟨jj icNoRoad tyNoRoad suBadBag_NoRoad (fun h=>absurd (h.symm.trans neBadBag_NoRoad) (by decide)),(List.forall_mem_cons.mpr ⟨jj icNoLetter tyNoLetter suBadBag_NoLetter (fun h=>absurd (h.symm.trans neBadBag_NoLetter) (by decide)),(List.forall_mem_cons.mpr ⟨jj icNoWay tyNoWay suBadBag_NoWay (fun h=>absurd (h.symm.trans neBadBag_NoWay) (by decide)),(List.forall_mem_cons.mpr ⟨jj icManyGoals tyManyGoals suBadBag_ManyGoals (fun h=>absurd (h.symm.trans neBadBag_ManyGoals) (by decide)),(List.forall_mem_cons.mpr ⟨jj icCutOff tyCutOff suBadBag_CutOff (fun h=>absurd (h.symm.trans neBadBag_CutOff) (by decide)),(fun _ h=>absurd h List.not_mem_nil)⟩)⟩)⟩)⟩)⟩)⟩)⟩),JX icRoadError tyRoadError,⟨gaBadBag,noBadBag,haBadBag,hnBadBag,htBadBag,hmBadBag,hbBadBag⟩,hpl,hrs,hyBadBag⟩
 have WC:mQ K CWalk:=⟨b8,nWalk_net,nWalk_goals,nWalk_steps⟩
 have Uy:=Z.fn (RK cV.fn nF nAtHouse_at nAtHouse_since)
 have Uz:=Z.fn (RL dh.fn pO nOnRoad_by nOnRoad_due)
 have UG:=Z.fn (RM dj.fn pP nAtHome_since)
 have UJ:=Z.fn (Dk eU.fn B NC)
 have UL:=Z.fn (Io gf.fn B NC)
 have UT:=Z.fn (Lq cU.fn WC)
 have UV:=Z.fn (Pg eX.fn WC cU UT)
 have S8:=Z.fn (HN bD.fn WC)
 have S9:=Z.fn (HQ bJ.fn WC)
 have Tc:=Z.fn (HW bK.fn WC bD S8 bJ S9)
 have UW:=Z.fn (Mf cA.fn WC bD S8 bJ S9 bK Tc)
 have U0:=Z.fn (LR eY.fn WC jY gf UL)
 have U3:=Z.fn (Ml (S:=⟨CNotYet,CAtHouse,COnRoad,CAtHome⟩) cW.fn WC jx jc jy jz ⟨mkNotYet,in0NotYet,kcNotYet⟩ cV.made cV Uy dh.made dh Uz dj.made dj UG)
 have U4:=Z.fn (Mp iB.fn B bh Gw bM Gt)
 have U5:=Z.fn (Py bT.fn)
 have U6:=Z.fn (PB bZ.fn B b8 jY iB U4 bT U5 eU UJ cA UW)
 have U7:=Z.fn (RT FBadBag_init mG cL hpl hrs)
 have Td:=Z.fn (PN cQ.fn B WC oJ bZ U6 eX.made eX UV eY U0 mG fJ kpBadBag aBadBag_init iBadBag_init U7 bBadBag_init)
 have Te:=Z.fn (PQ bW.fn B b8 cQ Td bK Tc)
 have U8:=Z.fn (P0 fB.fn B b8 cQ Td cW U3)
 have U9:=Z.fn (Ry aW.fn B.len)
 have Va:=Z.fn (yP cN.fn B)
 have Vb:=Z.fn (Pq dI.fn B)
 have Vc:=Z.fn (La cO.fn B)
 have Vd:=Z.fn (Ms dJ.fn B)
 have Ve:=Z.fn (Mw dM.fn B)
 have Tf:=Z.fn (R9 bx.fn B)
 have Vf:=Z.fn (Sd cM.fn B bx Tf)
 have Vg:=Z.fn (Sq dH.fn B)
 have Vh:=Z.fn (Sw cP.fn B cM Vf dH Vg)
 have Vi:=Z.fn (SM fG.fn B)
 have Vj:=Z.fn (SX bU.fn B RC cL lX jf jG iD lY gR jH bx Tf)
 have Vk:=Z.fn (S7 cH.fn B RC fJ bW Te fB U8 bU Vj)
 exact Qt Flaw B sY aW U9 cN Va dI Vb cO Vc dJ Vd dM Ve gk.made gk nC bW Te cH Vk fG Vi cP Vh
theorem walk {l:PySem.W.OpenLaw} {q:Program} {loose:List Str} {XP:(Str→Option Value)→Heap→Prop} {YP:World→Heap→Prop} {d:DefRec} {K:Params→PySem.W.Frag} (hn:l.most=some 63) (hdf:d.params.defaults=[])
  (hY:∀(w:World) (h:Heap),YP w h→(K w.params).In h)
  (F:∀(w:World) (mg:Str→Option Value) (fa:Addr) (h:Heap),(K w.params).In h→h.Ns mainGlobals mg→mg d.name=some (.ref fa)→
   ∃fd:FuncData,(∀(s:Shared) (u:Value),BindsTo s fd ⟨[u],[]⟩ [("_law_script",u)])∧∀base:Heap,(K w.params).In base→base.Ns mainGlobals mg→aY l.prog w (K w.params) mg base CX0 8 fa fd ["_law_script"] (Al (K w.params))):
  PySem.W.WalkO q loose XP YP l.row.toRowW d [] (fun f vs=>PySem.call f vs):=
 L2.walk_of (n:=63) (k:=8) (x:="_law_script") (CX:=fun _=>CX0) (sp:=fun w=>Al (K w.params)) hn (by decide) hdf ⟨rfl,by decide,by decide⟩ hY F (fun _ _ a ns hl _ hS=>⟨a,ns,rfl,hS,hl,fun _=>rfl⟩) fun _ _ _ _ _ z=>z
end K1
noncomputable def PySem.W.Fast.tw4547248847563275014:Unit:=()
noncomputable def PySem.W.Fast.tw14921743126449191627:Unit:=()
noncomputable def PySem.W.Fast.tw9432046792598314568:Unit:=()
noncomputable def PySem.W.Fast.tw14272846897186403282:Unit:=()
noncomputable def PySem.W.Fast.tw8212740859846021245:Unit:=()
noncomputable def PySem.W.Fast.tw9629160092324015477:Unit:=()
noncomputable def PySem.W.Fast.tw11236511891942663511:Unit:=()
noncomputable def PySem.W.Fast.tw17543538879391252871:Unit:=()
noncomputable def PySem.W.Fast.tw18430977068742734349:Unit:=()
noncomputable def PySem.W.Fast.tw3030531112716087517:Unit:=()
noncomputable def PySem.W.Fast.tw13444955201406418518:Unit:=()
noncomputable def PySem.W.Fast.tw17285529615657827471:Unit:=()
noncomputable def PySem.W.Fast.tw7617997482281568635:Unit:=()
noncomputable def PySem.W.Fast.tw5225435370888897041:Unit:=()
noncomputable def PySem.W.Fast.tw6854776899371721178:Unit:=()
noncomputable def PySem.W.Fast.tw3196181785581507482:Unit:=()
noncomputable def PySem.W.Fast.tw779369306094477823:Unit:=()
noncomputable def PySem.W.Fast.tw501301700367522626:Unit:=()
noncomputable def PySem.W.Fast.tw17438918241969823933:Unit:=()
noncomputable def PySem.W.Fast.tw688185430454280209:Unit:=()
noncomputable def PySem.W.Fast.tw10377363304594073792:Unit:=()
noncomputable def PySem.W.Fast.tw4570805406457448725:Unit:=()
noncomputable def PySem.W.Fast.tw184952301470739316:Unit:=()
noncomputable def PySem.W.Fast.tw11295465004943632497:Unit:=()
noncomputable def PySem.W.Fast.tw6390912348042918923:Unit:=()
noncomputable def PySem.W.Fast.tw17303097964095224543:Unit:=()
noncomputable def PySem.W.Fast.tw2279353928001251446:Unit:=()
noncomputable def PySem.W.Fast.tw4875365044703468613:Unit:=()
noncomputable def PySem.W.Fast.tw5570034935285672340:Unit:=()
noncomputable def PySem.W.Fast.tw9075990561059422958:Unit:=()
noncomputable def PySem.W.Fast.tw4167649497863275253:Unit:=()
noncomputable def PySem.W.Fast.tw8357384549804687505:Unit:=()
noncomputable def PySem.W.Fast.tw5525406583555541273:Unit:=()
noncomputable def PySem.W.Fast.tw3510646563289274306:Unit:=()
noncomputable def PySem.W.Fast.tw10811820205790344169:Unit:=()
noncomputable def PySem.W.Fast.tw17000789515458712261:Unit:=()
noncomputable def PySem.W.Fast.tw9817926369445916523:Unit:=()
noncomputable def PySem.W.Fast.tw11469599916042964859:Unit:=()
noncomputable def PySem.W.Fast.tw12959432701279183863:Unit:=()
noncomputable def PySem.W.Fast.tw1359022116555391230:Unit:=()
noncomputable def PySem.W.Fast.tw12286476688064304834:Unit:=()
noncomputable def PySem.W.Fast.tw8091532235056751184:Unit:=()
noncomputable def PySem.W.Fast.tw4984685121172013383:Unit:=()
noncomputable def PySem.W.Fast.tw61889262416623126:Unit:=()
noncomputable def PySem.W.Fast.tw13551555861569938289:Unit:=()
noncomputable def PySem.W.Fast.tw6923253002683598811:Unit:=()
noncomputable def PySem.W.Fast.tw15474299022664148808:Unit:=()
noncomputable def PySem.W.Fast.tw7680036374279947014:Unit:=()
noncomputable def PySem.W.Fast.tw10400161919927498604:Unit:=()
noncomputable def PySem.W.Fast.tw14786846637928755720:Unit:=()
noncomputable def PySem.W.Fast.tw11972469597184721200:Unit:=()
noncomputable def PySem.W.Fast.tw15739616491738393541:Unit:=()
noncomputable def PySem.W.Fast.tw14023146936723220663:Unit:=()
noncomputable def PySem.W.Fast.tw7162937065248881355:Unit:=()
noncomputable def PySem.W.Fast.tw18298712218840629890:Unit:=()
noncomputable def PySem.W.Fast.tw3280631904841531156:Unit:=()
noncomputable def PySem.W.Fast.tw9967631121228226591:Unit:=()
noncomputable def PySem.W.Fast.tw14398076157341173858:Unit:=()
noncomputable def PySem.W.Fast.tw9707141396666930094:Unit:=()
noncomputable def PySem.W.Fast.tw2202807828867383630:Unit:=()
noncomputable def PySem.W.Fast.tw8915489806772981361:Unit:=()
noncomputable def PySem.W.Fast.tw992138832831558210:Unit:=()
noncomputable def PySem.W.Fast.tw17023111446935467206:Unit:=()
noncomputable def PySem.W.Fast.tw960870477807776007:Unit:=()
noncomputable def PySem.W.Fast.tw8565772030612813279:Unit:=()
noncomputable def PySem.W.Fast.tw16820057968784970203:Unit:=()
noncomputable def PySem.W.Fast.tw17099316907493955655:Unit:=()
noncomputable def PySem.W.Fast.tw14624690396436034900:Unit:=()
noncomputable def PySem.W.Fast.tw8053564949932410893:Unit:=()
noncomputable def PySem.W.Fast.tw1544045854742156234:Unit:=()
noncomputable def PySem.W.Fast.tw7187105778591870607:Unit:=()
noncomputable def PySem.W.Fast.tw15284146608016936053:Unit:=()
noncomputable def PySem.W.Fast.tw3476449327802986430:Unit:=()
noncomputable def PySem.W.Fast.tw14130501053638407906:Unit:=()
noncomputable def PySem.W.Fast.tw18057498816917215842:Unit:=()
noncomputable def PySem.W.Fast.tw2654144619058632138:Unit:=()
noncomputable def PySem.W.Fast.tw9045285878587838286:Unit:=()
noncomputable def PySem.W.Fast.tw7992426960687647153:Unit:=()
noncomputable def PySem.W.Fast.tw12052208243581678555:Unit:=()
noncomputable def PySem.W.Fast.tw6971877430551798244:Unit:=()
noncomputable def PySem.W.Fast.tw9186059091285284695:Unit:=()
noncomputable def PySem.W.Fast.tw13645072036005118840:Unit:=()
noncomputable def PySem.W.Fast.tw16230578551765944164:Unit:=()
noncomputable def PySem.W.Fast.tw13981807343011854417:Unit:=()
noncomputable def PySem.W.Fast.tw9931620563505288812:Unit:=()
noncomputable def PySem.W.Fast.tw11187713946702807250:Unit:=()
noncomputable def PySem.W.Fast.tw17236148669887556399:Unit:=()
noncomputable def PySem.W.Fast.tw2814132358213431598:Unit:=()
noncomputable def PySem.W.Fast.tw16693823212307985345:Unit:=()
noncomputable def PySem.W.Fast.tw13308919904606446437:Unit:=()
noncomputable def PySem.W.Fast.tw10293364085256862912:Unit:=()
noncomputable def PySem.W.Fast.tw12426000971570363383:Unit:=()
noncomputable def PySem.W.Fast.tw5577948933286592048:Unit:=()
noncomputable def PySem.W.Fast.tw2693233893713972359:Unit:=()
noncomputable def PySem.W.Fast.tw7895628946043029357:Unit:=()
noncomputable def PySem.W.Fast.tw4612977130153771135:Unit:=()
noncomputable def PySem.W.Fast.tw14667980258046077359:Unit:=()
noncomputable def PySem.W.Fast.tw4279656208098863065:Unit:=()
noncomputable def PySem.W.Fast.tw8185404074190015739:Unit:=()
noncomputable def PySem.W.Fast.tw4250663593998615104:Unit:=()
noncomputable def PySem.W.Fast.tw4126704531864978033:Unit:=()
noncomputable def PySem.W.Fast.tw13769074869206501943:Unit:=()
noncomputable def PySem.W.Fast.tw16643619995450111208:Unit:=()
noncomputable def PySem.W.Fast.tw3734651728599310922:Unit:=()
noncomputable def PySem.W.Fast.tw1730569713505150461:Unit:=()
noncomputable def PySem.W.Fast.tw7308023098146161324:Unit:=()
noncomputable def PySem.W.Fast.tw748136302320589404:Unit:=()
noncomputable def PySem.W.Fast.tw9721415312493962685:Unit:=()
noncomputable def PySem.W.Fast.tw13783496175088952286:Unit:=()
noncomputable def PySem.W.Fast.tw13026396883580361416:Unit:=()
noncomputable def PySem.W.Fast.tw14730499808207535093:Unit:=()
noncomputable def PySem.W.Fast.tw14767892369049935953:Unit:=()
noncomputable def PySem.W.Fast.tw7742626558386759945:Unit:=()
noncomputable def PySem.W.Fast.tw7606295786365564320:Unit:=()
noncomputable def PySem.W.Fast.tw8730462657165711901:Unit:=()
noncomputable def PySem.W.Fast.tw2519175413154126372:Unit:=()
noncomputable def PySem.W.Fast.tw7210937742184208480:Unit:=()
noncomputable def PySem.W.Fast.tw1553632323048695308:Unit:=()
noncomputable def PySem.W.Fast.tw8596941573129139859:Unit:=()
noncomputable def PySem.W.Fast.tw13535874305241545073:Unit:=()
noncomputable def PySem.W.Fast.tw3386327252612690877:Unit:=()
noncomputable def PySem.W.Fast.tw14685759240616873570:Unit:=()
noncomputable def PySem.W.Fast.tw8164000457162905063:Unit:=()
noncomputable def PySem.W.Fast.tw6982444484493451324:Unit:=()
noncomputable def PySem.W.Fast.tw9679191081137228045:Unit:=()
noncomputable def PySem.W.Fast.tw9760659564906922070:Unit:=()
noncomputable def PySem.W.Fast.tw6613608309240488789:Unit:=()
noncomputable def PySem.W.Fast.tw8072321021443655557:Unit:=()
noncomputable def PySem.W.Fast.tw7707613043282755051:Unit:=()
noncomputable def PySem.W.Fast.tw945381181401931999:Unit:=()
noncomputable def PySem.W.Fast.tw4616311689955975424:Unit:=()
noncomputable def PySem.W.Fast.tw3012001980682117186:Unit:=()
noncomputable def PySem.W.Fast.tw7289095522813338578:Unit:=()
noncomputable def PySem.W.Fast.tw9752720542884400927:Unit:=()
noncomputable def PySem.W.Fast.tw10648697726108647845:Unit:=()
noncomputable def PySem.W.Fast.tw12404035988948514924:Unit:=()
noncomputable def PySem.W.Fast.tw12456895682699820492:Unit:=()
noncomputable def PySem.W.Fast.tw11936231126249736585:Unit:=()
open PySem PySem.W PyProof.Rows
set_option maxRecDepth 100000 in
set_option maxHeartbeats 0 in
theorem PySem.Challenge.cw_postroad_k15_the_bag_amiss_holds : PySem.Challenge.rw_postroad_k15_the_bag_amiss.Holds := by
 w_on;o_law;k_head;(case hw=>w_witness2)
 k_fill
 refine K1.walk (l:=PySem.Challenge.rw_postroad_k15_the_bag_amiss) rfl rfl (fun w h Y=>PySem.W.kIn_of Y) ?F
 case F=>
  intro w mg fa h KX G hmg
  refine' K1.all_mk hmg ?jx ?jc ?jy ?jz ?sY ?oJ ?cL ?fJ ?lX ?jf ?jG ?iD ?lY ?gR ?jH ?uQ ?mkNotYet ?kcNotYet ?nF ?nAtHouse_at ?nAtHouse_since ?cV ?pO ?nOnRoad_by ?nOnRoad_due ?dh ?pP ?nAtHome_since ?dj ?jY ?nNet_kept_houses ?nNet_kept_roads ?gk ?eU ?gf ?b8 ?nWalk_net ?nWalk_goals ?nWalk_steps ?eX ?cU ?eY ?bD ?bJ ?bK ?cA ?cW ?bh ?bz ?bM ?bI ?gA ?dg ?gB ?dF ?iB ?bT ?bZ ?cQ ?bW ?fB ?aW ?cN ?dI ?cO ?dJ ?dM ?bx ?cM ?dH ?cP ?fG ?bU ?cH ?alaw ?Flaw ?lCRoadError ?lCBadBag ?lCNoNet ?lCNoHouse ?lCNoRoad ?lCNoLetter ?lCNoWay ?lCManyGoals ?lCCutOff ?aBadBag_init ?iBadBag_init ?FBadBag_init ?xiRoadError ?xsBadBag_BadBag ?vMOST_HOUSES ?vMOST_ROADS ?vMOST_SIGNS ?vMOST_TURNS ?vMOST_ROOM ?B ?xkBadBag ?xdBadBag ?sxBadBag ?obBadBag ?hyBadBag ?kpBadBag ?gaBadBag ?noBadBag ?haBadBag ?hnBadBag ?htBadBag ?hmBadBag ?hbBadBag ?rdRE ?fcRE ?sgRE ?hpl ?hrs ?in0NotYet ?icRoadError ?tyRoadError ?icNoNet ?tyNoNet ?icNoHouse ?tyNoHouse ?icNoRoad ?tyNoRoad ?icNoLetter ?tyNoLetter ?icNoWay ?tyNoWay ?icManyGoals ?tyManyGoals ?icCutOff ?tyCutOff ?suBadBag_ve ?suBadBag_RoadError ?suBadBag_NoNet ?neBadBag_NoNet ?suBadBag_NoHouse ?neBadBag_NoHouse ?suBadBag_NoRoad ?neBadBag_NoRoad ?suBadBag_NoLetter ?neBadBag_NoLetter ?suBadBag_NoWay ?neBadBag_NoWay ?suBadBag_ManyGoals ?neBadBag_ManyGoals ?suBadBag_CutOff ?neBadBag_CutOff
  (case jx | jc | jy | jz | sY | oJ | cL | fJ | lX | jf | jG | iD | lY | gR | jH | alaw | vMOST_HOUSES | vMOST_ROADS | vMOST_SIGNS | vMOST_TURNS | vMOST_ROOM=>refine' PySem.W.mg_of KX G ?z;(case z=>k_is))
  (case uQ | nF | pO | pP | jY | b8=>constructor <;> k_is)
  (case mkNotYet | kcNotYet | nAtHouse_at | nAtHouse_since | nOnRoad_by | nOnRoad_due | nAtHome_since | nNet_kept_houses | nNet_kept_roads | nWalk_net | nWalk_goals | nWalk_steps | lCRoadError | lCBadBag | lCNoNet | lCNoHouse | lCNoRoad | lCNoLetter | lCNoWay | lCManyGoals | lCCutOff | aBadBag_init | iBadBag_init | sxBadBag | obBadBag | hyBadBag | kpBadBag | gaBadBag | noBadBag | haBadBag | hnBadBag | htBadBag | hmBadBag | hbBadBag | rdRE | fcRE | sgRE | hpl | hrs | in0NotYet | icRoadError | tyRoadError | icNoNet | tyNoNet | icNoHouse | tyNoHouse | icNoRoad | tyNoRoad | icNoLetter | tyNoLetter | icNoWay | tyNoWay | icManyGoals | tyManyGoals | icCutOff | tyCutOff | suBadBag_ve | suBadBag_RoadError | suBadBag_NoNet | suBadBag_NoHouse | suBadBag_NoRoad | suBadBag_NoLetter | suBadBag_NoWay | suBadBag_ManyGoals | suBadBag_CutOff=>k_is)
  (case cV | dh | dj | gk | eX=>refine' K1.inn_mk ?a ?b ?c ?d ?z ?y ?x ?u;(case a | b | c | d | z | y | x=>k_is);(case u=>intro _ _ _ _ _ _ us hl;first | (obtain ⟨_,rfl⟩:=K1.len_1 hl;rfl) | (obtain ⟨_,_,rfl⟩:=K1.len_2 hl;rfl) | (obtain ⟨_,_,_,rfl⟩:=K1.len_3 hl;rfl) | (obtain ⟨_,_,_,_,rfl⟩:=K1.len_4 hl;rfl) | (obtain ⟨_,_,_,_,_,rfl⟩:=K1.len_5 hl;rfl) | (obtain ⟨_,_,_,_,_,_,rfl⟩:=K1.len_6 hl;rfl)))
  (case eU | gf | cU | eY | bD | bJ | bK | cA | cW=>refine' K1.mn_mk ?a ?b ?z ?y ?x ?u;(case a | b | z | y | x=>k_is);(case u=>intro _ _ _ _ _ _ us hl;first | (obtain ⟨_,rfl⟩:=K1.len_1 hl;rfl) | (obtain ⟨_,_,rfl⟩:=K1.len_2 hl;rfl) | (obtain ⟨_,_,_,rfl⟩:=K1.len_3 hl;rfl) | (obtain ⟨_,_,_,_,rfl⟩:=K1.len_4 hl;rfl) | (obtain ⟨_,_,_,_,_,rfl⟩:=K1.len_5 hl;rfl) | (obtain ⟨_,_,_,_,_,_,rfl⟩:=K1.len_6 hl;rfl)))
  (case bh | bz | bM | bI | gA | dg | gB | dF | iB | bT | bZ | cQ | bW | fB | aW | cN | dI | cO | dJ | dM | bx | cM | dH | cP | fG | bU | cH=>refine' K1.dn_mk KX G ?a ?z ?y ?x ?u;(case a | z | y | x=>k_is);(case u=>intro _ _ _ _ _ _ us hl;first | (obtain ⟨_,rfl⟩:=K1.len_1 hl;rfl) | (obtain ⟨_,_,rfl⟩:=K1.len_2 hl;rfl) | (obtain ⟨_,_,_,rfl⟩:=K1.len_3 hl;rfl) | (obtain ⟨_,_,_,_,rfl⟩:=K1.len_4 hl;rfl) | (obtain ⟨_,_,_,_,_,rfl⟩:=K1.len_5 hl;rfl) | (obtain ⟨_,_,_,_,_,_,rfl⟩:=K1.len_6 hl;rfl)))
  (case Flaw | FBadBag_init=>refine' L2.fun_mk ?z ?y ?x;(case z | y | x=>k_is))
  (case xiRoadError=>k_exc)
  (case xsBadBag_BadBag | xkBadBag | xdBadBag | neBadBag_NoNet | neBadBag_NoHouse | neBadBag_NoRoad | neBadBag_NoLetter | neBadBag_NoWay | neBadBag_ManyGoals | neBadBag_CutOff=>decide+kernel)
  (case B=>constructor <;> (refine PySem.W.mg_none_of KX G ?_;k_is))
